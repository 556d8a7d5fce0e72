import PyProof.Rows.All
import Wide.All
import OpenK.AllK
import Wide.FinOn
import Lean
import PyProof.EqAt
import PyProof.EqKinds
import PyProof.TupleCall
import PyProof.NeKinds
import KE.KRevSl
import PyProof.FactsAll.bool_2
import PyProof.Rows.EqBoolInt
import PyProof.Rows.IntBool
import PySem.Challenge.RW_bankwalk_k92_whole_skews_or_bars
-- CHANGE: your row's module here,as the last of these rows
set_option Elab.async false
set_option genSizeOf false
set_option genInjectivity false
noncomputable section
set_option linter.all false
set_option maxRecDepth 100000
namespace L2
open PySem PySem.Spec PyProof.Rows
abbrev Key:=Sum Int Str
def qlj:Key->Value->Bool
 | .inl k,v=>Value.isInt k v
 | .inr x,v=>Value.isStrOf x v
def qq8 (w:World):Key->Int
 | .inl k=>hashInt k
 | .inr x=>hashStr w x
theorem zI:∀ {k:Key} {v:Value},qlj k v=true->(∃ i t,k=Sum.inl i/\v=Value.int i t)\/(∃ x t,k=Sum.inr x/\v=Value.str x t)
 | .inl i,v,h=>by
  obtain ⟨t,e⟩:=Value.isInt_shape (k:=i) (v:=v) h
  exact .inl ⟨i,t,rfl,e⟩
 | .inr x,v,h=>by
  obtain ⟨t,e⟩:=Value.isStrOf_shape (x:=x) (v:=v) h
  exact .inr ⟨x,t,rfl,e⟩
theorem qkY (a b:Int):decide ((Sum.inl a:Key)=Sum.inl b)=(a == b):=by
 by_cases e:a=b
 ·subst e;simp
 ·have h:¬ (Sum.inl a:Key)=Sum.inl b:=fun q=>e (Sum.inl.inj q)
  rw [decide_eq_false h]
  exact (beq_eq_false_iff_ne.mpr e).symm
theorem qjT (a b:Str):decide ((Sum.inr a:Key)=Sum.inr b)=decide (a=b):=by
 by_cases e:a=b
 ·subst e;simp
 ·have h:¬ (Sum.inr a:Key)=Sum.inr b:=fun q=>e (Sum.inr.inj q)
  rw [decide_eq_false h,decide_eq_false e]
theorem ql4 (a:Int) (b:Str):decide ((Sum.inl a:Key)=Sum.inr b)=false:=decide_eq_false (fun q=>nomatch q)
theorem qjk (a:Str) (b:Int):decide ((Sum.inr a:Key)=Sum.inl b)=false:=decide_eq_false (fun q=>nomatch q)
def qa3 (prog:Program) (w:World):PySem.KeyKind prog w Key where
 is:=qlj
 hash:=qq8 w
 inj:=fun v a b ha hb=>by
  rcases zI ha with ⟨i,t,rfl,rfl⟩ | ⟨x,t,rfl,rfl⟩
  ·rcases zI hb with ⟨j,u,rfl,e⟩ | ⟨y,u,rfl,e⟩
   ·injection e with e1 _;rw [e1]
   ·exact nomatch e
  ·rcases zI hb with ⟨j,u,rfl,e⟩ | ⟨y,u,rfl,e⟩
   ·exact nomatch e
   ·injection e with e1 _;rw [e1]
 byValue:=fun k v h=>by
  rcases zI h with ⟨i,t,rfl,rfl⟩ | ⟨x,t,rfl,rfl⟩ <;> rfl
 pyHash:=fun hv h=>by
  rcases zI hv with ⟨i,t,rfl,rfl⟩ | ⟨x,t,rfl,rfl⟩
  ·exact wpAny_pyHash_int h
  ·exact wpAny_pyHash_str h
 eqBool:=fun hu hv h=>by
  rcases zI hu with ⟨i,t,rfl,rfl⟩ | ⟨x,t,rfl,rfl⟩
  ·rcases zI hv with ⟨j,u,rfl,rfl⟩ | ⟨y,u,rfl,rfl⟩
   ·rw [qkY] at h;exact wpAny_eqBool_int h
   ·rw [ql4] at h;exact SeqAt.EqAt.int_str i t y u _ _ _ _ h
  ·rcases zI hv with ⟨j,u,rfl,rfl⟩ | ⟨y,u,rfl,rfl⟩
   ·rw [qjk] at h;exact SeqAt.EqAt.str_int x t j u _ _ _ _ h
   ·rw [qjT] at h;exact wpAny_eqBool_str h
 «strs»:=fun k x t v h=>by
  rcases zI h with ⟨i,u,rfl,e⟩ | ⟨y,u,rfl,e⟩
  ·exact nomatch e
  ·injection e with e1 _
   subst e1
   cases v <;> rfl
end L2
namespace L2
open PySem PySem.Spec PyProof.Rows
set_option genInjectivity true in
inductive V where
 | non | bl (b:Bool) | int (i:Int) | str (x:Str) | byt (b:Array UInt8) | flt (b:UInt64) | ref (a:Addr) | ty (n:String)
 deriving DecidableEq
def j8:V->Value->Prop
 | .non,u=>u=Value.none
 | .bl b,u=>u=Value.bool b
 | .int i,u=>∃ t,u=Value.int i t
 | .str x,u=>∃ t,u=Value.str x t
 | .byt b,u=>∃ t,u=Value.bytes b t
 | .flt b,u=>∃ t,u=Value.float b t
 | .ref a,u=>u=Value.ref a
 | .ty n,u=>u=Value.type n
abbrev jk:List V->List Value->Prop:=Paired j8
theorem jk.length {xs:List V} {us:List Value} (r:jk xs us):xs.length=us.length:=Paired.length r
theorem jk.get:∀ {xs:List V} {us:List Value} {i:Nat} {x:V},jk xs us->xs[i]?=some x->∃ u,us[i]?=some u/\j8 x u
 | _,_,_,_,.nil,e=>by simp at e
 | _,_,0,_,.cons r _,e=>by simp at e;subst e;exact ⟨_,rfl,r⟩
 | _,_,i+1,x,.cons _ t,e=>by
  obtain ⟨u,h1,h2⟩:=jk.get (i:=i) (x:=x) t (by simpa using e)
  exact ⟨u,by simpa using h1,h2⟩
theorem jk.set {x:V} {u:Value} (r:j8 x u):∀ {xs:List V} {us:List Value} (i:Nat),jk xs us->jk (xs.set i x) (us.set i u)
 | _,_,_,.nil=>.nil
 | _,_,0,.cons _ t=>.cons r t
 | _,_,i+1,.cons q t=>.cons q (jk.set r i t)
theorem jk.append:∀ {xs ys:List V} {us ws:List Value},jk xs us->jk ys ws->jk (xs++ys) (us++ws)
 | _,_,_,_,.nil,s=>s
 | _,_,_,_,.cons r t,s=>.cons r (jk.append t s)
theorem jk.take:∀ {xs:List V} {us:List Value} (n:Nat),jk xs us->jk (xs.take n) (us.take n)
 | _,_,0,_=>.nil
 | _,_,_+1,.nil=>.nil
 | _,_,n+1,.cons r t=>.cons r (jk.take n t)
theorem jk.drop:∀ {xs:List V} {us:List Value} (n:Nat),jk xs us->jk (xs.drop n) (us.drop n)
 | _,_,0,r=>r
 | _,_,_+1,.nil=>.nil
 | _,_,n+1,.cons _ t=>jk.drop n t
def qql:Option V->Option Value->Prop
 | some v,some u=>j8 v u
 | none,none=>True
 | _,_=>False
def KV {κ:Type}:List (κ×V)->List (κ×Value)->Prop:=Paired fun (p:κ×V) (q:κ×Value)=>p.1=q.1/\j8 p.2 q.2
def kV:Key->V
 | .inl i=>.int i
 | .inr x=>.str x
inductive HO where
 /-- a list -/
 | lst (xs:List V)
 /-- a tuple (never changes) -/
 | tup (xs:List V)
 /-- a dict whose keys are ints and texts;one whose keys are tuples of ints and texts (the empty one is both) -/
 | dK (kvs:List (Key×V)) | dT (kvs:List (List Key×V))
 /-- a set of ints: its members,its size -/
 | set (S:Int->Bool) (n:Nat)
 /-- an instance of the class at C,its dict at dx,its attributes -/
 | ins (C dx:Addr) (fs:List (Str×V))
 /-- the dict of the instance at x -/
 | own (x:Addr)
 /-- the dict of an exception -/
 | xd (fs:List (Str×V))
 /-- a bound method,f of x -/
 | met (f x:Addr)
 /-- a range object lo,lo+1,.. below hi -/
 | rng (lo hi:Int)
 /-- a thing that is known to the object (the script;a dict while a loop walks it): read,never written while it is so -/
 | frz (o:Obj) (u:HO)
 /-- a code object's table -/
 | tbl (ps:Array Value)
 /-- any other thing,by what is true of its one object (a def of one's own: SetO a S n:=HO.ext fun h=>..) -/
 | ext (φ:Heap->Prop)
abbrev Hp:=Addr->Option HO
def upd (H:Hp) (a:Addr) (o:HO):Hp:=fun b=>if b=a then some o else H b
theorem zm {H:Hp} {a:Addr} {o:HO}:upd H a o a=some o:=by unfold upd;rw [if_pos rfl]
theorem qH {H:Hp} {a b:Addr} {o:HO} (h:b≠a):upd H a o b=H b:=by unfold upd;rw [if_neg h]
theorem qA {H:Hp} {a b:Addr} {o:HO} (h:H a=some o) (h':H b=none):a≠b:=by
 intro e;subst e;rw [h] at h';cases h'
section
variable (P:Program) (w:World)
def UQ (H:Hp) (h:Heap) (a:Addr):HO->Prop
 | .lst xs=>xs.length<=sizeLine/\∃ (its:List Value) (n:Nat),jk xs its/\h.get? a=some { cls:=.type "list",data:=.seq its.toArray n }
 | .tup xs=>xs.length<=sizeLine/\∃ its:List Value,jk xs its/\IsTup h a its.toArray
 | .dK kvs=>kvs.length<=sizeLine/\(a == sysModules)=false/\∃ vs,KV kvs vs/\h.DictOf (qa3 P w) a vs
 | .dT kvs=>kvs.length<=sizeLine/\(a == sysModules)=false/\∃ xs:List (List Key×Addr×Value),
   Paired (fun (p:List Key×V) (q:List Key×Addr×Value)=>p.1=q.1/\H q.2.1=some (.tup (p.1.map kV))/\j8 p.2 q.2.2) kvs xs /\
   ∃ o es ep,h.get? a=some o/\o.ExactDict/\o.data=.dict es ep/\es.toList=xs.map (entryOfKey (tupleKind (qa3 P w)))/\(xs.map (·.1)).Nodup
 | .set S n=>h.SetOf (intKind P w) a S n
 | .ins C dx fs=>H dx=some (.own a)/\fs.length<=1000/\dx≠a/\h.get? a=some (PySem.W.instObj C dx) /\
   ∃ mA,h.Ns1 dx mA/\(∀ f,qql (fs.lookup f) (mA f))/\PySem.Within mA (fs.map (·.1))
 | .own _=>∃ o,h.get? a=some o
 | .xd fs=>∃ mA,h.Ns1 a mA/\∀ f,qql (fs.lookup f) (mA f)
 | .rng lo hi=>∃ t u v,h.get? a=some { cls:=.type "range",data:=.fields #[.int lo t,.int hi u,.int 1 v] }
 | .frz o u=>h.get? a=some o/\UQ H h a u
 | .tbl ps=>h.get? a=some { cls:=.none,data:=.fields ps }
 | .met f x=>h.get? a=some (PySem.W.methodObj (.ref f) (.ref x))
 | .ext φ=>φ h/\(∃ o,h.get? a=some o)/\∀ h1 h2:Heap,φ h1->(∀ o,h1.get? a=some o->h2.get? a=some o)->φ h2
def HOk (H:Hp) (h:Heap):Prop:=∀ a o,H a=some o->UQ P w H h a o
end
section
variable {P:Program} {w:World} {H H':Hp} {h h':Heap} {a:Addr} {o:HO}
theorem UQ.lt (x:UQ P w H h a o):a < h.objs.size:=by
 cases o with
 | lst xs=>obtain ⟨_,_,_,_,e⟩:=x;exact Heap.lt_size e
 | tup xs=>obtain ⟨_,_,_,p⟩:=x;exact p.lt
 | dK kvs=>obtain ⟨_,_,_,_,o,_,_,e,_⟩:=x;exact Heap.lt_size e
 | dT kvs=>obtain ⟨_,_,_,_,o,_,_,e,_⟩:=x;exact Heap.lt_size e
 | set S n=>obtain ⟨o,_,_,_,e,_⟩:=x;exact Heap.lt_size e
 | ins C dx fs=>obtain ⟨_,_,_,e,_⟩:=x;exact Heap.lt_size e
 | own y=>obtain ⟨_,e⟩:=x;exact Heap.lt_size e
 | xd fs=>obtain ⟨_,⟨_,_,_,e,_⟩,_⟩:=x;exact Heap.lt_size e
 | rng lo hi=>obtain ⟨_,_,_,e⟩:=x;exact Heap.lt_size e
 | frz ob u=>obtain ⟨e,_⟩:=x;exact Heap.lt_size e
 | tbl ps=>exact Heap.lt_size (show h.get? a=some _ from x)
 | met f y=>exact Heap.lt_size (show h.get? a=some _ from x)
 | ext φ=>obtain ⟨_,⟨_,e⟩,_⟩:=x;exact Heap.lt_size e
theorem Paired.mapP {α β:Type} {F G:α->β->Prop}:∀ {l₁:List α} {l₂:List β},Paired F l₁ l₂->(∀ a b,F a b->G a b)->Paired G l₁ l₂
 | _,_,.nil,_=>.nil
 | _,_,.cons r t,f=>.cons (f _ _ r) (Paired.mapP t f)
theorem UQ.stay (x:UQ P w H h a o) (k:∀ b u,(b=a\/H b=some (.own a))->h.get? b=some u->h'.get? b=some u)
  (ho:∀ b,H b=some (.own a)->H' b=some (.own a)) (ht:∀ b xs,H b=some (.tup xs)->H' b=some (.tup xs)):UQ P w H' h' a o:=by
 induction o with
 | lst xs=>obtain ⟨z,its,n,r,e⟩:=x;exact ⟨z,its,n,r,k _ _ (.inl rfl) e⟩
 | tup xs=>obtain ⟨z,its,r,ob,e,c⟩:=x;exact ⟨z,its,r,ob,k _ _ (.inl rfl) e,c⟩
 | dK kvs=>obtain ⟨z,y,vs,r,ob,es,ep,e,c⟩:=x;exact ⟨z,y,vs,r,ob,es,ep,k _ _ (.inl rfl) e,c⟩
 | dT kvs=>
  obtain ⟨z,y,xs,r,ob,es,ep,e,c⟩:=x
  exact ⟨z,y,xs,Paired.mapP r fun p q z=>⟨z.1,ht _ _ z.2.1,z.2.2⟩,ob,es,ep,k _ _ (.inl rfl) e,c⟩
 | set S n=>obtain ⟨ob,es,ep,t,e,c⟩:=x;exact ⟨ob,es,ep,t,k _ _ (.inl rfl) e,c⟩
 | ins C dx fs=>
  obtain ⟨d,z,ne,e,mA,⟨od,es,ep,e2,c⟩,r⟩:=x
  exact ⟨ho _ d,z,ne,k _ _ (.inl rfl) e,mA,⟨od,es,ep,k _ _ (.inr d) e2,c⟩,r⟩
 | own y=>obtain ⟨ob,e⟩:=x;exact ⟨ob,k _ _ (.inl rfl) e⟩
 | xd fs=>obtain ⟨mA,⟨od,es,ep,e,c⟩,r⟩:=x;exact ⟨mA,⟨od,es,ep,k _ _ (.inl rfl) e,c⟩,r⟩
 | rng lo hi=>obtain ⟨t,u,v,e⟩:=x;exact ⟨t,u,v,k _ _ (.inl rfl) e⟩
 | frz ob u ih=>obtain ⟨e,q⟩:=x;exact ⟨k _ _ (.inl rfl) e,ih q⟩
 | tbl ps=>
  have e:h.get? a=some { cls:=.none,data:=.fields ps }:=x
  show h'.get? a=some { cls:=.none,data:=.fields ps }
  exact k a _ (.inl rfl) e
 | met f y=>
  have e:h.get? a=some (PySem.W.methodObj (.ref f) (.ref y)):=x
  show h'.get? a=some (PySem.W.methodObj (.ref f) (.ref y))
  exact k a _ (.inl rfl) e
 | ext φ=>obtain ⟨p,⟨o,e⟩,st⟩:=x;exact ⟨st _ _ p fun o q=>k _ _ (.inl rfl) q,⟨o,k _ _ (.inl rfl) e⟩,st⟩
theorem HOk.lt (x:HOk P w H h) (e:H a=some o):a < h.objs.size:=(x a o e).lt
theorem HOk.fresh (x:HOk P w H h) (e:h.objs.size<=a):H a=none:=by
 cases q:H a with
 | none=>rfl
 | some u=>exact absurd (Nat.lt_of_lt_of_le (x.lt q) e) (Nat.lt_irrefl _)
theorem HOk.kept (x:HOk P w H h) (k:∀ b u,h.get? b=some u->h'.get? b=some u):HOk P w H h':=fun a o e=>
 (x a o e).stay (fun b u _ q=>k b u q) (fun _ q=>q) fun _ _ q=>q
theorem HOk.laid (x:HOk P w H h) (k:∀ b u,h.get? b=some u->h'.get? b=some u) (hp:h.objs.size<=a) (new:UQ P w (upd H a o) h' a o):HOk P w (upd H a o) h':=fun b u e=>by
 have hn:=x.fresh hp
 by_cases hb:b=a
 ·subst hb;rw [zm] at e;cases e;exact new
 ·rw [qH hb] at e
  exact (x b u e).stay (fun c v _ q=>k c v q) (fun c q=>by rw [qH (qA q hn)];exact q) fun c xs q=>by rw [qH (qA q hn)];exact q
end
def Rd (H:Hp) (a:Addr) (u:HO):Prop:=H a=some u\/∃ o,H a=some (.frz o u)
theorem Rd.ok {P:Program} {w:World} {H:Hp} {h:Heap} {a:Addr} {u:HO} (r:Rd H a u) (x:HOk P w H h):UQ P w H h a u:=by
 rcases r with r | ⟨o,r⟩
 ·exact x a u r
 ·obtain ⟨_,q⟩:=x a _ r
  exact q
def Mut:Option HO->Prop
 | some (.lst _)=>True
 | some (.dK _)=>True
 | some (.dT _)=>True
 | some (.set _ _)=>True
 | some (.ins _ _ _)=>True
 | some (.ext _)=>True
 | _=>False
section
variable {P:Program} {w:World} {H:Hp} {h h':Heap} {x e:Addr} {o':HO}
theorem HOk.write (ok:HOk P w H h) (mu:Mut (H x)) (he:e=x\/H e=some (.own x)) (k:∀ b u,b≠e->h.get? b=some u->h'.get? b=some u) (heo:∃ u,h'.get? e=some u)
  (new:UQ P w (upd H x o') h' x o'):HOk P w (upd H x o') h':=fun b u q=>by
 have nown:∀ c y,H c=some (.own y)->c≠x:=fun c y r z=>by subst z;rw [r] at mu;exact mu
 have ntup:∀ c xs,H c=some (.tup xs)->c≠x:=fun c xs r z=>by subst z;rw [r] at mu;exact mu
 by_cases hb:b=x
 ·subst hb;rw [zm] at q;cases q;exact new
 ·rw [qH hb] at q
  by_cases hbe:b=e
  ·have q':H b=some (.own x):=by
    rcases he with z | z
    ·exact absurd (hbe.trans z) hb
    ·rw [hbe];exact z
   rw [q] at q';cases q'
   obtain ⟨v,hv⟩:=heo
   exact ⟨v,by rw [hbe];exact hv⟩
  ·refine (ok b u q).stay (fun c v hc r=>k c v ?_ r) (fun c r=>by rw [qH (nown c b r)];exact r) fun c xs r=>by rw [qH (ntup c xs r)];exact r
   rcases hc with rfl | hc
   ·exact hbe
   ·rintro rfl
    rcases he with z | z
    ·exact nown c b hc z
    ·rw [hc] at z;cases z;exact hb rfl
end
structure Un (fs ex:List Addr) (H H':Hp) (h h':Heap):Prop where
 keep:∀ b o,h.get? b=some o->H b=none->b ∉ fs->b ∉ ex->h'.get? b=some o
 slot:∀ b o,h.get? b=some o->H b=none->b∈fs->b ∉ ex->∃ sl,h'.get? b=some { o with slots:=sl }
 free:∀ b o,h.get? b=some o->H b=none->b ∉ ex->H' b=none
 there:∀ b o,h.get? b=some o->b ∉ ex->∃ o',h'.get? b=some o'
 tups:∀ b xs,H b=some (.tup xs)->H' b=some (.tup xs)
 frzs:∀ b o u,H b=some (.frz o u)->H' b=some (.frz o u)
 tbls:∀ b ps,H b=some (.tbl ps)->∃ more,H' b=some (.tbl (ps++more))
section
variable {fs fs' ex ex':List Addr} {H H1 H2:Hp} {h h1 h2 h':Heap} {a x e:Addr} {o:HO}
theorem Un.any (u:Un fs ex H H1 h h1) {b:Addr} {ob:Obj} (q:h.get? b=some ob) (n:H b=none) (hx:b ∉ ex):∃ sl,h1.get? b=some { ob with slots:=sl }:=by
 by_cases hb:b∈fs
 ·exact u.slot b ob q n hb hx
 ·exact ⟨ob.slots,u.keep b ob q n hb hx⟩
theorem Un.kept (k:∀ b u,h.get? b=some u->h'.get? b=some u):Un fs ex H H h h':=
 ⟨fun b ob q _ _ _=>k b ob q,fun b ob q _ _ _=>⟨ob.slots,k b ob q⟩,fun _ _ _ n _=>n,fun b ob q _=>⟨ob,k b ob q⟩,fun _ _ q=>q,fun _ _ _ q=>q,fun _ ps q=>⟨#[],by rw [q];simp⟩⟩
theorem Un.refl:Un fs ex H H h h:=Un.kept fun _ _ q=>q
theorem Un.laid (k:∀ b u,h.get? b=some u->h'.get? b=some u) (hp:h.objs.size<=a) (hn:H a=none):Un fs ex H (upd H a o) h h' where
 keep:=fun b u q _ _ _=>k b u q
 slot:=fun b u q _ _ _=>⟨u.slots,k b u q⟩
 free:=fun b u q n _=>by rw [qH (Nat.ne_of_lt (Nat.lt_of_lt_of_le (Heap.lt_size q) hp))];exact n
 there:=fun b u q _=>⟨u,k b u q⟩
 tups:=fun b xs q=>by rw [qH (qA q hn)];exact q
 frzs:=fun b u xs q=>by rw [qH (qA q hn)];exact q
 tbls:=fun b ps q=>⟨#[],by rw [qH (qA q hn),q];simp⟩
theorem Un.write (mu:Mut (H x)) (he:e=x\/H e=some (.own x)) (k:∀ b u,b≠e->h.get? b=some u->h'.get? b=some u) (heo:∃ u,h'.get? e=some u):Un fs ex H (upd H x o) h h':=by
 have hx:∀ b,H b=none->b≠x:=fun b n z=>by subst z;rw [n] at mu;exact mu
 have hb:∀ b,H b=none->b≠e:=fun b n z=>by
  subst z
  rcases he with r | r
  ·exact hx b n r
  ·rw [n] at r;cases r
 have hm:∀ b u,H b=some u->¬ Mut (some u)->b≠x:=fun b u q nm z=>by subst z;rw [q] at mu;exact nm mu
 refine ⟨fun b u q n _ _=>k b u (hb b n) q,fun b u q n _ _=>⟨u.slots,k b u (hb b n) q⟩,fun b u q n _=>by rw [qH (hx b n)];exact n,fun b u q _=>?_,
  fun b xs q=>by rw [qH (hm b _ q fun z=>z)];exact q,fun b u xs q=>by rw [qH (hm b _ q fun z=>z)];exact q,fun b ps q=>⟨#[],by rw [qH (hm b _ q fun z=>z),q];simp⟩⟩
 by_cases hbe:b=e
 ·subst hbe;exact heo
 ·exact ⟨u,k b u hbe q⟩
end
def trk (h:Heap) (H:Hp):List Addr:=(List.range h.objs.size).filter fun a=>(H a).isSome
def qd2 (h:Heap) (H:Hp):Heap:=PySem.W.hideAll h (trk h H)
theorem qa1 (h:Heap) (H:Hp):(qd2 h H).objs.size=h.objs.size:=PySem.W.hideAll_size _ _
theorem qdO {h:Heap} {H:Hp} {b:Addr} {o:Obj} (e:h.get? b=some o) (n:H b=none):(qd2 h H).get? b=some o:=
 PySem.W.hideAll_get _ e fun hm=>by
  have q:(H b).isSome=true:=(List.mem_filter.mp hm).2
  rw [n] at q;simp at q
theorem qh3 {h:Heap} {H:Hp} {b:Addr} {o:Obj} (e:(qd2 h H).get? b=some o):h.get? b=some o/\H b=none:=by
 have e':h.get? b=some o:=PySem.W.of_hideAll (trk h H) e
 refine ⟨e',?_⟩
 cases q:H b with
 | none=>rfl
 | some x=>
  have hm:b∈trk h H:=List.mem_filter.mpr ⟨List.mem_range.mpr (Heap.lt_size e'),by simp [q]⟩
  have z:(qd2 h H).get? b=none:=PySem.W.hideAll_none (trk h H) hm
  rw [z] at e;cases e
def qhX (g h:Heap) (L:Addr):List (Addr×Obj):=(List.range h.objs.size).filterMap fun a=>if a=L\/(g.get? a).isSome=true then none else (h.get? a).map fun o=>(a,o)
def JJ (g h:Heap) (L d:Addr):List (Addr×Obj):=(qhX g h L).filter fun p=>decide (p.1≠d)
end L2
namespace L2
open PySem PySem.Spec PyProof.Rows
structure Mod (K:PySem.W.Frag) (mg:Str->Option Value) (base:Heap):Prop where
 kin:K.In base
 glob:base.Ns mainGlobals mg
 blt:∃ mb,base.Ns builtinsNs mb/\∀ x:Str,x≠"__name__" -> mb x=bootBuiltins x
 nolimit:base.NoLimit
structure Cx where
 prog:Program
 w:World
 K:PySem.W.Frag
 mg:Str->Option Value
 base:Heap
 A:Around
 N:List Str
 s₀:Shared
 H₀:Hp
 env:Env
 outer:List Env
 stack:List Env
 ex:List Addr
 fn:Str->Bool
 calm:Bool
 pn:List (Addr×Obj)
 xe:Value->Shared->Prop
def frs (l:List Env):List Addr:=l.filterMap (·.frame)
abbrev Cx.fs (X:Cx):List Addr:=frs X.outer
def Vis (sc:Scope) (x:Str):Prop:=sc.names.lookup x=some .local\/sc.names.lookup x=some .cell\/sc.names.lookup x=some .free
def Loc (sc:Scope) (x:Str):Prop:=sc.names.lookup x=some .local\/sc.names.lookup x=some .cell
def qqZ (env:Env) (h:Heap) (m:Str->Option Value) (x:Str) (u:Value):Prop:=
 (env.kindOf x=some .local/\m x=some u)\/((env.kindOf x=some .cell\/env.kindOf x=some .free)/\∃ c,env.cells.lookup x=some c/\h.IsCell c (some u))
structure Cx.Ok (X:Cx):Prop where
 mod:Mod X.K X.mg X.base
 kind:X.env.scope.kind=.function
 glob:X.env.globals=mainGlobals
 blt:X.env.builtins=builtinsNs
 above:X.s₀.heap.objs.size<=X.env.locals
 inj:∀ x y c,X.env.cells.lookup x=some c->X.env.cells.lookup y=some c->x=y
 has:∀ x,(X.env.kindOf x=some .cell\/X.env.kindOf x=some .free)->∃ c,X.env.cells.lookup x=some c
 cab:∀ x c,X.fn x=true->X.env.cells.lookup x=some c->X.s₀.heap.objs.size<=c
 hd:X.calm=true->X.A.handled=none
 frames:X.A.frames=some X.stack
 stk:X.stack=X.outer\/(X.stack=X.env :: X.outer/\X.env.frame=some X.env.locals)
 exf:∀ b∈X.ex,b≠X.env.locals/\∀ x c,X.env.cells.lookup x=some c->c≠b
 bs:∀ b o,X.base.get? b=some o->X.s₀.heap.get? b=some o/\X.H₀ b=none
 bsz:X.base.objs.size<=X.s₀.heap.objs.size
 noex:∀ b o,X.base.get? b=some o->b ∉ X.ex
 exfs:∀ b∈X.ex,b ∉ X.fs
 funs:X.s₀.heap.FunFrames X.base X.outer
 frf:∀ b∈X.fs,X.H₀ b=none
structure Inv (X:Cx) (pins:List (Addr×Obj)) (σ:List (Option V)) (H:Hp) (s:Shared):Prop where
 ok:X.Ok
 os:s.os=X.s₀.os
 bare:AllBare s.gens
 base:Un X.fs X.ex X.H₀ H X.s₀.heap s.heap
 loc:∃ m,s.heap.Ns X.env.locals m/\∀ (i:Nat) (x:Str) (v:V),X.N[i]?=some x->σ[i]?=some (some v)->Vis X.env.scope x->∃ u,j8 v u/\qqZ X.env s.heap m x u
 cell:∀ x c,X.env.cells.lookup x=some c->∃ v,s.heap.IsCell c v
 free:H X.env.locals=none
 freeC:∀ x c,X.env.cells.lookup x=some c->H c=none
 pin:∀ p∈X.pn++pins,s.heap.get? p.1=some p.2/\H p.1=none/\p.1≠X.env.locals/\p.1 ∉ X.fs/\∀ v,p.2.data≠.cell v
 hok:HOk X.prog X.w H s.heap
 len:σ.length=X.N.length
section
variable {X:Cx} {pins:List (Addr×Obj)} {σ:List (Option V)} {H H':Hp} {s:Shared} {h':Heap}
theorem Cx.Ok.nofr (ok:X.Ok) {b:Addr} {o:Obj} (e:X.base.get? b=some o):b ∉ X.fs:=fun hb=>by
 have:=(ok.funs.mem hb).1
 rw [e] at this;cases this
theorem Inv.bs (I:Inv X pins σ H s):∀ b o,X.base.get? b=some o->s.heap.get? b=some o/\H b=none:=fun b o e=>
 ⟨I.base.keep b o (I.ok.bs b o e).1 (I.ok.bs b o e).2 (I.ok.nofr e) (I.ok.noex b o e),I.base.free b o (I.ok.bs b o e).1 (I.ok.bs b o e).2 (I.ok.noex b o e)⟩
theorem Inv.bk (I:Inv X pins σ H s):∀ b o,X.base.get? b=some o->s.heap.get? b=some o:=fun b o e=>(I.bs b o e).1
theorem Inv.mod (I:Inv X pins σ H s):Mod X.K X.mg X.base:=I.ok.mod
theorem Inv.kIn (I:Inv X pins σ H s):X.K.In s.heap:=I.ok.mod.kin.keeps I.bk
theorem Inv.nolimit (I:Inv X pins σ H s):s.heap.NoLimit:=I.ok.mod.nolimit.keeps I.bk
theorem Inv.fr (I:Inv X pins σ H s):∃ m,Fr X.base X.env.locals s.heap m:=
 let ⟨m,hn,_⟩:=I.loc
 ⟨m,hn,I.bk,Nat.le_trans I.ok.bsz I.ok.above⟩
theorem Inv.lt (I:Inv X pins σ H s):X.env.locals < s.heap.objs.size:=let ⟨_,hn,_⟩:=I.loc;hn.lt
theorem Inv.sz (I:Inv X pins σ H s):X.s₀.heap.objs.size<=s.heap.objs.size:=Nat.le_trans I.ok.above (Nat.le_of_lt I.lt)
theorem Inv.nofs (I:Inv X pins σ H s) {a:Addr} (h:s.heap.objs.size<=a):a ∉ X.fs:=fun hb=>by
 obtain ⟨_,o,ho,_⟩:=I.ok.funs.mem hb
 exact absurd (Nat.lt_of_lt_of_le (Heap.lt_size ho) (Nat.le_trans I.sz h)) (Nat.lt_irrefl _)
theorem Inv.cne (I:Inv X pins σ H s):∀ x c,X.env.cells.lookup x=some c->c≠X.env.locals:=fun x c e z=>by
 obtain ⟨v,o,ho,hd⟩:=I.cell x c e
 obtain ⟨m,⟨o',es,ep,ho',hd',_⟩,_⟩:=I.loc
 rw [z,ho'] at ho;cases ho;rw [hd'] at hd;cases hd
theorem Inv.funs (I:Inv X pins σ H s):s.heap.FunFrames X.base X.outer:=by
 have all:∀ (l:List Env),(∀ b∈frs l,b∈X.fs)->X.s₀.heap.FunFrames X.base l->s.heap.FunFrames X.base l:=by
  intro l
  induction l with
  | nil=>intro _ _;trivial
  | cons env r ih=>
   intro hs hl
   obtain ⟨hk,⟨L,o,hf,hn,ho,hd⟩,hr⟩:=hl
   have hL:L∈X.fs:=hs L (by unfold frs;rw [List.filterMap_cons,hf];exact List.mem_cons_self)
   obtain ⟨sl,e⟩:=I.base.slot L o ho (I.ok.frf L hL) hL fun z=>I.ok.exfs L z hL
   exact ⟨hk,⟨L,_,hf,hn,e,hd⟩,ih (fun b hb=>hs b (by unfold frs;rw [List.filterMap_cons,hf];exact List.mem_cons_of_mem _ hb)) hr⟩
 exact all X.outer (fun _ hb=>hb) I.ok.funs
theorem Inv.stack (I:Inv X pins σ H s):s.heap.FunFrames X.base X.stack:=by
 rcases I.ok.stk with e | ⟨e,hf⟩
 ·rw [e];exact I.funs
 ·rw [e]
  obtain ⟨m,hn,_⟩:=I.loc
  refine .cons (by rw [I.ok.kind];decide) hf hn ?_ I.funs
  exact Heap.get?_none_of_le (Nat.le_trans I.ok.bsz I.ok.above)
theorem Inv.stkSub (I:Inv X pins σ H s):∀ b∈frs X.stack,b∈X.env.locals :: X.fs:=fun b hb=>by
 rcases I.ok.stk with e | ⟨e,hf⟩
 ·rw [e] at hb;exact List.mem_cons_of_mem _ hb
 ·rw [e] at hb
  unfold frs at hb
  rw [List.filterMap_cons,hf] at hb
  exact hb
theorem Inv.stkFree (I:Inv X pins σ H s):∀ b∈frs X.stack,H b=none:=fun b hb=>by
 rcases List.mem_cons.mp (I.stkSub b hb) with e | hb
 ·rw [e];exact I.free
 ·obtain ⟨_,o,ho,_⟩:=I.ok.funs.mem hb
  exact I.base.free b o ho (I.ok.frf b hb) fun z=>I.ok.exfs b z hb
theorem Inv.step {g':Array GenState} {t':Nat} {d':Drawn} {ch:List Addr} (I:Inv X pins σ H s)
  (hch:∀ b∈ch,(b∈X.ex\/X.s₀.heap.objs.size<=b)/\b≠X.env.locals/\(∀ x c,X.env.cells.lookup x=some c->c≠b)/\∀ p∈X.pn++pins,p.1≠b)
  (keep:∀ b o,b≠X.env.locals->b ∉ X.fs->b ∉ ch->s.heap.get? b=some o->H b=none->h'.get? b=some o)
  (slot:∀ b o,b≠X.env.locals->b∈X.fs->b ∉ ch->s.heap.get? b=some o->H b=none->∃ sl,h'.get? b=some { o with slots:=sl }) (free:∀ b o,b ∉ ch->s.heap.get? b=some o->H b=none->H' b=none)
  (there:∀ b o,b ∉ ch->s.heap.get? b=some o->∃ o',h'.get? b=some o')
  (tups:∀ b xs,H b=some (.tup xs)->H' b=some (.tup xs)) (frzs:∀ b o u,H b=some (.frz o u)->H' b=some (.frz o u)) (tbls:∀ b ps,H b=some (.tbl ps)->∃ more,H' b=some (.tbl (ps++more)))
  (ns:∀ m,s.heap.Ns X.env.locals m->h'.Ns X.env.locals m) (hok:HOk X.prog X.w H' h') (hg:AllBare g') :
  Inv X pins σ H' { s with heap:=h',gens:=g',drawn:=d',toks:=t' }:=by
 have neL:∀ b o,X.s₀.heap.get? b=some o->b≠X.env.locals:=fun b o e=>Nat.ne_of_lt (Nat.lt_of_lt_of_le (Heap.lt_size e) I.ok.above)
 have neC:∀ b o,X.s₀.heap.get? b=some o->b ∉ X.ex->b ∉ ch:=fun b o e hx hb=>by
  rcases (hch b hb).1 with z | z
  ·exact hx z
  ·exact absurd (Nat.lt_of_lt_of_le (Heap.lt_size e) z) (Nat.lt_irrefl _)
 have cellK:∀ x c,X.env.cells.lookup x=some c->∀ v,s.heap.IsCell c v->h'.IsCell c v:=fun x c e v ⟨o,ho,hd⟩=>by
  have nch:c ∉ ch:=fun z=>(hch c z).2.2.1 x c e rfl
  by_cases hc:c∈X.fs
  ·obtain ⟨sl,q⟩:=slot c o (I.cne x c e) hc nch ho (I.freeC x c e)
   exact ⟨_,q,hd⟩
  ·exact ⟨o,keep c o (I.cne x c e) hc nch ho (I.freeC x c e),hd⟩
 refine ⟨I.ok,I.os,hg,⟨fun b o e n hb hx=>?_,fun b o e n hb hx=>?_,fun b o e n hx=>?_,fun b o e hx=>?_,fun b xs e=>tups b xs (I.base.tups b xs e),fun b o xs e=>frzs b o xs (I.base.frzs b o xs e),fun b ps e=>?_⟩,?_,fun x c e=>?_,?_,fun x c e=>?_,fun p hp=>?_,hok,I.len⟩
 ·exact keep b o (neL b o e) hb (neC b o e hx) (I.base.keep b o e n hb hx) (I.base.free b o e n hx)
 ·obtain ⟨sl,e1⟩:=I.base.slot b o e n hb hx
  obtain ⟨sl',e2⟩:=slot b _ (neL b o e) hb (neC b o e hx) e1 (I.base.free b o e n hx)
  exact ⟨sl',e2⟩
 ·obtain ⟨o',e1⟩:=I.base.there b o e hx
  exact free b o' (neC b o e hx) e1 (I.base.free b o e n hx)
 ·obtain ⟨o',e1⟩:=I.base.there b o e hx
  exact there b o' (neC b o e hx) e1
 ·obtain ⟨m1,e1⟩:=I.base.tbls b ps e
  obtain ⟨m2,e2⟩:=tbls b _ e1
  exact ⟨m1++m2,by rw [e2,Array.append_assoc]⟩
 ·obtain ⟨m,hn,hl⟩:=I.loc
  refine ⟨m,ns m hn,fun i x v e1 e2 e3=>?_⟩
  obtain ⟨u,r,l⟩:=hl i x v e1 e2 e3
  refine ⟨u,r,?_⟩
  rcases l with l | ⟨k,c,e,z⟩
  ·exact .inl l
  ·exact .inr ⟨k,c,e,cellK x c e _ z⟩
 ·obtain ⟨v,z⟩:=I.cell x c e
  exact ⟨v,cellK x c e v z⟩
 ·obtain ⟨m,⟨o,_,_,ho,_⟩,_⟩:=I.loc
  exact free _ o (fun z=>(hch _ z).2.1 rfl) ho I.free
 ·obtain ⟨v,o,ho,hd⟩:=I.cell x c e
  exact free c o (fun z=>(hch c z).2.2.1 x c e rfl) ho (I.freeC x c e)
 ·obtain ⟨e,n,ne,nf,d⟩:=I.pin p hp
  have nch:p.1 ∉ ch:=fun z=>(hch p.1 z).2.2.2 p hp rfl
  exact ⟨keep p.1 p.2 ne nf nch e n,free p.1 p.2 nch e n,ne,nf,d⟩
theorem Inv.un {t':Nat} (I:Inv X pins σ H s) (u:Un X.fs [] H H' s.heap h') (hok:HOk X.prog X.w H' h'):Inv X pins σ H' { s with heap:=h',toks:=t' }:=by
 obtain ⟨m,⟨o,es,ep,ho,r⟩,_⟩:=id I.loc
 obtain ⟨sl,hL⟩:=u.any ho I.free (by simp)
 exact I.step (g':=s.gens) (d':=s.drawn) (ch:=[]) (fun _ z=>nomatch z) (fun b o _ hb _ e n=>u.keep b o e n hb (by simp)) (fun b o _ hb _ e n=>u.slot b o e n hb (by simp)) (fun b o _ e n=>u.free b o e n (by simp)) (fun b o _ e=>u.there b o e (by simp)) u.tups u.frzs u.tbls (fun m' hm=>by
  obtain ⟨o',es',ep',ho',r'⟩:=hm
  rw [ho] at ho';cases ho'
  exact ⟨_,es',ep',hL,r'⟩) hok I.bare
theorem Inv.call {g':Array GenState} {t':Nat} {d':Drawn} {ch:List Addr} (I:Inv X pins σ H s) (u:Un (frs X.stack) ch H H' s.heap h') (hok:HOk X.prog X.w H' h') (hg:AllBare g')
  (hch:∀ b∈ch,(b∈X.ex\/X.s₀.heap.objs.size<=b)/\b≠X.env.locals/\(∀ x c,X.env.cells.lookup x=some c->c≠b)/\∀ p∈X.pn++pins,p.1≠b) :
  Inv X pins σ H' { s with heap:=h',gens:=g',drawn:=d',toks:=t' }:=by
 obtain ⟨m,⟨o,es,ep,ho,r⟩,_⟩:=id I.loc
 obtain ⟨sl,hL⟩:=u.any ho I.free fun z=>(hch _ z).2.1 rfl
 exact I.step (ch:=ch) hch (fun b o hL hb hc e n=>u.keep b o e n (fun z=>(List.mem_cons.mp (I.stkSub b z)).elim hL hb) hc) (fun b o _ _ hc e n=>u.any e n hc) (fun b o hc e n=>u.free b o e n hc) (fun b o hc e=>u.there b o e hc) u.tups u.frzs u.tbls (fun m' hm=>by
  obtain ⟨o',es',ep',ho',r'⟩:=hm
  rw [ho] at ho';cases ho'
  exact ⟨_,es',ep',hL,r'⟩) hok hg
theorem Inv.turned {t':Nat} {it:Addr} (I:Inv X pins σ H s) (k:∀ b o,b≠it->s.heap.get? b=some o->h'.get? b=some o) (hn:H it=none) (hL:it≠X.env.locals)
  (h1:it∈X.ex\/X.s₀.heap.objs.size<=it) (h2:∀ x c,X.env.cells.lookup x=some c->c≠it) (h3:∀ p∈X.pn++pins,p.1≠it):Inv X pins σ H { s with heap:=h',toks:=t' }:=by
 have nit:∀ b u,H b=some u->b≠it:=fun b u e z=>by rw [z,hn] at e;cases e
 refine I.step (g':=s.gens) (d':=s.drawn) (ch:=[it]) (fun b hb=>?_) (fun b o _ _ hc e _=>k b o (fun z=>hc (by simp [z])) e) (fun b o _ _ hc e _=>⟨o.slots,k b o (fun z=>hc (by simp [z])) e⟩) (fun _ _ _ _ n=>n)
  (fun b o hc e=>⟨o,k b o (fun z=>hc (by simp [z])) e⟩) (fun _ _ e=>e) (fun _ _ _ e=>e) (fun b ps e=>⟨#[],by rw [e];simp⟩) (fun m hm=>?_) (fun b u e=>?_) I.bare
 ·have e:b=it:=by simpa using hb
  subst e
  exact ⟨h1,hL,h2,h3⟩
 ·obtain ⟨o,es,ep,ho,r⟩:=hm
  exact ⟨o,es,ep,k _ o (Ne.symm hL) ho,r⟩
 ·refine (I.hok b u e).stay (fun c v hc q=>k c v ?_ q) (fun _ q=>q) fun _ _ q=>q
  rcases hc with z | z
  ·rw [z];exact nit b u e
  ·exact nit c _ z
theorem Inv.tok (I:Inv X pins σ H s) (t:Nat):Inv X pins σ H { s with toks:=t }:=I.un (h':=s.heap) (t':=t) Un.refl I.hok
theorem Inv.kept {t':Nat} (I:Inv X pins σ H s) (k:∀ b u,s.heap.get? b=some u->h'.get? b=some u):Inv X pins σ H { s with heap:=h',toks:=t' }:=I.un (Un.kept k) (I.hok.kept k)
theorem Inv.laid {a:Addr} {o:HO} {t':Nat} (I:Inv X pins σ H s) (k:∀ b u,s.heap.get? b=some u->h'.get? b=some u) (hp:s.heap.objs.size<=a) (new:UQ X.prog X.w (upd H a o) h' a o) :
  Inv X pins σ (upd H a o) { s with heap:=h',toks:=t' }:=I.un (Un.laid k hp (I.hok.fresh hp)) (I.hok.laid k hp new)
theorem Inv.write {x e:Addr} {o:HO} {t':Nat} (I:Inv X pins σ H s) (mu:Mut (H x)) (he:e=x\/H e=some (.own x)) (k:∀ b u,b≠e->s.heap.get? b=some u->h'.get? b=some u) (heo:∃ u,h'.get? e=some u)
  (new:UQ X.prog X.w (upd H x o) h' x o):Inv X pins σ (upd H x o) { s with heap:=h',toks:=t' }:=I.un (Un.write mu he k heo) (I.hok.write mu he k heo new)
theorem Inv.pins_of {pins':List (Addr×Obj)} (I:Inv X pins σ H s) (h:∀ p∈pins',s.heap.get? p.1=some p.2/\H p.1=none/\p.1≠X.env.locals/\p.1 ∉ X.fs/\∀ v,p.2.data≠.cell v):Inv X pins' σ H s:=
 ⟨I.ok,I.os,I.bare,I.base,I.loc,I.cell,I.free,I.freeC,fun p hp=>(List.mem_append.mp hp).elim (fun z=>I.pin p (List.mem_append_left _ z)) (h p),I.hok,I.len⟩
theorem NS {N:List Str} (hN:N.Nodup) {i j:Nat} {x:Str} (a:N[i]?=some x) (b:N[j]?=some x):i=j:=by
 obtain ⟨h1,e1⟩:=List.getElem?_eq_some_iff.mp a
 obtain ⟨h2,e2⟩:=List.getElem?_eq_some_iff.mp b
 exact (List.getElem_inj hN).mp (e1.trans e2.symm)
theorem KC {M:Model} {A:Around} {E:Value->Shared->Prop} {i:Nat} {x:Str} {v:V} {u:Value} {Q:Unit->Shared->Prop} (I:Inv X pins σ H s) (hN:X.N.Nodup) (hi:X.N[i]?=some x) (hx:Loc X.env.scope x) (r:j8 v u)
  (h:∀ s',Inv X pins (σ.set i (some v)) H s'->(∃ a,Heap.SameBut a s.heap s'.heap/\(a=X.env.locals\/X.env.cells.lookup x=some a))->Q () s') (hf:X.fn x=true\/X.env.scope.names.lookup x=some .local:=by first | exact .inl rfl | exact .inr rfl | assumption):wpAny M A (storeName X.env x u) Q E s:=by
 obtain ⟨m,hn,hl⟩:=id I.loc
 have hcls:(X.env.scope.kind == .class || (X.env.scope.kind == .module && X.env.locals != X.env.globals))=false:=by rw [I.ok.kind];rfl
 have hiσ:i < σ.length:=by rw [I.len];exact (List.getElem?_eq_some_iff.mp hi).1
 have cne:=I.cne
 have tracked:∀ {a:Addr} {h':Heap},(∃ o,s.heap.get? a=some o/\H a=none)->Heap.SameBut a s.heap h'->HOk X.prog X.w H h':=fun {a h'} ha hs b ob e=>by
  obtain ⟨_,_,hfree⟩:=ha
  refine (I.hok b ob e).stay (fun c w' hc q=>(hs.2 c ?_).trans q) (fun _ q=>q) fun _ _ q=>q
  rintro rfl
  rcases hc with rfl | hc
  ·rw [hfree] at e;cases e
  ·rw [hfree] at hc;cases hc
 rcases hx with hk | hk
 ·refine wpAny_storeName_local hk hn (fun h' hn' hs=>?_) hcls
  obtain ⟨oL,_,_,hoL,_⟩:=id hn
  refine h _ ⟨I.ok,I.os,I.bare,⟨fun b o e n hb hx=>?_,fun b o e n hb hx=>?_,I.base.free,fun b o e hx=>?_,I.base.tups,I.base.frzs,I.base.tbls⟩,⟨_,hn',fun j y v' e1 e2 e3=>?_⟩,fun y c e=>?_,I.free,I.freeC,fun p hp=>?_,tracked ⟨oL,hoL,I.free⟩ hs,by simpa using I.len⟩ ⟨_,hs,.inl rfl⟩
  ·exact (hs.2 b (Nat.ne_of_lt (Nat.lt_of_lt_of_le (Heap.lt_size e) I.ok.above))).trans (I.base.keep b o e n hb hx)
  ·obtain ⟨sl,e1⟩:=I.base.slot b o e n hb hx
   exact ⟨sl,(hs.2 b (Nat.ne_of_lt (Nat.lt_of_lt_of_le (Heap.lt_size e) I.ok.above))).trans e1⟩
  ·obtain ⟨o',e1⟩:=I.base.there b o e hx
   exact ⟨o',(hs.2 b (Nat.ne_of_lt (Nat.lt_of_lt_of_le (Heap.lt_size e) I.ok.above))).trans e1⟩
  ·by_cases hj:j=i
   ·subst hj
    rw [hi] at e1;cases e1
    rw [List.getElem?_set_self hiσ] at e2
    cases e2
    exact ⟨u,r,.inl ⟨hk,by simp⟩⟩
   ·rw [List.getElem?_set_ne (Ne.symm hj)] at e2
    obtain ⟨u',r',q⟩:=hl j y v' e1 e2 e3
    refine ⟨u',r',?_⟩
    rcases q with ⟨k,e⟩ | ⟨k,c,e,z⟩
    ·refine .inl ⟨k,?_⟩
     have:y≠x:=fun e=>hj (NS hN e1 (e ▸ hi))
     simp [this,e]
    ·exact .inr ⟨k,c,e,z.sameBut hs (cne y c e)⟩
  ·obtain ⟨w',z⟩:=I.cell y c e
   exact ⟨w',z.sameBut hs (cne y c e)⟩
  ·obtain ⟨e,n,ne,nf,d⟩:=I.pin p hp
   exact ⟨(hs.2 p.1 ne).trans e,n,ne,nf,d⟩
 ·have hfn:X.fn x=true:=by
   rcases hf with z | z
   ·exact z
   ·rw [z] at hk;cases hk
  obtain ⟨c,hc⟩:=I.ok.has x (.inl hk)
  obtain ⟨w',z⟩:=I.cell x c hc
  refine wpAny_storeName_cell I.ok.kind hk hc z (fun h' hc' hs=>?_)
  obtain ⟨oc,hoc,hocd⟩:=id z
  refine h { s with heap:=h' } ⟨I.ok,I.os,I.bare,⟨fun b o e n hb hx=>?_,fun b o e n hb hx=>?_,I.base.free,fun b o e hx=>?_,I.base.tups,I.base.frzs,I.base.tbls⟩,⟨m,hn.sameBut hs (Ne.symm (cne x c hc)),fun j y v' e1 e2 e3=>?_⟩,fun y c' e=>?_,I.free,I.freeC,fun p hp=>?_,tracked ⟨oc,hoc,I.freeC x c hc⟩ hs,by simpa using I.len⟩ ⟨c,hs,.inr hc⟩
  ·exact (hs.2 b (Nat.ne_of_lt (Nat.lt_of_lt_of_le (Heap.lt_size e) (I.ok.cab x c hfn hc)))).trans (I.base.keep b o e n hb hx)
  ·obtain ⟨sl,e1⟩:=I.base.slot b o e n hb hx
   exact ⟨sl,(hs.2 b (Nat.ne_of_lt (Nat.lt_of_lt_of_le (Heap.lt_size e) (I.ok.cab x c hfn hc)))).trans e1⟩
  ·obtain ⟨o',e1⟩:=I.base.there b o e hx
   exact ⟨o',(hs.2 b (Nat.ne_of_lt (Nat.lt_of_lt_of_le (Heap.lt_size e) (I.ok.cab x c hfn hc)))).trans e1⟩
  ·by_cases hj:j=i
   ·subst hj
    rw [hi] at e1;cases e1
    rw [List.getElem?_set_self hiσ] at e2
    cases e2
    exact ⟨u,r,.inr ⟨.inl hk,c,hc,hc'⟩⟩
   ·rw [List.getElem?_set_ne (Ne.symm hj)] at e2
    obtain ⟨u',r',q⟩:=hl j y v' e1 e2 e3
    refine ⟨u',r',?_⟩
    rcases q with q | ⟨k,c',e,z'⟩
    ·exact .inl q
    ·refine .inr ⟨k,c',e,z'.sameBut hs ?_⟩
     rintro rfl
     exact hj (NS hN e1 (I.ok.inj _ _ _ e hc ▸ hi))
  ·by_cases hcc:c'=c
   ·subst hcc;exact ⟨_,hc'⟩
   ·obtain ⟨w2,z2⟩:=I.cell y c' e
    exact ⟨w2,z2.sameBut hs hcc⟩
  ·obtain ⟨e,n,ne,nf,d⟩:=I.pin p hp
   refine ⟨(hs.2 p.1 ?_).trans e,n,ne,nf,d⟩
   intro q
   rw [q,hoc] at e
   have q':oc=p.2:=Option.some.inj e
   exact d w' (by rw [← q'];exact hocd)
theorem WG {M:Model} {A:Around} {E:Value->Shared->Prop} {i:Nat} {x:Str} {v:V} {u:Value} {Q:Unit->Shared->Prop} (I:Inv X pins σ H s) (hN:X.N.Nodup) (hi:X.N[i]?=some x) (hx:Loc X.env.scope x) (r:j8 v u)
  (h:∀ s',Inv X pins (σ.set i (some v)) H s'->Q () s') (hf:X.fn x=true\/X.env.scope.names.lookup x=some .local:=by first | exact .inl rfl | exact .inr rfl | assumption):wpAny M A (storeName X.env x u) Q E s:=
 KC I hN hi hx r (fun s' I' _=>h s' I') hf
theorem Inv.call' {s':Shared} {ch:List Addr} (I:Inv X pins σ H s) (ho:s'.os=s.os) (u:Un (frs X.stack) ch H H' s.heap s'.heap) (hok:HOk X.prog X.w H' s'.heap) (hg:AllBare s'.gens)
  (hch:∀ b∈ch,(b∈X.ex\/X.s₀.heap.objs.size<=b)/\b≠X.env.locals/\(∀ x c,X.env.cells.lookup x=some c->c≠b)/\∀ p∈X.pn++pins,p.1≠b):Inv X pins σ H' s':=by
 obtain ⟨h',g',d',t',o'⟩:=s'
 have e:o'=s.os:=ho
 subst e
 exact I.call (g':=g') (t':=t') (d':=d') u hok hg hch
end
abbrev XK:=Value->Option Addr->Hp->Prop
abbrev St:=List (Option V)
abbrev VK:=V->Hp->Prop
abbrev TE:=St->Hp->VK->Prop
abbrev TT:=St->Hp->(Bool->Hp->Prop)->Prop
abbrev TA:=St->Hp->(List V->Hp->Prop)->Prop
structure Ends where
 nx:St->Hp->Prop
 rt:VK
 bk:St->Hp->Prop:=fun _ _=>False
 ct:St->Hp->Prop:=fun _ _=>False
abbrev TS:=Ends->St->Hp->Prop
def EP (X:Cx) (pins:List (Addr×Obj)) (σ:St) (Q:VK) (u:Value) (s':Shared):Prop:=∃ v H',Inv X pins σ H' s'/\j8 v u/\Q v H'
def TP (X:Cx) (pins:List (Addr×Obj)) (σ:St) (Q:Bool->Hp->Prop) (b:Bool) (s':Shared):Prop:=∃ H',Inv X pins σ H' s'/\Q b H'
def AP (X:Cx) (pins:List (Addr×Obj)) (σ:St) (Q:List V->Hp->Prop) (us:List Value) (s':Shared):Prop:=∃ vs H',Inv X pins σ H' s'/\jk vs us/\Q vs H'
def SP (X:Cx) (pins:List (Addr×Obj)) (D:Ends) (f:Flow) (s':Shared):Prop:=
 match f with
 | .next=>∃ σ' H',Inv X pins σ' H' s'/\D.nx σ' H'
 | .brk=>∃ σ' H',Inv X pins σ' H' s'/\D.bk σ' H'
 | .cont=>∃ σ' H',Inv X pins σ' H' s'/\D.ct σ' H'
 | .ret u=>∃ v σ' H',Inv X pins σ' H' s'/\j8 v u/\D.rt v H'
def PE (X:Cx) (e:Expr) (t:TE):Prop:=
 ∀ (pins:List (Addr×Obj)) (s:Shared) (σ:St) (H:Hp) (Q:VK),Inv X pins σ H s->t σ H Q->wpAny (model X.prog X.w) X.A (eval e X.env) (EP X pins σ Q) X.xe s
def PT (X:Cx) (e:Expr) (t:TT):Prop:=
 ∀ (pins:List (Addr×Obj)) (s:Shared) (σ:St) (H:Hp) (Q:Bool->Hp->Prop),Inv X pins σ H s->t σ H Q->wpAny (model X.prog X.w) X.A (isTrue e X.env (eval e X.env)) (TP X pins σ Q) X.xe s
def PW (X:Cx) (e:Expr) (t:TT):Prop:=
 ∀ (whole:Sem Value) (pins:List (Addr×Obj)) (s:Shared) (σ:St) (H:Hp) (Q:Bool->Hp->Prop),Inv X pins σ H s->t σ H Q->wpAny (model X.prog X.w) X.A (isTrue e X.env whole) (TP X pins σ Q) X.xe s
theorem PW.pt {X:Cx} {e:Expr} {t:TT} (h:PW X e t):PT X e t:=h _
def PA (X:Cx) (es:List Expr) (t:TA):Prop:=
 ∀ (pos:Pos) (pins:List (Addr×Obj)) (s:Shared) (σ:St) (H:Hp) (Q:List V->Hp->Prop),Inv X pins σ H s->t σ H Q->wpAny (model X.prog X.w) X.A (spliced (backTo pos (starEach es X.env))) (AP X pins σ Q) X.xe s
def PS (X:Cx) (st:Stmt) (t:TS):Prop:=
 ∀ (pins:List (Addr×Obj)) (s:Shared) (σ:St) (H:Hp) (D:Ends),Inv X pins σ H s->t D σ H->wpAny (model X.prog X.w) X.A (exec st X.env) (SP X pins D) X.xe s
def PSs (X:Cx) (st:List Stmt) (t:TS):Prop:=
 ∀ (pins:List (Addr×Obj)) (s:Shared) (σ:St) (H:Hp) (D:Ends),Inv X pins σ H s->t D σ H->wpAny (model X.prog X.w) X.A (execs st X.env) (SP X pins D) X.xe s
theorem thn {α:Type} {t:Sem α} {Q Q':α->Shared->Prop} {M:Model} {A:Around} {E:Value->Shared->Prop} {s:Shared} (h:wpAny M A t Q E s) (hQ:∀ a s,Q a s->Q' a s):wpAny M A t Q' E s:=wpAny_mono h hQ fun _ _ x=>x
end L2
namespace L2
open PySem PySem.Spec PyProof.Rows
section
variable {X:Cx}
def qrm (i:Nat):TE:=fun σ H Q=>∃ v,σ[i]?=some (some v)/\Q v H
def tC (v:V):TE:=fun _ H Q=>Q v H
theorem qmQ {i:Nat} {x:Str} {pos:Pos} (hN:X.N[i]?=some x) (hv:Vis X.env.scope x) (hd:(x == ("__debug__" : Str))=false:=by decide) (hcd:(x == ("__classdict__" : Str))=false:=by decide):PE X (.Name x pos) (qrm i):=by
 intro pins s σ H Q I h
 obtain ⟨v,e,h⟩:=h
 obtain ⟨m,hn,hl⟩:=I.loc
 obtain ⟨u,r,l⟩:=hl i x v hN e hv
 have fin:EP X pins σ Q u s:=⟨v,H,I,r,h⟩
 rcases l with ⟨hk,hm⟩ | ⟨hk,c,hc,hcell⟩
 ·exact wpAny_Name (wpAny_loadName_local I.ok.kind hk hn hm fin) hd
 ·rcases hk with hk | hk
  ·exact wpAny_Name (wpAny_loadName_cell I.ok.kind hk hc hcell fin) hd
  ·exact wpAny_Name (wpAny_loadName_free I.ok.kind hk hc hcell fin hcd) hd
theorem qiz {i j pos}:PE X (.Constant (.int i) j pos) (tC (.int i)):=fun _ _ _ H _ I h=>wpAny_Constant_int ⟨.int i,H,I.tok _,⟨_,rfl⟩,h⟩
theorem qoX {b j pos}:PE X (.Constant (.bool b) j pos) (tC (.bl b)):=fun _ _ _ H _ I h=>Constant_bool ⟨.bl b,H,I,rfl,h⟩
theorem qiY {j pos}:PE X (.Constant .none j pos) (tC .non):=fun _ _ _ H _ I h=>Constant_none ⟨.non,H,I,rfl,h⟩
theorem qew {x j pos}:PE X (.Constant (.str x) j pos) (tC (.str x)):=fun _ _ _ H _ I h=>Calls.Constant_str ⟨.str x,H,I.tok _,⟨_,rfl⟩,h⟩
def Gl (X:Cx) (x:Str):Prop:=X.env.kindOf x=some .globalImplicit
theorem qbd {E:Value->Shared->Prop} {pins:List (Addr×Obj)} {s:Shared} {σ:St} {H:Hp} {x:Str} {u:Value} {pos:Pos} {Q:Value->Shared->Prop} (I:Inv X pins σ H s) (hg:Gl X x) (hm:X.mg x=some u) (h:Q u s)
  (hd:(x == ("__debug__" : Str))=false:=by decide):wpAny (model X.prog X.w) X.A (eval (.Name x pos) X.env) Q E s:=
 Calls.Name_function_global I.ok.kind hg (Calls.loadGlobal_global (by rw [I.ok.glob];exact I.mod.glob.keeps I.bk) hm h) hd
theorem XO {E:Value->Shared->Prop} {pins:List (Addr×Obj)} {s:Shared} {σ:St} {H:Hp} {x:Str} {u:Value} {pos:Pos} {Q:Value->Shared->Prop} (I:Inv X pins σ H s) (hg:Gl X x) (hm:X.mg x=none) (hv:bootBuiltins x=some u) (h:Q u s)
  (hn:x≠"__name__" := by decide) (hd:(x == ("__debug__" : Str))=false:=by decide):wpAny (model X.prog X.w) X.A (eval (.Name x pos) X.env) Q E s:=by
 obtain ⟨mb,h1,h2⟩:=I.mod.blt
 exact Calls.Name_function_global I.ok.kind hg (Calls.loadGlobal_builtin (by rw [I.ok.glob];exact I.mod.glob.keeps I.bk) hm (by rw [I.ok.blt];exact h1.keeps I.bk) ((h2 x hn).trans hv) h) hd
theorem qhD {x:Str} {v:V} {u:Value} {pos:Pos} (hg:Gl X x) (hm:X.mg x=some u) (r:j8 v u) (hd:(x == ("__debug__" : Str))=false:=by decide):PE X (.Name x pos) (tC v):=
 fun _ _ _ H _ I h=>qbd I hg hm ⟨v,H,I,r,h⟩ hd
theorem MD {x:Str} {v:V} {u:Value} {pos:Pos} (hg:Gl X x) (hm:X.mg x=none) (hv:bootBuiltins x=some u) (r:j8 v u) (hn:x≠"__name__" := by decide) (hd:(x == ("__debug__" : Str))=false:=by decide):PE X (.Name x pos) (tC v):=
 fun _ _ _ H _ I h=>XO I hg hm hv ⟨v,H,I,r,h⟩ hn hd
variable {a b:Expr} {ta tb:TE} {pos:Pos}
def tB (t:TE):TT:=fun σ H Q=>t σ H fun x H1=>∃ c,x=.bl c/\Q c H1
theorem qmO {e:Expr} {t:TE} (h:PE X e t) (he:∀ whole,isTrue e X.env whole=(do let v ← whole;standAt e.pos;holding [v] (truthy v)):=by intro _;rfl):PT X e (tB t):=by
 intro pins s σ H Q I hw
 refine isTrue_plain (thn (h pins s σ H _ I hw) fun v s1 ⟨x,H1,I1,r1,q1⟩=>?_) (he _)
 obtain ⟨d,rfl,q⟩:=q1
 cases r1
 exact wpAny_truthy_bool ⟨H1,I1,q⟩
variable {tA tB':TT} {JJ:List Expr}
def qqL (t u:TT):TT:=fun σ H Q=>t σ H fun c H1=>if c=true then u σ H1 Q else Q false H1
def tOr (t u:TT):TT:=fun σ H Q=>t σ H fun c H1=>if c=true then Q true H1 else u σ H1 Q
def qre (t:TT):TT:=fun σ H Q=>t σ H fun c H1=>Q (!c) H1
theorem qgL (ha:PT X a tA):PW X (.BoolOp .And [a] pos) tA:=by
 intro wh pins s σ H Q I h
 refine isTrue_and (thn (ha pins s σ H Q I h) fun c s1 e=>?_)
 cases c with
 | true=>exact isTrue_and_nil e
 | false=>exact e
theorem qkk (ha:PT X a tA):PW X (.BoolOp .Or [a] pos) tA:=by
 intro wh pins s σ H Q I h
 refine isTrue_or (thn (ha pins s σ H Q I h) fun c s1 e=>?_)
 cases c with
 | false=>exact isTrue_or_nil e
 | true=>exact e
theorem qkH (ha:PT X a tA) (hb:PW X (.BoolOp .And (b :: JJ) pos) tB'):PW X (.BoolOp .And (a :: b :: JJ) pos) (qqL tA tB'):=by
 intro wh pins s σ H Q I h
 refine isTrue_and (thn (ha pins s σ H _ I h) fun c s1 ⟨H1,I1,q1⟩=>?_)
 cases c with
 | true=>exact hb wh pins s1 σ H1 Q I1 q1
 | false=>exact ⟨H1,I1,q1⟩
theorem qoN (ha:PT X a tA) (hb:PW X (.BoolOp .Or (b :: JJ) pos) tB'):PW X (.BoolOp .Or (a :: b :: JJ) pos) (tOr tA tB'):=by
 intro wh pins s σ H Q I h
 refine isTrue_or (thn (ha pins s σ H _ I h) fun c s1 ⟨H1,I1,q1⟩=>?_)
 cases c with
 | true=>exact ⟨H1,I1,q1⟩
 | false=>exact hb wh pins s1 σ H1 Q I1 q1
theorem qmc (ha:PT X a tA):PT X (.UnaryOp .Not a pos) (qre tA):=by
 intro pins s σ H Q I h
 exact isTrue_not (ha pins s σ H (fun c H1=>Q (!c) H1) I h)
def qoH (ta tb:TE):TE:=fun σ H Q=>ta σ H fun x H1=>∃ c,x=.bl c/\if c=true then tb σ H1 Q else Q (.bl false) H1
def qpy (ta:TE):TE:=fun σ H Q=>ta σ H fun x H1=>∃ c,x=.bl c/\Q (.bl (!c)) H1
theorem qle {op} {t:TE} (h:PE X a t):PE X (.BoolOp op [a] pos) t:=fun pins s σ H Q I hw=>BoolOp_one (h pins s σ H Q I hw)
theorem qlm (ha:PE X a ta) (hb:PE X (.BoolOp .And (b :: JJ) pos) tb):PE X (.BoolOp .And (a :: b :: JJ) pos) (qoH ta tb):=by
 intro pins s σ H Q I h
 refine BoolOp_and (thn (ha pins s σ H _ I h) fun v s1 ⟨x,H1,I1,r1,q1⟩=>?_)
 obtain ⟨c,rfl,q1⟩:=q1
 cases r1
 refine wpAny_truthy_bool ?_
 cases c with
 | true=>exact hb pins s1 σ H1 Q I1 q1
 | false=>exact ⟨.bl false,H1,I1,rfl,q1⟩
theorem qjO (ha:PE X a ta):PE X (.UnaryOp .Not a pos) (qpy ta):=by
 intro pins s σ H Q I h
 refine UnaryOp_ (thn (ha pins s σ H _ I h) fun v s1 ⟨x,H1,I1,r1,q1⟩=>?_)
 obtain ⟨c,rfl,q1⟩:=q1
 cases r1
 exact not_of (wpAny_truthy_bool ⟨.bl (!c),H1,I1,rfl,q1⟩)
def tIf (t:TT) (ta tb:TE):TE:=fun σ H Q=>t σ H fun c H1=>if c=true then ta σ H1 Q else tb σ H1 Q
theorem qde {c:Expr} (hc:PT X c tA) (ha:PE X a ta) (hb:PE X b tb):PE X (.IfExp c a b pos) (tIf tA ta tb):=by
 intro pins s σ H Q I h
 refine wpAny_IfExp (thn (hc pins s σ H _ I h) fun d s1 ⟨H1,I1,q1⟩=>?_)
 cases d with
 | true=>exact ha pins s1 σ H1 Q I1 q1
 | false=>exact hb pins s1 σ H1 Q I1 q1
end
end L2
namespace L2
open PySem PySem.Spec PyProof.Rows
def SqL (K:PySem.W.Frag) (H:Hp) (a:Addr) (xs:List V):Prop:=
 Rd H a (.lst xs) ∨
  ∃ (o:Obj) (its:Array Value) (n:Nat),K.lookup a=some o/\o.cls=.type "list"/\o.dict=none/\o.data=.seq its n/\its.size<=sizeLine/\jk xs its.toList
def SqT (K:PySem.W.Frag) (H:Hp) (a:Addr) (xs:List V):Prop:=
 Rd H a (.tup xs) ∨
  ∃ (o:Obj) (its:Array Value) (n:Nat),K.lookup a=some o/\o.cls=.type "tuple"/\o.data=.seq its n/\its.size<=sizeLine/\jk xs its.toList
def qrn:Value->Option V
 | .none=>some .non
 | .bool b=>some (.bl b)
 | .int i _=>some (.int i)
 | .str x _=>some (.str x)
 | .bytes b _=>some (.byt b)
 | .float b _=>some (.flt b)
 | .ref a=>some (.ref a)
 | .type n=>some (.ty n)
 | _=>none
theorem j8.abs {x:V} {u:Value} (r:j8 x u):qrn u=some x:=by
 cases x with
 | non=>cases r;rfl
 | bl _=>cases r;rfl
 | int _=>obtain ⟨t,rfl⟩:=r;rfl
 | str _=>obtain ⟨t,rfl⟩:=r;rfl
 | byt _=>obtain ⟨t,rfl⟩:=r;rfl
 | flt _=>obtain ⟨t,rfl⟩:=r;rfl
 | ref _=>cases r;rfl
 | ty _=>cases r;rfl
theorem j8.inj {x y:V} {u:Value} (r:j8 x u) (q:j8 y u):x=y:=Option.some.inj (r.abs.symm.trans q.abs)
theorem jk.inj:∀ {xs ys:List V} {us:List Value},jk xs us->jk ys us->xs=ys
 | _,_,_,.nil,.nil=>rfl
 | _,_,_,.cons r t,.cons r' t'=>by rw [r.inj r',jk.inj t t']
section
variable {X:Cx} {pins:List (Addr×Obj)} {σ:St} {H:Hp} {s:Shared} {a:Addr} {xs ys:List V}
theorem SqL.of {K:PySem.W.Frag} (h:H a=some (.lst xs)):SqL K H a xs:=.inl (.inl h)
theorem SqT.of {K:PySem.W.Frag} (h:H a=some (.tup xs)):SqT K H a xs:=.inl (.inl h)
theorem Inv.list (I:Inv X pins σ H s) (h:SqL X.K H a xs):∃ its:List Value,jk xs its/\PlainL s.heap a its.toArray/\xs.length<=sizeLine:=by
 rcases h with h | ⟨o,its,n,hk,hc,hd,hs,hz,r⟩
 ·obtain ⟨z,its,n,r,e⟩:=h.ok I.hok
  exact ⟨its,r,⟨_,n,e,rfl,rfl,rfl⟩,z⟩
 ·refine ⟨its.toList,r,⟨o,n,I.kIn a o hk,hc,hd,by simpa using hs⟩,?_⟩
  have e:=r.length
  simp only [Array.length_toList] at e
  omega
theorem Inv.tuple (I:Inv X pins σ H s) (h:SqT X.K H a xs):∃ its:List Value,jk xs its/\IsTup s.heap a its.toArray/\xs.length<=sizeLine:=by
 rcases h with h | ⟨o,its,n,hk,hc,hs,hz,r⟩
 ·obtain ⟨z,its,r,p⟩:=h.ok I.hok
  exact ⟨its,r,p,z⟩
 ·refine ⟨its.toList,r,⟨o,I.kIn a o hk,hc,n,by simpa using hs⟩,?_⟩
  have e:=r.length
  simp only [Array.length_toList] at e
  omega
theorem Inv.list_inj (I:Inv X pins σ H s) (h:SqL X.K H a xs) (h':SqL X.K H a ys):xs=ys:=by
 obtain ⟨its,r,⟨o,n,e,_,_,d⟩,_⟩:=I.list h
 obtain ⟨its',r',⟨o',n',e',_,_,d'⟩,_⟩:=I.list h'
 rw [e] at e';cases e'
 rw [d] at d'
 injection d' with d1 _
 have:its=its':=by simpa using congrArg Array.toList d1
 subst this
 exact r.inj r'
theorem Inv.tuple_inj (I:Inv X pins σ H s) (h:SqT X.K H a xs) (h':SqT X.K H a ys):xs=ys:=by
 obtain ⟨its,r,⟨o,e,_,n,d⟩,_⟩:=I.tuple h
 obtain ⟨its',r',⟨o',e',_,n',d'⟩,_⟩:=I.tuple h'
 rw [e] at e';cases e'
 rw [d] at d'
 injection d' with d1 _
 have:its=its':=by simpa using congrArg Array.toList d1
 subst this
 exact r.inj r'
end
abbrev Cx.wish (X:Cx) (E:Value->Shared->Prop):Cx:={ X with xe:=E }
abbrev Cx.nox (X:Cx):Cx:=X.wish fun _ _=>False
theorem Cx.Ok.wish {X:Cx} (ok:X.Ok) (E:Value->Shared->Prop):(X.wish E).Ok:=
 ⟨ok.mod,ok.kind,ok.glob,ok.blt,ok.above,ok.inj,ok.has,ok.cab,ok.hd,ok.frames,ok.stk,ok.exf,ok.bs,ok.bsz,ok.noex,ok.exfs,ok.funs,ok.frf⟩
theorem Cx.Ok.unwish {X:Cx} {E:Value->Shared->Prop} (ok:(X.wish E).Ok):X.Ok:=
 ⟨ok.mod,ok.kind,ok.glob,ok.blt,ok.above,ok.inj,ok.has,ok.cab,ok.hd,ok.frames,ok.stk,ok.exf,ok.bs,ok.bsz,ok.noex,ok.exfs,ok.funs,ok.frf⟩
section
variable {X:Cx} {pins:List (Addr×Obj)} {σ:St} {H:Hp} {s:Shared} {E:Value->Shared->Prop}
theorem Inv.wish (I:Inv X pins σ H s) (E:Value->Shared->Prop):Inv (X.wish E) pins σ H s:=⟨I.ok.wish E,I.os,I.bare,I.base,I.loc,I.cell,I.free,I.freeC,I.pin,I.hok,I.len⟩
theorem Inv.unwish (I:Inv (X.wish E) pins σ H s):Inv X pins σ H s:=⟨I.ok.unwish,I.os,I.bare,I.base,I.loc,I.cell,I.free,I.freeC,I.pin,I.hok,I.len⟩
theorem SP.unwish {D:Ends} {f:Flow} {s':Shared} (h:SP (X.wish E) pins D f s'):SP X pins D f s':=by
 cases f with
 | next=>obtain ⟨σ',H',I,q⟩:=h;exact ⟨σ',H',I.unwish,q⟩
 | brk=>obtain ⟨σ',H',I,q⟩:=h;exact ⟨σ',H',I.unwish,q⟩
 | cont=>obtain ⟨σ',H',I,q⟩:=h;exact ⟨σ',H',I.unwish,q⟩
 | ret u=>obtain ⟨v,σ',H',I,r,q⟩:=h;exact ⟨v,σ',H',I.unwish,r,q⟩
theorem PSs.nox {st:List Stmt} {t:TS} (h:PSs X.nox st t):PSs X st t:=fun pins s σ H D I hw=>
 wpAny_mono (h pins s σ H D (I.wish _) hw) (fun _ _ q=>q.unwish) fun _ _ z=>False.elim z
end
section
variable {X:Cx} {st:Stmt} {JJ:List Stmt} {t u:TS} {e:Expr} {te:TE} {pos:Pos}
def qov:TS:=fun D σ H=>D.nx σ H
def qrl (t u:TS):TS:=fun D σ H=>t { D with nx:=u D } σ H
theorem qhL:PSs X [] qov:=fun _ _ σ H _ I h=>wpAny_execs_nil ⟨σ,H,I,h⟩
theorem qdd (h1:PS X st t) (h2:PSs X JJ u):PSs X (st :: JJ) (qrl t u):=by
 intro pins s σ H D I h
 refine wpAny_execs_cons (thn (h1 pins s σ H { D with nx:=u D } I h) fun f s1 q=>?_)
 cases f with
 | next=>
  obtain ⟨σ',H',I',q⟩:=q
  exact h2 pins s1 σ' H' D I' q
 | ret v=>exact q
 | brk=>exact q
 | cont=>exact q
theorem qhP (h1:PS X st t):PSs X [st] t:=by
 intro pins s σ H D I h
 refine wpAny_execs_cons (thn (h1 pins s σ H D I h) fun f s1 q=>?_)
 cases f with
 | next=>exact wpAny_execs_nil q
 | ret v=>exact q
 | brk=>exact q
 | cont=>exact q
theorem Inv.quiet {pins:List (Addr×Obj)} {σ:St} {H:Hp} {s:Shared} (I:Inv X pins σ H s):interactive X.env=false:=by simp [interactive,I.ok.kind]
def qpJ (te:TE):TS:=fun D σ H=>te σ H fun _ H1=>D.nx σ H1
theorem qhZ (he:PE X e te) (hs:swapsWith e none pos.line X.env=pure false:=by rfl):PS X (.Expr e pos) (qpJ te):=by
 intro pins s σ H D I h
 exact wpAny_Expr_any (thn (he pins s σ H _ I h) fun v s1 ⟨x,H1,I1,r1,q1⟩=>⟨σ,H1,I1,q1⟩) I.quiet hs
def qqX (te:TE):TS:=fun D σ H=>te σ H D.rt
theorem qjU (he:PE X e te):PS X (.Return (some e) pos) (qqX te):=by
 intro pins s σ H D I h
 exact wpAny_Return_some (thn (he pins s σ H _ I h) fun v s1 ⟨x,H1,I1,r1,q1⟩=>⟨x,σ,H1,I1,r1,q1⟩)
def qq9 (c:TT) (t u:TS):TS:=fun D σ H=>c σ H fun b H1=>if b=true then t D σ H1 else u D σ H1
theorem qoI {c:Expr} {a b:List Stmt} {tc:TT} (hc:PT X c tc) (ha:PSs X a t) (hb:PSs X b u):PS X (.If c a b pos) (qq9 tc t u):=by
 intro pins s σ H D I h
 refine wpAny_If (thn (hc pins s σ H _ I h) fun d s1 ⟨H1,I1,q1⟩=>?_)
 cases d with
 | true=>exact ha pins s1 σ H1 D I1 q1
 | false=>exact hb pins s1 σ H1 D I1 q1
end
abbrev TG:=V->St->Hp->(St->Hp->Prop)->Prop
abbrev TGs:=List V->St->Hp->(St->Hp->Prop)->Prop
def PG (X:Cx) (target:Expr) (t:TG):Prop:=
 ∀ (pins:List (Addr×Obj)) (s:Shared) (σ:St) (H:Hp) (v:V) (u:Value) (Q:St->Hp->Prop),Inv X pins σ H s->j8 v u->t v σ H Q ->
  wpAny (model X.prog X.w) X.A (assign target X.env u) (fun _ s'=>∃ σ' H',Inv X pins σ' H' s'/\Q σ' H') X.xe s
def PGs (X:Cx) (ts:List Expr) (t:TGs):Prop:=
 ∀ (pins:List (Addr×Obj)) (s:Shared) (σ:St) (H:Hp) (vs:List V) (us:List Value) (Q:St->Hp->Prop),Inv X pins σ H s->jk vs us->t vs σ H Q ->
  wpAny (model X.prog X.w) X.A (assignInOrder ((assignEach ts X.env).map (·.2)) us) (fun _ s'=>∃ σ' H',Inv X pins σ' H' s'/\Q σ' H') X.xe s
abbrev qom:=V->V->V->Hp->(Hp->Prop)->Prop
def qp4 (X:Cx) (t:qom):Prop:=
 ∀ (pins:List (Addr×Obj)) (s:Shared) (σ:St) (H:Hp) (o i v:V) (ov iv u:Value) (Q:Hp->Prop),Inv X pins σ H s->j8 o ov->j8 i iv->j8 v u->t o i v H Q ->
  wpAny (model X.prog X.w) X.A (setItem ov iv u) (fun _ s'=>∃ H',Inv X pins σ H' s'/\Q H') X.xe s
section
variable {X:Cx} {pos:Pos}
def qgU (i:Nat):TG:=fun v σ H Q=>Q (σ.set i (some v)) H
theorem qg3 {i:Nat} {x:Str} (hN:X.N.Nodup) (hi:X.N[i]?=some x) (hx:Loc X.env.scope x) (hf:X.fn x=true\/X.env.scope.names.lookup x=some .local:=by first | exact .inl rfl | exact .inr rfl | assumption):PG X (.Name x pos) (qgU i):=by
 intro pins s σ H v u Q I r h
 exact wpAny_assign_Name (WG I hN hi hx r (fun s' I'=>⟨_,H,I',h⟩) hf)
def DU:TGs:=fun vs σ H Q=>vs=[]/\Q σ H
def qU (t:TG) (u:TGs):TGs:=fun vs σ H Q=>∃ v r,vs=v :: r/\t v σ H fun σ' H'=>u r σ' H' Q
theorem qhW:PGs X [] DU:=by
 intro pins s σ H vs us Q I r h
 obtain ⟨e,h⟩:=h
 subst e
 cases r
 exact assignInOrder_nil ⟨σ,H,I,h⟩
theorem qd1 {e:Expr} {es:List Expr} {t:TG} {u:TGs} (h1:PG X e t) (h2:PGs X es u)
  (hs:(assignEach (e :: es) X.env).map (·.2)=assign e X.env :: (assignEach es X.env).map (·.2):=by rfl):PGs X (e :: es) (qU t u):=by
 intro pins s σ H vs us Q I r h
 obtain ⟨v,vr,e1,h⟩:=h
 subst e1
 cases r with
 | cons r rr=>
  rw [hs]
  refine assignInOrder_cons (thn (h1 pins s σ H _ _ _ I r h) fun _ s1 ⟨σ1,H1,I1,q1⟩=>?_)
  exact h2 pins s1 σ1 H1 _ _ Q I1 rr q1
def DT (K:PySem.W.Frag) (n:Nat) (t:TGs):TG:=fun v σ H Q=>∃ a xs,v=.ref a/\SqT K H a xs/\xs.length=n/\t xs σ H Q
theorem qlN {es:List Expr} {k:Nat} {t:TGs} {n:Nat} (hc:X.calm=true) (h:PGs X es t)
  (hn:(assignEach es X.env).length=n:=by rfl) (hst:(assignEach es X.env).findIdx? (·.1)=none:=by rfl):PG X (.Tuple es k pos) (DT X.K n t):=by
 intro pins s σ H v u Q I r hw
 obtain ⟨a,xs,e1,hq,hl,hw⟩:=hw
 subst e1
 cases r
 obtain ⟨its,rv,ht,hz⟩:=I.tuple hq
 refine assign_Tuple_tuple (I.ok.hd hc) ht (by simp [hn,← hl,rv.length]) hst fun h' hx=>?_
 have I1:Inv X pins σ H { s with heap:=h' }:=I.kept (t':=s.toks) fun b o e=>hx b o (Nat.ne_of_lt (Heap.lt_size e)) e
 exact h pins _ σ H xs _ Q I1 (by simpa using rv) hw
def qqA (to ti:TE) (t:qom):TG:=fun v σ H Q=>to σ H fun o H1=>ti σ H1 fun i H2=>t o i v H2 fun H3=>Q σ H3
theorem ql1 {o i:Expr} {to ti:TE} {t:qom} (ho:PE X o to) (hi:PE X i ti) (hs:qp4 X t)
  (ha:∀ v,assign (.Subscript o i pos) X.env v=(do
   let ov ← holding [v] (eval o X.env)
   let iv ← holding [v,ov] (eval i X.env)
   standAt pos
   holding [v,ov,iv] (setItem ov iv v)
   release [v,ov,iv] []):=by intro _;rfl):PG X (.Subscript o i pos) (qqA to ti t):=by
 intro pins s σ H v u Q I r h
 rw [ha]
 refine wpAny_bind (wpAny_holding (thn (ho pins s σ H _ I h) fun ov s1 ⟨x,H1,I1,r1,q1⟩=>?_))
 refine wpAny_bind (wpAny_holding (thn (hi pins s1 σ H1 _ I1 q1) fun iv s2 ⟨y,H2,I2,r2,q2⟩=>?_))
 refine wpAny_bind (wpAny_standAt (wpAny_bind (wpAny_holding (thn (hs pins s2 σ H2 x y v ov iv u _ I2 r1 r2 r q2) fun _ s3 ⟨H3,I3,q3⟩=>?_))))
 exact wpAny_release ⟨σ,H3,I3,q3⟩
def qn2 (te:TE) (g:TG):TS:=fun D σ H=>te σ H fun x H1=>g x σ H1 D.nx
theorem qlV {tg e:Expr} {te:TE} {g:TG} (he:PE X e te) (hg:PG X tg g) (hs:swapsWithSole [tg] e pos.line X.env=pure false:=by rfl) (hw:swappedStores [tg] e X.env=pure none:=by rfl)
  (h1:(assignEach [tg] X.env).map (·.2)=[assign tg X.env]:=by rfl):PS X (.Assign [tg] e pos) (qn2 te g):=by
 intro pins s σ H D I h
 refine wpAny_Assign_stores (thn (he pins s σ H _ I h) fun v s1 ⟨x,H1,I1,r1,q1⟩=>?_) hs hw
 rw [h1]
 exact thn (hg pins s1 σ H1 x v _ I1 r1 q1) fun _ s2 q=>q
theorem qmr {i:Nat} {x:Str} {e:Expr} {te:TE} {pos':Pos} (hN:X.N.Nodup) (hi:X.N[i]?=some x) (hx:Loc X.env.scope x) (he:PE X e te) (hs:swapsWith e (some (.Name x pos')) pos.line X.env=pure false:=by rfl) (hf:X.fn x=true\/X.env.scope.names.lookup x=some .local:=by first | exact .inl rfl | exact .inr rfl | assumption) :
  PS X (.Assign [.Name x pos'] e pos) (qn2 te (qgU i)):=by
 intro pins s σ H D I h
 refine wpAny_Assign_Name (thn (he pins s σ H _ I h) fun v s1 ⟨y,H1,I1,r1,q1⟩=>?_) hs
 exact WG I1 hN hi hx r1 (fun s2 I2=>⟨_,H1,I2,q1⟩) hf
def qqF (i j:Nat) (ta:TA):TS:=fun D σ H=>ta σ H fun vs H1=>∃ v w,vs=[v,w]/\D.nx ((σ.set i (some v)).set j (some w)) H1
theorem qlT {i j:Nat} {x y:Str} {a b:Expr} {ta:TA} {px py pt:Pos} {kt k2 pt2} (hc:X.calm=true) (hN:X.N.Nodup) (hi:X.N[i]?=some x) (hj:X.N[j]?=some y) (hij:i≠j)
  (hx:X.env.scope.names.lookup x=some .local) (hy:X.env.scope.names.lookup y=some .local) (ha:PA X [a,b] ta)
  (hw:swappedStores [.Tuple [.Name x px,.Name y py] kt pt] (.Tuple [a,b] k2 pt2) X.env=pure (some [x,y]))
  (hs:swapsWithSole [.Tuple [.Name x px,.Name y py] kt pt] (.Tuple [a,b] k2 pt2) pos.line X.env=pure false:=by rfl) :
  PS X (.Assign [.Tuple [.Name x px,.Name y py] kt pt] (.Tuple [a,b] k2 pt2) pos) (qqF i j ta):=by
 intro pins s σ H D I h
 rw [exec_Assign_arm]
 refine wpAny_bind (wpAny_standAt ?_)
 rw [hs]
 refine wpAny_bind (wpAny_pure ?_)
 rw [if_neg (by decide)]
 refine wpAny_bind (Tuple_ (thn (ha _ pins s σ H _ I h) fun us s1 ⟨vs,H1,I1,r1,q1⟩=>?_))
 obtain ⟨v,w,e1,q1⟩:=q1
 subst e1
 obtain ⟨u1,u2,rfl,rv,rw'⟩:∃ u1 u2,us=[u1,u2]/\j8 v u1/\j8 w u2:=by
  cases r1 with
  | cons p q=>
   cases q with
   | cons p' q'=>
    cases q'
    exact ⟨_,_,rfl,p,p'⟩
 refine wpAny_newObj_type ?_ (by show 2<=sizeLine;decide)
 have I2:Inv X pins σ H1 { s1 with heap:=s1.heap.push { cls:=.type "tuple",data:=.seq [u1,u2].toArray } }:=I1.kept (t':=s1.toks) fun b o e=>Heap.get?_push_of_some _ e
 rw [hw]
 refine wpAny_bind (wpAny_pure ?_)
 show wpAny (model X.prog X.w) X.A (do rule "assign.swapped-stores";let items ← unpackItems (.ref s1.heap.objs.size) 2 none;assignInOrder [fun v=>bindName X.env y v,fun v=>bindName X.env x v] items.reverse;pure Flow.next) _ _ _
 refine wpAny_bind (wpAny_rule (wpAny_bind (unpackItems_tuple (items:=#[u1,u2]) (I.ok.hd hc) (IsTup.new s1.heap _) fun h' hx'=>?_)))
 have I3:=I2.kept (h':=h') (t':=s1.toks) fun b o e=>hx' b o (Nat.ne_of_lt (Heap.lt_size e)) e
 show wpAny _ _ (assignInOrder [fun v=>bindName X.env y v,fun v=>bindName X.env x v] [u2,u1] >>= fun _=>pure Flow.next) _ _ _
 refine wpAny_bind (assignInOrder_cons (wpAny_bindName (WG I3 hN hj (.inl hy) rw' (fun s2 I4=>?_) (.inr hy))))
 refine assignInOrder_cons (wpAny_bindName (WG I4 hN hi (.inl hx) rv (fun s3 I5=>assignInOrder_nil (wpAny_pure ?_)) (.inr hx)))
 rw [List.set_comm _ _ (Ne.symm hij)] at I5
 exact ⟨_,H1,I5,q1⟩
end
section
variable {X:Cx} {pos:Pos}
end
structure It where
 go:Nat->Hp->Prop
 yld:Nat->Hp->V->Hp->Prop
 stop:Nat->Hp->Prop
def KM (X:Cx) (pins:List (Addr×Obj)) (H:Hp) (b:Addr):Prop:=
 H b=none/\b≠X.env.locals/\b ∉ X.fs/\(b∈X.ex\/X.s₀.heap.objs.size<=b)/\(∀ x c,X.env.cells.lookup x=some c->c≠b)/\∀ p∈X.pn++pins,p.1≠b
theorem Inv.fpOk {X:Cx} {pins:List (Addr×Obj)} {σ:St} {H H':Hp} {s:Shared} {b:Addr} (I:Inv X pins σ H s) (hb:s.heap.objs.size<=b) (hn:H' b=none):KM X pins H' b:=by
 refine ⟨hn,Nat.ne_of_gt (Nat.lt_of_lt_of_le I.lt hb),I.nofs hb,.inr (Nat.le_trans I.sz hb),fun x c e z=>?_,fun p hp z=>?_⟩
 ·obtain ⟨v,q⟩:=I.cell x c e
  exact absurd (Nat.lt_of_lt_of_le q.lt (by rw [z];exact hb)) (Nat.lt_irrefl _)
 ·exact absurd (Nat.lt_of_lt_of_le (Heap.lt_size (I.pin p hp).1) (by rw [z];exact hb)) (Nat.lt_irrefl _)
structure Turn (P:Program) (w:World) (K:PySem.W.Frag) (tg:Expr) (J:It) (fp:List Addr) (it:Addr) (tn:Nat->Heap->Prop):Prop where
 mem:it∈fp
 obj:∀ i h,tn i h->∀ b∈fp,∃ o,h.get? b=some o/\∀ v,o.data≠.cell v
 keep:∀ i h h',tn i h->(∀ b∈fp,∀ o,h.get? b=some o->h'.get? b=some o)->tn i h'
 item:∀ (X:Cx),X.prog=P->X.w=w->X.K=K->X.calm=true->∀ (i:Nat) (pins:List (Addr×Obj)) (s:Shared) (σ:St) (H:Hp) (E:Value->Shared->Prop),Inv X pins σ H s->(∀ b∈fp,KM X pins H b)->tn i s.heap->J.go i H ->
  wpAny (model P w) X.A (pyNext (.ref it)) (fun r s1=>∃ u,r=some u /\
   wpAny (model P w) X.A (letOwnedTupleGo tg (.ref it) u) (fun _ s2=>∃ x H',Inv X pins σ H' s2/\j8 x u/\J.yld i H x H'/\tn (i+1) s2.heap/\∀ b∈fp,H' b=none) E s1) E s
 done:∀ (X:Cx),X.prog=P->X.w=w->X.K=K->X.calm=true->∀ (i:Nat) (pins:List (Addr×Obj)) (s:Shared) (σ:St) (H:Hp) (E:Value->Shared->Prop),Inv X pins σ H s->(∀ b∈fp,KM X pins H b)->tn i s.heap->J.stop i H ->
  wpAny (model P w) X.A (pyNext (.ref it)) (fun r s1=>r=none/\Inv X pins σ H s1) E s
 self:∀ (A:Around) (i:Nat) (s:Shared) (Q:Value->Shared->Prop) (E:Value->Shared->Prop),tn i s.heap->Q (.ref it) s->wpAny (model P w) A (pyIter (.ref it)) Q E s
abbrev TI:=St->Hp->(It->Hp->Prop)->Prop
def PIE (X:Cx) (pins:List (Addr×Obj)) (σ:St) (tg:Expr) (R:It->Hp->Prop) (itv:Value) (s2:Shared):Prop:=
 ∃ (it:Addr) (fp:List Addr) (tn:Nat->Heap->Prop) (J:It) (H':Hp),itv=.ref it/\Inv X pins σ H' s2/\Turn X.prog X.w X.K tg J fp it tn/\tn 0 s2.heap/\(∀ b∈fp,KM X pins H' b)/\R J H'
def PI (X:Cx) (tg iter:Expr) (wi:TI):Prop:=
 ∀ (pins:List (Addr×Obj)) (s:Shared) (σ:St) (H:Hp) (R:It->Hp->Prop),Inv X pins σ H s->wi σ H R ->
  wpAny (model X.prog X.w) X.A (eval iter X.env) (fun v s1=>wpAny (model X.prog X.w) X.A (pyIter v) (PIE X pins σ tg R) X.xe s1) X.xe s
theorem qh0 {M:Model} {A:Around} {E:Value->Shared->Prop} {s:Shared} {tg:Expr} {it:Addr} {u:Value} {o:Obj} {n:String} {vs:Array Value} {Q:Unit->Shared->Prop} (ho:s.heap.get? it=some o) (hc:o.cls=.type n) (hd:o.data=.fields vs)
    (hn:["enumerate","zip","dict_itemiterator","dict_reverseitemiterator","odict_iterator","itertools.zip_longest","itertools.pairwise"].contains n=false) (hQ:Q () s):wpAny M A (letOwnedTupleGo tg (.ref it) u) Q E s:=by
  unfold letOwnedTupleGo
  cases tg <;> first
    | exact wpAny_pure hQ
    | (cases u <;> first
        | exact wpAny_pure hQ
        | (refine wpAny_bind (wpAny_load ho ?_)
           rw [hc,hd]
           show wpAny M A (if (["enumerate","zip","dict_itemiterator","dict_reverseitemiterator","odict_iterator","itertools.zip_longest","itertools.pairwise"].contains n && vs[0]? == some (rawInt _))=true then _ else _) Q E s
           rw [if_neg (by intro h;rw [hn,Bool.false_and] at h;cases h)]
           exact wpAny_pure hQ))
def Itl (K:PySem.W.Frag) (a:Addr):It:=
 ⟨fun i H=>∃ xs x,SqL K H a xs/\xs[i]?=some x,fun i H x H'=>H'=H/\∀ xs,SqL K H a xs->xs[i]?=some x,fun i H=>∃ xs,SqL K H a xs/\xs.length<=i⟩
def Itt (K:PySem.W.Frag) (a:Addr):It:=
 ⟨fun i H=>∃ xs x,SqT K H a xs/\xs[i]?=some x,fun i H x H'=>H'=H/\∀ xs,SqT K H a xs->xs[i]?=some x,fun i H=>∃ xs,SqT K H a xs/\xs.length<=i⟩
def Itr (lo:Int) (n:Nat):It:=⟨fun i _=>i < n,fun i H x H'=>H'=H/\x=.int (lo+i),fun i _=>n<=i⟩
theorem qch {P:Program} {w:World} {K:PySem.W.Frag} {tg:Expr} (a it:Addr):Turn P w K tg (Itl K a) [it] it (fun i h=>h.IsListIter it a i) where
 mem:=by simp
 obj:=fun i h st b hb=>by
  have e:b=it:=by simpa using hb
  subst e
  obtain ⟨o,e,c,d⟩:=st
  exact ⟨o,e,fun v z=>by rw [d] at z;cases z⟩
 keep:=fun i h h' st k=>st.at fun o e=>k it (by simp) o e
 item:=by
  intro X hP hw hK hc i pins s σ H E I hf st hg
  subst hP hw hK
  obtain ⟨xs,x,hq,hx⟩:=hg
  obtain ⟨its,rv,p,hz⟩:=I.list hq
  obtain ⟨u,hu,ru⟩:=rv.get hx
  obtain ⟨f0,f1,f2,f3,f4,f5⟩:=hf it (by simp)
  refine wpAny_pyNext_list_item st p.isList (x:=u) (by simpa using hu) fun h' st' sb=>?_
  have I1:Inv X pins σ H { s with heap:=h' }:=I.turned (t':=s.toks) (fun b o hb e=>(sb.2 b hb).trans e) f0 f1 f3 f4 f5
  obtain ⟨o,e,c,d⟩:=id st'
  exact ⟨u,rfl,qh0 (s:={ s with heap:=h' }) e c d (by decide) ⟨x,H,I1,ru,⟨rfl,fun ys hy=>by rw [I.list_inj hy hq];exact hx⟩,st',fun b hb=>(hf b hb).1⟩⟩
 done:=by
  intro X hP hw hK hc i pins s σ H E I hf st hg
  subst hP hw hK
  obtain ⟨xs,hq,hx⟩:=hg
  obtain ⟨its,rv,p,hz⟩:=I.list hq
  obtain ⟨f0,f1,f2,f3,f4,f5⟩:=hf it (by simp)
  have hl:=rv.length
  exact wpAny_pyNext_list_end (I.ok.hd hc) st p.isList (by simp;omega) fun h' eb=>⟨rfl,I.turned (t':=s.toks) (fun b o hb e=>eb b o hb e) f0 f1 f3 f4 f5⟩
 self:=fun _ _ _ _ _ st h=>wpAny_pyIter_listiter st h
theorem N9 {P:Program} {w:World} {K:PySem.W.Frag} {tg:Expr} (a it:Addr):Turn P w K tg (Itt K a) [it] it (fun i h=>h.IsTupleIter it a i) where
 mem:=by simp
 obj:=fun i h st b hb=>by
  have e:b=it:=by simpa using hb
  subst e
  obtain ⟨o,e,c,d⟩:=st
  exact ⟨o,e,fun v z=>by rw [d] at z;cases z⟩
 keep:=fun i h h' st k=>st.at fun o e=>k it (by simp) o e
 item:=by
  intro X hP hw hK hc i pins s σ H E I hf st hg
  subst hP hw hK
  obtain ⟨xs,x,hq,hx⟩:=hg
  obtain ⟨its,rv,p,hz⟩:=I.tuple hq
  obtain ⟨u,hu,ru⟩:=rv.get hx
  obtain ⟨f0,f1,f2,f3,f4,f5⟩:=hf it (by simp)
  refine wpAny_pyNext_tuple_item st (show s.heap.IsTuple a its.toArray from p) (x:=u) (by simpa using hu) fun h' st' sb=>?_
  have I1:Inv X pins σ H { s with heap:=h' }:=I.turned (t':=s.toks) (fun b o hb e=>(sb.2 b hb).trans e) f0 f1 f3 f4 f5
  obtain ⟨o,e,c,d⟩:=id st'
  exact ⟨u,rfl,qh0 (s:={ s with heap:=h' }) e c d (by decide) ⟨x,H,I1,ru,⟨rfl,fun ys hy=>by rw [I.tuple_inj hy hq];exact hx⟩,st',fun b hb=>(hf b hb).1⟩⟩
 done:=by
  intro X hP hw hK hc i pins s σ H E I hf st hg
  subst hP hw hK
  obtain ⟨xs,hq,hx⟩:=hg
  obtain ⟨its,rv,p,hz⟩:=I.tuple hq
  obtain ⟨f0,f1,f2,f3,f4,f5⟩:=hf it (by simp)
  have hl:=rv.length
  exact wpAny_pyNext_tuple_end (I.ok.hd hc) st (show s.heap.IsTuple a its.toArray from p) (by simp;omega) fun h' eb=>⟨rfl,I.turned (t':=s.toks) (fun b o hb e=>eb b o hb e) f0 f1 f3 f4 f5⟩
 self:=fun _ _ _ _ _ st h=>wpAny_pyIter_tupleiter st h
theorem N8 {P:Program} {w:World} {K:PySem.W.Frag} {tg:Expr} (it:Addr) (lo:Int) (n:Nat):Turn P w K tg (Itr lo n) [it] it (fun i h=>IsRangeIter h it (lo+(i:Nat) * 1) ((n:Int) - (i:Nat)) 1) where
 mem:=by simp
 obj:=fun i h st b hb=>by
  have e:b=it:=by simpa using hb
  subst e
  exact ⟨_,st,fun v z=>by
   have z':Data.fields _=Data.cell v:=z
   cases z'⟩
 keep:=fun i h h' st k=>k it (by simp) _ st
 item:=by
  intro X hP hw hK hc i pins s σ H E I hf st hg
  subst hP hw hK
  obtain ⟨f0,f1,f2,f3,f4,f5⟩:=hf it (by simp)
  have W:=Walks.range (prog:=X.prog) (w:=X.w) (I.ok.hd hc) it lo 1 n
  refine W.item i s _ _ hg st fun v h' tk hv st' kk=>?_
  obtain ⟨t,rfl⟩:=hv
  have I1:Inv X pins σ H { s with heap:=h',toks:=tk }:=I.turned (fun b o hb e=>kk b o (by simpa using hb) e) f0 f1 f3 f4 f5
  refine ⟨_,rfl,qh0 (s:={ s with heap:=h',toks:=tk }) (n:="range_iterator") st' rfl rfl (by decide) ⟨.int (lo+i),H,I1,⟨t,?_⟩,⟨rfl,rfl⟩,st',fun b hb=>(hf b hb).1⟩⟩
  rw [Int.mul_one]
 done:=by
  intro X hP hw hK hc i pins s σ H E I hf st hg
  subst hP hw hK
  obtain ⟨f0,f1,f2,f3,f4,f5⟩:=hf it (by simp)
  exact wpAny_pyNext_range_end (I.ok.hd hc) st (by have:n<=i:=hg;omega) fun h' eb=>⟨rfl,I.turned (t':=s.toks) (fun b o hb e=>eb b o hb e) f0 f1 f3 f4 f5⟩
 self:=fun _ _ _ _ _ st h=>wpAny_pyIter_rangeiter st h
end L2
namespace L2
open PySem PySem.Spec PyProof.Rows
section
variable {X:Cx} {tg:Expr}
theorem ND {pins:List (Addr×Obj)} {σ:St} {H:Hp} {s:Shared} {R:It->Hp->Prop} {E:Value->Shared->Prop} {lo hi:Int} {t u v:Tok} {tk:Nat} (I:Inv X pins σ H s) (h1:-(2 ^ 62)<=lo) (h2:lo < 2 ^ 62) (h3:-(2 ^ 62)<=hi) (h4:hi < 2 ^ 62)
  (q:R (Itr lo (hi - lo).toNat) H):wpAny (model X.prog X.w) X.A (pyIter (.ref s.heap.objs.size)) (PIE X pins σ tg R) E { s with heap:=s.heap.push { cls:=.type "range",data:=.fields #[.int lo t,.int hi u,.int 1 v] },toks:=tk }:=by
 refine wpAny_pyIter_range (IsRange.new ..) (small_one h1 h2 h3 h4) ?_
 have I1:Inv X pins σ H { s with heap:=s.heap.push { cls:=.type "range",data:=.fields #[.int lo t,.int hi u,.int 1 v] },toks:=tk }:=I.kept fun b o e=>Heap.get?_push_of_some _ e
 refine ⟨(s.heap.push { cls:=.type "range",data:=.fields #[.int lo t,.int hi u,.int 1 v] }).objs.size,[(s.heap.push { cls:=.type "range",data:=.fields #[.int lo t,.int hi u,.int 1 v] }).objs.size],_,_,H,rfl,
  I1.kept (t':=tk) fun b o e=>Heap.get?_push_of_some _ e,N8 _ lo (hi - lo).toNat,?_,fun b hb=>?_,q⟩
 ·have e1:lo+((0:Nat):Int) * 1=lo:=by simp
  have e2:(((hi - lo).toNat:Nat):Int) - ((0:Nat):Int)=Builtin.Range.rangeSize lo hi 1:=by rw [rangeSize_one];split <;> omega
  show IsRangeIter _ _ (lo+((0:Nat):Int) * 1) ((((hi - lo).toNat:Nat):Int) - ((0:Nat):Int)) 1
  rw [e1,e2]
  exact Heap.get?_push_size _ rfl
 ·have e:b=(s.heap.push { cls:=.type "range",data:=.fields #[.int lo t,.int hi u,.int 1 v] }).objs.size:=by simpa using hb
  subst e
  exact I1.fpOk (Nat.le_refl _) (I1.hok.fresh (Nat.le_refl _))
def qpx (ta:TA):TI:=fun σ H R=>ta σ H fun vs H1=>∃ j:Int,vs=[.int j]/\-(2 ^ 62)<=j/\j < 2 ^ 62/\R (Itr 0 j.toNat) H1
def qpg (ta:TA):TI:=fun σ H R=>ta σ H fun vs H1=>∃ i j:Int,vs=[.int i,.int j]/\(-(2 ^ 62)<=i/\i < 2 ^ 62/\-(2 ^ 62)<=j/\j < 2 ^ 62)/\R (Itr i (j - i).toNat) H1
theorem qbU {a:Expr} {ta:TA} {p pos:Pos} (hg:Gl X "range") (hm:X.mg "range" = none) (ha:PA X [a] ta) (hs:starEach [a] X.env=[(false,eval a X.env)]:=by rfl):PI X tg (.Call (.Name "range" p) [a] [] pos) (qpx ta):=by
 intro pins s σ H R I h
 refine Call_ (XO I hg hm boot_range (PyProof.Rows.callWith_type1 (thn (ha pos pins s σ H _ I h) fun us s1 ⟨vs,H1,I1,r1,q1⟩=>?_) hs rfl))
 obtain ⟨j,e,q1,q2,q⟩:=q1
 subst e
 cases r1 with
 | cons r rr=>
  cases rr
  obtain ⟨t,rfl⟩:=r
  exact call_range_1 (ND I1 (by omega) (by omega) q1 q2 (by simpa using q))
theorem qbr {a b:Expr} {ta:TA} {p pos:Pos} (hg:Gl X "range") (hm:X.mg "range" = none) (ha:PA X [a,b] ta) (hs:starEach [a,b] X.env=[(false,eval a X.env),(false,eval b X.env)]:=by rfl) (hs2:starEach [b] X.env=[(false,eval b X.env)]:=by rfl) :
  PI X tg (.Call (.Name "range" p) [a,b] [] pos) (qpg ta):=by
 intro pins s σ H R I h
 refine Call_ (XO I hg hm boot_range (PyProof.Rows.callWith_type1 (thn (ha pos pins s σ H _ I h) fun us s1 ⟨vs,H1,I1,r1,q1⟩=>?_) (by rw [hs,hs2]) (by rw [hs2];rfl)))
 obtain ⟨i,j,e,⟨q1,q2,q3,q4⟩,q⟩:=q1
 subst e
 cases r1 with
 | cons r rr=>
  cases rr with
  | cons r' rr=>
   cases rr
   obtain ⟨t,rfl⟩:=r
   obtain ⟨t',rfl⟩:=r'
   exact call_range_2 (ND I1 q1 q2 q3 q4 q)
def qq2 (wi:TI) (g:TG) (tb:TS):TS:=fun D σ H=>wi σ H fun J H1=>∃ W:Nat->Nat->St->Hp->Prop,(∃ m,W 0 m σ H1)/\∀ i m σ H,W i m σ H ->
 (J.stop i H/\D.nx σ H)\/(J.go i H/\∃ N:St->Hp->Prop,(∀ σ' H',N σ' H'->∃ m',m' < m/\W (i+1) m' σ' H')/\∀ x H',J.yld i H x H'->g x σ H' fun σ2 H2=>tb { D with nx:=N,ct:=N,bk:=D.nx } σ2 H2)
def D8 (fp:List Addr) (h:Heap):List (Addr×Obj):=fp.filterMap fun b=>(h.get? b).map fun o=>(b,o)
theorem zO {fp:List Addr} {h:Heap} {b:Addr} {o:Obj} (hb:b∈fp) (e:h.get? b=some o):(b,o)∈D8 fp h:=List.mem_filterMap.mpr ⟨b,hb,by rw [e];rfl⟩
theorem qbR {fp:List Addr} {h:Heap} {p:Addr×Obj} (hp:p∈D8 fp h):p.1∈fp/\h.get? p.1=some p.2:=by
 obtain ⟨b,hb,e⟩:=List.mem_filterMap.mp hp
 cases q:h.get? b with
 | none=>rw [q] at e;cases e
 | some o=>
  rw [q] at e
  have e':(b,o)=p:=Option.some.inj e
  subst e'
  exact ⟨hb,q⟩
theorem Inv.pinned {pins:List (Addr×Obj)} {σ:St} {H:Hp} {s:Shared} {fp:List Addr} (I:Inv X pins σ H s) (hf:∀ b∈fp,KM X pins H b) (ho:∀ b∈fp,∃ o,s.heap.get? b=some o/\∀ v,o.data≠.cell v):Inv X (pins++D8 fp s.heap) σ H s:=
 I.pins_of fun p hp=>(List.mem_append.mp hp).elim (fun z=>I.pin p (List.mem_append_right _ z)) fun z=>by
  obtain ⟨hb,e⟩:=qbR z
  obtain ⟨f0,f1,f2,_⟩:=hf p.1 hb
  obtain ⟨o,e',d⟩:=ho p.1 hb
  rw [e] at e';cases e'
  exact ⟨e,f0,f1,f2,d⟩
theorem Inv.unpinned {pins pl:List (Addr×Obj)} {σ:St} {H:Hp} {s:Shared} (I:Inv X (pins++pl) σ H s):Inv X pins σ H s:=I.pins_of fun p hp=>I.pin p (List.mem_append_right _ (List.mem_append_left _ hp))
theorem qi4 {iter:Expr} {body:List Stmt} {wi:TI} {g:TG} {tb:TS} {pos:Pos} (hp:PassesOwn (model X.prog X.w) X.A X.env X.xe) (hc:X.calm=true) (hi:PI X tg iter wi) (hg:PG X tg g) (hb:PSs X body tb)
  (hs:∀ x,foldedSetIterable iter X.env x=pure x:=by intro _;rfl):PS X (.For tg iter body [] pos) (qq2 wi g tb):=by
 intro pins s σ H D I h
 refine wpAny_For (thn (hi pins s σ H _ I h) fun v s1 h1=>thn h1 fun itv s2 h2=>?_) hs
 obtain ⟨it,fp,tn,J,H2,e,I2,T,st2,f2,W,⟨m0,w0⟩,turn⟩:=h2
 subst e
 -- what stays true of the iterator's objects through the loop
 have stat:∀ {H':Hp},(∀ b∈fp,H' b=none)->∀ b∈fp,KM X pins H' b:=fun hn b hb=>⟨hn b hb,(f2 b hb).2⟩
 refine codeAny_forLoop_any (fun n s'=>∃ i σ' H',Inv X pins σ' H' s'/\tn i s'.heap/\(∀ b∈fp,H' b=none)/\W i n σ' H') ?_ m0 ⟨0,σ,H2,I2,st2,fun b hb=>(f2 b hb).1,w0⟩
 rintro n s3 ⟨i,σ3,H3,I3,st3,fr3,w3⟩
 rcases turn i n σ3 H3 w3 with ⟨stop,qn⟩ | ⟨go,N,hN,step⟩
 ·refine wpAny_passesOwn hp (thn (T.done X rfl rfl rfl hc i pins s3 σ3 H3 X.xe I3 (stat fr3) st3 stop) fun r s4 ⟨hr,I4⟩=>?_)
  subst hr
  exact wpAny_execs_nil ⟨σ3,H3,I4,qn⟩
 ·refine wpAny_passesOwn hp (thn (T.item X rfl rfl rfl hc i pins s3 σ3 H3 X.xe I3 (stat fr3) st3 go) fun r s4 ⟨u,hr,h4⟩=>?_)
  subst hr
  refine wpAny_passesOwn hp (thn h4 fun _ s5 ⟨x,H5,I5,r5,y5,st5,fr5⟩=>?_)
  have I5':=I5.pinned (stat fr5) (T.obj _ _ st5)
  refine wpAny_passesOwn hp (thn (hg _ s5 σ3 H5 x u _ I5' r5 (step x H5 y5)) fun _ s6 ⟨σ6,H6,I6,q6⟩=>?_)
  refine wpAny_passesOwn hp (thn (hb _ s6 σ6 H6 _ I6 q6) fun f s7 q7=>?_)
  have again:∀ {σ7:St} {H7:Hp},Inv X (pins++D8 fp s5.heap) σ7 H7 s7->N σ7 H7->∃ m,m < n/\∃ i σ' H',Inv X pins σ' H' s7/\tn i s7.heap/\(∀ b∈fp,H' b=none)/\W i m σ' H':=fun {σ7 H7} I7 n7=>by
   obtain ⟨m',hm,w7⟩:=hN σ7 H7 n7
   refine ⟨m',hm,i+1,σ7,H7,I7.unpinned,T.keep _ _ _ st5 fun b hb o e=>(I7.pin (b,o) (List.mem_append_right _ (List.mem_append_right _ (zO hb e)))).1,fun b hb=>?_,w7⟩
   obtain ⟨o,e,d⟩:=T.obj _ _ st5 b hb
   exact (I7.pin (b,o) (List.mem_append_right _ (List.mem_append_right _ (zO hb e)))).2.1
  cases f with
  | next=>obtain ⟨σ7,H7,I7,n7⟩:=q7;exact again I7 n7
  | cont=>obtain ⟨σ7,H7,I7,n7⟩:=q7;exact again I7 n7
  | brk=>obtain ⟨σ7,H7,I7,q7⟩:=q7;exact ⟨σ7,H7,I7.unpinned,q7⟩
  | ret v=>obtain ⟨x7,σ7,H7,I7,r7,q7⟩:=q7;exact ⟨x7,σ7,H7,I7.unpinned,r7,q7⟩
end
end L2
namespace L2
open PySem PySem.Spec PyProof.Rows
abbrev R2:=V->V->Hp->VK->Prop
def OpR (X:Cx) (f:Value->Value->Sem Value) (r:R2):Prop:=
 ∀ (pins:List (Addr×Obj)) (s:Shared) (σ:St) (H:Hp) (x y:V) (v u:Value) (Q:VK),Inv X pins σ H s->j8 x v->j8 y u->r x y H Q ->
  wpAny (model X.prog X.w) X.A (f v u) (EP X pins σ Q) X.xe s
def UnR (X:Cx) (f:Value->Sem Value) (r:V->Hp->VK->Prop):Prop:=
 ∀ (pins:List (Addr×Obj)) (s:Shared) (σ:St) (H:Hp) (x:V) (v:Value) (Q:VK),Inv X pins σ H s->j8 x v->r x H Q ->
  wpAny (model X.prog X.w) X.A (f v) (EP X pins σ Q) X.xe s
def YH (X:Cx) (f:Value) (r:List V->Hp->VK->Prop):Prop:=
 ∀ (pins:List (Addr×Obj)) (s:Shared) (σ:St) (H:Hp) (xs:List V) (us:List Value) (Q:VK),Inv X pins σ H s->jk xs us->r xs H Q ->
  wpAny (model X.prog X.w) X.A (call f us) (EP X pins σ Q) X.xe s
def tOp (r:R2) (ta tb:TE):TE:=fun σ H Q=>ta σ H fun x H1=>tb σ H1 fun y H2=>r x y H2 Q
def tUn (r:V->Hp->VK->Prop) (ta:TE):TE:=fun σ H Q=>ta σ H fun x H1=>r x H1 Q
def rI (C:Int->Int->Prop) (g:Int->Int->V):R2:=fun x y H Q=>∃ i j,x=.int i/\y=.int j/\C i j/\Q (g i j) H
def rI0 (g:Int->Int->V):R2:=fun x y H Q=>∃ i j,x=.int i/\y=.int j/\Q (g i j) H
def rU (g:Int->V):V->Hp->VK->Prop:=fun x H Q=>∃ i,x=.int i/\Q (g i) H
section
variable {X:Cx} {a b c:Expr} {ta tb tc:TE} {pos:Pos}
theorem qpB (ha:PE X a ta) (hb:PE X b tb) {pins:List (Addr×Obj)} {s:Shared} {σ:St} {H:Hp} {R:V->V->Hp->Prop} (I:Inv X pins σ H s)
  (h:ta σ H fun x H1=>tb σ H1 fun y H2=>R x y H2) {Q:Value->Shared->Prop} {f:Value->Value->Sem Value}
  (hf:∀ v u s2 x y H2,Inv X pins σ H2 s2->j8 x v->j8 y u->R x y H2->wpAny (model X.prog X.w) X.A (f v u) Q X.xe s2) :
  wpAny (model X.prog X.w) X.A (eval a X.env) (fun v s₁=>wpAny (model X.prog X.w) X.A (eval b X.env) (fun u s₂=>wpAny (model X.prog X.w) X.A (f v u) Q X.xe s₂) X.xe s₁) X.xe s:=by
 refine thn (ha pins s σ H _ I h) fun v s1 ⟨x,H1,I1,r1,q1⟩=>?_
 refine thn (hb pins s1 σ H1 _ I1 q1) fun u s2 ⟨y,H2,I2,r2,q2⟩=>?_
 exact hf v u s2 x y H2 I2 r1 r2 q2
theorem qnY {op:Operator} {r:R2} (ho:OpR X (binaryOp op) r) (ha:PE X a ta) (hb:PE X b tb):PE X (.BinOp a op b pos) (tOp r ta tb):=by
 intro pins s σ H Q I h
 exact wpAny_BinOp (qpB ha hb I h fun v u s2 x y H2 I2 rx ry q=>ho pins s2 σ H2 x y v u Q I2 rx ry q)
theorem qoM {op:UnaryOp} {r:V->Hp->VK->Prop} (ho:UnR X (unaryOp op) r) (ha:PE X a ta):PE X (.UnaryOp op a pos) (tUn r ta):=by
 intro pins s σ H Q I h
 exact UnaryOp_ (thn (ha pins s σ H _ I h) fun v s1 ⟨x,H1,I1,r1,q1⟩=>ho pins s1 σ H1 x v Q I1 r1 q1)
theorem opI {f:Value->Value->Sem Value} {C:Int->Int->Prop} {g:Int->Int->Int}
  (rule:∀ (i j:Int) (t u:Tok) (s:Shared) (Q:Value->Shared->Prop) (E:Value->Shared->Prop),C i j->Q (.int (g i j) s.toks) { s with toks:=s.toks+1 }->wpAny (model X.prog X.w) X.A (f (.int i t) (.int j u)) Q E s) :
  OpR X f (rI C fun i j=>.int (g i j)):=by
 intro pins s σ H x y v u Q I rx ry h
 obtain ⟨i,j,rfl,rfl,hc,q⟩:=h
 obtain ⟨t,rfl⟩:=rx
 obtain ⟨t',rfl⟩:=ry
 exact rule i j t t' s _ _ hc ⟨.int (g i j),H,I.tok _,⟨_,rfl⟩,q⟩
theorem qpQ {f:Value->Value->Sem Value} {g:Int->Int->Int}
  (rule:∀ (i j:Int) (t u:Tok) (s:Shared) (Q:Value->Shared->Prop) (E:Value->Shared->Prop),Q (.int (g i j) s.toks) { s with toks:=s.toks+1 }->wpAny (model X.prog X.w) X.A (f (.int i t) (.int j u)) Q E s) :
  OpR X f (rI0 fun i j=>.int (g i j)):=by
 intro pins s σ H x y v u Q I rx ry h
 obtain ⟨i,j,rfl,rfl,q⟩:=h
 obtain ⟨t,rfl⟩:=rx
 obtain ⟨t',rfl⟩:=ry
 exact rule i j t t' s _ _ ⟨.int (g i j),H,I.tok _,⟨_,rfl⟩,q⟩
theorem qnE {f:Value->Value->Sem Value} {g:Int->Int->Bool}
  (rule:∀ (i j:Int) (t u:Tok) (s:Shared) (Q:Value->Shared->Prop) (E:Value->Shared->Prop),Q (.bool (g i j)) s->wpAny (model X.prog X.w) X.A (f (.int i t) (.int j u)) Q E s) :
  OpR X f (rI0 fun i j=>.bl (g i j)):=by
 intro pins s σ H x y v u Q I rx ry h
 obtain ⟨i,j,rfl,rfl,q⟩:=h
 obtain ⟨t,rfl⟩:=rx
 obtain ⟨t',rfl⟩:=ry
 exact rule i j t t' s _ _ ⟨.bl (g i j),H,I,rfl,q⟩
def qaF (i j:Int):Prop:=0 < j/\j < 1073741824
def LN (i j:Int):Prop:=0<=j/\j<=1000000/\i.natAbs < 2 ^ 64
def jP (i j:Int):Prop:=(-(2 ^ 64) < i/\i < 2 ^ 64)\/(-(2 ^ 64) < j/\j < 2 ^ 64)
theorem jP.ok {i j:Int} (h:jP i j):IntMulOk i j:=by
 rcases h with ⟨h1,h2⟩ | ⟨h1,h2⟩
 ·exact .of_left (intBits_le_64 h1 h2)
 ·exact .of_right (intBits_le_64 h1 h2)
theorem qlS:OpR X (binaryOp .Add) (rI0 fun i j=>.int (i+j)):=qpQ fun _ _ _ _ _ _ _ q=>add_int q
theorem qli:OpR X (binaryOp .Sub) (rI0 fun i j=>.int (i - j)):=qpQ fun _ _ _ _ _ _ _ q=>sub_int q
theorem qiZ:OpR X (binaryOp .Mult) (rI jP fun i j=>.int (i * j)):=opI fun _ _ _ _ _ _ _ hc q=>mul_int q hc.ok
theorem qhQ:OpR X (binaryOp .FloorDiv) (rI qaF fun i j=>.int (i / j)):=opI fun i j _ _ _ _ _ hc q=>by
 have h1:(0:Int) < j:=hc.1
 have h2:j < 1073741824:=hc.2
 exact floordiv_int (by omega) (by rw [Int.fdiv_eq_ediv_of_nonneg i (by omega)];exact q) (.inl (PyProof.noPylong_small (by omega)))
theorem qmD:OpR X (binaryOp .Mod) (rI (fun _ j=>0 < j) fun i j=>.int (i % j)):=opI fun i j _ _ _ _ _ hc q=>by
 have h1:(0:Int) < j:=hc
 exact mod_int' (by omega) (by rw [Int.fmod_eq_emod_of_nonneg i (by omega)];exact q)
theorem qjz:OpR X (binaryOp .Pow) (rI LN fun i j=>.int (i ^ j.toNat)):=opI fun _ _ _ _ _ _ _ hc q=>pow_int_small hc.1 hc.2.1 hc.2.2 q
theorem qmH:OpR X (binaryOp .LShift) (rI LN fun i j=>.int (i * 2 ^ j.toNat)):=opI fun _ _ _ _ _ _ _ hc q=>lshift_int_small hc.1 hc.2.1 hc.2.2 q
theorem unI {f:Value->Sem Value} {g:Int->Int}
  (rule:∀ (i:Int) (t:Tok) (s:Shared) (Q:Value->Shared->Prop) (E:Value->Shared->Prop),Q (.int (g i) s.toks) { s with toks:=s.toks+1 }->wpAny (model X.prog X.w) X.A (f (.int i t)) Q E s) :
  UnR X f (rU fun i=>.int (g i)):=by
 intro pins s σ H x v Q I rx h
 obtain ⟨i,rfl,q⟩:=h
 obtain ⟨t,rfl⟩:=rx
 exact rule i t s _ _ ⟨.int (g i),H,I.tok _,⟨_,rfl⟩,q⟩
theorem qix:UnR X (unaryOp .USub) (rU fun i=>.int (-i)):=unI fun _ _ _ _ _ q=>neg_int q
end
def qoT:V->V->Bool
 | .non,.non=>true | .non,.int _=>true | .int _,.non=>true | .non,.bl _=>true | .bl _,.non=>true | .non,.str _=>true | .str _,.non=>true
 | .int _,.int _=>true | .bl _,.bl _=>true | .str _,.str _=>true | .byt _,.byt _=>true
 | .int _,.str _=>true | .str _,.int _=>true | .bl _,.str _=>true | .str _,.bl _=>true
 | _,_=>false
def rEq:R2:=fun x y H Q=>qoT x y=true/\Q (.bl (decide (x=y))) H
def rNe:R2:=fun x y H Q=>qoT x y=true/\Q (.bl (!decide (x=y))) H
theorem qb6 {i j:Int}:decide (V.int i=V.int j)=(i == j):=by
 rw [Bool.eq_iff_iff]
 simp
theorem qeI {i j:Bool}:decide (V.bl i=V.bl j)=(i == j):=by
 rw [Bool.eq_iff_iff]
 simp
theorem qaY {i j:Str}:decide (V.str i=V.str j)=(i == j):=by
 rw [Bool.eq_iff_iff]
 simp
theorem qbT {i j:Array UInt8}:decide (V.byt i=V.byt j)=(i.toList == j.toList):=by
 rw [Bool.eq_iff_iff]
 cases i
 cases j
 simp
section
variable {X:Cx} {a b c:Expr} {ta tb tc:TE} {pos:Pos}
theorem zc {pins:List (Addr×Obj)} {σ:St} {H:Hp} {s:Shared} {Q:VK} {k k':Bool} (I:Inv X pins σ H s) (q:Q (.bl k) H) (e:k=k'):EP X pins σ Q (.bool k') s:=by
 subst e
 exact ⟨.bl k,H,I,rfl,q⟩
theorem qn5:OpR X (compareOp .Eq) rEq:=by
 intro pins s σ H x y v u Q I rx ry h
 obtain ⟨hs,q⟩:=h
 cases x with
 | non=>
  cases rx
  cases y with
  | non=>cases ry;exact PySem.EqNone.eq_none_none (zc I q (by simp))
  | bl j=>cases ry;exact PySem.EqNone.eq_none_bool (zc I q (by simp))
  | int j=>obtain ⟨t',rfl⟩:=ry;exact PySem.EqNone.eq_none_int (zc I q (by simp))
  | str j=>obtain ⟨t',rfl⟩:=ry;exact PySem.EqNone.eq_none_str (zc I q (by simp))
  | _=>exact absurd (show false=true from hs) Bool.false_ne_true
 | bl i=>
  cases rx
  cases y with
  | non=>cases ry;exact PySem.EqNone.eq_bool_none (zc I q (by simp))
  | bl j=>cases ry;exact eq_bool (zc I q qeI)
  | str j=>obtain ⟨t',rfl⟩:=ry;exact PySem.EqMixed.eq_bool_str (zc I q (by simp))
  | _=>exact absurd (show false=true from hs) Bool.false_ne_true
 | int i=>
  obtain ⟨t,rfl⟩:=rx
  cases y with
  | non=>cases ry;exact PySem.EqNone.eq_int_none (zc I q (by simp))
  | int j=>obtain ⟨t',rfl⟩:=ry;exact eq_int (zc I q qb6)
  | str j=>obtain ⟨t',rfl⟩:=ry;exact PySem.EqMixed.eq_int_str (zc I q (by simp))
  | _=>exact absurd (show false=true from hs) Bool.false_ne_true
 | str i=>
  obtain ⟨t,rfl⟩:=rx
  cases y with
  | non=>cases ry;exact PySem.EqNone.eq_str_none (zc I q (by simp))
  | bl j=>cases ry;exact PySem.EqMixed.eq_str_bool (zc I q (by simp))
  | int j=>obtain ⟨t',rfl⟩:=ry;exact PySem.EqMixed.eq_str_int (zc I q (by simp))
  | str j=>obtain ⟨t',rfl⟩:=ry;exact eq_str (zc I q qaY)
  | _=>exact absurd (show false=true from hs) Bool.false_ne_true
 | byt i=>
  obtain ⟨t,rfl⟩:=rx
  cases y with
  | byt j=>obtain ⟨t',rfl⟩:=ry;exact PySem.W.eq_bytes (zc I q qbT)
  | _=>exact absurd (show false=true from hs) Bool.false_ne_true
 | _=>cases y <;> exact absurd (show false=true from hs) Bool.false_ne_true
theorem qpO:OpR X (compareOp .NotEq) rNe:=by
 intro pins s σ H x y v u Q I rx ry h
 obtain ⟨hs,q⟩:=h
 cases x with
 | non=>
  cases rx
  cases y with
  | non=>cases ry;exact PySem.EqNone.ne_none_none (zc I q (by simp))
  | bl j=>cases ry;exact PySem.EqNone.ne_none_bool (zc I q (by simp))
  | int j=>obtain ⟨t',rfl⟩:=ry;exact PySem.EqNone.ne_none_int (zc I q (by simp))
  | str j=>obtain ⟨t',rfl⟩:=ry;exact PySem.EqNone.ne_none_str (zc I q (by simp))
  | _=>exact absurd (show false=true from hs) Bool.false_ne_true
 | bl i=>
  cases rx
  cases y with
  | non=>cases ry;exact PySem.EqNone.ne_bool_none (zc I q (by simp))
  | bl j=>cases ry;exact ne_bool (zc I q (congrArg not qeI))
  | str j=>obtain ⟨t',rfl⟩:=ry;exact PySem.EqMixed.ne_bool_str (zc I q (by simp))
  | _=>exact absurd (show false=true from hs) Bool.false_ne_true
 | int i=>
  obtain ⟨t,rfl⟩:=rx
  cases y with
  | non=>cases ry;exact PySem.EqNone.ne_int_none (zc I q (by simp))
  | int j=>obtain ⟨t',rfl⟩:=ry;exact ne_int (zc I q (congrArg not qb6))
  | str j=>obtain ⟨t',rfl⟩:=ry;exact PySem.EqMixed.ne_int_str (zc I q (by simp))
  | _=>exact absurd (show false=true from hs) Bool.false_ne_true
 | str i=>
  obtain ⟨t,rfl⟩:=rx
  cases y with
  | non=>cases ry;exact PySem.EqNone.ne_str_none (zc I q (by simp))
  | bl j=>cases ry;exact PySem.EqMixed.ne_str_bool (zc I q (by simp))
  | int j=>obtain ⟨t',rfl⟩:=ry;exact PySem.EqMixed.ne_str_int (zc I q (by simp))
  | str j=>obtain ⟨t',rfl⟩:=ry;exact ne_str (zc I q (congrArg not qaY))
  | _=>exact absurd (show false=true from hs) Bool.false_ne_true
 | byt i=>
  obtain ⟨t,rfl⟩:=rx
  cases y with
  | byt j=>obtain ⟨t',rfl⟩:=ry;exact PySem.W.ne_bytes (zc I q (congrArg not qbT))
  | _=>exact absurd (show false=true from hs) Bool.false_ne_true
 | _=>cases y <;> exact absurd (show false=true from hs) Bool.false_ne_true
theorem KW:OpR X (compareOp .Lt) (rI0 fun i j=>.bl (decide (i < j))):=qnE fun _ _ _ _ _ _ _ q=>lt_int q
theorem qbq:OpR X (compareOp .LtE) (rI0 fun i j=>.bl (decide (i<=j))):=qnE fun _ _ _ _ _ _ _ q=>le_int q
theorem qpq:OpR X (compareOp .Gt) (rI0 fun i j=>.bl (decide (j < i))):=qnE fun _ _ _ _ _ _ _ q=>gt_int q
theorem qoc:OpR X (compareOp .GtE) (rI0 fun i j=>.bl (decide (j<=i))):=qnE fun _ _ _ _ _ _ _ q=>ge_int q
theorem NC:OpR X (compareOp .Is) (fun x y H Q=>y=.non/\Q (.bl (decide (x=.non))) H):=by
 intro pins s σ H x y v u Q I rx ry h
 obtain ⟨rfl,q⟩:=h
 cases ry
 refine is_none_gen (zc I q ?_)
 cases x <;> first
  | (cases rx;rfl)
  | (obtain ⟨t,rfl⟩:=rx;rfl)
theorem R5:OpR X (compareOp .IsNot) (fun x y H Q=>y=.non/\Q (.bl (!decide (x=.non))) H):=by
 intro pins s σ H x y v u Q I rx ry h
 obtain ⟨rfl,q⟩:=h
 cases ry
 refine isnot_none_gen (zc I q ?_)
 cases x <;> first
  | (cases rx;rfl)
  | (obtain ⟨t,rfl⟩:=rx;rfl)
theorem OpR.or {f:Value->Value->Sem Value} {r r':R2} (h:OpR X f r) (h':OpR X f r'):OpR X f (fun x y H Q=>r x y H Q\/r' x y H Q):=by
 intro pins s σ H x y v u Q I rx ry q
 rcases q with q | q
 ·exact h pins s σ H x y v u Q I rx ry q
 ·exact h' pins s σ H x y v u Q I rx ry q
theorem qz (b:Expr) {op:CmpOp} (h:op≠.In:=by decide) (h2:op≠.NotIn:=by decide):behindInMarks op b=false:=by
 have e1:(op == CmpOp.In)=false:=by cases op <;> first | rfl | exact absurd rfl h
 have e2:(op == CmpOp.NotIn)=false:=by cases op <;> first | rfl | exact absurd rfl h2
 cases b <;> simp [behindInMarks,e1,e2]
theorem qhA {op:CmpOp} {r:R2} (ho:OpR X (compareOp op) r) (ha:PE X a ta) (hb:PE X b tb) (hm:behindInMarks op b=false):PE X (.Compare a [op] [b] pos) (tOp r ta tb):=by
 intro pins s σ H Q I h
 exact wpAny_Compare1 (qpB ha hb I h fun v u s2 x y H2 I2 rx ry q=>ho pins s2 σ H2 x y v u Q I2 rx ry q) hm
def qmz (t:TE):TT:=fun σ H Q=>t σ H fun x H'=>∃ k,x=.bl k/\Q k H'
theorem qgI {op:CmpOp} {r:R2} (ho:OpR X (compareOp op) r) (ha:PE X a ta) (hb:PE X b tb) (hm:behindInMarks op b=false):PT X (.Compare a [op] [b] pos) (qmz (tOp r ta tb)):=by
 intro pins s σ H Q I h
 refine wpAny_isTrue_Compare1 (thn (ha pins s σ H _ I h) fun v s1 ⟨x,H1,I1,r1,q1⟩=>thn (hb pins s1 σ H1 _ I1 q1) fun u s2 ⟨y,H2,I2,r2,q2⟩=>
  thn (ho pins s2 σ H2 x y v u _ I2 r1 r2 q2) fun c s3 ⟨z,H3,I3,r3,k,e,q3⟩=>?_) hm
 subst e
 cases r3
 exact wpAny_truthy_bool ⟨H3,I3,q3⟩
def qea (r r':R2) (ta tb tc:TE):TE:=fun σ H Q=>ta σ H fun x H1=>tb σ H1 fun y H2=>r x y H2 fun z H3=>∃ k,z=.bl k /\
 (if k=true then tc σ H3 fun w' H4=>r' y w' H4 Q else Q (.bl false) H3)
theorem qdp {op op':CmpOp} {r r':R2} (ho:OpR X (compareOp op) r) (ho':OpR X (compareOp op') r') (ha:PE X a ta) (hb:PE X b tb) (hc:PE X c tc)
  (hm:lastMarks [op,op'] [b,c]=false:=by with_unfolding_all rfl):PE X (.Compare a [op,op'] [b,c] pos) (qea r r' ta tb tc):=by
 intro pins s σ H Q I h
 refine Compare_chain (thn (ha pins s σ H _ I h) fun v s1 ⟨x,H1,I1,r1,q1⟩=>chain_link (thn (hb pins s1 σ H1 _ I1 q1) fun u s2 ⟨y,H2,I2,r2,q2⟩=>
  thn (ho pins s2 σ H2 x y v u _ I2 r1 r2 q2) fun d s3 ⟨z,H3,I3,r3,k,e,q3⟩=>?_)) hm
 subst e
 cases r3
 refine wpAny_truthy_bool ?_
 cases k with
 | false=>exact ite_ff ⟨.bl false,H3,I3,rfl,q3⟩
 | true=>exact ite_tt (chain_last (thn (hc pins s3 σ H3 _ I3 q3) fun w' s4 ⟨z',H4,I4,r4,q4⟩=>ho' pins s4 σ H4 y z' u w' Q I4 r2 r4 q4))
theorem T4:(sizeLine:Nat) < 2 ^ 63:=by rw [sizeLine_eq];decide
theorem WF {x:V} {us:List Value} (r:jk [x] us):∃ u,us=[u]/\j8 x u:=by
 cases r with
 | cons r1 r2=>cases r2;exact ⟨_,rfl,r1⟩
theorem qbA {x y:V} {us:List Value} (r:jk [x,y] us):∃ u w',us=[u,w']/\j8 x u/\j8 y w':=by
 cases r with
 | cons r1 r2=>
  cases r2 with
  | cons r3 r4=>cases r4;exact ⟨_,_,rfl,r1,r3⟩
theorem N2:YH X (.builtin "abs") (fun xs H Q=>∃ i,xs=[.int i]/\Q (.int (if i < 0 then -i else i)) H):=by
 intro pins s σ H xs us Q I r h
 obtain ⟨i,rfl,q⟩:=h
 obtain ⟨u,rfl,t,rfl⟩:=WF r
 exact call_abs_int fun u tk=>⟨.int (if i < 0 then -i else i),H,I.tok _,⟨_,rfl⟩,q⟩
theorem qa6 (hc:X.calm=true):YH X (.builtin "min") (fun xs H Q=>∃ i j,xs=[.int i,.int j]/\Q (.int (if j < i then j else i)) H):=by
 intro pins s σ H xs us Q I r h
 obtain ⟨i,j,rfl,q⟩:=h
 obtain ⟨u,w',rfl,⟨t,rfl⟩,⟨t',rfl⟩⟩:=qbA r
 refine min_two_ints (I.ok.hd hc) fun h' tk k=>⟨_,H,I.kept k,?_,q⟩
 by_cases hj:j < i
 ·rw [if_pos hj,if_pos hj];exact ⟨_,rfl⟩
 ·rw [if_neg hj,if_neg hj];exact ⟨_,rfl⟩
theorem XG:YH X (.type "int") (fun xs H Q=>(∃ i,xs=[.int i]/\Q (.int i) H)\/∃ k,xs=[.bl k]/\Q (.int (if k then 1 else 0)) H):=by
 intro pins s σ H xs us Q I r h
 rcases h with ⟨i,rfl,q⟩ | ⟨k,rfl,q⟩
 ·obtain ⟨u,rfl,t,rfl⟩:=WF r
  exact call_int_int ⟨.int i,H,I,⟨_,rfl⟩,q⟩
 ·obtain ⟨u,rfl,r1⟩:=WF r
  cases r1
  exact call_int_bool ⟨.int (if k then 1 else 0),H,I.tok _,⟨_,rfl⟩,q⟩
def qpR (K:PySem.W.Frag) (x:V) (H:Hp) (n:Nat):Prop:=
 match x with
 | .str y=>y.length<=sizeLine/\n=y.length
 | .byt y=>y.size<=sizeLine/\n=y.size
 | .ref p=>(∃ xs,SqL K H p xs/\n=xs.length)\/∃ xs,SqT K H p xs/\n=xs.length
 | _=>False
theorem zq:YH X (.builtin "len") (fun xs H Q=>∃ x n,xs=[x]/\qpR X.K x H n/\Q (.int n) H):=by
 intro pins s σ H xs us Q I r h
 obtain ⟨x,n,rfl,e,q⟩:=h
 obtain ⟨u,rfl,rx⟩:=WF r
 have hl:=T4
 have hs:sizeLine=16777216:=sizeLine_eq
 cases x with
 | str y=>
  obtain ⟨t,rfl⟩:=rx
  obtain ⟨hy,e'⟩:y.length<=sizeLine/\n=y.length:=e
  subst e'
  exact len_str (by omega) ⟨.int _,H,I.tok _,⟨_,rfl⟩,q⟩
 | byt y=>
  obtain ⟨t,rfl⟩:=rx
  obtain ⟨hy,e'⟩:y.size<=sizeLine/\n=y.size:=e
  subst e'
  exact PySem.W.len_bytes (by omega) ⟨.int _,H,I.tok _,⟨_,rfl⟩,q⟩
 | ref p=>
  cases rx
  have e':(∃ xs,SqL X.K H p xs/\n=xs.length)\/∃ xs,SqT X.K H p xs/\n=xs.length:=e
  rcases e' with ⟨xs,hx,e'⟩ | ⟨xs,hx,e'⟩
  ·subst e'
   obtain ⟨its,r',pl,hz⟩:=I.list hx
   have hlen:=r'.length
   exact Calls.call_len_list pl.isList (by simp only [List.size_toArray];omega) ⟨.int xs.length,H,I.tok _,⟨_,by simp only [List.size_toArray];rw [hlen]⟩,q⟩
  ·subst e'
   obtain ⟨its,r',pl,hz⟩:=I.tuple hx
   have hlen:=r'.length
   exact len_tuple pl (by simp only [List.size_toArray];omega) ⟨.int xs.length,H,I.tok _,⟨_,by simp only [List.size_toArray];rw [hlen]⟩,q⟩
 | _=>exact (show False from e).elim
end
end L2
namespace L2
open PySem PySem.Spec PyProof.Rows
section
variable {prog:Program} {w:World} {A:Around} {E:Value->Shared->Prop} {s:Shared} {K:PySem.W.Frag} {x dx C f:Addr} {mA:Str->Option Value} {name:Str} {v:Value}
end
section
variable {P:Program} {w:World} {H H':Hp} {h h':Heap} {a C dx:Addr} {fs fs':List (Str×V)}
end
section
variable {X:Cx} {pins:List (Addr×Obj)} {σ:St} {H:Hp} {s:Shared} {a C dx:Addr} {fs:List (Str×V)} {f:Str} {v:V} {A:Around} {E:Value->Shared->Prop}
end
section
variable {X:Cx} {o e value:Expr} {f:Str} {pos pos' tpos:Pos} {ta tv:TE}
end
section
variable {X:Cx} {pins:List (Addr×Obj)} {σ:St} {H:Hp} {s:Shared} {A:Around} {E:Value->Shared->Prop} {Q:Value->Shared->Prop} {c:Value} {b:Bool}
end
end L2
namespace L2
open PySem PySem.Spec PyProof.Rows
structure Room (k:Nat) (A:Around):Prop where
 hd:A.handled=none
 dp:A.depth+3 * k+5 < recursionLimit
 un:A.units+16 * k+200 < cLine
 gd:A.guards=some []
theorem Room.mono {j k:Nat} {A:Around} (r:Room k A) (h:j<=k):Room j A:=⟨r.hd,by have:=r.dp;omega,by have:=r.un;omega,r.gd⟩
theorem Room.deeper {k:Nat} {A:Around} (r:Room (k+1) A) (env:Env):Room k (A.deeper env):=
 ⟨r.hd,by have:=r.dp;show A.depth+1+3 * k+5 < _;omega,by have:=r.un;show A.units+3+16 * k+200 < _;omega,r.gd⟩
theorem Room.in1 {k:Nat} {A:Around} (r:Room (k+1) A):Room k A.in1:=
 ⟨r.hd,by have:=r.dp;show A.depth+3 * k+5 < _;omega,by have:=r.un;show A.units+1+16 * k+200 < _;omega,r.gd⟩
theorem Room.depth {k:Nat} {A:Around} (r:Room k A):A.depth < recursionLimit:=by have:=r.dp;omega
theorem Room.units {k:Nat} {A:Around} (r:Room k A):A.units+64 < cLine:=by have:=r.un;omega
def qq6:TA:=fun _ H Q=>Q [] H
def qpj (ta:TE) (tr:TA):TA:=fun σ H Q=>ta σ H fun x H1=>tr σ H1 fun xs H2=>Q (x :: xs) H2
section
variable {X:Cx} {e:Expr} {es:List Expr} {te:TE} {t:TA} {pos:Pos}
theorem RD:PA X [] qq6:=fun _ _ _ _ H Q I h=>Calls.spliced_nil ⟨[],H,I,.nil,h⟩
theorem J3 (ha:PE X e te) (hr:PA X es t) (hs:starEach (e :: es) X.env=(false,eval e X.env) :: starEach es X.env:=by rfl):PA X (e :: es) (qpj te t):=by
 intro pos pins s σ H Q I h
 rw [hs]
 show wpAny _ _ (spliced ((false,eval e X.env) :: backTo pos (starEach es X.env))) _ _ s
 refine Calls.spliced_cons (thn (ha pins s σ H _ I h) fun u s1 ⟨x,H1,I1,r1,q1⟩=>?_)
 exact thn (hr pos pins s1 σ H1 _ I1 q1) fun us s2 ⟨xs,H2,I2,r2,q2⟩=>⟨x :: xs,H2,I2,.cons r1 r2,q2⟩
def qrf (t:TA):TE:=fun σ H Q=>t σ H fun xs H1=>xs.length<=sizeLine/\∀ p,H1 p=none->Q (.ref p) (upd H1 p (.tup xs))
def qqG (t:TA):TE:=fun σ H Q=>t σ H fun xs H1=>xs.length<=sizeLine/\∀ p,H1 p=none->Q (.ref p) (upd H1 p (.lst xs))
theorem qeK {x1} (h:PA X es t):PE X (.Tuple es x1 pos) (qrf t):=by
 intro pins s σ H Q I hq
 refine wpAny_Tuple_spliced (thn (h pos pins s σ H _ I hq) fun us s1 ⟨xs,H1,I1,r,z,q⟩=>⟨by rw [← r.length];exact z,?_⟩)
 have hf:H1 s1.heap.objs.size=none:=I1.hok.fresh (Nat.le_refl _)
 refine ⟨.ref s1.heap.objs.size,upd H1 s1.heap.objs.size (.tup xs),I1.laid (t':=s1.toks) (fun b u e=>Heap.get?_push_of_some _ e) (Nat.le_refl _) ?_,rfl,q _ hf⟩
 exact ⟨z,us,r,⟨_,Heap.get?_push_size _ rfl,rfl,_,rfl⟩⟩
theorem qmB (h:PA X es t):PE X (.List es pos) (qqG t):=by
 intro pins s σ H Q I hq
 refine wpAny_List_spliced (thn (h pos pins s σ H _ I hq) fun us s1 ⟨xs,H1,I1,r,z,q⟩=>⟨by rw [← r.length];exact z,?_⟩)
 have hf:H1 s1.heap.objs.size=none:=I1.hok.fresh (Nat.le_refl _)
 refine ⟨.ref s1.heap.objs.size,upd H1 s1.heap.objs.size (.lst xs),I1.laid (t':=s1.toks) (fun b u e=>Heap.get?_push_of_some _ e) (Nat.le_refl _) ?_,rfl,q _ hf⟩
 exact ⟨z,us,0,r,Heap.get?_push_size _ rfl⟩
end
abbrev Sp:=List V->Hp->VK->XK->Prop
abbrev CXT:=List Env->Hp->Shared->XK->Value->Shared->Prop
structure Env0 (P:Program) (w:World) (K:PySem.W.Frag) (mg:Str->Option Value) (base:Heap) (A:Around) (outer:List Env) (s:Shared) (H:Hp):Prop where
 frames:A.frames=some outer
 mod:Mod K mg base
 bs:∀ b o,base.get? b=some o->s.heap.get? b=some o/\H b=none
 bsz:base.objs.size<=s.heap.objs.size
 funs:s.heap.FunFrames base outer
 frf:∀ b∈frs outer,H b=none
 hok:HOk P w H s.heap
 bare:AllBare s.gens
def CE (outer:List Env) (P:Program) (w:World) (H:Hp) (s:Shared) (Q:VK) (u:Value) (s':Shared):Prop:=
 ∃ v H',s'.os=s.os/\AllBare s'.gens/\Un (frs outer) [] H H' s.heap s'.heap/\HOk P w H' s'.heap/\j8 v u/\Q v H'
def CR (CX:CXT) (outer:List Env) (P:Program) (w:World) (H:Hp) (s:Shared) (Q:VK) (E:XK) (r:Result) (s':Shared):Prop:=
 match r with
 | .ok (.ret u)=>CE outer P w H s Q u s'
 | .ok _=>False
 | .error e=>CX outer H s E e s'
structure FnOk (P:Program) (w:World) (K:PySem.W.Frag) (mg:Str->Option Value) (base:Heap) (CX:CXT) (k:Nat) (f:Addr) (fd:FuncData) (ps:List Str) (sp:Sp):Prop where
 len:∀ vs H Q E,sp vs H Q E->vs.length=ps.length
 run:∀ (A:Around) (outer:List Env) (s:Shared) (H:Hp) (args:Args) (us:List Value) (vs:List V) (Q:VK) (E:XK),Room k A->Env0 P w K mg base A outer s H->BindsTo s fd args (ps.zip us)->jk vs us->sp vs H Q E ->
  codeAny (model P w) A (.call (.ref f) args) (CR CX outer P w H s Q E) s
theorem FnOk.mono {P:Program} {w:World} {K:PySem.W.Frag} {mg:Str->Option Value} {base:Heap} {CX:CXT} {j k:Nat} {f:Addr} {fd:FuncData} {ps:List Str} {sp:Sp} (F:FnOk P w K mg base CX j f fd ps sp) (h:j<=k) :
  FnOk P w K mg base CX k f fd ps sp:=⟨F.len,fun A outer s H args us vs Q E hr=>F.run A outer s H args us vs Q E (hr.mono h)⟩
theorem FnOk.imp {P:Program} {w:World} {K:PySem.W.Frag} {mg:Str->Option Value} {base:Heap} {CX:CXT} {k:Nat} {f:Addr} {fd:FuncData} {ps:List Str} {sp sp':Sp} (F:FnOk P w K mg base CX k f fd ps sp)
  (h:∀ vs H Q E,sp' vs H Q E->sp vs H Q E):FnOk P w K mg base CX k f fd ps sp':=
 ⟨fun vs H Q E q=>F.len vs H Q E (h _ _ _ _ q),fun A outer s H args us vs Q E hr he hb hv hs=>F.run A outer s H args us vs Q E hr he hb hv (h _ _ _ _ hs)⟩
theorem Env0.in1 {P:Program} {w:World} {K:PySem.W.Frag} {mg:Str->Option Value} {base:Heap} {A:Around} {outer:List Env} {s:Shared} {H:Hp} (e:Env0 P w K mg base A outer s H) :
  Env0 P w K mg base A.in1 outer s H:=⟨e.frames,e.mod,e.bs,e.bsz,e.funs,e.frf,e.hok,e.bare⟩
section
variable {X:Cx} {pins:List (Addr×Obj)} {σ:St} {H:Hp} {s s':Shared}
theorem Inv.env0 (I:Inv X pins σ H s):Env0 X.prog X.w X.K X.mg X.base X.A X.stack s H:=
 ⟨I.ok.frames,I.ok.mod,I.bs,Nat.le_trans I.ok.bsz I.sz,I.stack,I.stkFree,I.hok,I.bare⟩
theorem Inv.after {Q:VK} {u:Value} (I:Inv X pins σ H s) (h:CE X.stack X.prog X.w H s Q u s'):EP X pins σ Q u s':=by
 obtain ⟨v,H',os,bare,un,hok,r,q⟩:=h
 obtain ⟨hh,g,d,t,os'⟩:=s'
 obtain rfl:os'=s.os:=os
 exact ⟨v,H',I.call (h':=hh) (g':=g) (d':=d) (t':=t) (ch:=[]) un hok bare (fun b z=>absurd z (by simp)),r,q⟩
end
def qo9 (sp:Sp) (dvs:List V) (E:XK) (t:TA):TE:=fun σ H Q=>t σ H fun vs H1=>sp (vs++dvs) H1 Q E
def zn (K:PySem.W.Frag) (fd:FuncData) (ps:List Str) (ds:List Value):Prop:=
 ∀ (s:Shared) (us:List Value),K.In s.heap->(us++ds).length=ps.length->BindsTo s fd ⟨us,[]⟩ (ps.zip (us++ds))
theorem zn.all {K:PySem.W.Frag} {fd:FuncData} {ps:List Str} (h:∀ us:List Value,us.length=ps.length->bindArgs fd ⟨us,[]⟩=pure (ps.zip us)):zn K fd ps []:=fun s us _ hl=>by
 rw [List.append_nil] at hl ⊢
 exact .of_eq (h us hl)
def qcP (CX:CXT) (X:Cx) (E:XK):Prop:=∀ (pins:List (Addr×Obj)) (σ:St) (H:Hp) (s:Shared) (e:Value) (s':Shared),Inv X pins σ H s->CX X.stack H s E e s'->X.xe e s'
section
variable {X:Cx} {CX:CXT} {k:Nat} {f C:Addr} {fd:FuncData} {ps:List Str} {sp:Sp} {dvs:List V} {ds:List Value} {E:XK} {x m:Str} {p pos apos:Pos} {e o:Expr} {es:List Expr} {ta:TE} {t:TA}
theorem qjQ {pins:List (Addr×Obj)} {σ:St} {H:Hp} {s:Shared} {Q:VK} {us:List Value} {vs:List V} (F:FnOk X.prog X.w X.K X.mg X.base CX k f fd ps sp) (hr:Room k X.A) (hb:zn X.K fd ps ds) (hd:jk dvs ds) (hx:qcP CX X E)
  (I:Inv X pins σ H s) (r:jk vs us) (h:sp (vs++dvs) H Q E):wpAny (model X.prog X.w) X.A (call (.ref f) us) (EP X pins σ Q) X.xe s:=by
 have r2:jk (vs++dvs) (us++ds):=r.append hd
 have hl:(us++ds).length=ps.length:=by rw [← r2.length];exact F.len _ _ _ _ h
 refine wpAny_call (codeAny_mono (F.run X.A X.stack s H ⟨us,[]⟩ (us++ds) (vs++dvs) Q E hr I.env0 (hb s us I.kIn hl) r2 h) fun r s' hq=>?_)
 cases r with
 | error e=>exact hx pins σ H s e s' I hq
 | ok fl=>
  cases fl with
  | ret u=>exact I.after hq
  | next=>exact False.elim hq
  | brk=>exact False.elim hq
  | cont=>exact False.elim hq
theorem qho (F:FnOk X.prog X.w X.K X.mg X.base CX k f fd ps sp) (hr:Room k X.A) (hg:Gl X x) (hm:X.mg x=some (.ref f)) (hk:PySem.W.keepIn X.K (.ref f)=true) (hb:zn X.K fd ps ds) (hd:jk dvs ds) (hx:qcP CX X E)
  (ha:PA X (e :: es) t) (hdb:(x == ("__debug__" : Str))=false:=by decide) (he:starEach (e :: es) X.env=(false,eval e X.env) :: starEach es X.env:=by rfl) (hpl:(backTo pos (starEach es X.env)).any (·.1)=false:=by rfl) :
  PE X (.Call (.Name x p) (e :: es) [] pos) (qo9 sp dvs E t):=by
 intro pins s σ H Q I h
 refine wpAny_Call_Name_kw (qbd I hg hm ?_ hdb)
 refine PySem.W.callWith_K (h₀:=X.base) I.ok.mod.kin hk (thn (ha pos pins s σ H _ I h) fun us s1 ⟨vs,H1,I1,r,q⟩=>⟨I1.kIn,?_⟩) he hpl
 exact qjQ F hr hb hd hx I1 r q
end
section
variable {X:Cx} {CX:CXT} {k:Nat} {f C:Addr} {fd:FuncData} {ps ks:List Str} {sp:Sp} {E:XK} {x m:Str} {p pos apos kpos:Pos} {e o:Expr} {es:List Expr} {kws:List Keyword} {te ta:TE} {t tk:TA} {nm:Option Str}
variable {g:List Value->List Value->List Value} {gV:List V->List V->List V}
end
structure FnScope (N P:List Str) (sc:Scope):Prop where
 kind:sc.kind=.function
 co:sc.isCoroutine=false
 gen:sc.isGenerator=false
 nd:N.Nodup
 pre:N.take P.length=P
 par:∀ x∈P,sc.names.lookup x=some .local\/sc.names.lookup x=some .cell
 nofree:∀ y∈sc.names,y.2≠.free
theorem K9 {kindOf:Str->Option NameKind} {x:Str}:∀ {binds:List (Str×Value)} {m:Str->Option Value},(∀ v,(x,v) ∉ binds)->bindL kindOf binds m x=m x
 | [],_,_=>rfl
 | (n,v) :: r,m,h=>by
  unfold bindL
  rw [K9 fun w hw=>h w (List.mem_cons_of_mem _ hw)]
  split
  ·have:x≠n:=by rintro rfl;exact h v List.mem_cons_self
   simp [this]
  ·rfl
theorem K6 {kindOf:Str->Option NameKind} {x:Str}:∀ {binds:List (Str×Value)} {m:Str->Option Value},(∀ v,(x,v) ∉ binds)->bindC kindOf binds m x=m x
 | [],_,_=>rfl
 | (n,v) :: r,m,h=>by
  unfold bindC
  rw [K6 fun w hw=>h w (List.mem_cons_of_mem _ hw)]
  split
  ·rfl
  ·have:x≠n:=by rintro rfl;exact h v List.mem_cons_self
   simp [this]
theorem KJ {kindOf:Str->Option NameKind} {x:Str} {v:Value}:∀ {P:List Str} {vs:List Value} {i:Nat} {m:Str->Option Value},P.Nodup->P[i]?=some x->vs[i]?=some v->kindOf x=some .local ->
  bindL kindOf (P.zip vs) m x=some v
 | [],_,_,_,_,h,_,_=>by simp at h
 | _ :: _,[],_,_,_,_,h,_=>by simp at h
 | p :: P,w :: vs,0,m,nd,h1,h2,hk=>by
  simp at h1 h2;subst h1;subst h2
  show bindL kindOf ((p,w) :: P.zip vs) m p=_
  unfold bindL
  rw [K9 fun v hv=>(List.nodup_cons.mp nd).1 (List.of_mem_zip hv).1,if_pos hk]
  simp
 | p :: P,w :: vs,i+1,m,nd,h1,h2,hk=>by
  show bindL kindOf ((p,w) :: P.zip vs) m x=_
  unfold bindL
  exact KJ (i:=i) (List.nodup_cons.mp nd).2 (by simpa using h1) (by simpa using h2) hk
theorem KH {kindOf:Str->Option NameKind} {x:Str} {v:Value}:∀ {P:List Str} {vs:List Value} {i:Nat} {m:Str->Option Value},P.Nodup->P[i]?=some x->vs[i]?=some v->kindOf x≠some .local ->
  bindC kindOf (P.zip vs) m x=some v
 | [],_,_,_,_,h,_,_=>by simp at h
 | _ :: _,[],_,_,_,_,h,_=>by simp at h
 | p :: P,w :: vs,0,m,nd,h1,h2,hk=>by
  simp at h1 h2;subst h1;subst h2
  show bindC kindOf ((p,w) :: P.zip vs) m p=_
  unfold bindC
  rw [K6 fun v hv=>(List.nodup_cons.mp nd).1 (List.of_mem_zip hv).1,if_neg hk]
  simp
 | p :: P,w :: vs,i+1,m,nd,h1,h2,hk=>by
  show bindC kindOf ((p,w) :: P.zip vs) m x=_
  unfold bindC
  exact KH (i:=i) (List.nodup_cons.mp nd).2 (by simpa using h1) (by simpa using h2) hk
def WZ (N:List Str) (vs:List V):St:=vs.map some++List.replicate (N.length - vs.length) none
def qcX (CX:CXT) (P:Program) (w:World) (K:PySem.W.Frag) (mg:Str->Option Value) (base:Heap) (N:List Str) (qual:Str) (scope:Scope) (f:Addr) (cd:Value) (A:Around) (outer:List Env) (s:Shared) (H:Hp) (E:XK):Cx where
 prog:=P
 w:=w
 K:=K
 mg:=mg
 base:=base
 A:=A.deeper (envOfC qual scope s.heap.objs.size f cd)
 N:=N
 s₀:=s
 H₀:=H
 env:=envOfC qual scope s.heap.objs.size f cd
 outer:=outer
 stack:=envOfC qual scope s.heap.objs.size f cd :: outer
 ex:=[]
 calm:=true
 fn:=fun _=>true
 pn:=[]
 xe:=fun e s'=>wpAny (model P w) (A.deeper (envOfC qual scope s.heap.objs.size f cd)) (leaving (envOfC qual scope s.heap.objs.size f cd) e) (fun _ s''=>CX outer H s E e s'') (fun e' s''=>CX outer H s E e' s'') s'
theorem NJ {sc:Scope} {n:Nat} {x:Str} (h:sc.names.lookup x=some .cell):∃ c,(cellsFrom n sc.names []).lookup x=some c:=by
 have q:=PySem.W.cellsFrom_some sc.names n [] (.inl h)
 exact Option.isSome_iff_exists.mp q
theorem qbV {CX:CXT} {P:Program} {w:World} {K:PySem.W.Frag} {mg:Str->Option Value} {base:Heap} {N ps:List Str} {qual:Str} {scope:Scope} {f:Addr} {cd:Value} {A:Around} {outer:List Env} {s s1:Shared} {H:Hp} {E:XK} {us:List Value} {vs:List V}
  (S:FnScope N ps scope) (hd:A.handled=none) (e0:Env0 P w K mg base A outer s H) (hl:vs.length=ps.length) (r:jk vs us)
  (x:InCallC s s.heap.objs.size (bindL (envOfC qual scope s.heap.objs.size f cd).kindOf (ps.zip us) fun _=>none) (cellsFrom (s.heap.objs.size+1) scope.names []) (bindC (envOfC qual scope s.heap.objs.size f cd).kindOf (ps.zip us) fun _=>none) s1) :
  Inv (qcX CX P w K mg base N qual scope f cd A outer s H E) [] (WZ N vs) H s1:=by
 have hpl:ps.length<=N.length:=by have:=congrArg List.length S.pre;rw [List.length_take] at this;omega
 obtain ⟨h1,tk,rfl,hk⟩:=x.done
 have noA:∀ b:Addr,b ∉ (qcX CX P w K mg base N qual scope f cd A outer s H E).ex:=fun b z=>absurd (show b∈([]:List Addr) from z) (by simp)
 refine ⟨⟨e0.mod,S.kind,rfl,rfl,Nat.le_refl _,fun y z c h1 h2=>?_,fun y hy=>?_,fun y c _ h=>?_,fun _=>hd,Around.frames_deeper e0.frames,.inr ⟨rfl,rfl⟩,fun b z=>absurd z (noA b),e0.bs,e0.bsz,fun b _ _=>noA b,fun b z=>absurd z (noA b),e0.funs,e0.frf⟩,
  rfl,e0.bare,Un.kept hk,⟨_,x.toInCall.ns,fun i y v h1 h2 h3=>?_⟩,fun y c h=>⟨_,x.cell y c h⟩,e0.hok.fresh (Nat.le_refl _),fun y c h=>?_,fun p hp=>absurd (show p∈([]:List (Addr×Obj)) from hp) (by simp),e0.hok.kept hk,?_⟩
 ·exact name_of_addr x.apart (PySem.mem_of_lookup h1) (PySem.mem_of_lookup h2)
 ·have hy:scope.names.lookup y=some .cell\/scope.names.lookup y=some .free:=hy
  rcases hy with hy | hy
  ·exact NJ hy
  ·exact absurd rfl (S.nofree _ (PySem.mem_of_lookup hy))
 ·exact Nat.le_of_lt (x.above y c (PySem.mem_of_lookup h))
 ·have hi:i < vs.length:=by
   unfold WZ at h2
   by_cases hi:i < vs.length
   ·exact hi
   ·rw [List.getElem?_append_right (by simpa using hi)] at h2
    rw [List.getElem?_replicate] at h2
    split at h2 <;> cases h2
  have ha:vs[i]?=some v:=by
   unfold WZ at h2
   rw [List.getElem?_append_left (by simpa using hi),List.getElem?_map] at h2
   cases e:vs[i]? with
   | none=>rw [e] at h2;cases h2
   | some a=>rw [e] at h2;cases h2;rfl
  obtain ⟨u,hu,rv⟩:=r.get ha
  have hp:ps[i]?=some y:=by
   rw [← S.pre,List.getElem?_take_of_lt (by omega)];exact h1
  have ndP:ps.Nodup:=by rw [← S.pre];exact S.nd.sublist (List.take_sublist _ _)
  refine ⟨u,rv,?_⟩
  rcases S.par y (List.mem_of_getElem? hp) with k | k
  ·exact .inl ⟨k,KJ ndP hp hu k⟩
  ·obtain ⟨c,e⟩:=NJ (n:=s.heap.objs.size+1) k
   refine .inr ⟨.inl k,c,e,?_⟩
   have q:=x.cell y c e
   rw [KH ndP hp hu (by show scope.names.lookup y≠_;rw [k];decide)] at q
   exact q
 ·exact e0.hok.fresh (Nat.le_of_lt (x.above y c (PySem.mem_of_lookup h)))
 ·unfold WZ
  show _=N.length
  rw [List.length_append,List.length_map,List.length_replicate]
  omega
theorem qoE {CX:CXT} {P:Program} {w:World} {K:PySem.W.Frag} {mg:Str->Option Value} {base:Heap} {k:Nat} {f:Addr} {name qual:Str} {params:Arguments} {body:List Stmt} {scope:Scope} {dV kV doc pm cdv ct oc:Value} {an od:Option Addr}
  {osl:Array (Option Value)} {N ps:List Str} {sp:Sp} (lk:K.lookup f=some ⟨oc,od,.func (PySem.W.fnOf name qual params body scope dV kV doc pm an cdv ct),osl⟩) (hcd:PySem.W.codeIn K cdv qual=true) (S:FnScope N ps scope)
  (len:∀ vs H Q E,sp vs H Q E->vs.length=ps.length)
  (hbody:∀ (A:Around) (outer:List Env) (s:Shared) (H:Hp) (vs:List V) (Q:VK) (E:XK),Room k (A.deeper (envOfC qual scope s.heap.objs.size f cdv))->sp vs H Q E ->
   ∃ t,PSs (qcX CX P w K mg base N qual scope f cdv A outer s H E) body t/\t { nx:=fun _ H'=>Q .non H',rt:=Q } (WZ N vs) H) :
  FnOk P w K mg base CX (k+1) f (PySem.W.fnOf name qual params body scope dV kV doc pm an cdv ct) ps sp:=by
 refine ⟨len,fun A outer s H args us vs Q E hr e0 hb r hsp=>?_⟩
 have hl:=len _ _ _ _ hsp
 have KX:K.In s.heap:=e0.mod.kin.keeps fun b o e=>(e0.bs b o e).1
 have lim:s.heap.NoLimit:=e0.mod.nolimit.keeps fun b o e=>(e0.bs b o e).1
 have hkind:∀ y∈ps.zip us,scope.names.lookup y.1=some .local\/(scope.names.lookup y.1=some .cell/\((cellsFrom (s.heap.objs.size+1) scope.names []).lookup y.1).isSome=true):=fun ⟨n,v⟩ hy=>by
  rcases S.par n (List.of_mem_zip hy).1 with q | q
  ·exact .inl q
  ·exact .inr ⟨q,PySem.W.cellsFrom_some _ _ _ (.inl q)⟩
 refine codeAny_call_function hr.depth (KX _ _ lk) rfl S.co S.gen rfl (PySem.W.codeRec_of KX hcd) (hb _ _ _ _ ?_)
 refine wpAny_newFunctionEnv_cells S.kind hkind fun env he s1 x=>?_
 subst he
 refine ⟨lim.keeps x.toInCall.keep,codeAny_func ?_⟩
 obtain ⟨t,ht,hq⟩:=hbody A outer s H vs Q E (hr.deeper _) hsp
 have I:Inv (qcX CX P w K mg base N qual scope f cdv A outer s H E) [] (WZ N vs) H s1:=qbV S hr.hd e0 hl r x
 refine wpAny_mono (ht [] s1 (WZ N vs) H _ I hq) (fun fl s' hs=>?_) fun e s' hs=>hs
 have fin:∀ {σ':St} {H':Hp} {v:V} {u:Value},Inv (qcX CX P w K mg base N qual scope f cdv A outer s H E) [] σ' H' s'->j8 v u->Q v H'->CE outer P w H s Q u s':=
  fun {σ' H' v u} J rv q=>⟨v,H',J.os,J.bare,J.base,J.hok,rv,q⟩
 cases fl with
 | ret u=>
  obtain ⟨v,σ',H',J,rv,q⟩:=hs
  exact fin J rv q
 | next=>
  obtain ⟨σ',H',J,q⟩:=hs
  exact fin (v:=V.non) (u:=Value.none) J rfl q
 | brk=>
  obtain ⟨_,_,_,q⟩:=hs
  exact False.elim q
 | cont=>
  obtain ⟨_,_,_,q⟩:=hs
  exact False.elim q
end L2
namespace L2
open PySem PySem.Spec PyProof.Rows
section
variable {X:Cx} {x:Str} {p pos:Pos} {e:Expr} {es:List Expr} {t:TA} {id T:String} {r:List V->Hp->VK->Prop}
def tCB (r:List V->Hp->VK->Prop) (t:TA):TE:=fun σ H Q=>t σ H fun vs H1=>r vs H1 Q
theorem WU (hc:YH X (.builtin id) r) (hg:Gl X x) (hm:X.mg x=none) (hv:bootBuiltins x=some (.builtin id)) (ha:PA X (e :: es) t) (hn:x≠"__name__" := by decide) (hdb:(x == ("__debug__" : Str))=false:=by decide)
  (he:starEach (e :: es) X.env=(false,eval e X.env) :: starEach es X.env:=by rfl) (hpl:(backTo pos (starEach es X.env)).any (·.1)=false:=by rfl):PE X (.Call (.Name x p) (e :: es) [] pos) (tCB r t):=by
 intro pins s σ H Q I h
 refine wpAny_Call_Name_kw (XO I hg hm hv ?_ hn hdb)
 exact PyProof.Rows.callWith_builtin1 (thn (ha pos pins s σ H _ I h) fun us s1 ⟨vs,H1,I1,r1,q1⟩=>hc pins s1 σ H1 vs us Q I1 r1 q1) he hpl
theorem KF (hc:YH X (.type T) r) (hg:Gl X x) (hm:X.mg x=none) (hv:bootBuiltins x=some (.type T)) (ha:PA X (e :: es) t) (hn:x≠"__name__" := by decide) (hdb:(x == ("__debug__" : Str))=false:=by decide)
  (he:starEach (e :: es) X.env=(false,eval e X.env) :: starEach es X.env:=by rfl) (hpl:(backTo pos (starEach es X.env)).any (·.1)=false:=by rfl):PE X (.Call (.Name x p) (e :: es) [] pos) (tCB r t):=by
 intro pins s σ H Q I h
 refine wpAny_Call_Name_kw (XO I hg hm hv ?_ hn hdb)
 exact PyProof.Rows.callWith_type1 (thn (ha pos pins s σ H _ I h) fun us s1 ⟨vs,H1,I1,r1,q1⟩=>hc pins s1 σ H1 vs us Q I1 r1 q1) he hpl
end
end L2
namespace HT
open PySem PyProof.Rows
section
open PySem.SeqAt
open PySem.MeetsSeq PySem.MeetsSeq2 PySem.MeetsSeq3
end
section
variable {prog:Program} {w:World} {A:Around} {E:Value->Shared->Prop} {s:Shared}
theorem qij {t b:Addr} {vs ws:List Value} {Q:Value->Shared->Prop} (ht:IsTup s.heap t vs.toArray) (hb:IsTup s.heap b ws.toArray) (hv:vs≠[])
  (h1:ws=[]->Q (.ref t) s) (h2:ws≠[]->Q (.ref s.heap.objs.size) { s with heap:=s.heap.push { cls:=.type "tuple",data:=.seq (vs++ws).toArray } })
  (hsz:vs.length+ws.length<=sizeLine):wpAny (model prog w) A (binaryOp .Add (.ref t) (.ref b)) Q E s:=by
 obtain ⟨⟨cls,dd,data,sl⟩,ho,hc,n,hd⟩:=id ht
 obtain ⟨⟨cls2,dd2,data2,sl2⟩,ho2,hc2,n2,hd2⟩:=id hb
 simp only at hc hd hc2 hd2
 subst hc hd hc2 hd2
 have e:vs.toArray++ws.toArray=(vs++ws).toArray:=by simp
 by_cases hw:ws=[]
 ·exact concat_meets ⟨_,ho,rfl⟩ ⟨_,ho2,rfl⟩ noFill_tuple_add seq_tuple_add PySem.F.slot_tuple_add PySem.F.entry_tuple_add (PySem.F.args_tuple_add_2 _ _)
   (tuple_addW1 t b vs.toArray ws.toArray n n2 dd dd2 sl sl2 (by simpa using hv) (by simp [hw])) ⟨ho,ho2,h1 hw⟩
 ·refine concat_meets ⟨_,ho,rfl⟩ ⟨_,ho2,rfl⟩ noFill_tuple_add seq_tuple_add PySem.F.slot_tuple_add PySem.F.entry_tuple_add (PySem.F.args_tuple_add_2 _ _)
   (tuple_addW2 t b vs.toArray ws.toArray n n2 dd dd2 sl sl2 (by simpa using hv) (by simpa using hw) (by rw [List.size_toArray,List.size_toArray];exact hsz)) ⟨ho,ho2,?_⟩
  rw [e]
  exact h2 hw
def sIx (n d:Nat):Option Int->Nat
 | none=>d
 | some v=>if v < 0 then (v+(n:Int)).toNat else min v.toNat n
theorem qdw (n d:Nat):sIx n d none=d:=rfl
theorem qin (n d k:Nat):sIx n d (some (k:Int))=min k n:=by
 show (if (k:Int) < 0 then ((k:Int)+(n:Int)).toNat else min (k:Int).toNat n)=min k n
 rw [if_neg (by omega),Int.toNat_natCast]
theorem qnc (n d:Nat) (hd:d<=n) (o:Option Int):sIx n d o<=n:=by
 cases o with
 | none=>exact hd
 | some v=>
  show (if v < 0 then (v+(n:Int)).toNat else min v.toNat n)<=n
  by_cases hv:v < 0
  ·rw [if_pos hv];omega
  ·rw [if_neg hv];exact Nat.min_le_right _ _
theorem qcE (v:Int) (n d:Nat):(if v < 0 then max (v+(n:Int)) 0 else min v (n:Int))=((sIx n d (some v):Nat):Int):=by
 show (if v < 0 then max (v+(n:Int)) 0 else min v (n:Int))=(((if v < 0 then (v+(n:Int)).toNat else min v.toNat n):Nat):Int)
 by_cases hv:v < 0
 ·simp only [if_pos hv];omega
 ·simp only [if_neg hv];omega
theorem qap (lo hi:Option Int) (n:Nat):Builtin.Slice.sliceAdjust lo hi 1 (n:Int)=(((sIx n 0 lo:Nat):Int),((sIx n n hi:Nat):Int)):=by
 have h1:¬ ((1:Int) < 0):=by omega
 unfold Builtin.Slice.sliceAdjust
 simp only [h1,if_false]
 refine Prod.ext ?_ ?_
 ·cases lo with
  | none=>rfl
  | some v=>exact qcE v n 0
 ·cases hi with
  | none=>rfl
  | some v=>exact qcE v n n
theorem qau (i j:Nat):Builtin.Slice.slicePlaces (i:Int) (j:Int) 1=j - i:=by
 unfold Builtin.Slice.slicePlaces
 have h1:(1:Int) > 0:=by omega
 simp only [h1,if_true,Int.ediv_one]
 split <;> omega
theorem RQ {v:Value} {o:Option Int} {Q:Option Int->Shared->Prop} (p:IsPart v o) (h:Q o s):wpAny (model prog w) A (Builtin.Slice.slicePartIndex v) Q E s:=by
 cases p with
 | none=>exact slicePart_none h
 | int i t=>exact slicePart_int h
theorem WE {sl:Addr} {vl vu:Value} {lo hi:Option Int} {n:Nat} {Q:Int×Int×Nat->Shared->Prop} (hs:s.heap.IsSliceOf sl vl vu .none) (pl:IsPart vl lo) (pu:IsPart vu hi)
  (h:Q (((sIx n 0 lo:Nat):Int),1,sIx n n hi - sIx n 0 lo) s):wpAny (model prog w) A (Builtin.Slice.sliceApplied (.ref sl) (pure (n:Int))) Q E s:=by
 obtain ⟨os,hos,hcs,hds⟩:=id hs
 unfold Builtin.Slice.sliceApplied Builtin.Slice.sliceFields
 refine wpAny_bind (wpAny_bind (wpAny_field hos hds (x:=vl) rfl (wpAny_bind (wpAny_field hos hds (x:=vu) rfl (wpAny_bind (wpAny_field hos hds (x:=.none) rfl (wpAny_pure ?_)))))))
 refine wpAny_bind (slicePart_none ?_)
 show wpAny _ _ (if ((1:Int) == 0)=true then _ else _) _ _ s
 rw [if_neg (by decide)]
 refine wpAny_bind (RQ pl (wpAny_bind (RQ pu (wpAny_bind (wpAny_pure ?_)))))
 show wpAny _ _ (match Builtin.Slice.sliceAdjust lo hi 1 (n:Int) with | (lo,hi)=>pure (lo,(1:Int),Builtin.Slice.slicePlaces lo hi 1)) _ _ s
 rw [qap lo hi n]
 show wpAny _ _ (pure (((sIx n 0 lo:Nat):Int),(1:Int),Builtin.Slice.slicePlaces ((sIx n 0 lo:Nat):Int) ((sIx n n hi:Nat):Int) 1)) _ _ s
 rw [qau]
 exact wpAny_pure h
theorem qc6 (xs:Array Value) (i k:Nat):((List.range k).filterMap fun (m:Nat)=>xs[((i:Int)+(m:Int) * 1).toNat]?).toArray=((xs.toList.drop i).take k).toArray:=by
 have e:(fun (m:Nat)=>xs[((i:Int)+(m:Int) * 1).toNat]?)=fun m=>xs[i+m]?:=by
  funext m
  have:((i:Int)+(m:Int) * 1).toNat=i+m:=by omega
  rw [this]
 rw [e]
 have:=pick_run xs i k
 rw [List.filterMap_map] at this
 have e2:((fun x=>xs[x]?) ∘ fun x=>i+x)=fun m=>xs[i+m]?:=rfl
 rw [e2] at this
 rw [this]
theorem E6 {t sl:Addr} {items:Array Value} {vl vu:Value} {lo hi:Option Int} {Q:Value->Shared->Prop} (ht:IsTup s.heap t items) (hs:s.heap.IsSliceOf sl vl vu .none) (pl:IsPart vl lo) (pu:IsPart vu hi)
  (hw:¬ (sIx items.size 0 lo=0/\sIx items.size items.size hi=items.size))
  (h:Q (.ref s.heap.objs.size) { s with heap:=s.heap.push { cls:=.type "tuple",data:=.seq ((items.toList.drop (sIx items.size 0 lo)).take (sIx items.size items.size hi - sIx items.size 0 lo)).toArray } })
  (hsz:items.size<=sizeLine):wpAny (model prog w) A (getItem (.ref t) (.ref sl)) Q E s:=by
 have htake:sizeOk (.seq ((items.toList.drop (sIx items.size 0 lo)).take (sIx items.size items.size hi - sIx items.size 0 lo)).toArray):=by
  show ((items.toList.drop (sIx items.size 0 lo)).take (sIx items.size items.size hi - sIx items.size 0 lo)).toArray.size<=sizeLine
  rw [List.size_toArray,List.length_take,List.length_drop,Array.length_toList]
  omega
 have hj:sIx items.size items.size hi<=items.size:=qnc _ _ (Nat.le_refl _) hi
 obtain ⟨os,hos,hcs,hds⟩:=id hs
 have hTs:s.TypeIs (.ref sl) "slice" := ⟨os,hos,hcs⟩
 unfold getItem
 try with_reducible refine wpAny_holding ?_
 first | refine wpAny_bind (wpAny_pure ?_) | skip
 refine wpAny_bind (wpAny_sequenceKey ht.typeIs (by decide) ?_)
 refine wpAny_bind (wpAny_callSpecial?_slot (name:=Str.ofString "__getitem__") ht.typeIs PyProof.Rows.slot_tuple_getitem
  (wpAny_call_entry PyProof.Rows.slot_tuple_getitem ht.typeIs entry_tuple_getitem ?_ (args_tuple_getitem _ _)))
 show wpAny _ _ (Builtin.Tuple.tupleItemsOf (.ref t) >>= _) _ _ s
 refine wpAny_bind (tupleItemsOf_ ht ?_)
 refine wpAny_bind (wpAny_typeOf hTs ?_)
 rw [if_pos (by decide)]
 refine wpAny_bind (WE hs pl pu ?_)
 have hno:¬ ((((sIx items.size 0 lo:Nat):Int) == 0 && (1:Int) == 1 && (sIx items.size items.size hi - sIx items.size 0 lo) == items.size)=true):=by
  intro q
  rw [Bool.and_eq_true,Bool.and_eq_true] at q
  have q1:((sIx items.size 0 lo:Nat):Int)=0:=eq_of_beq q.1.1
  have q2:sIx items.size items.size hi - sIx items.size 0 lo=items.size:=eq_of_beq q.2
  exact hw ⟨by omega,by omega⟩
 show wpAny _ _ (if (((sIx items.size 0 lo:Nat):Int) == 0 && (1:Int) == 1 && (sIx items.size items.size hi - sIx items.size 0 lo) == items.size)=true then _ else _) _ _ s
 rw [if_neg hno,qc6]
 first
  | exact wpAny_bind (m:=Builtin.Tuple.tupleExact _) (wpAny_newObj_type (wpAny_pure ⟨_,rfl,wpAny_pure h⟩) htake)
  | exact wpAny_bind (m:=Builtin.Tuple.tupleExact _) (wpAny_newObj_type (wpAny_bind (wpAny_pure (wpAny_pure ⟨_,rfl,wpAny_pure h⟩))) htake)
  | exact wpAny_bind (wpAny_bind (m:=Builtin.Tuple.tupleExact _) (wpAny_newObj_type (wpAny_pure (wpAny_pure ⟨_,rfl,wpAny_pure h⟩)) htake))
  | exact wpAny_bind (wpAny_bind (m:=Builtin.Tuple.tupleExact _) (wpAny_newObj_type (wpAny_pure ⟨_,rfl,wpAny_pure h⟩) htake))
end
end HT
namespace L2
open PySem PySem.Spec PyProof.Rows
abbrev TO:=St->Hp->(Option Int->Hp->Prop)->Prop
def PO (X:Cx) (e:Option Expr) (t:TO):Prop:=
 ∀ (pins:List (Addr×Obj)) (s:Shared) (σ:St) (H:Hp) (Q:Option Int->Hp->Prop),Inv X pins σ H s->t σ H Q ->
  wpAny (model X.prog X.w) X.A (evalPart e X.env) (fun u s'=>∃ o H',Inv X pins σ H' s'/\IsPart u o/\Q o H') X.xe s
def qim:TO:=fun _ H Q=>Q none H
def qoB (t:TE):TO:=fun σ H Q=>t σ H fun x H1=>∃ i,x=.int i/\Q (some i) H1
section
variable {X:Cx} {e:Expr} {te:TE} {lo hi:Option Expr} {tl th:TO} {pos p2:Pos}
theorem qhR:PO X none qim:=by
 intro pins s σ H Q I h
 rw [evalPart_none]
 exact wpAny_pure ⟨none,H,I,.none,h⟩
theorem qhV (h:PE X e te):PO X (some e) (qoB te):=by
 intro pins s σ H Q I hw
 rw [evalPart_some]
 refine thn (h pins s σ H _ I hw) fun u s1 ⟨x,H1,I1,r1,q1⟩=>?_
 obtain ⟨i,rfl,q⟩:=q1
 obtain ⟨t,rfl⟩:=r1
 exact ⟨some i,H1,I1,.int i t,q⟩
def SlR (X:Cx) (r:V->Option Int->Option Int->Hp->VK->Prop):Prop:=
 ∀ (pins:List (Addr×Obj)) (s:Shared) (σ:St) (H:Hp) (x:V) (v vl vu:Value) (lo hi:Option Int) (sl:Addr) (Q:VK),Inv X pins σ H s->j8 x v->s.heap.IsSliceOf sl vl vu .none->IsPart vl lo->IsPart vu hi->r x lo hi H Q ->
  ∃ T id,typeLookup (.type T) "__getitem__" = pure (some (.builtin id))/\s.TypeIs v T/\wpAny (model X.prog X.w) X.A (getItem v (.ref sl)) (EP X pins σ Q) X.xe s
theorem SlR.or {r r':V->Option Int->Option Int->Hp->VK->Prop} (h:SlR X r) (h':SlR X r'):SlR X (fun x lo hi H Q=>r x lo hi H Q\/r' x lo hi H Q):=by
 intro pins s σ H x v vl vu lo hi sl Q I rx hs pl pu q
 rcases q with q | q
 ·exact h pins s σ H x v vl vu lo hi sl Q I rx hs pl pu q
 ·exact h' pins s σ H x v vl vu lo hi sl Q I rx hs pl pu q
def tSl (r:V->Option Int->Option Int->Hp->VK->Prop) (te:TE) (tl th:TO):TE:=fun σ H Q=>te σ H fun x H1=>tl σ H1 fun l H2=>th σ H2 fun u H3=>r x l u H3 Q
theorem qc5 {r:V->Option Int->Option Int->Hp->VK->Prop} (hr:SlR X r) (he:PE X e te) (hl:PO X lo tl) (hu:PO X hi th):PE X (.Subscript e (.Slice lo hi none p2) pos) (tSl r te tl th):=by
 intro pins s σ H Q I h
 refine Subscript_ (thn (he pins s σ H _ I h) fun v s1 ⟨x,H1,I1,r1,q1⟩=>?_)
 refine wpAny_Slice (thn (hl pins s1 σ H1 _ I1 q1) fun vl s2 ⟨l,H2,I2,pl,q2⟩=>thn (hu pins s2 σ H2 _ I2 q2) fun vu s3 ⟨u,H3,I3,pu,q3⟩=>?_)
 rw [evalPart_none]
 refine wpAny_pure ?_
 have I4:Inv X pins σ H3 { s3 with heap:=s3.heap.push { cls:=.type "slice",data:=.fields #[vl,vu,.none] } }:=I3.kept (t':=s3.toks) fun b ob q=>Heap.get?_push_of_some _ q
 obtain ⟨T,id,hT,ht,hg⟩:=hr pins { s3 with heap:=s3.heap.push { cls:=.type "slice",data:=.fields #[vl,vu,.none] } } σ H3 x v vl vu l u s3.heap.objs.size Q I4 r1 (Heap.IsSliceOf.new ..) pl pu q3
 show wpAny (model X.prog X.w) X.A (subscriptTail e (.Slice lo hi none p2) v (.ref s3.heap.objs.size)) (EP X pins σ Q) X.xe { s3 with heap:=s3.heap.push { cls:=.type "slice",data:=.fields #[vl,vu,.none] } }
 exact tail_any (ops:=[.ref s3.heap.objs.size,v]) ht hT hg (by with_unfolding_all rfl)
def qft (xs:List V) (lo hi:Option Int):List V:=(xs.drop (HT.sIx xs.length 0 lo)).take (HT.sIx xs.length xs.length hi - HT.sIx xs.length 0 lo)
theorem W8 (xs:List V) (lo hi:Option Int):(qft xs lo hi).length<=xs.length:=by
 unfold qft
 rw [List.length_take,List.length_drop]
 omega
def qqR (K:PySem.W.Frag):V->Option Int->Option Int->Hp->VK->Prop:=fun x lo hi H Q=>∃ a xs,x=.ref a/\SqT K H a xs /\
 ¬ (HT.sIx xs.length 0 lo=0/\HT.sIx xs.length xs.length hi=xs.length)/\∀ p,H p=none->Q (.ref p) (upd H p (.tup (qft xs lo hi)))
theorem qm2:SlR X (qqR X.K):=by
 intro pins s σ H x v vl vu lo hi sl Q I rx hs pl pu h
 obtain ⟨a,xs,rfl,hx,hw,q⟩:=h
 cases rx
 obtain ⟨its,r,ht,hz⟩:=I.tuple hx
 have hlen:its.toArray.size=xs.length:=by rw [List.size_toArray];exact r.length.symm
 refine ⟨"tuple",_,PyProof.Rows.slot_tuple_getitem.lookup,ht.typeIs,?_⟩
 refine HT.E6 ht hs pl pu (by rw [hlen];exact hw) ?_ (by rw [hlen];exact hz)
 rw [hlen]
 refine ⟨.ref s.heap.objs.size,_,I.laid (t':=s.toks) (o:=.tup (qft xs lo hi)) (fun b ob q=>Heap.get?_push_of_some _ q) (Nat.le_refl _) ?_,rfl,q _ (I.hok.fresh (Nat.le_refl _))⟩
 exact ⟨Nat.le_trans (W8 xs lo hi) hz,_,(r.drop (HT.sIx xs.length 0 lo)).take (HT.sIx xs.length xs.length hi - HT.sIx xs.length 0 lo),IsTup.new _ _⟩
def qju (K:PySem.W.Frag):R2:=fun x y H Q=>∃ a b xs ys,x=.ref a/\y=.ref b/\SqT K H a xs/\SqT K H b ys/\xs≠[]/\xs.length+ys.length<=sizeLine /\
 (ys=[]->Q (.ref a) H)/\(ys≠[]->∀ p,H p=none->Q (.ref p) (upd H p (.tup (xs++ys))))
theorem jk.nil_iff {xs:List V} {us:List Value} (r:jk xs us):us=[] ↔ xs=[]:=by
 cases r with
 | nil=>simp
 | cons _ _=>simp
theorem qgC:OpR X (binaryOp .Add) (qju X.K):=by
 intro pins s σ H x y v u Q I rx ry h
 obtain ⟨a,b,xs,ys,rfl,rfl,ha,hb,hx,hz,q1,q2⟩:=h
 cases rx
 cases ry
 obtain ⟨its,r1,p1,_⟩:=I.tuple ha
 obtain ⟨its2,r2,p2,_⟩:=I.tuple hb
 refine HT.qij p1 p2 (fun z=>hx (r1.nil_iff.mp z)) (fun z=>⟨.ref a,H,I,rfl,q1 (r2.nil_iff.mp z)⟩) (fun z=>?_) (by rw [← r1.length,← r2.length];exact hz)
 refine ⟨.ref s.heap.objs.size,_,I.laid (t':=s.toks) (o:=.tup (xs++ys)) (fun b ob q=>Heap.get?_push_of_some _ q) (Nat.le_refl _) ?_,rfl,q2 (fun w=>z (r2.nil_iff.mpr w)) _ (I.hok.fresh (Nat.le_refl _))⟩
 exact ⟨by rw [List.length_append];exact hz,_,r1.append r2,IsTup.new _ _⟩
end
end L2
namespace L2
open PySem PySem.Spec PyProof.Rows
def ixN (n:Nat) (i:Int):Option Nat:=if 0<=i then (if i < n then some i.toNat else none) else if -(n:Int)<=i then some (i+n).toNat else none
def atI {α:Type} (xs:List α) (i:Int):Option α:=(ixN xs.length i).bind fun j=>xs[j]?
theorem qa9 {n:Nat} {i:Int} {j:Nat} (h:ixN n i=some j):seqIndex? i n=some j/\j < n/\-(n:Int)<=i/\i < n:=by
 unfold ixN at h
 by_cases h0:0<=i
 ·rw [if_pos h0] at h
  by_cases h1:i < n
  ·rw [if_pos h1] at h
   have e:i.toNat=j:=Option.some.inj h
   exact ⟨by rw [seqIndex_of h0 h1,e],by omega,by omega,h1⟩
  ·rw [if_neg h1] at h;cases h
 ·rw [if_neg h0] at h
  by_cases h1:-(n:Int)<=i
  ·rw [if_pos h1] at h
   have e:(i+n).toNat=j:=Option.some.inj h
   exact ⟨by rw [seqIndex_neg (by omega) h1,e],by omega,h1,by omega⟩
  ·rw [if_neg h1] at h;cases h
theorem MC {α:Type} {xs:List α} {i:Int} {v:α} (h:atI xs i=some v):∃ j,seqIndex? i xs.length=some j/\xs[j]?=some v/\j < xs.length/\-(xs.length:Int)<=i/\i < xs.length:=by
 unfold atI at h
 cases e:ixN xs.length i with
 | none=>rw [e] at h;cases h
 | some j=>
  rw [e] at h
  obtain ⟨h1,h2,h3,h4⟩:=qa9 e
  exact ⟨j,h1,h,h2,h3,h4⟩
def EU (b:Expr):Prop:=∀ o i,subscripted b false o i=operate [o,i] (getItem o i)
def IxR (X:Cx) (r:R2):Prop:=
 ∀ (value slice:Expr) (pins:List (Addr×Obj)) (s:Shared) (σ:St) (H:Hp) (x y:V) (v u:Value) (Q:VK),Inv X pins σ H s->j8 x v->j8 y u->r x y H Q ->
  subscripted slice false v u=operate [v,u] (getItem v u)->wpAny (model X.prog X.w) X.A (subscriptTail value slice v u) (EP X pins σ Q) X.xe s
def MtR (X:Cx) (id:String) (r:V->List V->Hp->VK->Prop):Prop:=
 ∀ (pins:List (Addr×Obj)) (s:Shared) (σ:St) (H:Hp) (x:V) (xs:List V) (v:Value) (us:List Value) (Q:VK),Inv X pins σ H s->j8 x v->jk xs us->r x xs H Q ->
  wpAny (model X.prog X.w) X.A (call (.builtin id) (v :: us)) (EP X pins σ Q) X.xe s
section
variable {X:Cx} {a b:Expr} {ta tb:TE} {pos:Pos}
theorem IxR.or {r r':R2} (h:IxR X r) (h':IxR X r'):IxR X (fun x y H Q=>r x y H Q\/r' x y H Q):=by
 intro value slice pins s σ H x y v u Q I rx ry q hs
 rcases q with q | q
 ·exact h value slice pins s σ H x y v u Q I rx ry q hs
 ·exact h' value slice pins s σ H x y v u Q I rx ry q hs
theorem qmn {r:R2} (hr:IxR X r) (ha:PE X a ta) (hb:PE X b tb) (hs:EU b):PE X (.Subscript a b pos) (tOp r ta tb):=by
 intro pins s σ H Q I h
 exact Subscript_ (qpB ha hb I h fun v u s2 x y H2 I2 rx ry q=>hr a b pins s2 σ H2 x y v u Q I2 rx ry q (hs _ _))
def qqa (K:PySem.W.Frag):R2:=fun x y H Q=>∃ p xs i v,x=.ref p/\y=.int i/\SqL K H p xs/\atI xs i=some v/\Q v H
def qqp (K:PySem.W.Frag):R2:=fun x y H Q=>∃ p xs i v,x=.ref p/\y=.int i/\SqT K H p xs/\atI xs i=some v/\Q v H
def qqj:R2:=fun x y H Q=>∃ z i c,x=.str z/\y=.int i/\z.length<=sizeLine/\atI z.cps.toList i=some c/\Q (.str ⟨#[c]⟩) H
theorem qhi:IxR X (qqa X.K):=by
 intro value slice pins s σ H x y v u Q I rx ry h hs
 obtain ⟨p,xs,i,z,rfl,rfl,hq,he,q⟩:=h
 cases rx
 obtain ⟨t,rfl⟩:=ry
 obtain ⟨its,r,pl,hz⟩:=I.list hq
 obtain ⟨j,h1,h2,h3,h4,h5⟩:=MC he
 obtain ⟨w,ew,rw'⟩:=r.get h2
 have hl:=r.length
 have hn:=T4
 have fin:EP X pins σ Q w s:=⟨z,H,I,rw',q⟩
 by_cases h0:0<=i
 ·have hj:i.toNat=j:=by
   rw [seqIndex_of h0 h5] at h1
   exact Option.some.inj h1
  exact item_listR pl.isList h0 (by omega) (by rw [hj];simpa using ew) fin hs
 ·have hj:(i+(its.toArray.size:Int)).toNat=j:=by
   rw [seqIndex_neg (by omega) h4] at h1
   rw [List.size_toArray,← hl]
   exact Option.some.inj h1
  exact subscriptTail_builtinR (x:=w) pl.isList.typeIs slot_list_getitem.lookup
   (wpAny_getItem_list_neg (Q:=fun r s'=>r=w/\EP X pins σ Q r s') pl.isList (by omega) (by rw [List.size_toArray] <;> omega) (by omega) (by rw [hj];simpa using ew) ⟨rfl,fin⟩) hs
theorem qmp:IxR X (qqp X.K):=by
 intro value slice pins s σ H x y v u Q I rx ry h hs
 obtain ⟨p,xs,i,z,rfl,rfl,hq,he,q⟩:=h
 cases rx
 obtain ⟨t,rfl⟩:=ry
 obtain ⟨its,r,pl,hz⟩:=I.tuple hq
 obtain ⟨j,h1,h2,h3,h4,h5⟩:=MC he
 obtain ⟨w,ew,rw'⟩:=r.get h2
 have hl:=r.length
 have hn:=T4
 have fin:EP X pins σ Q w s:=⟨z,H,I,rw',q⟩
 exact subscriptTail_builtinR (x:=w) pl.typeIs slot_tuple_getitem.lookup
  (getItem_tuple (j:=j) (Q:=fun r s'=>r=w/\EP X pins σ Q r s') pl (by omega) (by omega) (by rw [List.size_toArray,← hl];exact h1) (by simpa using ew) ⟨rfl,fin⟩) hs
theorem qnp:IxR X qqj:=by
 intro value slice pins s σ H x y v u Q I rx ry h hs
 obtain ⟨z,i,c,rfl,rfl,hz,he,q⟩:=h
 obtain ⟨t,rfl⟩:=rx
 obtain ⟨t',rfl⟩:=ry
 obtain ⟨j,h1,h2,h3,h4,h5⟩:=MC he
 have hl:z.cps.toList.length=z.length:=by simp [Str.length]
 rw [hl] at h1 h4 h5
 have hn:=T4
 exact tail_any (typeIs_str s z t) slot_str_getitem.lookup (getItem_str (c:=c) (by
  have e1:decide (i < -(2 ^ 63:Int))=false:=decide_eq_false (by omega)
  have e2:decide (i ≥ 2 ^ 63)=false:=decide_eq_false (by omega)
  rw [e1,e2,Bool.or_false]) (by rw [h1];simpa using h2) ⟨.str ⟨#[c]⟩,H,I.tok _,⟨_,rfl⟩,q⟩) hs
def rIx (K:PySem.W.Frag):R2:=fun x y H Q=>qqa K x y H Q\/qqp K x y H Q\/qqj x y H Q
theorem qjP:IxR X (rIx X.K):=qhi.or (qmp.or qnp)
theorem qab (its:List Value) (n j:Nat) (u:Value):Obj.mapSeq (·.setIfInBounds j u) { cls:=.type "list",data:=.seq its.toArray n }={ cls:=.type "list",data:=.seq (its.set j u).toArray n }:=by
 simp [Obj.mapSeq]
theorem Inv.lst {pins:List (Addr×Obj)} {σ:St} {H:Hp} {s:Shared} {p:Addr} {xs:List V} (I:Inv X pins σ H s) (h:H p=some (.lst xs)) :
  ∃ (its:List Value) (n:Nat),jk xs its/\s.heap.get? p=some { cls:=.type "list",data:=.seq its.toArray n }/\xs.length<=sizeLine:=by
 obtain ⟨z,its,n,r,e⟩:=I.hok p _ h
 exact ⟨its,n,r,e,z⟩
theorem Inv.lstUpd {pins:List (Addr×Obj)} {σ:St} {H:Hp} {s:Shared} {p:Addr} {xs ys:List V} {its its':List Value} {n n':Nat} {f:Obj->Obj} (I:Inv X pins σ H s) (h:H p=some (.lst xs))
  (ho:s.heap.get? p=some { cls:=.type "list",data:=.seq its.toArray n }) (hf:f { cls:=.type "list",data:=.seq its.toArray n }={ cls:=.type "list",data:=.seq its'.toArray n' }) (r:jk ys its') (hz:ys.length<=sizeLine) (t:Nat) :
  Inv X pins σ (upd H p (.lst ys)) { s with heap:=s.heap.update p f,toks:=t }:=by
 have e:(s.heap.update p f).get? p=some { cls:=.type "list",data:=.seq its'.toArray n' }:=by
  rw [Heap.get?_update_self f ho (by rw [hf] <;> rfl),hf]
 refine I.write (x:=p) (e:=p) (by rw [h];trivial) (.inl rfl) (fun b u hb q=>(Heap.get?_update_other _ _ (Ne.symm hb)).trans q) ⟨_,e⟩ ?_
 exact ⟨hz,its',n',r,e⟩
def qoO:V->V->V->Hp->(Hp->Prop)->Prop:=fun o i v H Q=>∃ p xs k j,o=.ref p/\i=.int k/\H p=some (.lst xs)/\ixN xs.length k=some j/\Q (upd H p (.lst (xs.set j v)))
theorem qdN:qp4 X qoO:=by
 intro pins s σ H o i v ov iv u Q I ro ri rv h
 obtain ⟨p,xs,k,j,rfl,rfl,hp,hj,q⟩:=h
 cases ro
 obtain ⟨t,rfl⟩:=ri
 obtain ⟨its,n,r,ho,hz⟩:=I.lst hp
 obtain ⟨h1,h2,h3,h4⟩:=qa9 hj
 have hl:=r.length
 have hn:=T4
 have I':Inv X pins σ (upd H p (.lst (xs.set j v))) { s with heap:=s.heap.update p (Obj.mapSeq (·.setIfInBounds j u)) }:=
  I.lstUpd hp ho (qab its n j u) (r.set rv j) (by rw [List.length_set];exact hz) s.toks
 by_cases h0:0<=k
 ·have hk:k.toNat=j:=by
   rw [seqIndex_of h0 h4] at h1
   exact Option.some.inj h1
  exact PySem.W.ki_setAt ho h0 (by omega) (by rw [List.size_toArray,← hl];exact h4) (by rw [hk];exact ⟨_,I',q⟩)
 ·have hk:(k+(its.toArray.size:Int)).toNat=j:=by
   rw [seqIndex_neg (by omega) h3] at h1
   rw [List.size_toArray,← hl]
   exact Option.some.inj h1
  exact PySem.W.ki_setBack ho (by omega) (by rw [List.size_toArray,← hl];exact h3) (by omega) (by rw [hk];exact ⟨_,I',q⟩)
theorem K1 (lo hi:Option Int) (n:Nat):(sliceBounds lo hi none n).1=((HT.sIx n 0 lo:Nat):Int)/\(sliceBounds lo hi none n).2.1=((HT.sIx n n hi:Nat):Int)/\(sliceBounds lo hi none n).2.2=1:=by
 refine ⟨?_,?_,rfl⟩
 ·cases lo with
  | none=>simp [sliceBounds,HT.sIx]
  | some i=>
   simp only [sliceBounds,HT.sIx,Option.getD_none,show (1:Int) > 0 by decide,if_true]
   by_cases h:i < 0
   ·simp only [h,if_true] <;> omega
   ·simp only [h,if_false] <;> omega
 ·cases hi with
  | none=>simp [sliceBounds,HT.sIx]
  | some i=>
   simp only [sliceBounds,HT.sIx,Option.getD_none,show (1:Int) > 0 by decide,if_true]
   by_cases h:i < 0
   ·simp only [h,if_true] <;> omega
   ·simp only [h,if_false] <;> omega
theorem TL (its:List Value) (lo hi:Option Int):slicePick its.toArray lo hi none=((its.drop (HT.sIx its.length 0 lo)).take (HT.sIx its.length its.length hi - HT.sIx its.length 0 lo)).toArray:=by
 obtain ⟨h1,h2,h3⟩:=K1 lo hi its.toArray.size
 unfold slicePick
 rw [h1,h2,h3]
 simp only [sliceRange_one,pick_run,List.size_toArray] <;> rfl
def qqE (K:PySem.W.Frag):V->Option Int->Option Int->Hp->VK->Prop:=fun x lo hi H Q=>∃ a xs,x=.ref a/\SqL K H a xs/\∀ p,H p=none->Q (.ref p) (upd H p (.lst (qft xs lo hi)))
theorem qg8:SlR X (qqE X.K):=by
 intro pins s σ H x v vl vu lo hi sl Q I rx hs pl pu h
 obtain ⟨a,xs,rfl,hx,q⟩:=h
 cases rx
 obtain ⟨its,r,ht,hz⟩:=I.list hx
 have hlen:=r.length
 refine ⟨"list",_,slot_list_getitem.lookup,ht.isList.typeIs,?_⟩
 refine wpAny_getItem_list_slice ht.isList hs pl pu .none (by simp) ?_ (by rw [List.size_toArray] <;> omega)
 rw [TL,← hlen]
 refine ⟨.ref s.heap.objs.size,_,I.laid (t':=s.toks) (o:=.lst (qft xs lo hi)) (fun b ob q=>Heap.get?_push_of_some _ q) (Nat.le_refl _) ?_,rfl,q _ (I.hok.fresh (Nat.le_refl _))⟩
 exact ⟨Nat.le_trans (W8 xs lo hi) hz,_,0,(r.drop (HT.sIx xs.length 0 lo)).take (HT.sIx xs.length xs.length hi - HT.sIx xs.length 0 lo),Heap.get?_push_size _ rfl⟩
theorem DZ:YH X (.type "list") (fun xs H Q=>∃ p ys,xs=[.ref p]/\(SqL X.K H p ys\/SqT X.K H p ys)/\∀ l,H l=none->Q (.ref l) (upd H l (.lst ys))):=by
 intro pins s σ H xs us Q I r h
 obtain ⟨p,ys,rfl,hq,q⟩:=h
 obtain ⟨u,rfl,rx⟩:=WF r
 cases rx
 have fin:∀ (its:List Value),jk ys its->ys.length<=sizeLine->∀ (h':Heap) (c':Nat),(∀ b o',s.heap.get? b=some o'->h'.get? b=some o') ->
   h'.get? s.heap.objs.size=some { cls:=.type "list",dict:=none,data:=.seq its.toArray c',slots:=#[] }->EP X pins σ Q (.ref s.heap.objs.size) { s with heap:=h' }:=fun its r' hz h' c' kp e=>
  ⟨.ref s.heap.objs.size,_,I.laid (t':=s.toks) kp (Nat.le_refl _) (show UQ X.prog X.w _ h' _ (.lst ys) from ⟨hz,its,c',r',e⟩),rfl,q _ (I.hok.fresh (Nat.le_refl _))⟩
 rcases hq with hq | hq
 ·obtain ⟨its,r',pl,hz⟩:=I.list hq
  have hlen:=r'.length
  obtain ⟨o,ho,hc,n,hd⟩:=pl.isList
  exact call_list_seq p (.inl rfl) ho hc hd (fun h' c' kp e=>fin its r' hz h' c' kp e) (by simp only [List.size_toArray] <;> omega)
 ·obtain ⟨its,r',pl,hz⟩:=I.tuple hq
  have hlen:=r'.length
  obtain ⟨o,ho,hc,n,hd⟩:=pl
  exact call_list_seq p (.inr rfl) ho hc hd (fun h' c' kp e=>fin its r' hz h' c' kp e) (by simp only [List.size_toArray] <;> omega)
theorem EM:YH X (.type "tuple") (fun xs H Q=>∃ p ys,xs=[.ref p]/\((SqL X.K H p ys/\∀ l,H l=none->Q (.ref l) (upd H l (.tup ys)))\/(SqT X.K H p ys/\Q (.ref p) H))):=by
 intro pins s σ H xs us Q I r h
 obtain ⟨p,ys,rfl,h⟩:=h
 obtain ⟨u,rfl,rx⟩:=WF r
 cases rx
 rcases h with ⟨hq,q⟩ | ⟨hq,q⟩
 ·obtain ⟨its,r',pl,hz⟩:=I.list hq
  have hlen:=r'.length
  refine call_tuple_list pl.isList (fun h' kp=>?_) (by simp only [List.size_toArray] <;> omega)
  have I1:Inv X pins σ H { s with heap:=h' }:=I.kept (t':=s.toks) kp
  have I2:Inv X pins σ (upd H h'.objs.size (.tup ys)) { s with heap:=h'.push { cls:=.type "tuple",data:=.seq its.toArray } }:=
   I1.laid (t':=s.toks) (fun b o e=>Heap.get?_push_of_some _ e) (Nat.le_refl _) (show UQ X.prog X.w _ _ _ (.tup ys) from ⟨hz,its,r',IsTup.new _ _⟩)
  exact ⟨.ref h'.objs.size,_,I2,rfl,q _ (I1.hok.fresh (Nat.le_refl _))⟩
 ·obtain ⟨its,r',pl,hz⟩:=I.tuple hq
  exact call_tuple_same pl ⟨.ref p,H,I,rfl,q⟩
def tyV (K:PySem.W.Frag) (T:String) (x:V) (H:Hp):Prop:=match x with
 | .str _=>T="str"
 | .int _=>T="int"
 | .ref p=>(T="list"/\∃ xs,SqL K H p xs)\/(T="tuple"/\∃ o,K.lookup p=some o/\o.cls=.type "tuple"/\o.dict=none) ∨
   (T="dict"/\((∃ kvs,H p=some (.dK kvs))\/∃ kvs,H p=some (.dT kvs)))\/(T="set"/\∃ S n,H p=some (.set S n))
 | _=>False
theorem qjK {pins:List (Addr×Obj)} {σ:St} {H:Hp} {s:Shared} {T:String} {x:V} {v:Value} (I:Inv X pins σ H s) (r:j8 x v) (ty:tyV X.K T x H) :
  s.TypeIs v T/\∀ a,v=.ref a->∃ ob,s.heap.get? a=some ob/\ob.dict=none:=by
 cases x with
 | str z=>
  obtain ⟨t,rfl⟩:=r
  cases (show T="str" from ty)
  exact ⟨typeIs_str s z t,fun _ e=>nomatch e⟩
 | int i=>
  obtain ⟨t,rfl⟩:=r
  cases (show T="int" from ty)
  exact ⟨typeIs_int s i t,fun _ e=>nomatch e⟩
 | ref p=>
  cases r
  rcases ty with ⟨rfl,xs,hq⟩ | ⟨rfl,o,hk,hc,hd⟩ | ⟨rfl,hk⟩ | ⟨rfl,S,n,hk⟩
  ·obtain ⟨its,_,pl,_⟩:=I.list hq
   refine ⟨pl.isList.typeIs,fun a e=>?_⟩
   cases e
   obtain ⟨o,n,e,c,hd,_⟩:=pl
   exact ⟨o,e,hd⟩
  ·refine ⟨⟨o,I.kIn p o hk,hc⟩,fun a e=>?_⟩
   cases e
   exact ⟨o,I.kIn _ o hk,hd⟩
  ·have z:∃ o,s.heap.get? p=some o/\o.ExactDict:=by
    rcases hk with ⟨kvs,hk⟩ | ⟨kvs,hk⟩
    ·obtain ⟨_,_,_,_,o,_,_,e,ex,_⟩:=I.hok p _ hk
     exact ⟨o,e,ex⟩
    ·obtain ⟨_,_,_,_,o,_,_,e,ex,_⟩:=I.hok p _ hk
     exact ⟨o,e,ex⟩
   obtain ⟨o,e,ex⟩:=z
   refine ⟨⟨o,e,ex.1⟩,fun a e2=>?_⟩
   cases e2
   exact ⟨o,e,ex.2.1⟩
  ·obtain ⟨o,_,_,_,e,ex,_⟩:=I.hok p _ hk
   refine ⟨⟨o,e,ex.1⟩,fun a e2=>?_⟩
   cases e2
   exact ⟨o,e,ex.2.1⟩
 | _=>exact False.elim ty
def tBM (K:PySem.W.Frag) (T:String) (r:V->List V->Hp->VK->Prop) (to:TE) (t:TA):TE:=fun σ H Q=>to σ H fun x H1=>tyV K T x H1/\t σ H1 fun xs H2=>r x xs H2 Q
variable {o e:Expr} {es:List Expr} {to:TE} {t:TA} {name:Str} {apos cpos:Pos} {T id:String} {r:V->List V->Hp->VK->Prop}
theorem qpv (pa:PlainAttrs T) (slot:Slot T name id) (hty:typeOf (.builtin id)=pure (.type "method_descriptor")) (hm:MtR X id r) (ho:PE X o to) (ha:PA X (e :: es) t)
  (hbase:attributeBase o name X.env (eval o X.env)=eval o X.env:=by rfl)
  (hfew:((backTo cpos (starEach (e :: es) X.env)).all (fun x=>!x.1) && (backToKw cpos (keywordEach [] X.env)).all (fun x=>x.1.isSome)
   && decide ((e :: es).length+([]:List Keyword).length+(if ([]:List Keyword).isEmpty then 0 else 1) < 30))=true:=by rfl)
  (hline:(apos.endLine == cpos.line)=true:=by rfl) (hs:starEach (e :: es) X.env=(false,eval e X.env) :: starEach es X.env:=by rfl) (hplain:(backTo cpos (starEach es X.env)).any (·.1)=false:=by rfl) :
  PE X (.Call (.Attribute o name apos) (e :: es) [] cpos) (tBM X.K T r to t):=by
 intro pins s σ H Q I h
 refine wpAny_Call_method_late hbase hfew hline rfl (thn (ho pins s σ H _ I h) fun v s1 ⟨x,H1,I1,r1,ty,q1⟩=>?_)
 obtain ⟨h1,h2⟩:=qjK I1 r1 ty
 refine ⟨T,id,pa,slot,hty,h1,h2,?_⟩
 have hA:=ha cpos pins s1 σ H1 _ I1 q1
 rw [hs] at hA ⊢
 refine Calls.callWith_builtin (by show (false || (backTo cpos (starEach es X.env)).any (·.1))=false;rw [hplain] <;> rfl) (Calls.evalArgs_plain ?_)
 exact thn hA fun us s2 ⟨vs,H2,I2,r2,q2⟩=>hm pins s2 σ H2 x vs v us Q I2 r1 r2 q2
end
end L2
namespace L2
open PySem PySem.Spec PyProof.Rows
def MtM (X:Cx) (id:String) (r:V->List V->Hp->VK->Prop):Prop:=
 ∀ (pins:List (Addr×Obj)) (s:Shared) (σ:St) (H:Hp) (x:V) (xs:List V) (v:Value) (us:List Value) (Q:VK),Inv X pins σ H s->j8 x v->jk xs us->r x xs H Q ->
  wpAny (model X.prog X.w) X.A (call (.builtin id) (v :: us)) (EP X pins σ Q) X.xe s
theorem jk.one:∀ {x:V} {us:List Value},jk [x] us->∃ u,us=[u]/\j8 x u
 | _,_,.cons r .nil=>⟨_,rfl,r⟩
theorem jk.reverse {xs:List V} {us:List Value} (h:jk xs us):jk xs.reverse us.reverse:=by
 induction h with
 | nil=>exact .nil
 | cons r t ih=>rw [List.reverse_cons,List.reverse_cons];exact jk.append ih (.cons r .nil)
section
variable {X:Cx} {pins:List (Addr×Obj)} {σ:St} {H:Hp} {s:Shared} {l b:Addr} {xs ys zs:List V}
theorem Inv.lset {its its':List Value} {n:Nat} {f:Array Value->Array Value} {t':Nat} (I:Inv X pins σ H s) (hH:H l=some (.lst xs))
  (e:s.heap.get? l=some { cls:=.type "list",data:=.seq its.toArray n }) (hf:f its.toArray=its'.toArray) (hv:jk ys its') (hz:ys.length<=sizeLine) :
  Inv X pins σ (upd H l (.lst ys)) { s with heap:=s.heap.update l (Obj.mapSeq f),toks:=t' }:=by
 have q:=PySem.IsL.update e f
 rw [hf] at q
 refine I.write (x:=l) (e:=l) (by rw [hH];exact trivial) (.inl rfl) (fun b' u hb hu=>(Heap.get?_update_other s.heap (Obj.mapSeq f) (Ne.symm hb)).trans hu) ⟨_,q⟩ ?_
 exact ⟨hz,its',_,hv,q⟩
theorem Inv.lnew {its:List Value} {t':Nat} (I:Inv X pins σ H s) (hv:jk ys its) (hz:ys.length<=sizeLine) :
  Inv X pins σ (upd H s.heap.objs.size (.lst ys)) { s with heap:=s.heap.push { cls:=.type "list",data:=.seq its.toArray },toks:=t' }:=
 I.laid (fun _ _ q=>Heap.get?_push_of_some _ q) (Nat.le_refl _) ⟨hz,its,0,hv,Heap.get?_push_size _ rfl⟩
theorem Inv.fresh (I:Inv X pins σ H s):H s.heap.objs.size=none:=I.hok.fresh (Nat.le_refl _)
theorem Inv.lstM (I:Inv X pins σ H s) (hH:H l=some (.lst xs)):xs.length<=sizeLine/\∃ (its:List Value) (n:Nat),jk xs its/\xs.length=its.length/\s.heap.get? l=some { cls:=.type "list",data:=.seq its.toArray n }:=by
 obtain ⟨z,its,n,r,e⟩:=I.hok l _ hH
 exact ⟨z,its,n,r,r.length,e⟩
theorem qdR {n:Nat} (h:n<=sizeLine):Builtin.List.listTooLong n=false:=by
 unfold Builtin.List.listTooLong
 exact decide_eq_false (by omega)
end
section
variable {X:Cx}
def qcm:V->List V->Hp->VK->Prop:=fun x vs H Q=>∃ l xs y,x=.ref l/\vs=[y]/\H l=some (.lst xs)/\xs.length < sizeLine/\Q .non (upd H l (.lst (xs++[y])))
theorem UW:MtM X "list.append" qcm:=by
 intro pins s σ H x vs v us Q I rx rv h
 obtain ⟨l,xs,y,rfl,rfl,hH,hz,q⟩:=h
 cases rx
 obtain ⟨u,rfl,ru⟩:=rv.one
 obtain ⟨z,its,n,r,hl,e⟩:=I.lstM hH
 refine call_meets F.slot_list_append ⟨_,e,rfl⟩ F.entry_list_append (F.args_list_append_2 _ _) (PySem.list_append l its.toArray n u (by rw [List.size_toArray];omega)) ⟨e,?_⟩
 refine ⟨.non,_,I.lset (its':=its++[u]) hH e (by simp) (r.append (.cons ru .nil)) ?_,rfl,q⟩
 rw [List.length_append,List.length_singleton]
 omega
def qco:V->List V->Hp->VK->Prop:=fun x vs H Q=>∃ l b xs zs,x=.ref l/\vs=[.ref b]/\H l=some (.lst xs)/\H b=some (.lst zs)/\xs.length+zs.length<=sizeLine/\Q .non (upd H l (.lst (xs++zs)))
theorem qba:MtM X "list.extend" qco:=by
 intro pins s σ H x vs v us Q I rx rv h
 obtain ⟨l,b,xs,zs,rfl,rfl,hH,hB,hz,q⟩:=h
 cases rx
 obtain ⟨u,rfl,ru⟩:=rv.one
 cases ru
 obtain ⟨z,its,n,r,hl,e⟩:=I.lstM hH
 obtain ⟨z2,its2,n2,r2,hl2,e2⟩:=I.lstM hB
 have hsz:its.toArray.size+its2.toArray.size<=sizeLine:=by rw [List.size_toArray,List.size_toArray];omega
 have hlong:¬ (!its.toArray.isEmpty && Builtin.List.listTooLong (its.toArray.size+its2.toArray.size))=true:=by
  rw [qdR hsz,Bool.and_false]
  exact Bool.false_ne_true
 refine call_meets F.slot_list_extend ⟨_,e,rfl⟩ F.entry_list_extend (F.args_list_extend_2 _ _)
  (AutoSeq1.list_extend_list_list_0 l its.toArray n b its2.toArray n2 hlong (by rw [List.size_toArray];omega) (by omega)) ⟨e,e2,?_⟩
 refine ⟨.non,_,I.lset (its':=its++its2) hH e (by simp) (r.append r2) ?_,rfl,q⟩
 rw [List.length_append]
 omega
def qqc:R2:=fun x y H Q=>∃ l b xs zs,x=.ref l/\y=.ref b/\H l=some (.lst xs)/\H b=some (.lst zs)/\xs.length+zs.length<=sizeLine/\∀ p,H p=none->Q (.ref p) (upd H p (.lst (xs++zs)))
theorem qjb:OpR X (binaryOp .Add) qqc:=by
 intro pins s σ H x y v u Q I rx ry h
 obtain ⟨l,b,xs,zs,rfl,rfl,hH,hB,hz,q⟩:=h
 cases rx
 cases ry
 obtain ⟨z,its,n,r,hl,e⟩:=I.lstM hH
 obtain ⟨z2,its2,n2,r2,hl2,e2⟩:=I.lstM hB
 refine PySem.P.add_list e e2 ?_ (by rw [List.size_toArray,List.size_toArray];omega)
 have ea:its.toArray++its2.toArray=(its++its2).toArray:=by simp
 rw [ea]
 exact ⟨.ref _,_,I.lnew (t':=s.toks) (r.append r2) (by rw [List.length_append];omega),rfl,q _ I.fresh⟩
end
section
variable {prog:Program} {w:World} {A:Around} {E:Value->Shared->Prop} {s:Shared}
end
section
variable {X:Cx}
end
end L2
namespace Att
open PySem PySem.W PySem.Calls PyProof.Rows
theorem CF {P:Params} {h:Heap}:∀ (ns:List Int) (vs:List Value),WellAll P h vs (ns.map WData.int)->IntsAre vs ns:=by
 intro ns
 induction ns with
 | nil=>
  intro vs w
  rw [List.map_nil] at w
  cases w
  exact .nil
 | cons n ns ih=>
  intro vs w
  rw [List.map_cons] at w
  cases w with
  | cons a b=>
   cases a
   exact .cons _ _ (ih _ b)
theorem qbg {l:OpenLaw} {n:Nat} (hn:l.most=some n) {P:Params} {h:Heap} {args:List WData} {vals:List Value}
  (hpre:l.row.toRowW.claim.pre args=true) (hwl:WellAll P h vals args) :
  ∃ a vs ns,vals=[Value.ref a]/\args=[WData.list (ns.map WData.int)]/\h.get? a=some { cls:=.type "list",data:=.seq vs.toArray }/\IntsAre vs ns/\ns.length<=n:=by
 have hsh:WShape.hasAll [] args [.list .int]=true:=(pre_splitW hpre).1
 have hc:l.pre.holds [] { args:=args }=true:=(pre_splitW hpre).2
 obtain ⟨d,r,rfl,h1,h2⟩:=hasAllW_cons hsh
 obtain rfl:=hasAllW_nil h2
 obtain ⟨xs,rfl,h3⟩:=hasW_list h1
 obtain ⟨ns,rfl⟩:=items_int h3
 have hlen:ns.length<=n:=by
  unfold OpenLaw.pre at hc
  have h4:(WTm.not (.lt (.lit (.int (n:Int))) (.len (.arg 0)))).holds [] { args:=[.list (ns.map .int)] }=true:=by
   have h4:=(holds_andW hc).1
   rw [hn] at h4
   exact h4
  have h5:=condW_of h4 (w_not (w_lt w_lit (w_len_list (w_arg rfl))))
  rw [List.length_map] at h5
  refine Nat.le_of_not_lt fun q=>?_
  have q':(n:Int) < ((ns.length:Nat):Int):=by omega
  first
   | (rw [decide_eq_true q'] at h5;exact absurd h5 (by decide))
   | (simp at h5;omega)
 cases hwl with
 | cons w1 w2=>
  cases w2
  cases w1 with
  | list ho hall=>exact ⟨_,_,ns,rfl,rfl,ho,CF ns _ hall,hlen⟩
theorem qbC (l:OpenLaw) (args:List WData):l.row.toRowW.claim.post args (.bool true) args=true:=
 postW_of (r:=l.row.toRowW) (X:=(true == true))
  (show WShape.has [] (.bool true) .bool=true by first | rfl | decide | simp [WShape.has,WShape.arms,WShape.armsAll])
  (show (WTm.eq .res (.lit (.bool true))).value [] { args:=args,res:=some (.bool true),after:=args }=some (.bool (true == true)) from w_eq_bool (w_res rfl) w_lit) rfl
theorem MU {l:OpenLaw} {n:Nat} {q:Program} {loose:List Str} {XP:(Str->Option Value)->Heap->Prop} {YP:World->Heap->Prop} {d:DefRec}
  (hn:l.most=some n) (hdf:d.params.defaults=[])
  (call:∀ (w:World) (s₀ s₁:Shared) (mg mb:Str->Option Value) (fa:Addr) (o:Obj) (pm cd doc:Value) (a:Addr) (vs:List Value) (ns:List Int),
   Ground q loose [] XP w s₀ mg mb s₁.heap->YP w s₁.heap ->
   s₁.heap.get? fa=some o->o.data=.func (docDef d.name d.params d.body d.scope pm cd doc)->s₁.heap.CodeRec cd d.name->mg d.name=some (.ref fa) ->
   s₁.heap.get? a=some { cls:=.type "list",data:=.seq vs.toArray }->IntsAre vs ns->ns.length<=n->s₁.gens=#[] ->
   codeAny (model l.prog w) callerA (.call (.ref fa) ⟨[.ref a],[]⟩) (fun r s'=>r=.ok (.ret (.bool true))/\OldK s₁.heap s'.heap/\s'.os=s₁.os/\AllBare s'.gens) s₁) :
  WalkO q loose XP YP l.row.toRowW d [] (fun f vs=>PySem.call f vs):=by
 intro w s₀ s₁ mg mb G Y fa o pm cd doc dV kV ho hd hcd hD hmg hg args vals as hpre hlay hrd hwl hlo
 obtain rfl:dV=.none:=Dflts.none hD hdf
 obtain rfl:kV=.none:=Dflts.noKw hD
 obtain ⟨a,vs,ns,rfl,rfl,hobj,hints,hlen⟩:=qbg hn hpre hwl
 refine enter_call (codeAny_mono (call w s₀ s₁ mg mb fa o pm cd doc a vs ns G Y ho (fd_plain hd) hcd hmg hobj hints hlen hg) fun r s' hq=>?_)
 obtain ⟨rfl,h2,h3,h4⟩:=hq
 exact ⟨.inl ⟨.bool true,.bool true,[],rfl,fun _=>rfl,.bool true,qbC l _,fun _=>⟨List.Pairwise.nil,fun _ hm=>(nomatch hm)⟩⟩,h2,h3,h4⟩
section
variable {prog:Program} {w:World} {A:Around} {E:Value->Shared->Prop} {s:Shared} {K:Frag}
end
end Att
namespace L2
open PySem PySem.Spec PyProof.Rows
theorem T2:∀ {vs:List Value} {ns:List Int},IntsAre vs ns->jk (ns.map V.int) vs
 | _,_,.nil=>.nil
 | _,_,.cons n t h=>.cons ⟨t,rfl⟩ (T2 h)
def qnx (H:Hp):Prop:=∀ b,H b=none\/∃ o xs,H b=some (.frz o (.lst xs))
theorem qdm {P:Program} {w:World} {K:PySem.W.Frag} {mg mb:Str->Option Value} {CX:CXT} {k:Nat} {fa a:Addr} {fd:FuncData} {x:Str} {sp:Sp} {s₁:Shared} {vs:List Value} {ns:List Int}
  (KX:K.In s₁.heap) (hns:s₁.heap.Ns mainGlobals mg) (hb:s₁.heap.Ns builtinsNs mb) (hbb:∀ x:Str,x≠"__name__" -> mb x=bootBuiltins x) (hlim:s₁.heap.NoLimit) (hg:s₁.gens=#[])
  (ha:s₁.heap.get? a=some { cls:=.type "list",data:=.seq vs.toArray }) (hi:IntsAre vs ns) (hl:ns.length<=sizeLine) (hr:Room k callerA)
  (F:∀ base:Heap,K.In base->base.Ns mainGlobals mg->FnOk P w K mg base CX k fa fd [x] sp) (hbind:∀ (s:Shared) (u:Value),BindsTo s fd ⟨[u],[]⟩ [(x,u)])
  (hsp:∀ H:Hp,qnx H->SqL K H a (ns.map V.int)->sp [.ref a] H (fun v _=>v=.bl true) fun _ _ _=>False)
  (hCX:∀ H e s',CX [] H s₁ (fun _ _ _=>False) e s'->False) :
  codeAny (model P w) callerA (.call (.ref fa) ⟨[.ref a],[]⟩) (fun r s'=>r=.ok (.ret (.bool true))/\OldK s₁.heap s'.heap/\s'.os=s₁.os/\AllBare s'.gens) s₁:=by
 have rv:=T2 hi
 have lenV:=hi.length
 -- from an abstract heap in which nothing but the script may be tracked
 have core:∀ H:Hp,qnx H->SqL K H a (ns.map V.int)->HOk P w H s₁.heap->(∀ b,H b≠none->b=a)->(H a≠none->K.lookup a=none) ->
   codeAny (model P w) callerA (.call (.ref fa) ⟨[.ref a],[]⟩) (fun r s'=>r=.ok (.ret (.bool true))/\OldK s₁.heap s'.heap/\s'.os=s₁.os/\AllBare s'.gens) s₁:=by
  intro H hO hS hok hA hK
  have base_of:∀ {b:Addr} {o:Obj},s₁.heap.get? b=some o->H b=none->(qd2 s₁.heap H).get? b=some o:=fun e n=>qdO e n
  have noA:∀ {b:Addr} {o:Obj} {es:Array DictEntry} {ep:Nat},s₁.heap.get? b=some o->o.data=.dict es ep->H b=none:=fun {b o es ep} e d=>by
   cases q:H b with
   | none=>rfl
   | some u=>
    have e':b=a:=hA b (by rw [q];simp)
    subst e'
    rw [ha] at e;cases e
    have d':Data.seq vs.toArray _=Data.dict es ep:=d
    cases d'
  have nsK:∀ {b:Addr} {m:Str->Option Value},s₁.heap.Ns b m->(qd2 s₁.heap H).Ns b m:=fun {b m} ⟨o,es,ep,e,d,r⟩=>⟨o,es,ep,base_of e (noA e d),d,r⟩
  have hKb:K.In (qd2 s₁.heap H):=fun b o e=>base_of (KX b o e) (by
   cases q:H b with
   | none=>rfl
   | some u=>
    have e':b=a:=hA b (by rw [q];simp)
    subst e'
    rw [hK (by rw [q];simp)] at e;cases e)
  have hM:Mod K mg (qd2 s₁.heap H):=⟨hKb,nsK hns,⟨mb,nsK hb,hbb⟩,let ⟨mc,h1,h2⟩:=hlim;⟨mc,nsK h1,h2⟩⟩
  have e0:Env0 P w K mg (qd2 s₁.heap H) callerA [] s₁ H:=⟨rfl,hM,fun b o e=>qh3 e,Nat.le_of_eq (qa1 _ _),trivial,fun b hb=>absurd (show b∈([]:List Addr) from hb) (by simp),hok,.of_eq hg⟩
  refine codeAny_mono ((F _ hKb (nsK hns)).run callerA [] s₁ H ⟨[.ref a],[]⟩ [.ref a] [.ref a] _ _ hr e0 (hbind s₁ (.ref a)) (.cons rfl .nil) (hsp H hO hS)) fun r s' h=>?_
  cases r with
  | error e=>exact (hCX H e s' h).elim
  | ok fl=>
   cases fl with
   | next=>exact False.elim h
   | brk=>exact False.elim h
   | cont=>exact False.elim h
   | ret u=>
    obtain ⟨v,H',os,bare,un,hok',r',q⟩:=h
    have q':v=.bl true:=q
    subst q'
    obtain rfl:u=Value.bool true:=r'
    refine ⟨rfl,OldK.of_keep fun b o e=>?_,os,bare⟩
    cases q:H b with
    | none=>exact un.keep b o e q (by intro z;exact absurd (show b∈([]:List Addr) from z) (by simp)) (by simp)
    | some u=>
     rcases hO b with z | ⟨ob,xs,z⟩
     ·rw [q] at z;cases z
     ·have z2:=un.frzs b ob _ z
      obtain ⟨e1,_⟩:=hok b _ z
      obtain ⟨e2,_⟩:=hok' b _ z2
      rw [e] at e1;cases e1
      exact e2
 cases hk:K.lookup a with
 | some o=>
  -- the script is one of the module's own objects
  have e:=KX a o hk
  rw [ha] at e
  cases e
  refine core (fun _=>none) (fun _=>.inl rfl) (.inr ⟨_,vs.toArray,_,hk,rfl,rfl,rfl,by rw [List.size_toArray,lenV];exact hl,by simpa using rv⟩) (fun b u z=>by have z':(none:Option HO)=some u:=z;cases z') (fun b z=>absurd rfl z) fun z=>absurd rfl z
 | none=>
  refine core (fun b=>if b=a then some (.frz { cls:=.type "list",data:=.seq vs.toArray } (.lst (ns.map V.int))) else none) (fun b=>?_) (.inl (.inr ⟨{ cls:=.type "list",data:=.seq vs.toArray },if_pos rfl⟩)) (fun b u z=>?_) (fun b z=>?_) fun _=>hk
  ·by_cases hb:b=a
   ·exact .inr ⟨_,_,if_pos hb⟩
   ·exact .inl (if_neg hb)
  ·by_cases hb:b=a
   ·have z':=(if_pos hb).symm.trans z
    cases z'
    subst hb
    exact ⟨ha,by rw [List.length_map];exact hl,vs,_,rv,ha⟩
   ·have z':=(if_neg hb).symm.trans z
    cases z'
  ·by_cases hb:b=a
   ·exact hb
   ·exact absurd (if_neg hb) z
end L2
namespace L2
open PySem PySem.Spec PyProof.Rows
theorem qhE {l:PySem.W.OpenLaw} {n k:Nat} {q:Program} {loose:List Str} {XP:(Str->Option Value)->Heap->Prop} {YP:World->Heap->Prop} {d:DefRec} {K:Params->PySem.W.Frag} {CX:World->CXT} {sp:World->Sp} {x:Str}
  (hn:l.most=some n) (hn2:n<=sizeLine) (hdf:d.params.defaults=[]) (hr:Room k callerA)
  (hY:∀ (w:World) (h:Heap),YP w h->(K w.params).In h)
  (F:∀ (w:World) (mg:Str->Option Value) (fa:Addr) (h:Heap),(K w.params).In h->h.Ns mainGlobals mg->mg d.name=some (.ref fa) ->
   ∃ fd:FuncData,(∀ (s:Shared) (u:Value),BindsTo s fd ⟨[u],[]⟩ [(x,u)]) /\
    ∀ base:Heap,(K w.params).In base->base.Ns mainGlobals mg->FnOk l.prog w (K w.params) mg base (CX w) k fa fd [x] (sp w))
  (hsp:∀ (w:World) (H:Hp) (a:Addr) (ns:List Int),ns.length<=n->qnx H->SqL (K w.params) H a (ns.map V.int)->sp w [.ref a] H (fun v _=>v=.bl true) fun _ _ _=>False)
  (hCX:∀ (w:World) (H:Hp) (s:Shared) (e:Value) (s':Shared),CX w [] H s (fun _ _ _=>False) e s'->False) :
  PySem.W.WalkO q loose XP YP l.row.toRowW d [] (fun f vs=>PySem.call f vs):=by
 refine Att.MU hn hdf fun w s₀ s₁ mg mb fa o pm cd doc a vs ns G Y ho hd hcd hmg hobj hints hlen hg=>?_
 have KX:=hY w _ Y
 obtain ⟨fd,hb,hF⟩:=F w mg fa _ KX G.T.g hmg
 exact qdm KX G.T.g G.T.b G.T.builtins G.T.nolimit hg hobj hints (Nat.le_trans hlen hn2) hr hF hb (fun H hO hS=>hsp w H a ns hlen hO hS) fun H e s'=>hCX w H s₁ e s'
end L2
namespace L2
open PySem PySem.Spec PyProof.Rows
def YA (s:Stmt):Arguments:=match s with
 | .FunctionDef _ a _ _ _ _ _ _ _ _=>a
 | _=>{ posonlyargs:=[],args:=[],vararg:=none,kwonlyargs:=[],kw_defaults:=[],kwarg:=none,defaults:=[] }
def jL (s:Stmt):List Stmt:=match s with
 | .FunctionDef _ _ b _ _ _ _ _ _ _=>b
 | _=>[]
def qi (s:Stmt):Scope:=match s with
 | .FunctionDef _ _ _ _ _ _ sc _ _ _=>sc
 | _=>{ kind:=.function,names:=[],isGenerator:=false,isCoroutine:=false }
abbrev CX0:CXT:=fun _ _ _ _ _ _=>False
abbrev E0:XK:=fun _ _ _=>False
theorem qo7 {X:Cx}:qcP CX0 X E0:=fun _ _ _ _ _ _ _ h=>h.elim
structure Fun (K:PySem.W.Frag) (x qual:Str) (st:Stmt) (f:Addr) (fd:FuncData):Prop where
 ex:∃ (oc:Value) (od:Option Addr) (kV doc pm:Value) (an:Option Addr) (cdv ct:Value) (osl:Array (Option Value)),
  fd=PySem.W.fnOf x qual (YA st) (jL st) (qi st) .none kV doc pm an cdv ct/\K.lookup f=some ⟨oc,od,.func fd,osl⟩/\PySem.W.codeIn K cdv qual=true
 kp:PySem.W.keepIn K (.ref f)=true
section
variable {P:Program} {w:World} {K:PySem.W.Frag} {mg:Str->Option Value} {base:Heap}
theorem Fun.ok {x qual:Str} {st:Stmt} {f:Addr} {fd:FuncData} {N ps:List Str} {k:Nat} {sp:Sp} (F:Fun K x qual st f fd) (S:FnScope N ps (qi st)) (len:∀ vs H Q E,sp vs H Q E->vs.length=ps.length)
  (hbody:∀ (cdv:Value) (A:Around) (outer:List Env) (s:Shared) (H:Hp) (vs:List V) (Q:VK) (E:XK),Room k (A.deeper (envOfC qual (qi st) s.heap.objs.size f cdv))->sp vs H Q E ->
   ∃ t,PSs (qcX CX0 P w K mg base N qual (qi st) f cdv A outer s H E).nox (jL st) t/\t { nx:=fun _ H'=>Q .non H',rt:=Q } (WZ N vs) H):FnOk P w K mg base CX0 (k+1) f fd ps sp:=by
 obtain ⟨oc,od,kV,doc,pm,an,cdv,ct,osl,rfl,lk,hcd⟩:=F.ex
 refine qoE lk hcd S len fun A outer s H vs Q E hr hsp=>?_
 obtain ⟨t,h,q⟩:=hbody cdv A outer s H vs Q E hr hsp
 exact ⟨t,h.nox,q⟩
theorem Fun.binds {x qual:Str} {st:Stmt} {f:Addr} {fd:FuncData} {ps:List Str} (F:Fun K x qual st f fd)
  (h:∀ (kV doc pm:Value) (an:Option Addr) (cdv ct:Value) (us:List Value),us.length=ps.length->bindArgs (PySem.W.fnOf x qual (YA st) (jL st) (qi st) .none kV doc pm an cdv ct) ⟨us,[]⟩=pure (ps.zip us)):zn K fd ps []:=by
 obtain ⟨oc,od,kV,doc,pm,an,cdv,ct,osl,rfl,lk,hcd⟩:=F.ex
 exact .all (h kV doc pm an cdv ct)
theorem qly {x qual:Str} {st:Stmt} {f:Addr} {oc:Value} {od an:Option Addr} {osl:Array (Option Value)} {kV doc pm cdv ct:Value} (l:K.lookup f=some ⟨oc,od,.func (PySem.W.fnOf x qual (YA st) (jL st) (qi st) .none kV doc pm an cdv ct),osl⟩)
  (c:PySem.W.codeIn K cdv qual=true) (k:PySem.W.keepIn K (.ref f)=true):Fun K x qual st f (PySem.W.fnOf x qual (YA st) (jL st) (qi st) .none kV doc pm an cdv ct):=⟨⟨oc,od,kV,doc,pm,an,cdv,ct,osl,rfl,l,c⟩,k⟩
end
section
variable {X:Cx}
end
theorem qny {A B:Prop} (h:B):if false=true then A else B:=by
 rw [if_neg Bool.false_ne_true]
 exact h
theorem qnG {A B:Prop} (h:A):if true=true then A else B:=by
 rw [if_pos rfl]
 exact h
end L2
set_option maxHeartbeats 4000000
namespace L3
open PySem PySem.Spec PyProof.Rows L2
set_option genInjectivity true in
inductive T where
 | non | bl (b:Bool) | int (i:Int) | str (x:Str) | tup (xs:List T) | ref (a:Addr)
inductive O where
 | lst (xs:List T)
 | frz (xs:List T)
abbrev Gp:=Addr->Option O
def gu (G:Gp) (a:Addr) (o:O):Gp:=fun b=>if b=a then some o else G b
theorem qT {G:Gp} {a:Addr} {o:O}:gu G a o a=some o:=by unfold gu;rw [if_pos rfl]
theorem QP {G:Gp} {a b:Addr} {o:O} (h:b≠a):gu G a o b=G b:=by unfold gu;rw [if_neg h]
mutual
inductive Rp (K:PySem.W.Frag) (H:Hp):T->V->Prop
 | non:Rp K H .non .non
 | bl (b:Bool):Rp K H (.bl b) (.bl b)
 | int (i:Int):Rp K H (.int i) (.int i)
 | str (x:Str):Rp K H (.str x) (.str x)
 | ref (a:Addr):Rp K H (.ref a) (.ref a)
 | tup {xs:List T} {a:Addr} {vs:List V}:SqT K H a vs->Rps K H xs vs->Rp K H (.tup xs) (.ref a)
inductive Rps (K:PySem.W.Frag) (H:Hp):List T->List V->Prop
 | nil:Rps K H [] []
 | cons {x:T} {v:V} {xs:List T} {vs:List V}:Rp K H x v->Rps K H xs vs->Rps K H (x :: xs) (v :: vs)
end
def OR (K:PySem.W.Frag) (H:Hp) (a:Addr):O->Prop
 | .lst xs=>∃ vs,H a=some (.lst vs)/\Rps K H xs vs
 | .frz xs=>∃ vs,(∃ o,H a=some (.frz o (.lst vs)))/\Rps K H xs vs
def HR (K:PySem.W.Frag) (G:Gp) (H:Hp):Prop:=∀ a o,G a=some o->OR K H a o
def Kp (G:Gp) (H:Hp) (G':Gp) (H':Hp):Prop:=∀ a o,H a=some o->G a=none->H' a=some o/\G' a=none
theorem Kp.refl {G:Gp} {H:Hp}:Kp G H G H:=fun _ _ h g=>⟨h,g⟩
theorem Kp.trans {G G1 G2:Gp} {H H1 H2:Hp} (a:Kp G H G1 H1) (b:Kp G1 H1 G2 H2):Kp G H G2 H2:=fun x o h g=>
 let ⟨h1,g1⟩:=a x o h g;b x o h1 g1
section
variable {K:PySem.W.Frag} {G G':Gp} {H H':Hp}
theorem HR.noneT (hr:HR K G H) {a:Addr} {vs:List V} (h:Rd H a (.tup vs)):G a=none:=by
 cases e:G a with
 | none=>rfl
 | some o=>
  have q:=hr a o e
  cases o with
  | lst xs=>
   obtain ⟨us,q1,_⟩:=q
   rcases h with h | ⟨ob,h⟩ <;> (rw [q1] at h;cases h)
  | frz xs=>
   obtain ⟨us,⟨o1,q1⟩,_⟩:=q
   rcases h with h | ⟨ob,h⟩ <;> (rw [q1] at h;cases h)
theorem S9 (hr:HR K G H) (k:Kp G H G' H') {a:Addr} {vs:List V} (h:SqT K H a vs):SqT K H' a vs:=by
 rcases h with h | h
 ·have g:=hr.noneT h
  rcases h with h | ⟨o,h⟩
  ·exact .inl (.inl (k a _ h g).1)
  ·exact .inl (.inr ⟨o,(k a _ h g).1⟩)
 ·exact .inr h
mutual
theorem Rp.keep (hr:HR K G H) (k:Kp G H G' H'):∀ {x:T} {v:V},Rp K H x v->Rp K H' x v
 | _,_,.non=>.non
 | _,_,.bl b=>.bl b
 | _,_,.int i=>.int i
 | _,_,.str x=>.str x
 | _,_,.ref a=>.ref a
 | _,_,.tup h hs=>.tup (S9 hr k h) (Rps.keep hr k hs)
theorem Rps.keep (hr:HR K G H) (k:Kp G H G' H'):∀ {x:List T} {v:List V},Rps K H x v->Rps K H' x v
 | _,_,.nil=>.nil
 | _,_,.cons a b=>.cons (Rp.keep hr k a) (Rps.keep hr k b)
end
theorem Rps.length:∀ {xs:List T} {vs:List V},Rps K H xs vs->xs.length=vs.length
 | _,_,.nil=>rfl
 | _,_,.cons _ b=>by simp [Rps.length b]
theorem Rps.get:∀ {xs:List T} {vs:List V} {i:Nat} {x:T},Rps K H xs vs->xs[i]?=some x->∃ v,vs[i]?=some v/\Rp K H x v
 | _,_,_,_,.nil,e=>by simp at e
 | _,_,0,_,.cons r _,e=>by simp at e;subst e;exact ⟨_,rfl,r⟩
 | _,_,i+1,x,.cons _ t,e=>by
  obtain ⟨u,h1,h2⟩:=Rps.get (i:=i) (x:=x) t (by simpa using e)
  exact ⟨u,by simpa using h1,h2⟩
theorem Rps.append:∀ {xs ys:List T} {vs us:List V},Rps K H xs vs->Rps K H ys us->Rps K H (xs++ys) (vs++us)
 | _,_,_,_,.nil,s=>s
 | _,_,_,_,.cons r t,s=>.cons r (Rps.append t s)
theorem Rps.take:∀ {xs:List T} {vs:List V} (n:Nat),Rps K H xs vs->Rps K H (xs.take n) (vs.take n)
 | _,_,0,_=>.nil
 | _,_,_+1,.nil=>.nil
 | _,_,n+1,.cons r t=>.cons r (Rps.take n t)
theorem Rps.drop:∀ {xs:List T} {vs:List V} (n:Nat),Rps K H xs vs->Rps K H (xs.drop n) (vs.drop n)
 | _,_,0,r=>r
 | _,_,_+1,.nil=>.nil
 | _,_,n+1,.cons _ t=>Rps.drop n t
theorem Rps.set {x:T} {v:V} (r:Rp K H x v):∀ {xs:List T} {vs:List V} (i:Nat),Rps K H xs vs->Rps K H (xs.set i x) (vs.set i v)
 | _,_,_,.nil=>.nil
 | _,_,0,.cons _ t=>.cons r t
 | _,_,i+1,.cons q t=>.cons q (Rps.set r i t)
theorem Rps.ints:∀ (ns:List Int),Rps K H (ns.map T.int) (ns.map V.int)
 | []=>.nil
 | n :: r=>.cons (.int n) (Rps.ints r)
theorem Rps.reverse {xs:List T} {vs:List V} (h:Rps K H xs vs):Rps K H xs.reverse vs.reverse:=by
 induction xs generalizing vs with
 | nil=>cases h;exact .nil
 | cons x r ih=>
  cases h with
  | cons a b=>
   rw [List.reverse_cons,List.reverse_cons]
   exact (ih b).append (.cons a .nil)
theorem Kp.laid {p:Addr} {ho:HO} (hp:H p=none):Kp G H G (upd H p ho):=fun a o h g=>⟨by rw [qH (qA h hp)];exact h,g⟩
theorem HR.free (hr:HR K G H) {p:Addr} (hp:H p=none):G p=none:=by
 cases e:G p with
 | none=>rfl
 | some o=>
  have q:=hr p o e
  cases o with
  | lst xs=>obtain ⟨us,q1,_⟩:=q;rw [hp] at q1;cases q1
  | frz xs=>obtain ⟨us,⟨o1,q1⟩,_⟩:=q;rw [hp] at q1;cases q1
theorem OR.keep (hr:HR K G H) (k:Kp G H G' H') {a:Addr} {o:O} (h:OR K H a o) (e:∀ u,H a=some u->H' a=some u):OR K H' a o:=by
 cases o with
 | lst xs=>obtain ⟨vs,h1,h2⟩:=h;exact ⟨vs,e _ h1,h2.keep hr k⟩
 | frz xs=>obtain ⟨vs,⟨o,h1⟩,h2⟩:=h;exact ⟨vs,⟨o,e _ h1⟩,h2.keep hr k⟩
theorem HR.laid (hr:HR K G H) {p:Addr} {ho:HO} (hp:H p=none):HR K G (upd H p ho):=fun a o e=>
 (hr a o e).keep hr (Kp.laid hp) fun u h=>by rw [qH (qA h hp)];exact h
theorem Kp.newL {p:Addr} {ho:HO} {o':O} (hp:H p=none):Kp G H (gu G p o') (upd H p ho):=fun a o h g=>
 ⟨by rw [qH (qA h hp)];exact h,by rw [QP (qA h hp)];exact g⟩
theorem HR.newL (hr:HR K G H) {p:Addr} {xs:List T} {vs:List V} (hp:H p=none) (r:Rps K H xs vs):HR K (gu G p (.lst xs)) (upd H p (.lst vs)):=fun a o e=>by
 by_cases ha:a=p
 ·subst ha
  rw [qT] at e;cases e
  exact ⟨vs,zm,r.keep hr (Kp.laid hp)⟩
 ·rw [QP ha] at e
  exact (hr a o e).keep hr (Kp.laid hp) fun u h=>by rw [qH ha];exact h
theorem Kp.wr {p:Addr} {ho:HO} {o o':O} (g:G p=some o):Kp G H (gu G p o') (upd H p ho):=fun a ob h ga=>by
 have ha:a≠p:=by intro e;subst e;rw [g] at ga;cases ga
 exact ⟨by rw [qH ha];exact h,by rw [QP ha];exact ga⟩
theorem HR.wr (hr:HR K G H) {p:Addr} {ys xs:List T} {vs:List V} (g:G p=some (.lst ys)) (r:Rps K H xs vs):HR K (gu G p (.lst xs)) (upd H p (.lst vs)):=fun a o e=>by
 have k:Kp G H (gu G p (.lst xs)) (upd H p (.lst vs)):=Kp.wr g
 by_cases ha:a=p
 ·subst ha
  rw [qT] at e;cases e
  exact ⟨vs,zm,r.keep hr k⟩
 ·rw [QP ha] at e
  exact (hr a o e).keep hr k fun u h=>by rw [qH ha];exact h
end
abbrev St3:=List (Option T)
structure Rel (K:PySem.W.Frag) (τ:St3) (G:Gp) (σ:L2.St) (H:Hp):Prop where
 hp:HR K G H
 len:τ.length=σ.length
 st:∀ (i:Nat) (t:T),τ[i]?=some (some t)->∃ v,σ[i]?=some (some v)/\Rp K H t v
theorem Rel.next {K:PySem.W.Frag} {τ:St3} {G G':Gp} {σ:L2.St} {H H':Hp} (r:Rel K τ G σ H) (hr:HR K G' H') (k:Kp G H G' H'):Rel K τ G' σ H':=
 ⟨hr,r.len,fun i t e=>let ⟨v,h1,h2⟩:=r.st i t e;⟨v,h1,h2.keep r.hp k⟩⟩
theorem Rel.set {K:PySem.W.Frag} {τ:St3} {G:Gp} {σ:L2.St} {H:Hp} {t:T} {v:V} (r:Rel K τ G σ H) (i:Nat) (h:Rp K H t v):Rel K (τ.set i (some t)) G (σ.set i (some v)) H:=by
 refine ⟨r.hp,by simp [r.len],fun j u e=>?_⟩
 by_cases hij:i=j
 ·subst hij
  rw [List.getElem?_set_self'] at e
  have hl:i < τ.length:=by
   cases q:τ[i]? with
   | none=>rw [q] at e;cases e
   | some z=>exact (List.getElem?_eq_some_iff.mp q).1
  rw [List.getElem?_eq_getElem hl] at e
  have e':t=u:=by simpa using e
  subst e'
  exact ⟨v,by rw [List.getElem?_set_self (by rw [← r.len];exact hl)],h⟩
 ·rw [List.getElem?_set_ne hij] at e
  obtain ⟨w,h1,h2⟩:=r.st j u e
  exact ⟨w,by rw [List.getElem?_set_ne hij];exact h1,h2⟩
abbrev Q3:=T->Gp->Prop
abbrev TE3:=St3->Gp->Q3->Prop
abbrev TT3:=St3->Gp->(Bool->Gp->Prop)->Prop
abbrev TA3:=St3->Gp->(List T->Gp->Prop)->Prop
def Aft (K:PySem.W.Frag) (G:Gp) (H:Hp) (q:Q3) (Q:VK):Prop:=∀ x G',q x G'->∀ v H',Rp K H' x v->HR K G' H'->Kp G H G' H'->Q v H'
def qnM (K:PySem.W.Frag) (G:Gp) (H:Hp) (q:Bool->Gp->Prop) (Q:Bool->Hp->Prop):Prop:=∀ x G',q x G'->∀ H',HR K G' H'->Kp G H G' H'->Q x H'
def qq3 (K:PySem.W.Frag) (G:Gp) (H:Hp) (q:List T->Gp->Prop) (Q:List V->Hp->Prop):Prop:=∀ x G',q x G'->∀ v H',Rps K H' x v->HR K G' H'->Kp G H G' H'->Q v H'
def lE (K:PySem.W.Frag) (t:TE3):TE:=fun σ H Q=>∃ τ G q,Rel K τ G σ H/\t τ G q/\Aft K G H q Q
def lT (K:PySem.W.Frag) (t:TT3):TT:=fun σ H Q=>∃ τ G q,Rel K τ G σ H/\t τ G q/\qnM K G H q Q
def lA (K:PySem.W.Frag) (t:TA3):TA:=fun σ H Q=>∃ τ G q,Rel K τ G σ H/\t τ G q/\qq3 K G H q Q
abbrev E3 (X:Cx) (e:Expr) (t:TE3):Prop:=PE X e (lE X.K t)
abbrev C3 (X:Cx) (e:Expr) (t:TT3):Prop:=PT X e (lT X.K t)
abbrev W3 (X:Cx) (e:Expr) (t:TT3):Prop:=PW X e (lT X.K t)
abbrev A3 (X:Cx) (es:List Expr) (t:TA3):Prop:=PA X es (lA X.K t)
theorem Aft.back {K:PySem.W.Frag} {G G1:Gp} {H H1:Hp} {q:Q3} {Q:VK} (a:Aft K G H q Q) (k:Kp G H G1 H1):Aft K G1 H1 q Q:=fun x G' h v H' r hr k'=>a x G' h v H' r hr (k.trans k')
theorem qnM.back {K:PySem.W.Frag} {G G1:Gp} {H H1:Hp} {q:Bool->Gp->Prop} {Q:Bool->Hp->Prop} (a:qnM K G H q Q) (k:Kp G H G1 H1):qnM K G1 H1 q Q:=fun x G' h H' hr k'=>a x G' h H' hr (k.trans k')
theorem WS {X:Cx} {e:Expr} {t t':TE} (h:PE X e t) (w:∀ σ H Q,t' σ H Q->t σ H Q):PE X e t':=fun pins s σ H Q I q=>h pins s σ H Q I (w σ H Q q)
theorem qpA {X:Cx} {e:Expr} {t t':TT} (h:PT X e t) (w:∀ σ H Q,t' σ H Q->t σ H Q):PT X e t':=fun pins s σ H Q I q=>h pins s σ H Q I (w σ H Q q)
theorem qpU {X:Cx} {e:Expr} {t t':TT} (h:PW X e t) (w:∀ σ H Q,t' σ H Q->t σ H Q):PW X e t':=fun wh pins s σ H Q I q=>h wh pins s σ H Q I (w σ H Q q)
theorem qqx {X:Cx} {e:List Expr} {t t':TA} (h:PA X e t) (w:∀ σ H Q,t' σ H Q->t σ H Q):PA X e t':=fun pos pins s σ H Q I q=>h pos pins s σ H Q I (w σ H Q q)
theorem zK {K:PySem.W.Frag} {ta:TE3} {τ:St3} {G:Gp} {σ:L2.St} {H:Hp} {q:Q3} {Q:VK} (r:Rel K τ G σ H) (h:ta τ G q)
  (n:∀ x G1,q x G1->∀ v H1,Rp K H1 x v->HR K G1 H1->Kp G H G1 H1->Rel K τ G1 σ H1->Q v H1):lE K ta σ H Q:=
 ⟨τ,G,q,r,h,fun x G1 hq v H1 rx hr k=>n x G1 hq v H1 rx hr k (r.next hr k)⟩
theorem LD {K:PySem.W.Frag} {ta:TT3} {τ:St3} {G:Gp} {σ:L2.St} {H:Hp} {q:Bool->Gp->Prop} {Q:Bool->Hp->Prop} (r:Rel K τ G σ H) (h:ta τ G q)
  (n:∀ x G1,q x G1->∀ H1,HR K G1 H1->Kp G H G1 H1->Rel K τ G1 σ H1->Q x H1):lT K ta σ H Q:=
 ⟨τ,G,q,r,h,fun x G1 hq H1 hr k=>n x G1 hq H1 hr k (r.next hr k)⟩
theorem YZ {K:PySem.W.Frag} {ta:TA3} {τ:St3} {G:Gp} {σ:L2.St} {H:Hp} {q:List T->Gp->Prop} {Q:List V->Hp->Prop} (r:Rel K τ G σ H) (h:ta τ G q)
  (n:∀ x G1,q x G1->∀ v H1,Rps K H1 x v->HR K G1 H1->Kp G H G1 H1->Rel K τ G1 σ H1->Q v H1):lA K ta σ H Q:=
 ⟨τ,G,q,r,h,fun x G1 hq v H1 rx hr k=>n x G1 hq v H1 rx hr k (r.next hr k)⟩
section
variable {X:Cx} {a b c:Expr} {ta tb tc:TE3} {pos:Pos}
def v3 (i:Nat):TE3:=fun τ G q=>match τ[i]? with | some (some t)=>q t G | _=>False
theorem qpo (i:Nat) {x:Str} {pos:Pos} (hN:X.N[i]?=some x:=by rfl) (hv:Vis X.env.scope x:=by first | exact Or.inl rfl | exact Or.inr (Or.inl rfl) | exact Or.inr (Or.inr rfl)) (hd:(x == ("__debug__" : Str))=false:=by decide)
  (hcd:(x == ("__classdict__" : Str))=false:=by decide):E3 X (.Name x pos) (v3 i):=by
 refine WS (qmQ (i:=i) hN hv hd hcd) fun σ H Q ⟨τ,G,q,r,h,af⟩=>?_
 unfold v3 at h
 split at h
 ·rename_i t e
  obtain ⟨v,e2,rv⟩:=r.st i t e
  exact ⟨v,e2,af t G h v H rv r.hp Kp.refl⟩
 ·exact h.elim
def c3 (t:T):TE3:=fun _ G q=>q t G
theorem e_c {t:T} {v:V} {e:Expr} (h:PE X e (tC v)) (hr:∀ H,Rp X.K H t v):E3 X e (c3 t):=WS h fun σ H Q ⟨τ,G,q,r,h,af⟩=>af t G h v H (hr H) r.hp Kp.refl
theorem qpz {i:Int} {j pos}:E3 X (.Constant (.int i) j pos) (c3 (.int i)):=e_c qiz fun _=>.int i
theorem qqW {b:Bool} {j pos}:E3 X (.Constant (.bool b) j pos) (c3 (.bl b)):=e_c qoX fun _=>.bl b
theorem qpk {j pos}:E3 X (.Constant .none j pos) (c3 .non):=e_c qiY fun _=>.non
theorem qoS {x:Str} {j pos}:E3 X (.Constant (.str x) j pos) (c3 (.str x)):=e_c qew fun _=>.str x
def n3:TE3:=fun _ _ _=>False
abbrev R3:=T->T->Gp->Q3->Prop
def W2 (K:PySem.W.Frag) (r3:R3) (r:R2):Prop:=∀ x y v u G H q Q,HR K G H->Rp K H x v->Rp K H y u->r3 x y G q->Aft K G H q Q->r v u H Q
def o3 (r:R3) (ta tb:TE3):TE3:=fun τ G q=>ta τ G fun x G1=>tb τ G1 fun y G2=>r x y G2 q
theorem qd4 {K:PySem.W.Frag} {r3:R3} {r:R2} (hr:W2 K r3 r) {σ:L2.St} {H:Hp} {Q:VK} (h:lE K (o3 r3 ta tb) σ H Q):tOp r (lE K ta) (lE K tb) σ H Q:=by
 obtain ⟨τ,G,q,rl,h,af⟩:=h
 refine zK rl h fun x G1 h1 v H1 rx hr1 k1 rl1=>zK rl1 h1 fun y G2 h2 u H2 ry hr2 k2 rl2=>?_
 exact hr x y v u G2 H2 q Q hr2 (rx.keep hr1 k2) ry h2 (af.back (k1.trans k2))
theorem qgQ {op:Operator} {r3:R3} {r:R2} (ho:OpR X (binaryOp op) r) (hr:W2 X.K r3 r) (ha:E3 X a ta) (hb:E3 X b tb):E3 X (.BinOp a op b pos) (o3 r3 ta tb):=
 WS (qnY ho ha hb) fun _ _ _ h=>qd4 hr h
theorem qpa {op:CmpOp} {r3:R3} {r:R2} (ho:OpR X (compareOp op) r) (hr:W2 X.K r3 r) (ha:E3 X a ta) (hb:E3 X b tb) (hm:behindInMarks op b=false):E3 X (.Compare a [op] [b] pos) (o3 r3 ta tb):=
 WS (qhA ho ha hb hm) fun _ _ _ h=>qd4 hr h
def tb3 (t:TE3):TT3:=fun τ G q=>t τ G fun x G'=>match x with | .bl k=>q k G' | _=>False
theorem qkL {K:PySem.W.Frag} {t:TE3} {t2:TE} (hw:∀ σ H Q,lE K t σ H Q->t2 σ H Q) {σ:L2.St} {H:Hp} {Q:Bool->Hp->Prop} (h:lT K (tb3 t) σ H Q):qmz t2 σ H Q:=by
 obtain ⟨τ,G,q,rl,h,af⟩:=h
 refine hw _ _ _ (zK rl h fun x G1 h1 v H1 rx hr1 k1 rl1=>?_)
 cases x with
 | bl k=>cases rx;exact ⟨k,rfl,af k G1 h1 H1 hr1 k1⟩
 | _=>exact h1.elim
theorem qn8 {op:CmpOp} {r3:R3} {r:R2} (ho:OpR X (compareOp op) r) (hr:W2 X.K r3 r) (ha:E3 X a ta) (hb:E3 X b tb) (hm:behindInMarks op b=false):C3 X (.Compare a [op] [b] pos) (tb3 (o3 r3 ta tb)):=
 qpA (qgI ho ha hb hm) fun _ _ _ h=>qkL (fun _ _ _=>qd4 hr) h
def ch3 (r r':R3) (ta tb tc:TE3):TE3:=fun τ G q=>ta τ G fun x G1=>tb τ G1 fun y G2=>r x y G2 fun z G3=>match z with
 | .bl k=>if k=true then tc τ G3 fun w G4=>r' y w G4 q else q (.bl false) G3
 | _=>False
theorem qo3 {K:PySem.W.Frag} {r3 r3':R3} {r r':R2} (hr:W2 K r3 r) (hr':W2 K r3' r') {σ:L2.St} {H:Hp} {Q:VK} (h:lE K (ch3 r3 r3' ta tb tc) σ H Q):qea r r' (lE K ta) (lE K tb) (lE K tc) σ H Q:=by
 obtain ⟨τ,G,q,rl,h,af⟩:=h
 refine zK rl h fun x G1 h1 v H1 rx hr1 k1 rl1=>zK rl1 h1 fun y G2 h2 u H2 ry hr2 k2 rl2=>?_
 refine hr x y v u G2 H2 _ _ hr2 (rx.keep hr1 k2) ry h2 fun z G3 h3 w H3 rz hr3 k3=>?_
 cases z with
 | bl k=>
  cases rz
  refine ⟨k,rfl,?_⟩
  cases k with
  | false=>
   rw [if_neg Bool.false_ne_true]
   rw [show (match T.bl false with | .bl k=>if k=true then tc τ G3 fun w G4=>r3' y w G4 q else q (.bl false) G3 | _=>False)=q (.bl false) G3 from by simp] at h3
   exact af _ G3 h3 _ H3 (.bl false) hr3 ((k1.trans k2).trans k3)
  | true=>
   rw [if_pos rfl]
   refine zK (rl2.next hr3 k3) (show tc τ G3 fun w G4=>r3' y w G4 q from by simpa using h3) fun w G4 h4 w' H4 rw' hr4 k4 rl4=>?_
   exact hr' y w _ _ G4 H4 q Q hr4 ((ry.keep hr2 k3).keep hr3 k4) rw' h4 (af.back (((k1.trans k2).trans k3).trans k4))
 | _=>exact h3.elim
theorem qg0 {op op':CmpOp} {r3 r3':R3} {r r':R2} (ho:OpR X (compareOp op) r) (hr:W2 X.K r3 r) (ho':OpR X (compareOp op') r') (hr':W2 X.K r3' r') (ha:E3 X a ta) (hb:E3 X b tb) (hc:E3 X c tc)
  (hm:lastMarks [op,op'] [b,c]=false:=by with_unfolding_all rfl):E3 X (.Compare a [op,op'] [b,c] pos) (ch3 r3 r3' ta tb tc):=
 WS (qdp ho ho' ha hb hc hm) fun _ _ _ h=>qo3 hr hr' h
def qp1 (K:PySem.W.Frag) (r3:T->Gp->Q3->Prop) (r:V->Hp->VK->Prop):Prop:=∀ x v G H q Q,HR K G H->Rp K H x v->r3 x G q->Aft K G H q Q->r v H Q
def u3 (r:T->Gp->Q3->Prop) (ta:TE3):TE3:=fun τ G q=>ta τ G fun x G1=>r x G1 q
theorem qqM {op:UnaryOp} {r3:T->Gp->Q3->Prop} {r:V->Hp->VK->Prop} (ho:UnR X (unaryOp op) r) (hr:qp1 X.K r3 r) (ha:E3 X a ta):E3 X (.UnaryOp op a pos) (u3 r3 ta):=
 WS (qoM ho ha) fun _ _ _ ⟨τ,G,q,rl,h,af⟩=>zK rl h fun x G1 h1 v H1 rx hr1 k1 rl1=>hr x v G1 H1 q _ hr1 rx h1 (af.back k1)
def qcY:T->Gp->Q3->Prop:=fun x G q=>match x with | .int i=>q (.int (-i)) G | _=>False
theorem qg2 {K:PySem.W.Frag}:qp1 K qcY (rU fun i=>.int (-i)):=fun x v G H q Q hr rx h af=>by
 cases x with
 | int i=>cases rx;exact ⟨i,rfl,af _ G h _ H (.int _) hr Kp.refl⟩
 | _=>exact h.elim
def iI (f:Int->Int->Int):R3:=fun x y G q=>match x,y with | .int i,.int j=>q (.int (f i j)) G | _,_=>False
def iC (C:Int->Int->Prop) (f:Int->Int->Int):R3:=fun x y G q=>match x,y with | .int i,.int j=>C i j/\q (.int (f i j)) G | _,_=>False
def iB (f:Int->Int->Bool):R3:=fun x y G q=>match x,y with | .int i,.int j=>q (.bl (f i j)) G | _,_=>False
theorem qkG {K:PySem.W.Frag} {f:Int->Int->Int}:W2 K (iI f) (rI0 fun i j=>.int (f i j)):=fun x y v u G H q Q hr rx ry h af=>by
 cases x <;> try exact h.elim
 cases y <;> try exact h.elim
 cases rx;cases ry
 exact ⟨_,_,rfl,rfl,af _ G h _ H (.int _) hr Kp.refl⟩
theorem KR {K:PySem.W.Frag} {C:Int->Int->Prop} {f:Int->Int->Int}:W2 K (iC C f) (rI C fun i j=>.int (f i j)):=fun x y v u G H q Q hr rx ry h af=>by
 cases x <;> try exact h.elim
 cases y <;> try exact h.elim
 cases rx;cases ry
 exact ⟨_,_,rfl,rfl,h.1,af _ G h.2 _ H (.int _) hr Kp.refl⟩
theorem ZC {K:PySem.W.Frag} {f:Int->Int->Bool}:W2 K (iB f) (rI0 fun i j=>.bl (f i j)):=fun x y v u G H q Q hr rx ry h af=>by
 cases x <;> try exact h.elim
 cases y <;> try exact h.elim
 cases rx;cases ry
 exact ⟨_,_,rfl,rfl,af _ G h _ H (.bl _) hr Kp.refl⟩
theorem qoD (ha:E3 X a ta) (hb:E3 X b tb):E3 X (.BinOp a .Sub b pos) (o3 (iI (· - ·)) ta tb):=qgQ qli qkG ha hb
theorem qn3 (ha:E3 X a ta) (hb:E3 X b tb):E3 X (.BinOp a .Mult b pos) (o3 (iC jP (· * ·)) ta tb):=qgQ qiZ KR ha hb
theorem qpM (ha:E3 X a ta) (hb:E3 X b tb):E3 X (.BinOp a .Mod b pos) (o3 (iC (fun _ j=>0 < j) (· % ·)) ta tb):=qgQ qmD KR ha hb
theorem qnU (ha:E3 X a ta) (hb:E3 X b tb):E3 X (.BinOp a .FloorDiv b pos) (o3 (iC qaF (· / ·)) ta tb):=qgQ qhQ KR ha hb
theorem qob (ha:E3 X a ta) (hb:E3 X b tb):E3 X (.BinOp a .Pow b pos) (o3 (iC LN (fun i j=>i ^ j.toNat)) ta tb):=qgQ qjz KR ha hb
theorem qo2 (ha:E3 X a ta) (hb:E3 X b tb):E3 X (.BinOp a .LShift b pos) (o3 (iC LN (fun i j=>i * 2 ^ j.toNat)) ta tb):=qgQ qmH KR ha hb
theorem qn1 (ha:E3 X a ta):E3 X (.UnaryOp .USub a pos) (u3 qcY ta):=qqM qix qg2 ha
def YQ:T->T->Option Bool
 | .non,.non=>some true | .non,.int _=>some false | .int _,.non=>some false | .non,.bl _=>some false | .bl _,.non=>some false | .non,.str _=>some false | .str _,.non=>some false
 | .int i,.int j=>some (decide (i=j)) | .bl i,.bl j=>some (decide (i=j)) | .str i,.str j=>some (decide (i=j))
 | .int _,.str _=>some false | .str _,.int _=>some false | .bl _,.str _=>some false | .str _,.bl _=>some false
 | _,_=>none
theorem M2 {K:PySem.W.Frag} {H:Hp} {x y:T} {v u:V} {k:Bool} (rx:Rp K H x v) (ry:Rp K H y u) (h:YQ x y=some k):qoT v u=true/\decide (v=u)=k:=by
 cases rx <;> cases ry <;> simp [YQ] at h <;> subst h <;> refine ⟨rfl,?_⟩ <;> simp
def qah (neg:Bool):R3:=fun x y G q=>match y with | .non=>q (.bl (match x with | .non=>!neg | _=>neg)) G | _=>False
theorem qfs {K:PySem.W.Frag} {H:Hp} {x:T} {v:V} (rx:Rp K H x v):decide (v=.non)=(match x with | .non=>true | _=>false):=by
 cases rx <;> simp
theorem SS {K:PySem.W.Frag}:W2 K (qah false) (fun x y H Q=>y=.non/\Q (.bl (decide (x=.non))) H):=fun x y v u G H q Q hr rx ry h af=>by
 cases y <;> try exact h.elim
 cases ry
 refine ⟨rfl,?_⟩
 rw [qfs rx]
 refine af _ G h _ H ?_ hr Kp.refl
 cases x <;> exact .bl _
theorem WR {K:PySem.W.Frag}:W2 K (qah true) (fun x y H Q=>y=.non/\Q (.bl (!decide (x=.non))) H):=fun x y v u G H q Q hr rx ry h af=>by
 cases y <;> try exact h.elim
 cases ry
 refine ⟨rfl,?_⟩
 rw [qfs rx]
 refine af _ G h _ H ?_ hr Kp.refl
 cases x <;> exact .bl _
variable {tA tB:TT3} {JJ:List Expr}
def qdE (t u:TT3):TT3:=fun τ G q=>t τ G fun k G1=>if k=true then u τ G1 q else q false G1
def or3 (t u:TT3):TT3:=fun τ G q=>t τ G fun k G1=>if k=true then q true G1 else u τ G1 q
def K7 (t:TT3):TT3:=fun τ G q=>t τ G fun k G1=>q (!k) G1
theorem qmY (ha:C3 X a tA):W3 X (.BoolOp .And [a] pos) tA:=qgL ha
theorem qpE (ha:C3 X a tA):W3 X (.BoolOp .Or [a] pos) tA:=qkk ha
theorem qpw (ha:C3 X a tA) (hb:W3 X (.BoolOp .And (b :: JJ) pos) tB):W3 X (.BoolOp .And (a :: b :: JJ) pos) (qdE tA tB):=
 qpU (qkH ha hb) fun _ _ _ ⟨τ,G,q,rl,h,af⟩=>LD rl h fun k G1 h1 H1 hr1 k1 rl1=>by
  cases k with
  | true=>rw [if_pos rfl] at h1 ⊢;exact ⟨τ,G1,q,rl1,h1,af.back k1⟩
  | false=>rw [if_neg Bool.false_ne_true] at h1 ⊢;exact af _ G1 h1 H1 hr1 k1
theorem qrg (ha:C3 X a tA) (hb:W3 X (.BoolOp .Or (b :: JJ) pos) tB):W3 X (.BoolOp .Or (a :: b :: JJ) pos) (or3 tA tB):=
 qpU (qoN ha hb) fun _ _ _ ⟨τ,G,q,rl,h,af⟩=>LD rl h fun k G1 h1 H1 hr1 k1 rl1=>by
  cases k with
  | true=>rw [if_pos rfl] at h1 ⊢;exact af _ G1 h1 H1 hr1 k1
  | false=>rw [if_neg Bool.false_ne_true] at h1 ⊢;exact ⟨τ,G1,q,rl1,h1,af.back k1⟩
theorem qoA (ha:C3 X a tA):C3 X (.UnaryOp .Not a pos) (K7 tA):=
 qpA (qmc ha) fun _ _ _ ⟨τ,G,q,rl,h,af⟩=>LD rl h fun k G1 h1 H1 hr1 k1 rl1=>af _ G1 h1 H1 hr1 k1
theorem qpP {e:Expr} {t:TE3} (h:E3 X e t) (he:∀ whole,isTrue e X.env whole=(do let v ← whole;standAt e.pos;holding [v] (truthy v)):=by intro _;rfl):C3 X e (tb3 t):=
 qpA (qmO h he) fun _ _ _ h=>qkL (fun _ _ _ h=>h) h
def QJ (ta tb:TE3):TE3:=fun τ G q=>ta τ G fun x G1=>match x with | .bl k=>if k=true then tb τ G1 q else q (.bl false) G1 | _=>False
def qcN (ta:TE3):TE3:=fun τ G q=>ta τ G fun x G1=>match x with | .bl k=>q (.bl (!k)) G1 | _=>False
theorem qoW {op} (h:E3 X a ta):E3 X (.BoolOp op [a] pos) ta:=qle h
theorem qoY (ha:E3 X a ta) (hb:E3 X (.BoolOp .And (b :: JJ) pos) tb):E3 X (.BoolOp .And (a :: b :: JJ) pos) (QJ ta tb):=
 WS (qlm ha hb) fun _ _ _ ⟨τ,G,q,rl,h,af⟩=>zK rl h fun x G1 h1 v H1 rx hr1 k1 rl1=>by
  cases x with
  | bl k=>
   cases rx
   refine ⟨k,rfl,?_⟩
   cases k with
   | true=>rw [if_pos rfl];exact ⟨τ,G1,q,rl1,(show tb τ G1 q from by simpa using h1),af.back k1⟩
   | false=>rw [if_neg Bool.false_ne_true];exact af _ G1 (by simpa using h1) _ H1 (.bl false) hr1 k1
  | _=>exact h1.elim
theorem qoU (ha:E3 X a ta):E3 X (.UnaryOp .Not a pos) (qcN ta):=
 WS (qjO ha) fun _ _ _ ⟨τ,G,q,rl,h,af⟩=>zK rl h fun x G1 h1 v H1 rx hr1 k1 rl1=>by
  cases x with
  | bl k=>cases rx;exact ⟨k,rfl,af _ G1 h1 _ H1 (.bl _) hr1 k1⟩
  | _=>exact h1.elim
def if3 (t:TT3) (ta tb:TE3):TE3:=fun τ G q=>t τ G fun k G1=>if k=true then ta τ G1 q else tb τ G1 q
theorem qqY {c:Expr} (hc:C3 X c tA) (ha:E3 X a ta) (hb:E3 X b tb):E3 X (.IfExp c a b pos) (if3 tA ta tb):=
 WS (qde hc ha hb) fun _ _ _ ⟨τ,G,q,rl,h,af⟩=>LD rl h fun k G1 h1 H1 hr1 k1 rl1=>by
  cases k with
  | true=>rw [if_pos rfl] at h1 ⊢;exact ⟨τ,G1,q,rl1,h1,af.back k1⟩
  | false=>rw [if_neg Bool.false_ne_true] at h1 ⊢;exact ⟨τ,G1,q,rl1,h1,af.back k1⟩
variable {e:Expr} {es:List Expr} {te:TE3} {t:TA3}
def qj:TA3:=fun _ G q=>q [] G
def qc (ta:TE3) (tr:TA3):TA3:=fun τ G q=>ta τ G fun x G1=>tr τ G1 fun xs G2=>q (x :: xs) G2
theorem qoG:A3 X [] qj:=qqx RD fun _ H _ ⟨τ,G,q,rl,h,af⟩=>af _ G h _ H .nil rl.hp Kp.refl
theorem qiD (ha:E3 X e te) (hr:A3 X es t) (hs:starEach (e :: es) X.env=(false,eval e X.env) :: starEach es X.env:=by rfl):A3 X (e :: es) (qc te t):=
 qqx (J3 ha hr hs) fun _ _ _ ⟨τ,G,q,rl,h,af⟩=>zK rl h fun x G1 h1 v H1 rx hr1 k1 rl1=>YZ rl1 h1 fun xs G2 h2 vs H2 rs hr2 k2 rl2=>
  af _ G2 h2 _ H2 (.cons (rx.keep hr1 k2) rs) hr2 (k1.trans k2)
def QU (t:TA3):TE3:=fun τ G q=>t τ G fun xs G1=>xs.length<=sizeLine/\q (.tup xs) G1
def XS (t:TA3):TE3:=fun τ G q=>t τ G fun xs G1=>xs.length<=sizeLine/\∀ p,G1 p=none->q (.ref p) (gu G1 p (.lst xs))
theorem qpG {x1} (h:A3 X es t):E3 X (.Tuple es x1 pos) (QU t):=
 WS (qeK h) fun _ _ _ ⟨τ,G,q,rl,h,af⟩=>YZ rl h fun xs G1 h1 vs H1 rs hr1 k1 rl1=>⟨by rw [← rs.length];exact h1.1,fun p hp=>
  af _ G1 h1.2 _ _ (.tup (SqT.of zm) (rs.keep hr1 (Kp.laid hp))) (hr1.laid hp) (k1.trans (Kp.laid hp))⟩
theorem qnZ (h:A3 X es t):E3 X (.List es pos) (XS t):=
 WS (qmB h) fun _ _ _ ⟨τ,G,q,rl,h,af⟩=>YZ rl h fun xs G1 h1 vs H1 rs hr1 k1 rl1=>⟨by rw [← rs.length];exact h1.1,fun p hp=>
  af _ _ (h1.2 p (hr1.free hp)) _ _ (.ref p) (hr1.newL hp rs) (k1.trans (Kp.newL hp))⟩
def M1 (K:PySem.W.Frag) (r3:List T->Gp->Q3->Prop) (r:List V->Hp->VK->Prop):Prop:=∀ xs vs G H q Q,HR K G H->Rps K H xs vs->r3 xs G q->Aft K G H q Q->r vs H Q
def cb3 (r:List T->Gp->Q3->Prop) (t:TA3):TE3:=fun τ G q=>t τ G fun xs G1=>r xs G1 q
theorem qlI {K:PySem.W.Frag} {r3:List T->Gp->Q3->Prop} {r:List V->Hp->VK->Prop} (hr:M1 K r3 r) {σ:L2.St} {H:Hp} {Q:VK} (h:lE K (cb3 r3 t) σ H Q):tCB r (lA K t) σ H Q:=by
 obtain ⟨τ,G,q,rl,h,af⟩:=h
 exact YZ rl h fun xs G1 h1 vs H1 rs hr1 k1 rl1=>hr xs vs G1 H1 q Q hr1 rs h1 (af.back k1)
theorem qhj {x:Str} {p:Pos} {id:String} {r3:List T->Gp->Q3->Prop} {r:List V->Hp->VK->Prop} (hc:YH X (.builtin id) r) (hr:M1 X.K r3 r) (hg:Gl X x) (hm:X.mg x=none) (hv:bootBuiltins x=some (.builtin id)) (ha:A3 X (e :: es) t) (hn:x≠"__name__" := by decide) (hdb:(x == ("__debug__" : Str))=false:=by decide)
  (he:starEach (e :: es) X.env=(false,eval e X.env) :: starEach es X.env:=by rfl) (hpl:(backTo pos (starEach es X.env)).any (·.1)=false:=by rfl):E3 X (.Call (.Name x p) (e :: es) [] pos) (cb3 r3 t):=
 WS (WU hc hg hm hv ha hn hdb he hpl) fun _ _ _ h=>qlI hr h
theorem qdy {x:Str} {p:Pos} {ty:String} {r3:List T->Gp->Q3->Prop} {r:List V->Hp->VK->Prop} (hc:YH X (.type ty) r) (hr:M1 X.K r3 r) (hg:Gl X x) (hm:X.mg x=none) (hv:bootBuiltins x=some (.type ty)) (ha:A3 X (e :: es) t) (hn:x≠"__name__" := by decide) (hdb:(x == ("__debug__" : Str))=false:=by decide)
  (he:starEach (e :: es) X.env=(false,eval e X.env) :: starEach es X.env:=by rfl) (hpl:(backTo pos (starEach es X.env)).any (·.1)=false:=by rfl):E3 X (.Call (.Name x p) (e :: es) [] pos) (cb3 r3 t):=
 WS (KF hc hg hm hv ha hn hdb he hpl) fun _ _ _ h=>qlI hr h
end
end L3
namespace L3
open PySem PySem.Spec PyProof.Rows L2
def getL (G:Gp) (p:Addr):Option (List T):=match G p with | some (.lst xs)=>some xs | some (.frz xs)=>some xs | none=>none
section
variable {K:PySem.W.Frag} {G G':Gp} {H H':Hp}
theorem jh (hr:HR K G H) {p:Addr} {xs:List T} (h:getL G p=some xs):∃ vs,SqL K H p vs/\Rps K H xs vs:=by
 unfold getL at h
 split at h
 ·rename_i ys e;cases h
  obtain ⟨vs,h1,h2⟩:=hr p _ e
  exact ⟨vs,SqL.of h1,h2⟩
 ·rename_i ys e;cases h
  obtain ⟨vs,⟨o,h1⟩,h2⟩:=hr p _ e
  exact ⟨vs,.inl (.inr ⟨o,h1⟩),h2⟩
 ·cases h
theorem HR.lst (hr:HR K G H) {p:Addr} {xs:List T} (h:G p=some (.lst xs)):∃ vs,H p=some (.lst vs)/\Rps K H xs vs:=hr p _ h
theorem Rps.atI {xs:List T} {vs:List V} {i:Int} {x:T} (r:Rps K H xs vs) (h:atI xs i=some x):∃ v,L2.atI vs i=some v/\Rp K H x v:=by
 unfold L2.atI at h ⊢
 rw [← r.length]
 cases e:ixN xs.length i with
 | none=>rw [e] at h;cases h
 | some j=>
  rw [e] at h
  exact r.get (by simpa using h)
end
def ix3:R3:=fun x y G q=>match x,y with
 | .tup xs,.int i=>(match atI xs i with | some z=>q z G | none=>False)
 | .ref p,.int i=>(match getL G p with | some xs=>(match atI xs i with | some z=>q z G | none=>False) | none=>False)
 | _,_=>False
section
variable {X:Cx} {a b c e:Expr} {es:List Expr} {ta tb tc te:TE3} {t:TA3} {pos:Pos}
theorem qj0 {K:PySem.W.Frag}:W2 K ix3 (rIx K):=fun x y v u G H q Q hr rx ry h af=>by
 cases x <;> try exact h.elim
 case tup xs=>
  cases y <;> try exact h.elim
  case int i=>
   unfold ix3 at h
   simp only at h
   split at h
   ·rename_i z e
    cases ry
    cases rx with
    | tup hs rs=>
     obtain ⟨w,e2,rw'⟩:=rs.atI e
     exact .inr (.inl ⟨_,_,i,w,rfl,rfl,hs,e2,af z G h w H rw' hr Kp.refl⟩)
   ·exact h.elim
 case ref p=>
  cases y <;> try exact h.elim
  case int i=>
   unfold ix3 at h
   simp only at h
   split at h
   ·rename_i xs e0
    split at h
    ·rename_i z e
     cases ry
     cases rx
     obtain ⟨vs,hs,rs⟩:=jh hr e0
     obtain ⟨w,e2,rw'⟩:=rs.atI e
     exact .inl ⟨p,vs,i,w,rfl,rfl,hs,e2,af z G h w H rw' hr Kp.refl⟩
    ·exact h.elim
   ·exact h.elim
theorem qq0 (ha:E3 X a ta) (hb:E3 X b tb) (hs:EU b:=by intro _ _;rfl):E3 X (.Subscript a b pos) (o3 ix3 ta tb):=WS (qmn qjP ha hb hs) fun _ _ _ h=>qd4 qj0 h
def qas {α:Type} (xs:List α) (lo hi:Option Int):List α:=(xs.drop (HT.sIx xs.length 0 lo)).take (HT.sIx xs.length xs.length hi - HT.sIx xs.length 0 lo)
theorem Rps.cut {K:PySem.W.Frag} {H:Hp} {xs:List T} {vs:List V} (r:Rps K H xs vs) (lo hi:Option Int):Rps K H (qas xs lo hi) (qft vs lo hi):=by
 unfold qas qft
 rw [r.length]
 exact (r.drop _).take _
abbrev TO3:=St3->Gp->(Option Int->Gp->Prop)->Prop
def lO (K:PySem.W.Frag) (t:TO3):TO:=fun σ H Q=>∃ τ G q,Rel K τ G σ H/\t τ G q/\∀ x G',q x G'->∀ H',HR K G' H'->Kp G H G' H'->Q x H'
abbrev P3 (X:Cx) (e:Option Expr) (t:TO3):Prop:=PO X e (lO X.K t)
def np3:TO3:=fun _ G q=>q none G
def sp3 (t:TE3):TO3:=fun τ G q=>t τ G fun x G1=>match x with | .int i=>q (some i) G1 | _=>False
theorem qqr {X:Cx} {e:Option Expr} {t t':TO} (h:PO X e t) (w:∀ σ H Q,t' σ H Q->t σ H Q):PO X e t':=fun pins s σ H Q I q=>h pins s σ H Q I (w σ H Q q)
theorem qkb:P3 X none np3:=qqr qhR fun _ H _ ⟨τ,G,q,rl,h,af⟩=>af none G h H rl.hp Kp.refl
theorem qkj (h:E3 X e te):P3 X (some e) (sp3 te):=qqr (qhV h) fun _ _ _ ⟨τ,G,q,rl,h,af⟩=>zK rl h fun x G1 h1 v H1 rx hr1 k1 rl1=>by
 cases x <;> try exact h1.elim
 cases rx
 exact ⟨_,rfl,af _ G1 h1 H1 hr1 k1⟩
def sl3:T->Option Int->Option Int->Gp->Q3->Prop:=fun x lo hi G q=>match x with
 | .tup xs=>¬ (HT.sIx xs.length 0 lo=0/\HT.sIx xs.length xs.length hi=xs.length)/\q (.tup (qas xs lo hi)) G
 | .ref p=>(match getL G p with | some xs=>∀ a,G a=none->q (.ref a) (gu G a (.lst (qas xs lo hi))) | none=>False)
 | _=>False
def qiw (te:TE3) (tl th:TO3):TE3:=fun τ G q=>te τ G fun x G1=>tl τ G1 fun l G2=>th τ G2 fun u G3=>sl3 x l u G3 q
theorem qhr {lo hi:Option Expr} {tl th:TO3} {p2:Pos} (he:E3 X e te) (hl:P3 X lo tl) (hu:P3 X hi th):E3 X (.Subscript e (.Slice lo hi none p2) pos) (qiw te tl th):=
 WS (qc5 (qm2.or qg8) he hl hu) fun _ _ _ ⟨τ,G,q,rl,h,af⟩=>zK rl h fun x G1 h1 v H1 rx hr1 k1 rl1=>
  ⟨τ,G1,_,rl1,h1,fun l G2 h2 H2 hr2 k2=>⟨τ,G2,_,rl1.next hr2 k2,h2,fun u G3 h3 H3 hr3 k3=>by
   have kk:=(k1.trans k2).trans k3
   have rx3:=(rx.keep hr1 k2).keep hr2 k3
   cases x <;> try exact h3.elim
   case tup xs=>
    cases rx3 with
    | tup hs rs=>
     refine .inl ⟨_,_,rfl,hs,by rw [← rs.length];exact h3.1,fun p hp=>?_⟩
     exact af _ G3 h3.2 _ _ (.tup (SqT.of zm) ((rs.cut _ _).keep hr3 (Kp.laid hp))) (hr3.laid hp) (kk.trans (Kp.laid hp))
   case ref p=>
    unfold sl3 at h3
    simp only at h3
    split at h3
    ·rename_i xs e0
     cases rx3
     obtain ⟨vs,hs,rs⟩:=jh hr3 e0
     refine .inr ⟨p,vs,rfl,hs,fun a ha=>?_⟩
     exact af _ _ (h3 a (hr3.free ha)) _ _ (.ref a) (hr3.newL ha (rs.cut _ _)) (kk.trans (Kp.newL ha))
    ·exact h3.elim⟩⟩
theorem qbs {K:PySem.W.Frag} {H:Hp} {xs:List T} {vs:List V} (r:Rps K H xs vs):vs=[] ↔ xs=[]:=by
 cases r <;> simp
def jN:R3:=fun x y G q=>match x,y with
 | .tup xs,.tup ys=>xs≠[]/\xs.length+ys.length<=sizeLine/\q (.tup (xs++ys)) G
 | .ref a,.ref b=>(match G a,G b with | some (.lst xs),some (.lst ys)=>xs.length+ys.length<=sizeLine/\∀ p,G p=none->q (.ref p) (gu G p (.lst (xs++ys))) | _,_=>False)
 | .int i,.int j=>q (.int (i+j)) G
 | _,_=>False
theorem qhg {K:PySem.W.Frag}:W2 K jN (fun x y H Q=>(rI0 (fun i j=>.int (i+j)) x y H Q\/qju K x y H Q)\/qqc x y H Q):=fun x y v u G H q Q hr rx ry h af=>by
 cases x <;> try exact h.elim
 case int i=>
  cases y <;> try exact h.elim
  cases rx;cases ry
  exact .inl (.inl ⟨_,_,rfl,rfl,af _ G h _ H (.int _) hr Kp.refl⟩)
 case tup xs=>
  cases y <;> try exact h.elim
  case tup ys=>
   obtain ⟨h1,h2,h3⟩:=h
   cases rx with
   | tup hs rs=>
    cases ry with
    | tup hs' rs'=>
     refine .inl (.inr ⟨_,_,_,_,rfl,rfl,hs,hs',fun z=>h1 ((qbs rs).mp z),by rw [← rs.length,← rs'.length];exact h2,fun z=>?_,fun z p hp=>?_⟩)
     ·have e:=(qbs rs').mp z
      subst e
      rw [List.append_nil] at h3
      exact af _ G h3 _ H (.tup hs rs) hr Kp.refl
     ·exact af _ G h3 _ _ (.tup (SqT.of zm) ((rs.append rs').keep hr (Kp.laid hp))) (hr.laid hp) (Kp.laid hp)
 case ref a=>
  cases y <;> try exact h.elim
  case ref b=>
   unfold jN at h
   simp only at h
   split at h
   ·rename_i xs ys e1 e2
    cases rx;cases ry
    obtain ⟨vs,g1,r1⟩:=hr.lst e1
    obtain ⟨us,g2,r2⟩:=hr.lst e2
    refine .inr ⟨a,b,vs,us,rfl,rfl,g1,g2,by rw [← r1.length,← r2.length];exact h.1,fun p hp=>?_⟩
    exact af _ _ (h.2 p (hr.free hp)) _ _ (.ref p) (hr.newL hp (r1.append r2)) (Kp.newL hp)
   ·exact h.elim
theorem qjc (ha:E3 X a ta) (hb:E3 X b tb):E3 X (.BinOp a .Add b pos) (o3 jN ta tb):=qgQ ((qlS.or qgC).or qjb) qhg ha hb
def DY:List T->Gp->Q3->Prop:=fun xs G q=>match xs with
 | [.tup ys]=>q (.int ys.length) G
 | [.str y]=>y.length<=sizeLine/\q (.int y.length) G
 | [.ref p]=>(match getL G p with | some ys=>q (.int ys.length) G | none=>False)
 | _=>False
theorem K3 {K:PySem.W.Frag} {H:Hp} {x:T} {vs:List V} (r:Rps K H [x] vs):∃ v,vs=[v]/\Rp K H x v:=by
 cases r with
 | cons a b=>cases b;exact ⟨_,rfl,a⟩
theorem qnP {K:PySem.W.Frag} {H:Hp} {x y:T} {vs:List V} (r:Rps K H [x,y] vs):∃ v u,vs=[v,u]/\Rp K H x v/\Rp K H y u:=by
 cases r with
 | cons a b=>cases b with | cons c d=>cases d;exact ⟨_,_,rfl,a,c⟩
theorem zW {K:PySem.W.Frag}:M1 K DY (fun xs H Q=>∃ x n,xs=[x]/\qpR K x H n/\Q (.int n) H):=fun xs vs G H q Q hr rs h af=>by
 unfold DY at h
 split at h
 ·obtain ⟨v,rfl,r⟩:=K3 rs
  cases r with
  | tup hs r2=>exact ⟨_,_,rfl,.inr ⟨_,hs,rfl⟩,by rw [← r2.length];exact af _ G h _ H (.int _) hr Kp.refl⟩
 ·obtain ⟨v,rfl,r⟩:=K3 rs
  cases r
  exact ⟨_,_,rfl,⟨h.1,rfl⟩,af _ G h.2 _ H (.int _) hr Kp.refl⟩
 ·obtain ⟨v,rfl,r⟩:=K3 rs
  split at h
  ·rename_i ys e
   cases r
   obtain ⟨us,hs,r2⟩:=jh hr e
   exact ⟨_,_,rfl,.inl ⟨_,hs,rfl⟩,by rw [← r2.length];exact af _ G h _ H (.int _) hr Kp.refl⟩
  ·exact h.elim
 ·exact h.elim
def qng:List T->Gp->Q3->Prop:=fun xs G q=>match xs with | [.int i]=>q (.int (if i < 0 then -i else i)) G | _=>False
theorem qaU {K:PySem.W.Frag}:M1 K qng (fun xs H Q=>∃ i,xs=[.int i]/\Q (.int (if i < 0 then -i else i)) H):=fun xs vs G H q Q hr rs h af=>by
 unfold qng at h
 split at h
 ·obtain ⟨v,rfl,r⟩:=K3 rs
  cases r
  exact ⟨_,rfl,af _ G h _ H (.int _) hr Kp.refl⟩
 ·exact h.elim
def qkq:List T->Gp->Q3->Prop:=fun xs G q=>match xs with | [.int i,.int j]=>q (.int (if j < i then j else i)) G | _=>False
theorem qgA {K:PySem.W.Frag}:M1 K qkq (fun xs H Q=>∃ i j,xs=[.int i,.int j]/\Q (.int (if j < i then j else i)) H):=fun xs vs G H q Q hr rs h af=>by
 unfold qkq at h
 split at h
 ·obtain ⟨v,u,rfl,r,r'⟩:=qnP rs
  cases r;cases r'
  exact ⟨_,_,rfl,af _ G h _ H (.int _) hr Kp.refl⟩
 ·exact h.elim
def qc0:List T->Gp->Q3->Prop:=fun xs G q=>match xs with | [.int i]=>q (.int i) G | [.bl k]=>q (.int (if k then 1 else 0)) G | _=>False
theorem LU {K:PySem.W.Frag}:M1 K qc0 (fun xs H Q=>(∃ i,xs=[.int i]/\Q (.int i) H)\/∃ k,xs=[.bl k]/\Q (.int (if k then 1 else 0)) H):=fun xs vs G H q Q hr rs h af=>by
 unfold qc0 at h
 split at h
 ·obtain ⟨v,rfl,r⟩:=K3 rs
  cases r
  exact .inl ⟨_,rfl,af _ G h _ H (.int _) hr Kp.refl⟩
 ·obtain ⟨v,rfl,r⟩:=K3 rs
  cases r
  exact .inr ⟨_,rfl,af _ G h _ H (.int _) hr Kp.refl⟩
 ·exact h.elim
def X6:List T->Gp->Q3->Prop:=fun xs G q=>match xs with
 | [.tup ys]=>q (.tup ys) G
 | [.ref p]=>(match getL G p with | some ys=>q (.tup ys) G | none=>False)
 | _=>False
theorem KB {K:PySem.W.Frag}:M1 K X6 (fun xs H Q=>∃ p ys,xs=[.ref p]/\((SqL K H p ys/\∀ l,H l=none->Q (.ref l) (upd H l (.tup ys)))\/(SqT K H p ys/\Q (.ref p) H))):=fun xs vs G H q Q hr rs h af=>by
 unfold X6 at h
 split at h
 ·obtain ⟨v,rfl,r⟩:=K3 rs
  cases r with
  | tup hs r2=>exact ⟨_,_,rfl,.inr ⟨hs,af _ G h _ H (.tup hs r2) hr Kp.refl⟩⟩
 ·obtain ⟨v,rfl,r⟩:=K3 rs
  split at h
  ·rename_i ys e
   cases r
   obtain ⟨us,hs,r2⟩:=jh hr e
   exact ⟨_,_,rfl,.inl ⟨hs,fun l hl=>af _ G h _ _ (.tup (SqT.of zm) (r2.keep hr (Kp.laid hl))) (hr.laid hl) (Kp.laid hl)⟩⟩
  ·exact h.elim
 ·exact h.elim
def N4:List T->Gp->Q3->Prop:=fun xs G q=>match xs with
 | [.tup ys]=>∀ p,G p=none->q (.ref p) (gu G p (.lst ys))
 | [.ref p]=>(match getL G p with | some ys=>∀ p,G p=none->q (.ref p) (gu G p (.lst ys)) | none=>False)
 | _=>False
theorem NB {K:PySem.W.Frag}:M1 K N4 (fun xs H Q=>∃ p ys,xs=[.ref p]/\(SqL K H p ys\/SqT K H p ys)/\∀ l,H l=none->Q (.ref l) (upd H l (.lst ys))):=fun xs vs G H q Q hr rs h af=>by
 unfold N4 at h
 split at h
 ·obtain ⟨v,rfl,r⟩:=K3 rs
  cases r with
  | tup hs r2=>exact ⟨_,_,rfl,.inr hs,fun l hl=>af _ _ (h l (hr.free hl)) _ _ (.ref l) (hr.newL hl r2) (Kp.newL hl)⟩
 ·obtain ⟨v,rfl,r⟩:=K3 rs
  split at h
  ·rename_i ys e
   cases r
   obtain ⟨us,hs,r2⟩:=jh hr e
   exact ⟨_,_,rfl,.inl hs,fun l hl=>af _ _ (h l (hr.free hl)) _ _ (.ref l) (hr.newL hl r2) (Kp.newL hl)⟩
  ·exact h.elim
 ·exact h.elim
def qgD:T->List T->Gp->Q3->Prop:=fun x xs G q=>match x,xs with
 | .ref l,[.ref b]=>(match G l,G b with | some (.lst ys),some (.lst zs)=>ys.length+zs.length<=sizeLine/\q .non (gu G l (.lst (ys++zs))) | _,_=>False)
 | _,_=>False
def qcV:T->List T->Gp->Q3->Prop:=fun x xs G q=>match x,xs with
 | .ref l,[y]=>(match G l with | some (.lst ys)=>ys.length < sizeLine/\q .non (gu G l (.lst (ys++[y]))) | _=>False)
 | _,_=>False
def qpI (K:PySem.W.Frag) (r3:T->List T->Gp->Q3->Prop) (r:V->List V->Hp->VK->Prop):Prop:=∀ x xs v vs G H q Q,HR K G H->Rp K H x v->Rps K H xs vs->r3 x xs G q->Aft K G H q Q->r v vs H Q
theorem qhh {K:PySem.W.Frag}:qpI K qgD qco:=fun x xs v vs G H q Q hr rx rs h af=>by
 unfold qgD at h
 split at h
 ·rename_i l b
  split at h
  ·rename_i ys zs e1 e2
   cases rx
   obtain ⟨u,rfl,r⟩:=K3 rs
   cases r
   obtain ⟨vs,g1,r1⟩:=hr.lst e1
   obtain ⟨us,g2,r2⟩:=hr.lst e2
   exact ⟨l,b,vs,us,rfl,rfl,g1,g2,by rw [← r1.length,← r2.length];exact h.1,af _ _ h.2 _ _ .non (hr.wr e1 (r1.append r2)) (Kp.wr e1)⟩
  ·exact h.elim
 ·exact h.elim
theorem qhC {K:PySem.W.Frag}:qpI K qcV qcm:=fun x xs v vs G H q Q hr rx rs h af=>by
 unfold qcV at h
 split at h
 ·rename_i l y
  split at h
  ·rename_i ys e1
   cases rx
   obtain ⟨u,rfl,r⟩:=K3 rs
   obtain ⟨vs,g1,r1⟩:=hr.lst e1
   exact ⟨l,vs,u,rfl,rfl,g1,by rw [← r1.length];exact h.1,af _ _ h.2 _ _ .non (hr.wr e1 (r1.append (.cons r .nil))) (Kp.wr e1)⟩
  ·exact h.elim
 ·exact h.elim
def bm3 (r:T->List T->Gp->Q3->Prop) (to:TE3) (t:TA3):TE3:=fun τ G q=>to τ G fun x G1=>(match x with | .ref p=>(getL G1 p).isSome=true | _=>False)/\t τ G1 fun xs G2=>r x xs G2 q
theorem qqt {o:Expr} {to:TE3} {name:Str} {apos cpos:Pos} {id:String} {r3:T->List T->Gp->Q3->Prop} {r:V->List V->Hp->VK->Prop} (slot:Slot "list" name id) (hty:typeOf (.builtin id)=pure (.type "method_descriptor")) (hm:MtR X id r) (hr:qpI X.K r3 r) (ho:E3 X o to) (ha:A3 X (e :: es) t)
  (hbase:attributeBase o name X.env (eval o X.env)=eval o X.env:=by rfl)
  (hfew:((backTo cpos (starEach (e :: es) X.env)).all (fun x=>!x.1) && (backToKw cpos (keywordEach [] X.env)).all (fun x=>x.1.isSome)
   && decide ((e :: es).length+([]:List Keyword).length+(if ([]:List Keyword).isEmpty then 0 else 1) < 30))=true:=by rfl)
  (hline:(apos.endLine == cpos.line)=true:=by rfl) (hs:starEach (e :: es) X.env=(false,eval e X.env) :: starEach es X.env:=by rfl) (hplain:(backTo cpos (starEach es X.env)).any (·.1)=false:=by rfl) :
  E3 X (.Call (.Attribute o name apos) (e :: es) [] cpos) (bm3 r3 to t):=
 WS (qpv PySem.F.plainAttrs_list slot hty hm ho ha hbase hfew hline hs hplain) fun _ _ _ ⟨τ,G,q,rl,h,af⟩=>zK rl h fun x G1 h1 v H1 rx hr1 k1 rl1=>by
  obtain ⟨hp,h1⟩:=h1
  cases x <;> try exact hp.elim
  case ref p=>
   cases rx
   have hp':(getL G1 p).isSome=true:=hp
   obtain ⟨ys,e⟩:=Option.isSome_iff_exists.mp hp'
   obtain ⟨us,hs,r2⟩:=jh hr1 e
   exact ⟨.inl ⟨rfl,us,hs⟩,YZ rl1 h1 fun xs G2 h2 vs H2 rs hr2 k2 rl2=>hr _ xs _ vs G2 H2 q _ hr2 (.ref p) rs h2 (af.back (k1.trans k2))⟩
theorem qdq {o:Expr} {to:TE3} {apos cpos:Pos} (ho:E3 X o to) (ha:A3 X [e] t)
  (hbase:attributeBase o "append" X.env (eval o X.env)=eval o X.env:=by rfl)
  (hfew:((backTo cpos (starEach [e] X.env)).all (fun x=>!x.1) && (backToKw cpos (keywordEach [] X.env)).all (fun x=>x.1.isSome)
   && decide (([e]:List Expr).length+([]:List Keyword).length+(if ([]:List Keyword).isEmpty then 0 else 1) < 30))=true:=by rfl)
  (hline:(apos.endLine == cpos.line)=true:=by rfl) (hs:starEach [e] X.env=(false,eval e X.env) :: starEach [] X.env:=by rfl) (hplain:(backTo cpos (starEach [] X.env)).any (·.1)=false:=by rfl) :
  E3 X (.Call (.Attribute o "append" apos) [e] [] cpos) (bm3 qcV to t):=qqt PySem.F.slot_list_append PySem.F.type_list_append UW qhC ho ha hbase hfew hline hs hplain
theorem qdL {o:Expr} {to:TE3} {apos cpos:Pos} (ho:E3 X o to) (ha:A3 X [e] t)
  (hbase:attributeBase o "extend" X.env (eval o X.env)=eval o X.env:=by rfl)
  (hfew:((backTo cpos (starEach [e] X.env)).all (fun x=>!x.1) && (backToKw cpos (keywordEach [] X.env)).all (fun x=>x.1.isSome)
   && decide (([e]:List Expr).length+([]:List Keyword).length+(if ([]:List Keyword).isEmpty then 0 else 1) < 30))=true:=by rfl)
  (hline:(apos.endLine == cpos.line)=true:=by rfl) (hs:starEach [e] X.env=(false,eval e X.env) :: starEach [] X.env:=by rfl) (hplain:(backTo cpos (starEach [] X.env)).any (·.1)=false:=by rfl) :
  E3 X (.Call (.Attribute o "extend" apos) [e] [] cpos) (bm3 qgD to t):=qqt PySem.F.slot_list_extend PySem.F.type_list_extend qba qhh ho ha hbase hfew hline hs hplain
end
end L3
namespace L3
open PySem PySem.Spec PyProof.Rows L2
def tyT (G:Gp):T->Option String
 | .non=>some "NoneType" | .bl _=>some "bool" | .int _=>some "int" | .str _=>some "str" | .tup _=>some "tuple"
 | .ref p=>if (getL G p).isSome then some "list" else none
def j5 (t c:String):Bool:=t == c || (t == "bool" && c == "int")
theorem SO (K:PySem.W.Frag):∀ t∈["NoneType","bool","int","str","tuple","list"],∀ c∈["bool","int","str","tuple","list"],PySem.W.kitOne K (.type t) (.type c)=some (j5 t c):=by
 intro t ht c hc
 simp only [List.mem_cons,List.not_mem_nil,or_false] at ht hc
 rcases ht with rfl | rfl | rfl | rfl | rfl | rfl <;> rcases hc with rfl | rfl | rfl | rfl | rfl <;> kernel_rfl
section
variable {X:Cx} {a b c e:Expr} {es:List Expr} {ta tb tc te:TE3} {t:TA3} {pos:Pos}
def TyS (K:PySem.W.Frag) (H:Hp) (x:V) (t:String):Prop:=match x with
 | .non=>t="NoneType" | .bl _=>t="bool" | .int _=>t="int" | .str _=>t="str"
 | .ref a=>(t="tuple"/\∃ vs,SqT K H a vs)\/(t="list"/\∃ vs,SqL K H a vs)
 | _=>False
theorem TyS.mem {K:PySem.W.Frag} {H:Hp} {x:V} {t:String} (h:TyS K H x t):t∈["NoneType","bool","int","str","tuple","list"]:=by
 cases x <;> simp [TyS] at h <;> first | (subst h;decide) | (rcases h with ⟨rfl,_⟩ | ⟨rfl,_⟩ <;> decide)
theorem TyS.kitx {pins:List (Addr×Obj)} {σ:L2.St} {H:Hp} {s:Shared} {x:V} {u:Value} {t:String} (I:Inv X pins σ H s) (rx:j8 x u) (h:TyS X.K H x t) :
  ∃ HH:Heap->Prop,PySem.W.KitX X.K u (.type t) HH/\HH s.heap/\u≠.builtin "__main__.__loader__#opaque" := by
 cases x with
 | non=>cases (show u=Value.none from rx);cases (show t=_ from h);exact ⟨_,PySem.W.kitx_none,True.intro,fun z=>nomatch z⟩
 | bl y=>cases (show u=Value.bool y from rx);cases (show t=_ from h);exact ⟨_,PySem.W.kitx_bool,True.intro,fun z=>nomatch z⟩
 | int i=>obtain ⟨tk,q⟩:=(show ∃ t,u=Value.int i t from rx);cases q;cases (show t=_ from h);exact ⟨_,PySem.W.kitx_int,True.intro,fun z=>nomatch z⟩
 | str y=>obtain ⟨tk,q⟩:=(show ∃ t,u=Value.str y t from rx);cases q;cases (show t=_ from h);exact ⟨_,PySem.W.kitx_str,True.intro,fun z=>nomatch z⟩
 | ref a=>
  cases (show u=Value.ref a from rx)
  rcases (show (t="tuple"/\∃ vs,SqT X.K H a vs)\/(t="list"/\∃ vs,SqL X.K H a vs) from h) with ⟨rfl,vs,hs⟩ | ⟨rfl,vs,hs⟩
  ·obtain ⟨its,_,p,_⟩:=I.tuple hs
   obtain ⟨o,h1,h2,_⟩:=p
   exact ⟨_,PySem.W.kitx_tuple,⟨o,h1,h2⟩,fun z=>nomatch z⟩
  ·obtain ⟨its,_,p,_⟩:=I.list hs
   obtain ⟨o,n,h1,h2,_⟩:=p
   exact ⟨_,PySem.W.kitx_list,⟨o,h1,h2⟩,fun z=>nomatch z⟩
 | _=>exact False.elim h
abbrev ZE:List String:=["bool","int","str","tuple","list"]
theorem qdT:YH X (.builtin "isinstance") (fun xs H Q=>∃ x t c,xs=[x,.ty c]/\TyS X.K H x t/\c∈ZE/\Q (.bl (j5 t c)) H):=by
 intro pins s σ H xs us Q I r h
 obtain ⟨x,t,c,rfl,ht,hc,q⟩:=h
 obtain ⟨u,w,rfl,rx,rc⟩:=qbA r
 cases (show w=Value.type c from rc)
 obtain ⟨HH,kx,hh,ne⟩:=ht.kitx I rx
 exact PySem.W.kia_one kx I.kIn hh (SO X.K t ht.mem c hc) ne fun tk=>⟨.bl _,H,I.tok tk,rfl,q⟩
theorem qdh (K:PySem.W.Frag) {t c d:String} (ht:t∈["NoneType","bool","int","str","tuple","list"]) (hc:c∈ZE) (hd:d∈ZE):PySem.W.kitAny K (.type t) [.type c,.type d]=some (j5 t c || j5 t d):=by
 unfold PySem.W.kitAny
 rw [SO K t ht c hc]
 cases j5 t c with
 | true=>rfl
 | false=>
  show PySem.W.kitAny K (.type t) [.type d]=_
  unfold PySem.W.kitAny
  rw [SO K t ht d hd]
  cases j5 t d <;> rfl
theorem qb5:YH X (.builtin "isinstance") (fun xs H Q=>∃ x t c d p,xs=[x,.ref p]/\H p=some (.tup [.ty c,.ty d])/\TyS X.K H x t/\c∈ZE/\d∈ZE/\Q (.bl (j5 t c || j5 t d)) H):=by
 intro pins s σ H xs us Q I r h
 obtain ⟨x,t,c,d,p,rfl,hp,ht,hc,hd,q⟩:=h
 obtain ⟨u,w,rfl,rx,rc⟩:=qbA r
 cases (show w=Value.ref p from rc)
 obtain ⟨HH,kx,hh,ne⟩:=ht.kitx I rx
 obtain ⟨_,its,rv,⟨o,ho,hcl,n,hda⟩⟩:=(show UQ X.prog X.w H s.heap p (.tup [.ty c,.ty d]) from I.hok p _ hp)
 obtain ⟨u1,u2,rfl,r1,r2⟩:=qbA rv
 cases (show u1=Value.type c from r1)
 cases (show u2=Value.type d from r2)
 obtain ⟨cl,dd,da,sl⟩:=o
 cases (show cl=_ from hcl)
 cases (show da=_ from hda)
 exact PySem.W.kia_tup kx I.kIn hh ho (qdh X.K ht.mem hc hd) ne fun tk=>⟨.bl _,H,I.tok tk,rfl,q⟩
theorem qel {K:PySem.W.Frag} {G:Gp} {H:Hp} (hr:HR K G H) {x:T} {v:V} {t:String} (r:Rp K H x v) (h:tyT G x=some t):TyS K H v t:=by
 cases r with
 | non=>cases h;rfl
 | bl _=>cases h;rfl
 | int _=>cases h;rfl
 | str _=>cases h;rfl
 | tup hs rs=>cases h;exact .inl ⟨rfl,_,hs⟩
 | ref a=>
  have h:(if (getL G a).isSome then some "list" else none)=some t:=h
  split at h
  ·rename_i e
   cases h
   obtain ⟨ys,e⟩:=Option.isSome_iff_exists.mp e
   obtain ⟨us,hs,_⟩:=jh hr e
   exact .inr ⟨rfl,us,hs⟩
  ·cases h
def CH (f:String->Bool) (te:TE3):TE3:=fun τ G q=>te τ G fun x G1=>match tyT G1 x with | some t=>q (.bl (f t)) G1 | none=>False
theorem qpp {tn:Str} {ty:String} {p p2:Pos} (he:E3 X e te) (hg:Gl X "isinstance") (hm:X.mg "isinstance" = none) (hg2:Gl X tn) (hm2:X.mg tn=none) (hv:bootBuiltins tn=some (.type ty)) (hmem:ty∈ZE:=by decide) (hn:tn≠"__name__" := by decide) (hdb:(tn == ("__debug__" : Str))=false:=by decide)
  (hs:starEach [e,.Name tn p2] X.env=(false,eval e X.env) :: starEach [.Name tn p2] X.env:=by rfl) (hs2:starEach [.Name tn p2] X.env=(false,eval (.Name tn p2) X.env) :: starEach [] X.env:=by rfl) (hpl:(backTo pos (starEach [.Name tn p2] X.env)).any (·.1)=false:=by rfl) :
  E3 X (.Call (.Name "isinstance" p) [e,.Name tn p2] [] pos) (CH (fun t=>j5 t ty) te):=
 WS (WU qdT hg hm PyProof.Rows.boot_isinstance (J3 he (J3 (MD (v:=.ty ty) hg2 hm2 hv rfl hn hdb) RD hs2) hs) (by decide) (by decide) hs hpl)
  fun _ _ _ ⟨τ,G,q,rl,h,af⟩=>zK rl h fun x G1 h1 v H1 rx hr1 k1 rl1=>by
   split at h1
   ·rename_i t e1
    exact ⟨_,t,ty,rfl,qel hr1 rx e1,hmem,af _ G1 h1 _ H1 (.bl _) hr1 k1⟩
   ·exact h1.elim
theorem qlY {tn tn':Str} {ty ty':String} {p p2 p3 p4:Pos} {x1} (he:E3 X e te) (hg:Gl X "isinstance") (hm:X.mg "isinstance" = none) (hg2:Gl X tn) (hm2:X.mg tn=none) (hv:bootBuiltins tn=some (.type ty)) (hg3:Gl X tn') (hm3:X.mg tn'=none) (hv3:bootBuiltins tn'=some (.type ty'))
  (hmem:ty∈ZE:=by decide) (hn:tn≠"__name__" := by decide) (hdb:(tn == ("__debug__" : Str))=false:=by decide) (hmem3:ty'∈ZE:=by decide) (hn3:tn'≠"__name__" := by decide) (hdb3:(tn' == ("__debug__" : Str))=false:=by decide)
  (hs:starEach [e,.Tuple [.Name tn p2,.Name tn' p3] x1 p4] X.env=(false,eval e X.env) :: starEach [.Tuple [.Name tn p2,.Name tn' p3] x1 p4] X.env:=by rfl) (hs2:starEach [.Tuple [.Name tn p2,.Name tn' p3] x1 p4] X.env=(false,eval (.Tuple [.Name tn p2,.Name tn' p3] x1 p4) X.env) :: starEach [] X.env:=by rfl)
  (hs3:starEach [.Name tn p2,.Name tn' p3] X.env=(false,eval (.Name tn p2) X.env) :: starEach [.Name tn' p3] X.env:=by rfl) (hs4:starEach [.Name tn' p3] X.env=(false,eval (.Name tn' p3) X.env) :: starEach [] X.env:=by rfl)
  (hpl:(backTo pos (starEach [.Tuple [.Name tn p2,.Name tn' p3] x1 p4] X.env)).any (·.1)=false:=by rfl) :
  E3 X (.Call (.Name "isinstance" p) [e,.Tuple [.Name tn p2,.Name tn' p3] x1 p4] [] pos) (CH (fun t=>j5 t ty || j5 t ty') te):=
 WS (WU qb5 hg hm PyProof.Rows.boot_isinstance (J3 he (J3 (qeK (J3 (MD (v:=.ty ty) hg2 hm2 hv rfl hn hdb) (J3 (MD (v:=.ty ty') hg3 hm3 hv3 rfl hn3 hdb3) RD hs4) hs3)) RD hs2) hs) (by decide) (by decide) hs hpl)
  fun _ _ _ ⟨τ,G,q,rl,h,af⟩=>zK rl h fun x G1 h1 v H1 rx hr1 k1 rl1=>by
   refine ⟨by show 2<=sizeLine;decide,fun pp hp=>?_⟩
   split at h1
   ·rename_i t e1
    have hr2:=hr1.laid (ho:=.tup [.ty ty,.ty ty']) hp
    have kk:Kp G1 H1 G1 (upd H1 pp (.tup [.ty ty,.ty ty'])):=Kp.laid hp
    exact ⟨_,t,ty,ty',pp,rfl,zm,qel hr2 (rx.keep hr1 kk) e1,hmem,hmem3,af _ G1 h1 _ _ (.bl _) hr2 (k1.trans kk)⟩
   ·exact h1.elim
structure Ends3 where
 nx:St3->Gp->Prop
 rt:Q3
 bk:St3->Gp->Prop:=fun _ _=>False
 ct:St3->Gp->Prop:=fun _ _=>False
abbrev TS3:=Ends3->St3->Gp->Prop
def qeB (K:PySem.W.Frag) (G:Gp) (H:Hp) (q:St3->Gp->Prop) (Q:L2.St->Hp->Prop):Prop:=∀ τ G',q τ G'->∀ σ H',Rel K τ G' σ H'->Kp G H G' H'->Q σ H'
structure AftD (K:PySem.W.Frag) (G:Gp) (H:Hp) (d:Ends3) (D:Ends):Prop where
 nx:qeB K G H d.nx D.nx
 rt:Aft K G H d.rt D.rt
 bk:qeB K G H d.bk D.bk
 ct:qeB K G H d.ct D.ct
theorem qeB.back {K:PySem.W.Frag} {G G1:Gp} {H H1:Hp} {q:St3->Gp->Prop} {Q:L2.St->Hp->Prop} (a:qeB K G H q Q) (k:Kp G H G1 H1):qeB K G1 H1 q Q:=fun x G' h v H' r k'=>a x G' h v H' r (k.trans k')
theorem AftD.back {K:PySem.W.Frag} {G G1:Gp} {H H1:Hp} {d:Ends3} {D:Ends} (a:AftD K G H d D) (k:Kp G H G1 H1):AftD K G1 H1 d D:=⟨a.nx.back k,a.rt.back k,a.bk.back k,a.ct.back k⟩
def lS (K:PySem.W.Frag) (t:TS3):TS:=fun D σ H=>∃ τ G d,Rel K τ G σ H/\t d τ G/\AftD K G H d D
abbrev S3 (X:Cx) (st:Stmt) (t:TS3):Prop:=PS X st (lS X.K t)
abbrev B3 (X:Cx) (st:List Stmt) (t:TS3):Prop:=PSs X st (lS X.K t)
theorem qfY {X:Cx} {st:Stmt} {t t':TS} (h:PS X st t) (w:∀ D σ H,t' D σ H->t D σ H):PS X st t':=fun pins s σ H D I q=>h pins s σ H D I (w D σ H q)
theorem qnl {X:Cx} {st:List Stmt} {t t':TS} (h:PSs X st t) (w:∀ D σ H,t' D σ H->t D σ H):PSs X st t':=fun pins s σ H D I q=>h pins s σ H D I (w D σ H q)
variable {st:Stmt} {JJ:List Stmt} {t1 t2:TS3} {tA:TT3}
def qO:TS3:=fun d τ G=>d.nx τ G
def qS (t u:TS3):TS3:=fun d τ G=>t { d with nx:=u d } τ G
theorem qol:B3 X [] qO:=qnl qhL fun _ σ H ⟨τ,G,d,rl,h,af⟩=>af.nx τ G h σ H rl Kp.refl
theorem qkp (h1:S3 X st t1) (h2:B3 X JJ t2):B3 X (st :: JJ) (qS t1 t2):=qnl (qdd h1 h2) fun D σ H ⟨τ,G,d,rl,h,af⟩=>
 ⟨τ,G,{ d with nx:=t2 d },rl,h,⟨fun τ' G' h' σ' H' rl' k'=>⟨τ',G',d,rl',h',af.back k'⟩,af.rt,af.bk,af.ct⟩⟩
theorem qpr (h1:S3 X st t1):B3 X [st] t1:=qhP h1
def XV (te:TE3):TS3:=fun d τ G=>te τ G fun _ G1=>d.nx τ G1
theorem qk7 (he:E3 X e te) (hs:swapsWith e none pos.line X.env=pure false:=by rfl):S3 X (.Expr e pos) (XV te):=qfY (qhZ he hs) fun _ σ H ⟨τ,G,d,rl,h,af⟩=>
 zK rl h fun x G1 h1 v H1 rx hr1 k1 rl1=>af.nx τ G1 h1 σ H1 rl1 k1
def za (te:TE3):TS3:=fun d τ G=>te τ G d.rt
theorem qn9 (he:E3 X e te):S3 X (.Return (some e) pos) (za te):=qfY (qjU he) fun _ σ H ⟨τ,G,d,rl,h,af⟩=>⟨τ,G,d.rt,rl,h,af.rt⟩
def jt (c:TT3) (t u:TS3):TS3:=fun d τ G=>c τ G fun k G1=>if k=true then t d τ G1 else u d τ G1
theorem qqT {c:Expr} {ba bb:List Stmt} (hc:C3 X c tA) (ha:B3 X ba t1) (hb:B3 X bb t2):S3 X (.If c ba bb pos) (jt tA t1 t2):=qfY (qoI hc ha hb) fun _ σ H ⟨τ,G,d,rl,h,af⟩=>
 LD rl h fun k G1 h1 H1 hr1 k1 rl1=>by
  cases k with
  | true=>rw [if_pos rfl] at h1 ⊢;exact ⟨τ,G1,d,rl1,h1,af.back k1⟩
  | false=>rw [if_neg Bool.false_ne_true] at h1 ⊢;exact ⟨τ,G1,d,rl1,h1,af.back k1⟩
def qnL:TS3:=fun _ _ _=>False
theorem qgY {sts:List Stmt}:B3 X sts qnL:=fun _ _ _ _ _ _ ⟨_,_,_,_,h,_⟩=>h.elim
abbrev TG3:=T->St3->Gp->(St3->Gp->Prop)->Prop
abbrev LK:=List T->St3->Gp->(St3->Gp->Prop)->Prop
def lG (K:PySem.W.Frag) (t:TG3):TG:=fun v σ H Q=>∃ x τ G q,Rp K H x v/\Rel K τ G σ H/\t x τ G q/\qeB K G H q Q
def lGs (K:PySem.W.Frag) (t:LK):TGs:=fun v σ H Q=>∃ x τ G q,Rps K H x v/\Rel K τ G σ H/\t x τ G q/\qeB K G H q Q
abbrev G3 (X:Cx) (e:Expr) (t:TG3):Prop:=PG X e (lG X.K t)
abbrev Gs3 (X:Cx) (es:List Expr) (t:LK):Prop:=PGs X es (lGs X.K t)
theorem qox {X:Cx} {e:Expr} {t t':TG} (h:PG X e t) (w:∀ v σ H Q,t' v σ H Q->t v σ H Q):PG X e t':=fun pins s σ H v u Q I r q=>h pins s σ H v u Q I r (w v σ H Q q)
theorem qj1 {X:Cx} {e:List Expr} {t t':TGs} (h:PGs X e t) (w:∀ v σ H Q,t' v σ H Q->t v σ H Q):PGs X e t':=fun pins s σ H v u Q I r q=>h pins s σ H v u Q I r (w v σ H Q q)
def gn3 (i:Nat):TG3:=fun x τ G q=>q (τ.set i (some x)) G
theorem qi0 {i:Nat} {x:Str} (hN:X.N.Nodup) (hi:X.N[i]?=some x:=by rfl) (hx:Loc X.env.scope x:=by first | exact Or.inl rfl | exact Or.inr rfl) (hf:X.fn x=true\/X.env.scope.names.lookup x=some .local:=by first | exact .inl rfl | exact .inr rfl):G3 X (.Name x pos) (gn3 i):=
 qox (qg3 hN hi hx hf) fun v σ H Q ⟨x,τ,G,q,rx,rl,h,af⟩=>af _ G h _ H (rl.set i rx) Kp.refl
def jp:LK:=fun xs τ G q=>match xs with | []=>q τ G | _=>False
def qr (t:TG3) (u:LK):LK:=fun xs τ G q=>match xs with | x :: r=>t x τ G fun τ' G'=>u r τ' G' q | []=>False
theorem qow:Gs3 X [] jp:=qj1 qhW fun v σ H Q ⟨x,τ,G,q,rx,rl,h,af⟩=>by
 cases rx with
 | nil=>exact ⟨rfl,af _ G h _ H rl Kp.refl⟩
 | cons _ _=>exact h.elim
theorem qi3 {tg:TG3} {tgs:LK} (h1:G3 X e tg) (h2:Gs3 X es tgs) (hs:(assignEach (e :: es) X.env).map (·.2)=assign e X.env :: (assignEach es X.env).map (·.2):=by rfl):Gs3 X (e :: es) (qr tg tgs):=qj1 (qd1 h1 h2 hs) fun v σ H Q ⟨x,τ,G,q,rx,rl,h,af⟩=>by
 cases rx with
 | nil=>exact h.elim
 | cons r rs=>exact ⟨_,_,rfl,_,τ,G,_,r,rl,h,fun τ' G' h' σ' H' rl' k'=>⟨_,τ',G',q,rs.keep rl.hp k',rl',h',af.back k'⟩⟩
def jr (n:Nat) (t:LK):TG3:=fun x τ G q=>match x with | .tup xs=>xs.length=n/\t xs τ G q | _=>False
theorem qou {k:Nat} {tgs:LK} {n:Nat} (hc:X.calm=true) (h:Gs3 X es tgs) (hn:(assignEach es X.env).length=n:=by rfl) (hst:(assignEach es X.env).findIdx? (·.1)=none:=by rfl):G3 X (.Tuple es k pos) (jr n tgs):=
 qox (qlN hc h hn hst) fun v σ H Q ⟨x,τ,G,q,rx,rl,h,af⟩=>by
  cases x <;> try exact h.elim
  case tup xs=>
   cases rx with
   | tup hs rs=>exact ⟨_,_,rfl,hs,by rw [← rs.length];exact h.1,_,τ,G,q,rs,rl,h.2,af⟩
def qib:T->T->T->Gp->(Gp->Prop)->Prop:=fun o i v G q=>match o,i with
 | .ref p,.int k=>(match G p with | some (.lst xs)=>(match ixN xs.length k with | some j=>q (gu G p (.lst (xs.set j v))) | none=>False) | _=>False)
 | _,_=>False
def TD (to ti:TE3):TG3:=fun x τ G q=>to τ G fun o G1=>ti τ G1 fun i G2=>qib o i x G2 fun G3=>q τ G3
theorem qoi {o i : Expr} {to ti : TE3} (ho : E3 X o to) (hi : E3 X i ti) (ha : ∀ v,assign (.Subscript o i pos) X.env v = (do
      let ov ← holding [v] (eval o X.env)
      let iv ← holding [v,ov] (eval i X.env)
      standAt pos
      holding [v,ov,iv] (setItem ov iv v)
      release [v,ov,iv] []):=by intro _;rfl):G3 X (.Subscript o i pos) (TD to ti):=
  qox (ql1 ho hi qdN ha) fun v σ H Q ⟨x,τ,G,q,rx,rl,h,af⟩=>zK rl h fun y G1 h1 u H1 ry hr1 k1 rl1=>zK rl1 h1 fun z G2 h2 w H2 rz hr2 k2 rl2=>by
    have rx2:=(rx.keep rl.hp k1).keep hr1 k2
    have ry2:=ry.keep hr1 k2
    unfold qib at h2
    split at h2
    · rename_i p k
      split at h2
      · rename_i xs e
        split at h2
        · rename_i j ej
          cases ry2;cases rz
          obtain ⟨vs,g1,r1⟩:=hr2.lst e
          have kk:Kp G2 H2 (gu G2 p (.lst (xs.set j x))) (upd H2 p (.lst (vs.set j v))):=Kp.wr e
          exact ⟨p,vs,k,j,rfl,rfl,g1,by rw [← r1.length];exact ej,af τ _ h2 σ _ (rl2.next (hr2.wr e (r1.set rx2 j)) kk) ((k1.trans k2).trans kk)⟩
        · exact h2.elim
      · exact h2.elim
    · exact h2.elim
def zN (te:TE3) (g:TG3):TS3:=fun d τ G=>te τ G fun x G1=>g x τ G1 d.nx
theorem qnS {tg e:Expr} {g:TG3} (he:E3 X e te) (hg:G3 X tg g) (hs:swapsWithSole [tg] e pos.line X.env=pure false:=by rfl) (hw:swappedStores [tg] e X.env=pure none:=by rfl)
  (h1:(assignEach [tg] X.env).map (·.2)=[assign tg X.env]:=by rfl):S3 X (.Assign [tg] e pos) (zN te g):=qfY (qlV he hg hs hw h1) fun _ σ H ⟨τ,G,d,rl,h,af⟩=>
 zK rl h fun x G1 h1 v H1 rx hr1 k1 rl1=>⟨x,τ,G1,d.nx,rx,rl1,h1,af.nx.back k1⟩
theorem qn7 (i:Nat) {x:Str} {e:Expr} {pos':Pos} (hN:X.N.Nodup) (he:E3 X e te) (hi:X.N[i]?=some x:=by rfl) (hx:Loc X.env.scope x:=by first | exact Or.inl rfl | exact Or.inr rfl) (hs:swapsWith e (some (.Name x pos')) pos.line X.env=pure false:=by rfl) (hf:X.fn x=true\/X.env.scope.names.lookup x=some .local:=by first | exact .inl rfl | exact .inr rfl) :
  S3 X (.Assign [.Name x pos'] e pos) (zN te (gn3 i)):=qfY (qmr hN hi hx he hs hf) fun _ σ H ⟨τ,G,d,rl,h,af⟩=>
 zK rl h fun x G1 h1 v H1 rx hr1 k1 rl1=>af.nx _ G1 h1 _ H1 (rl1.set i rx) k1
def qc3 (i j:Nat) (ta:TA3):TS3:=fun d τ G=>ta τ G fun xs G1=>match xs with | [x,y]=>d.nx ((τ.set i (some x)).set j (some y)) G1 | _=>False
theorem qph {i j:Nat} {x y:Str} {a b:Expr} {tt:TA3} {px py pt:Pos} {kt k2 pt2} (hc:X.calm=true) (hN:X.N.Nodup) (hi:X.N[i]?=some x) (hj:X.N[j]?=some y) (hij:i≠j)
  (hx:X.env.scope.names.lookup x=some .local) (hy:X.env.scope.names.lookup y=some .local) (ha:A3 X [a,b] tt)
  (hw:swappedStores [.Tuple [.Name x px,.Name y py] kt pt] (.Tuple [a,b] k2 pt2) X.env=pure (some [x,y]):=by rfl)
  (hs:swapsWithSole [.Tuple [.Name x px,.Name y py] kt pt] (.Tuple [a,b] k2 pt2) pos.line X.env=pure false:=by rfl) :
  S3 X (.Assign [.Tuple [.Name x px,.Name y py] kt pt] (.Tuple [a,b] k2 pt2) pos) (qc3 i j tt):=qfY (qlT hc hN hi hj hij hx hy ha hw hs) fun _ σ H ⟨τ,G,d,rl,h,af⟩=>
 YZ rl h fun xs G1 h1 vs H1 rs hr1 k1 rl1=>by
  split at h1
  ·obtain ⟨v,u,rfl,r,r'⟩:=qnP rs
   exact ⟨v,u,rfl,af.nx _ G1 h1 _ H1 ((rl1.set i r).set j r') k1⟩
  ·exact h1.elim
end
end L3
namespace L3
open PySem PySem.Spec PyProof.Rows L2
abbrev TI3:=St3->Gp->(List T->(Gp->Prop)->Gp->Prop)->Prop
def qir (K:PySem.W.Frag) (J:It) (items:List T) (stay:Gp->Prop) (G0:Gp) (H0:Hp):Prop:=∀ G H,HR K G H->Kp G0 H0 G H->stay G ->
 (∀ i x,items[i]?=some x->J.go i H)/\(∀ i x v H',items[i]?=some x->J.yld i H v H'->Rp K H' x v/\HR K G H'/\Kp G H G H')/\J.stop items.length H
def lI (K:PySem.W.Frag) (wi:TI3):TI:=fun σ H R=>∃ τ G r,Rel K τ G σ H/\wi τ G r/\∀ items stay G',r items stay G'->∀ J H',HR K G' H'->Kp G H G' H'->qir K J items stay G' H'->R J H'
abbrev I3 (X:Cx) (tg iter:Expr) (wi:TI3):Prop:=PI X tg iter (lI X.K wi)
theorem qiQ {X:Cx} {tg e:Expr} {t t':TI} (h:PI X tg e t) (w:∀ σ H R,t' σ H R->t σ H R):PI X tg e t':=fun pins s σ H R I q=>h pins s σ H R I (w σ H R q)
section
variable {X:Cx} {a b c e l tg:Expr} {es:List Expr} {ta tb tc te:TE3} {t:TA3} {pos:Pos}
theorem ql6 {tl:TE} (hl:PE X l tl):PI X tg l (fun σ H R=>tl σ H fun x H1=>∃ a,x=.ref a/\(((∃ xs,SqL X.K H1 a xs)/\R (Itl X.K a) H1)\/((∃ xs,SqT X.K H1 a xs)/\R (Itt X.K a) H1))):=by
 intro pins s σ H R I h
 refine thn (hl pins s σ H _ I h) fun v s1 ⟨x,H1,I1,r1,q1⟩=>?_
 obtain ⟨a,e,⟨⟨xs,hq⟩,q⟩ | ⟨⟨xs,hq⟩,q⟩⟩:=q1
 ·subst e
  cases r1
  obtain ⟨its,rv,p,hz⟩:=I1.list hq
  refine wpAny_pyIter_list p.isList ?_
  refine ⟨s1.heap.objs.size,[s1.heap.objs.size],_,_,H1,rfl,I1.kept (t':=s1.toks) fun b o e=>Heap.get?_push_of_some _ e,qch a _,⟨_,Heap.get?_push_size _ rfl,rfl,rfl⟩,fun b hb=>?_,q⟩
  have e:b=s1.heap.objs.size:=by simpa using hb
  subst e
  exact I1.fpOk (Nat.le_refl _) (I1.hok.fresh (Nat.le_refl _))
 ·subst e
  cases r1
  obtain ⟨its,rv,p,hz⟩:=I1.tuple hq
  refine wpAny_pyIter_tuple (show s1.heap.IsTuple a its.toArray from p) ?_
  refine ⟨s1.heap.objs.size,[s1.heap.objs.size],_,_,H1,rfl,I1.kept (t':=s1.toks) fun b o e=>Heap.get?_push_of_some _ e,N9 a _,⟨_,Heap.get?_push_size _ rfl,rfl,rfl⟩,fun b hb=>?_,q⟩
  have e:b=s1.heap.objs.size:=by simpa using hb
  subst e
  exact I1.fpOk (Nat.le_refl _) (I1.hok.fresh (Nat.le_refl _))
def JV (tl:TE3):TI3:=fun τ G r=>tl τ G fun x G1=>match x with
 | .tup xs=>r xs (fun _=>True) G1
 | .ref p=>(match getL G1 p with | some xs=>r xs (fun G=>getL G p=some xs) G1 | none=>False)
 | _=>False
theorem qiW {K:PySem.W.Frag} {p:Addr} {xs:List T} {G0:Gp} {H0:Hp}:qir K (Itl K p) xs (fun G=>getL G p=some xs) G0 H0:=by
 intro G H hr _ hs
 obtain ⟨vs,sq,rs⟩:=jh hr hs
 refine ⟨fun i x hi=>?_,fun i x v H' hi y=>?_,⟨vs,sq,by rw [rs.length];exact Nat.le_refl _⟩⟩
 ·obtain ⟨v,hv,_⟩:=rs.get hi
  exact ⟨vs,v,sq,hv⟩
 ·obtain ⟨e,y⟩:=y
  subst e
  obtain ⟨w,hw,rw'⟩:=rs.get hi
  have e2:=(y vs sq).symm.trans hw
  cases e2
  exact ⟨rw',hr,Kp.refl⟩
theorem qlX {K:PySem.W.Frag} {p:Addr} {xs:List T} {vs:List V} {G0:Gp} {H0:Hp} (hr0:HR K G0 H0) (sq0:SqT K H0 p vs) (rs0:Rps K H0 xs vs):qir K (Itt K p) xs (fun _=>True) G0 H0:=by
 intro G H hr k _
 have sq:=S9 hr0 k sq0
 have rs:=rs0.keep hr0 k
 refine ⟨fun i x hi=>?_,fun i x v H' hi y=>?_,⟨vs,sq,by rw [rs.length];exact Nat.le_refl _⟩⟩
 ·obtain ⟨v,hv,_⟩:=rs.get hi
  exact ⟨vs,v,sq,hv⟩
 ·obtain ⟨e,y⟩:=y
  subst e
  obtain ⟨w,hw,rw'⟩:=rs.get hi
  have e2:=(y vs sq).symm.trans hw
  cases e2
  exact ⟨rw',hr,Kp.refl⟩
theorem qpD (hl:E3 X l te):I3 X tg l (JV te):=qiQ (ql6 hl) fun σ H R ⟨τ,G,r,rl,h,af⟩=>zK rl h fun x G1 h1 v H1 rx hr1 k1 rl1=>by
 cases x <;> try exact h1.elim
 case tup xs=>
  cases rx with
  | tup hs rs=>exact ⟨_,rfl,.inr ⟨⟨_,hs⟩,af _ _ G1 h1 _ H1 hr1 k1 (qlX hr1 hs rs)⟩⟩
 case ref p=>
  simp only at h1
  split at h1
  ·rename_i xs e0
   cases rx
   obtain ⟨vs,hs,rs⟩:=jh hr1 e0
   exact ⟨_,rfl,.inl ⟨⟨_,hs⟩,af _ _ G1 h1 _ H1 hr1 k1 qiW⟩⟩
  ·exact h1.elim
def qan (lo:Int) (n:Nat):List T:=(List.range n).map fun (i:Nat)=>T.int (lo+(i:Int))
theorem qfR {K:PySem.W.Frag} {lo:Int} {n:Nat} {G0:Gp} {H0:Hp}:qir K (Itr lo n) (qan lo n) (fun _=>True) G0 H0:=by
 intro G H hr k _
 have hl:(qan lo n).length=n:=by simp [qan]
 refine ⟨fun i x hi=>?_,fun i x v H' hi y=>?_,(show n<=(qan lo n).length by rw [hl];exact Nat.le_refl n)⟩
 ·have:=(List.getElem?_eq_some_iff.mp hi).1
  rw [hl] at this
  exact this
 ·obtain ⟨e,y⟩:=y
  subst e
  subst y
  have h1:=(List.getElem?_eq_some_iff.mp hi).1
  rw [hl] at h1
  unfold qan at hi
  rw [List.getElem?_map,List.getElem?_range h1] at hi
  have e:T.int (lo+(i:Int))=x:=by simpa using hi
  subst e
  exact ⟨.int _,hr,Kp.refl⟩
def jJ (ta:TA3):TI3:=fun τ G r=>ta τ G fun xs G1=>match xs with
 | [.int j]=>(-(2 ^ 62)<=j/\j < 2 ^ 62)/\r (qan 0 j.toNat) (fun _=>True) G1
 | [.int i,.int j]=>(-(2 ^ 62)<=i/\i < 2 ^ 62/\-(2 ^ 62)<=j/\j < 2 ^ 62)/\r (qan i (j - i).toNat) (fun _=>True) G1
 | _=>False
theorem qdS {p:Pos} (hg:Gl X "range") (hm:X.mg "range" = none) (ha:A3 X [a] t) (hs:starEach [a] X.env=[(false,eval a X.env)]:=by rfl) (h1:∀ τ G q,t τ G q->t τ G fun xs G=>q xs G/\xs.length=1):I3 X tg (.Call (.Name "range" p) [a] [] pos) (jJ t):=
 qiQ (qbU hg hm ha hs) fun σ H R ⟨τ,G,r,rl,h,af⟩=>YZ rl (h1 _ _ _ h) fun xs G1 h1 vs H1 rs hr1 k1 rl1=>by
  obtain ⟨h1,hl⟩:=h1
  simp only at h1
  split at h1
  ·obtain ⟨v,rfl,r1⟩:=K3 rs
   cases r1
   exact ⟨_,rfl,h1.1.1,h1.1.2,af _ _ G1 h1.2 _ H1 hr1 k1 qfR⟩
  ·simp at hl
  ·exact h1.elim
theorem qd0 {p:Pos} (hg:Gl X "range") (hm:X.mg "range" = none) (ha:A3 X [a,b] t) (hs:starEach [a,b] X.env=[(false,eval a X.env),(false,eval b X.env)]:=by rfl) (hs2:starEach [b] X.env=[(false,eval b X.env)]:=by rfl) (h1:∀ τ G q,t τ G q->t τ G fun xs G=>q xs G/\xs.length=2):I3 X tg (.Call (.Name "range" p) [a,b] [] pos) (jJ t):=
 qiQ (qbr hg hm ha hs hs2) fun σ H R ⟨τ,G,r,rl,h,af⟩=>YZ rl (h1 _ _ _ h) fun xs G1 h1 vs H1 rs hr1 k1 rl1=>by
  obtain ⟨h1,hl⟩:=h1
  simp only at h1
  split at h1
  ·simp at hl
  ·obtain ⟨v,u,rfl,r1,r2⟩:=qnP rs
   cases r1;cases r2
   exact ⟨_,_,rfl,h1.1,af _ _ G1 h1.2 _ H1 hr1 k1 qfR⟩
  ·exact h1.elim
def SK (stay:Gp->Prop) (g:TG3) (tb:TS3) (d:Ends3):List T->St3->Gp->Prop
 | [],τ,G=>stay G/\d.nx τ G
 | x :: r,τ,G=>stay G/\g x τ G fun τ2 G2=>tb { d with nx:=SK stay g tb d r,ct:=SK stay g tb d r,bk:=d.nx } τ2 G2
def CT (wi:TI3) (g:TG3) (tb:TS3):TS3:=fun d τ G=>wi τ G fun items stay G1=>SK stay g tb d items τ G1
theorem qok {iter:Expr} {body:List Stmt} {wi:TI3} {g:TG3} {tb:TS3} (hp:PassesOwn (model X.prog X.w) X.A X.env X.xe) (hc:X.calm=true) (hi:I3 X tg iter wi) (hg:G3 X tg g) (hb:B3 X body tb)
  (hs:∀ x,foldedSetIterable iter X.env x=pure x:=by intro _;rfl):S3 X (.For tg iter body [] pos) (CT wi g tb):=
 qfY (qi4 hp hc hi hg hb hs) fun D σ H ⟨τ,G,d,rl,h,af⟩=>by
  refine ⟨τ,G,_,rl,h,fun items stay G1 h1 J H1 hr1 k1 ok=>?_⟩
  refine ⟨fun i m σ' H'=>m=items.length - i/\i<=items.length/\∃ τ' G',Rel X.K τ' G' σ' H'/\Kp G1 H1 G' H'/\SK stay g tb d (items.drop i) τ' G',⟨_,rfl,Nat.zero_le _,τ,G1,rl.next hr1 k1,Kp.refl,by simpa using h1⟩,?_⟩
  rintro i m σ' H' ⟨rfl,hi,τ',G',rl',k',h'⟩
  by_cases hlt:i < items.length
  ·rw [List.drop_eq_getElem_cons hlt] at h'
   obtain ⟨hst,h'⟩:=h'
   obtain ⟨go,yld,_⟩:=ok G' H' rl'.hp k' hst
   have hx:items[i]?=some items[i]:=List.getElem?_eq_getElem hlt
   refine .inr ⟨go i _ hx,fun σ2 H2=>∃ τ2 G2,Rel X.K τ2 G2 σ2 H2/\Kp G1 H1 G2 H2/\SK stay g tb d (items.drop (i+1)) τ2 G2,fun σ2 H2 h2=>⟨_,by omega,rfl,hlt,h2⟩,fun v H2 y=>?_⟩
   obtain ⟨rv,hr2,k2⟩:=yld i _ v H2 hx y
   have k3:Kp G1 H1 G' H2:=k'.trans k2
   refine ⟨_,τ',G',_,rv,rl'.next hr2 k2,h',fun τ3 G3 h3 σ3 H3 rl3 k4=>?_⟩
   have k5:Kp G H G3 H3:=(k1.trans k3).trans k4
   refine ⟨τ3,G3,_,rl3,h3,⟨fun τ4 G4 h4 σ4 H4 rl4 k6=>⟨τ4,G4,rl4,(k3.trans k4).trans k6,h4⟩,af.rt.back k5,af.nx.back k5,fun τ4 G4 h4 σ4 H4 rl4 k6=>⟨τ4,G4,rl4,(k3.trans k4).trans k6,h4⟩⟩⟩
  ·have e:i=items.length:=by omega
   subst e
   rw [List.drop_length] at h'
   obtain ⟨_,_,stop⟩:=ok G' H' rl'.hp k' h'.1
   exact .inl ⟨stop,af.nx τ' G' h'.2 σ' H' rl' (k1.trans k')⟩
theorem TX {stay:Gp->Prop} {g:TG3} {tb:TS3} {d:Ends3} (items:List T) (Pv:Nat->St3->Gp->Prop) {τ:St3} {G:Gp} (h0:Pv 0 τ G) (hst:∀ i τ G,i<=items.length->Pv i τ G->stay G)
  (hs:∀ i x τ G (nx:St3->Gp->Prop),items[i]?=some x->Pv i τ G->(∀ τ G,Pv (i+1) τ G->nx τ G)->g x τ G fun τ2 G2=>tb { d with nx:=nx,ct:=nx,bk:=d.nx } τ2 G2)
  (hd:∀ τ G,Pv items.length τ G->d.nx τ G):SK stay g tb d items τ G:=by
 have key:∀ (r:List T) (i:Nat) τ G,items.drop i=r->i<=items.length->Pv i τ G->SK stay g tb d r τ G:=by
  intro r
  induction r with
  | nil=>
   intro i τ G e hi p
   have:i=items.length:=by have:=congrArg List.length e;simp at this;omega
   subst this
   exact ⟨hst _ τ G hi p,hd τ G p⟩
  | cons x r ih=>
   intro i τ G e hi p
   have hl:i < items.length:=by
    apply Classical.byContradiction
    intro z
    rw [List.drop_eq_nil_of_le (by omega)] at e
    cases e
   have e':=List.drop_eq_getElem_cons hl
   rw [e] at e'
   injection e' with e1 e2
   refine ⟨hst i τ G hi p,hs i x τ G _ (by rw [List.getElem?_eq_getElem hl,e1]) p fun τ2 G2 p2=>ih (i+1) τ2 G2 e2.symm hl p2⟩
 exact key items 0 τ G (by simp) (Nat.zero_le _) h0
abbrev Sp3:=List T->Gp->Q3->Prop
def lSp (K:PySem.W.Frag) (sp:Sp3):Sp:=fun vs H Q _=>∃ ts G q,HR K G H/\Rps K H ts vs/\sp ts G q/\Aft K G H q Q
def Fn3 (P:Program) (w:World) (K:PySem.W.Frag) (mg:Str->Option Value) (base:Heap) (k:Nat) (x:Str) (sp:Sp3):Prop:=
 ∃ f fd ps,FnOk P w K mg base CX0 k f fd ps (lSp K sp)/\zn K fd ps []/\PySem.W.keepIn K (.ref f)=true/\mg x=some (.ref f)
theorem Fn3.mono {P:Program} {w:World} {K:PySem.W.Frag} {mg:Str->Option Value} {base:Heap} {j k:Nat} {x:Str} {sp:Sp3} (F:Fn3 P w K mg base j x sp) (h:j<=k):Fn3 P w K mg base k x sp:=
 let ⟨f,fd,ps,a,b,c,d⟩:=F;⟨f,fd,ps,a.mono h,b,c,d⟩
theorem Fn3.imp {P:Program} {w:World} {K:PySem.W.Frag} {mg:Str->Option Value} {base:Heap} {k:Nat} {x:Str} {sp sp':Sp3} (F:Fn3 P w K mg base k x sp) (h:∀ ts G q,sp' ts G q->sp ts G q):Fn3 P w K mg base k x sp':=
 let ⟨f,fd,ps,a,b,c,d⟩:=F;⟨f,fd,ps,a.imp fun vs H Q E ⟨ts,G,q,h1,h2,h3,h4⟩=>⟨ts,G,q,h1,h2,h _ _ _ h3,h4⟩,b,c,d⟩
theorem qiB {k:Nat} {x:Str} {p:Pos} {sp:Sp3} (F:Fn3 X.prog X.w X.K X.mg X.base k x sp) (hr:Room k X.A) (hg:Gl X x) (ha:A3 X (e :: es) t) (hdb:(x == ("__debug__" : Str))=false:=by decide)
  (he:starEach (e :: es) X.env=(false,eval e X.env) :: starEach es X.env:=by rfl) (hpl:(backTo pos (starEach es X.env)).any (·.1)=false:=by rfl):E3 X (.Call (.Name x p) (e :: es) [] pos) (cb3 sp t):=by
 obtain ⟨f,fd,ps,F,b,kp,m⟩:=F
 refine WS (qho F hr hg m kp b .nil qo7 ha hdb he hpl) fun σ H Q ⟨τ,G,q,rl,h,af⟩=>YZ rl h fun xs G1 h1 vs H1 rs hr1 k1 rl1=>?_
 rw [List.append_nil]
 exact ⟨xs,G1,q,hr1,rs,h1,af.back k1⟩
def qE (N:List Str) (ts:List T):St3:=ts.map some++List.replicate (N.length - ts.length) none
theorem KQ {K:PySem.W.Frag} {N:List Str} {G:Gp} {H:Hp} {ts:List T} {vs:List V} (hr:HR K G H) (rs:Rps K H ts vs):Rel K (qE N ts) G (L2.WZ N vs) H:=by
 refine ⟨hr,by simp [qE,L2.WZ,rs.length],fun i t e=>?_⟩
 unfold qE at e
 by_cases hi:i < ts.length
 ·rw [List.getElem?_append_left (by simpa using hi),List.getElem?_map] at e
  cases q:ts[i]? with
  | none=>rw [q] at e;cases e
  | some z=>
   rw [q] at e
   have e':z=t:=by simpa using e
   subst e'
   obtain ⟨v,hv,r⟩:=rs.get q
   refine ⟨v,?_,r⟩
   unfold L2.WZ
   rw [List.getElem?_append_left (by rw [List.length_map,← rs.length];exact hi),List.getElem?_map,hv]
   rfl
 ·rw [List.getElem?_append_right (by simpa using hi),List.getElem?_replicate] at e
  split at e <;> cases e
theorem qjv {P:Program} {w:World} {K:PySem.W.Frag} {mg:Str->Option Value} {base:Heap} {x qual:Str} {st:Stmt} {f:Addr} {fd:FuncData} {N ps:List Str} {k:Nat} {sp:Sp3} {t3:TS3} (F:Fun K x qual st f fd) (S:FnScope N ps (qi st)) (bd:zn K fd ps []) (hm:mg x=some (.ref f))
  (body:∀ (cdv:Value) (A:Around) (outer:List Env) (s:Shared) (H:Hp) (E:XK),Room k (A.deeper (envOfC qual (qi st) s.heap.objs.size f cdv)) ->
   B3 (qcX CX0 P w K mg base N qual (qi st) f cdv A outer s H E).nox (jL st) t3)
  (read:∀ ts G q,sp ts G q->ts.length=ps.length/\t3 { nx:=fun _ G'=>q .non G',rt:=q } (qE N ts) G):Fn3 P w K mg base (k+1) x sp:=by
 refine ⟨f,fd,ps,F.ok S (fun vs H Q E ⟨ts,G,q,h1,h2,h3,h4⟩=>by rw [← h2.length];exact (read ts G q h3).1) fun cdv A outer s H vs Q E hr ⟨ts,G,q,h1,h2,h3,h4⟩=>?_,bd,F.kp,hm⟩
 refine ⟨_,body cdv A outer s H E hr,qE N ts,G,_,KQ h1 h2,(read ts G q h3).2,⟨fun τ' G' h' σ' H' rl' k'=>h4 _ G' h' _ H' .non rl'.hp k',h4,fun _ _ z=>z.elim,fun _ _ z=>z.elim⟩⟩
def qeQ (xs:List T):Option Bool:=match xs with
 | []=>some true
 | .bl k :: r=>(match qeQ r with | some j=>some (k && j) | none=>none)
 | _=>none
def qpH (xs:List T):Option Bool:=match xs with
 | []=>some false
 | .bl k :: r=>(match qpH r with | some j=>some (k || j) | none=>none)
 | _=>none
theorem qdP {P:Program} {w:World} {A:Around} {its:List Value} {ks:List Bool} (h:its=ks.map Value.bool):TruthOf P w A (fun i v=>its.toArray[i]?=some v) (fun i=>ks.getD i true):=by
 intro i v s Q E hp hq
 subst h
 have hp':ks[i]?.map Value.bool=some v:=by simpa using hp
 cases e:ks[i]? with
 | none=>rw [e] at hp';cases hp'
 | some k=>
  rw [e] at hp'
  cases hp'
  have:ks.getD i true=k:=by rw [List.getD_eq_getElem?_getD,e];rfl
  have hq:Q (ks.getD i true) s:=hq
  rw [this] at hq
  exact wpAny_truthy_bool hq
theorem C6:∀ {ks:List Bool} {us:List Value},jk (ks.map V.bl) us->us=ks.map Value.bool
 | [],_,r=>by cases r;rfl
 | k :: ks,_,r=>by
  cases r with
  | cons a b=>rw [show _=Value.bool k from a,C6 b];rfl
theorem qcS (ks:List Bool):((List.range ks.length).all fun i=>ks.getD i true)=ks.all id:=by
 induction ks with
 | nil=>rfl
 | cons k ks ih=>
  rw [List.length_cons,List.range_succ_eq_map,List.all_cons,List.all_map,List.all_cons]
  congr 1
theorem j0 (hc:X.calm=true):YH X (.builtin "all") (fun xs H Q=>∃ (p:Addr) (ks:List Bool),xs=[.ref p]/\SqL X.K H p (ks.map V.bl)/\Q (.bl (ks.all id)) H):=by
 intro pins s σ H xs us Q I r h
 obtain ⟨p,ks,rfl,hq,q⟩:=h
 obtain ⟨u,rfl,rp⟩:=WF r
 cases (show u=Value.ref p from rp)
 obtain ⟨its,rv,pl,hz⟩:=I.list hq
 have hb:=C6 rv
 have hlen:its.length=ks.length:=by rw [hb];simp
 have hp:p < s.heap.objs.size:=by obtain ⟨o,n,e,_⟩:=pl;exact Heap.lt_size e
 refine call_all_walk (wpAny_pyIter_list pl.isList ⟨s.heap.objs.size,_,_,_,_,_,fun i=>ks.getD i true,rfl,Walks.list (A:=X.A.in1) (show X.A.in1.handled=none from I.ok.hd hc) s.heap.objs.size p (Nat.ne_of_lt hp) its.toArray,⟨⟨_,Heap.get?_push_size _ rfl,rfl,rfl⟩,?_⟩,qdP hb,fun h' tk hk=>?_⟩)
 ·obtain ⟨o,n,e,c,_,d⟩:=pl
  exact ⟨o,Heap.get?_push_of_some _ e,c,n,d⟩
 ·refine ⟨.bl _,H,?_,rfl,by rw [List.size_toArray,hlen,qcS];exact q⟩
  exact I.kept (h':=h') (t':=tk) fun b o e=>hk b o (by simp;exact Nat.ne_of_lt (Heap.lt_size e)) (Heap.get?_push_of_some _ e)
end
end L3
namespace L3
open PySem PySem.Spec PyProof.Rows L2
def CY (env:Env):List (Str×NameKind)->List (Str×Addr)->List (Str×Addr)
 | [],cs=>cs
 | (n,k) :: r,cs=>if k=.free then CY env r ((n,(env.cells.lookup n).getD 0) :: cs) else CY env r cs
theorem YB {scope:Scope} {env:Env} (h:∀ y∈scope.names,y.2=.free->∃ c,env.cells.lookup y.1=some c):closureFor scope env=pure (CY env scope.names []):=by
 have key:∀ (l:List (Str×NameKind)) (cs:List (Str×Addr)),(∀ y∈l,y.2=.free->∃ c,env.cells.lookup y.1=some c) ->
   (forIn l cs fun (x:Str×NameKind) (r:List (Str×Addr))=>if (x.2 == NameKind.free)=true then (do let a ← cellOf env x.1;pure (ForInStep.yield ((x.1,a) :: r))) else pure (ForInStep.yield r))=(pure (CY env l cs):Sem _):=by
  intro l
  induction l with
  | nil=>intro cs _;rfl
  | cons y r ih=>
   intro cs hl
   obtain ⟨n,k⟩:=y
   rw [List.forIn_cons]
   by_cases hk:k=.free
   ·subst hk
    obtain ⟨c,hc⟩:=hl (n,.free) List.mem_cons_self rfl
    have e:cellOf env n=pure c:=by unfold cellOf;rw [show List.lookup n env.cells=some c from hc]
    simp only [beq_self_eq_true,if_true]
    rw [e,pure_bind,pure_bind]
    show forIn r ((n,c) :: cs) _=_
    rw [ih _ fun z hz=>hl z (List.mem_cons_of_mem _ hz)]
    show _=(pure (if NameKind.free=NameKind.free then CY env r ((n,(env.cells.lookup n).getD 0) :: cs) else CY env r cs):Sem _)
    rw [if_pos rfl,show List.lookup n env.cells=some c from hc]
    rfl
   ·have hb:(k == NameKind.free)=false:=by cases k <;> first | rfl | exact absurd rfl hk
    simp only [hb,Bool.false_eq_true,if_false]
    rw [pure_bind]
    show forIn r cs _=_
    rw [ih _ fun z hz=>hl z (List.mem_cons_of_mem _ hz)]
    show _=(pure (if k=NameKind.free then CY env r ((n,(env.cells.lookup n).getD 0) :: cs) else CY env r cs):Sem _)
    rw [if_neg hk]
 have:=key scope.names [] h
 unfold closureFor
 refine Eq.trans ?_ this
 exact bind_pure (m:=Sem) _
theorem UP {env:Env}:∀ (l:List (Str×NameKind)) (cs:List (Str×Addr)) (x:Str) (c:Addr),(∀ y∈l,y.2=.free->∃ c,env.cells.lookup y.1=some c) ->
  (∀ x c,cs.lookup x=some c->env.cells.lookup x=some c)->(CY env l cs).lookup x=some c->env.cells.lookup x=some c
 | [],_,_,_,_,h,e=>h _ _ e
 | (n,k) :: r,cs,x,c,hl,h,e=>by
  unfold CY at e
  split at e
  ·rename_i hk
   refine UP r _ x c (fun y hy=>hl y (List.mem_cons_of_mem _ hy)) (fun x c e=>?_) e
   rw [List.lookup_cons] at e
   split at e
   ·rename_i hx
    have hx':x=n:=by simpa using hx
    subst hx'
    obtain ⟨d,hd⟩:=hl (x,k) List.mem_cons_self hk
    have hd:List.lookup x env.cells=some d:=hd
    rw [hd] at e ⊢
    exact e
   ·exact h _ _ e
  ·exact UP r cs x c (fun y hy=>hl y (List.mem_cons_of_mem _ hy)) h e
theorem WP {env:Env}:∀ (l:List (Str×NameKind)) (cs:List (Str×Addr)) (x:Str),((x,NameKind.free)∈l\/∃ c,cs.lookup x=some c)->∃ c,(CY env l cs).lookup x=some c
 | [],_,_,h=>by
  rcases h with h | h
  ·simp at h
  ·exact h
 | (n,k) :: r,cs,x,h=>by
  unfold CY
  have put:∀ d:Addr,(x=n\/∃ c,cs.lookup x=some c)->∃ c,((n,d) :: cs).lookup x=some c:=fun d z=>by
   rw [List.lookup_cons]
   cases hx:x == n with
   | true=>exact ⟨d,rfl⟩
   | false=>
    rcases z with z | z
    ·rw [z] at hx;simp at hx
    ·exact z
  split
  ·rename_i hk
   refine WP r _ x ?_
   rcases h with h | h
   ·rcases List.mem_cons.mp h with e | e
    ·cases e;exact .inr (put _ (.inl rfl))
    ·exact .inl e
   ·exact .inr (put _ (.inr h))
  ·rename_i hk
   refine WP r _ x ?_
   rcases h with h | h
   ·rcases List.mem_cons.mp h with e | e
    ·cases e;exact absurd rfl hk
    ·exact .inl e
   ·exact .inr h
theorem S7 {env:Env}:∀ (l:List (Str×NameKind)) (cs:List (Str×Addr)) (x:Str) (c:Addr),(CY env l cs).lookup x=some c->(x,NameKind.free)∈l\/cs.lookup x=some c
 | [],_,_,_,e=>.inr e
 | (n,k) :: r,cs,x,c,e=>by
  unfold CY at e
  split at e
  ·rename_i hk
   rcases S7 r _ x c e with z | z
   ·exact .inl (List.mem_cons_of_mem _ z)
   ·rw [List.lookup_cons] at z
    split at z
    ·rename_i hx
     have hx':x=n:=by simpa using hx
     subst hx';subst hk
     exact .inl List.mem_cons_self
    ·exact .inr z
  ·rcases S7 r cs x c e with z | z
   ·exact .inl (List.mem_cons_of_mem _ z)
   ·exact .inr z
theorem DM {α:Type}:∀ (xs ys:List (Str×α)) (x:Str),(xs++ys).lookup x=(match xs.lookup x with | some c=>some c | none=>ys.lookup x)
 | [],ys,x=>rfl
 | (n,c) :: xs,ys,x=>by
  rw [List.cons_append,List.lookup_cons,List.lookup_cons]
  cases x == n with
  | true=>rfl
  | false=>exact DM xs ys x
theorem jE:∀ (l:List (Str×NameKind)) {n:Nat} {acc:List (Str×Addr)},cellsFrom n l acc=cellsFrom n l []++acc
 | [],_,_=>rfl
 | (x,k) :: r,n,acc=>by
  unfold cellsFrom
  split
  ·rw [jE r (acc:=(x,n) :: acc),jE r (acc:=[(x,n)]),List.append_assoc];rfl
  ·exact jE r
theorem YC:∀ (l:List (Str×NameKind)) (n:Nat) (acc:List (Str×Addr)) (x:Str) (c:Addr),(x,c)∈cellsFrom n l acc->(x,NameKind.cell)∈l\/(x,c)∈acc
 | [],_,_,_,_,h=>.inr h
 | (y,k) :: r,n,acc,x,c,h=>by
  unfold cellsFrom at h
  split at h
  ·rename_i hk
   have hk:k=.cell:=by simpa using hk
   rcases YC r _ _ x c h with z | z
   ·exact .inl (List.mem_cons_of_mem _ z)
   ·rcases List.mem_cons.mp z with e | e
    ·cases e;subst hk;exact .inl List.mem_cons_self
    ·exact .inr e
  ·rcases YC r _ _ x c h with z | z
   ·exact .inl (List.mem_cons_of_mem _ z)
   ·exact .inr z
theorem Q0:∀ (l:List (Str×NameKind)) (n:Nat) (acc:List (Str×Addr)) (x:Str),((x,NameKind.cell)∈l\/∃ c,acc.lookup x=some c)->∃ c,(cellsFrom n l acc).lookup x=some c
 | [],_,_,_,h=>by
  rcases h with h | h
  ·simp at h
  ·exact h
 | (y,k) :: r,n,acc,x,h=>by
  unfold cellsFrom
  have put:(x=y\/∃ c,acc.lookup x=some c)->∃ c,((y,n) :: acc).lookup x=some c:=fun z=>by
   rw [List.lookup_cons]
   cases hx:x == y with
   | true=>exact ⟨n,rfl⟩
   | false=>
    rcases z with z | z
    ·rw [z] at hx;simp at hx
    ·exact z
  split
  ·refine Q0 r _ _ x ?_
   rcases h with h | h
   ·rcases List.mem_cons.mp h with e | e
    ·cases e;exact .inr (put (.inl rfl))
    ·exact .inl e
   ·exact .inr (put (.inr h))
  ·rename_i hk
   refine Q0 r _ _ x ?_
   rcases h with h | h
   ·rcases List.mem_cons.mp h with e | e
    ·cases e;exact absurd rfl hk
    ·exact .inl e
   ·exact .inr h
theorem QL {M:Model} {A:Around} {E:Value->Shared->Prop} {s:Shared} {scope:Scope} {globals:Addr} {cl:List (Str×Addr)} {qual:Str} {env:Env} {Q:Env->Shared->Prop}
  (hQ:∀ h₁:Heap,h₁.Ns s.heap.objs.size (fun _=>none)->(∀ b o,s.heap.get? b=some o->h₁.get? b=some o)->CellsOk h₁ (s.heap.objs.size+1) (cellsFrom (s.heap.objs.size+1) scope.names [])->Q (newEnv scope s.heap.objs.size globals (cellsFrom (s.heap.objs.size+1) scope.names cl) qual none .none (some env) builtinsNs) { s with heap:=h₁ }) :
  wpAny M A (newFunctionEnv scope globals cl [] qual none .none (some env)) Q E s:=by
 simp only [newFunctionEnv,Option.isSome_some,if_true]
 refine wpAny_bind (wpAny_alloc ?_)
 refine wpAny_bind (wpAny_layCells _ (fun name kind cells=>by cases hkc:kind == NameKind.cell <;> simp [hkc]) _ _ _ _ ?_)
 have ok:=cellsFrom_ok scope.names (s.heap.push { cls:=.type "dict",data:=.dict #[] }) (s.heap.objs.size+1) [] ⟨fun _ _ hm=>(nomatch hm),List.Pairwise.nil⟩ (by rw [Heap.size_push];exact Nat.le_refl _)
 rw [Heap.size_push] at ok
 rw [show ({ s with heap:=s.heap.push { cls:=.type "dict",data:=.dict #[] } }:Shared).heap.objs.size=s.heap.objs.size+1 from Heap.size_push ..]
 rw [List.forIn_nil]
 refine wpAny_bind (wpAny_pure (wpAny_pure ?_))
 exact hQ _ ((Heap.Ns.new s.heap (.type "dict")).keeps (pushCells_keeps _ _)) (fun b o e=>pushCells_keeps _ _ b o (Heap.get?_push_of_some _ e)) ok
def ql (X:Cx) (N':List Str) (scope:Scope) (s:Shared) (H:Hp) (fp:List Addr):Cx where
 prog:=X.prog
 w:=X.w
 K:=X.K
 mg:=X.mg
 base:=X.base
 A:=X.A
 N:=N'
 s₀:=s
 H₀:=H
 env:=compEnvC scope (cellsFrom (s.heap.objs.size+1) scope.names (CY X.env scope.names [])) s.heap.objs.size X.env
 outer:=X.stack
 stack:=X.stack
 ex:=fp
 fn:=fun x=>scope.names.lookup x == some .cell
 calm:=true
 pn:=[]
 xe:=fun _ _=>False
def qaP (outer inner:Scope):Bool:=(inner.kind == .function) && inner.names.all fun y=>
 (y.2 != .cell || inner.names.lookup y.1 == some .cell) && (y.2 != .local || inner.names.lookup y.1 == some .local) && (y.2 != .free || (inner.names.lookup y.1 == some .free && (outer.names.lookup y.1 == some .cell || outer.names.lookup y.1 == some .free)))
def cap {α:Type} (m:List (Option Nat)) (σ:List (Option α)):List (Option α):=m.map fun o=>match o with | some j=>(σ[j]?).join | none=>none
def UL (N N':List Str) (scope:Scope) (m:List (Option Nat)):Bool:=(m.length == N'.length) && (m.zip N').all fun p=>match p.1 with
 | none=>true
 | some j=>N[j]? == some p.2 && scope.names.lookup p.2 == some .free
theorem qbD {α:Type} {m:List (Option Nat)} {σ:List (Option α)} {i:Nat} {v:α} (h:(cap m σ)[i]?=some (some v)):∃ j,m[i]?=some (some j)/\σ[j]?=some (some v):=by
 unfold cap at h
 rw [List.getElem?_map] at h
 cases e:m[i]? with
 | none=>rw [e] at h;cases h
 | some o=>
  rw [e] at h
  cases o with
  | none=>cases h
  | some j=>
   refine ⟨j,rfl,?_⟩
   have h':(σ[j]?).join=some v:=by simpa using h
   cases q:σ[j]? with
   | none=>rw [q] at h';cases h'
   | some z=>rw [q] at h';exact congrArg some h'
theorem qa8 {N N':List Str} {scope:Scope} {m:List (Option Nat)} (h:UL N N' scope m=true) {i j:Nat} {x:Str} (e:m[i]?=some (some j)) (hx:N'[i]?=some x):N[j]?=some x/\scope.names.lookup x=some .free:=by
 unfold UL at h
 rw [Bool.and_eq_true] at h
 have hm:(some j,x)∈m.zip N':=List.mem_of_getElem? (i:=i) (List.getElem?_zip_eq_some.mpr ⟨e,hx⟩)
 have:=List.all_eq_true.mp h.2 _ hm
 simp only [Bool.and_eq_true,beq_iff_eq] at this
 exact this
theorem qgJ {N N':List Str} {scope:Scope} {m:List (Option Nat)} {α:Type} (σ:List (Option α)) (h:UL N N' scope m=true):(cap m σ).length=N'.length:=by
 unfold UL at h
 rw [Bool.and_eq_true] at h
 unfold cap
 rw [List.length_map]
 simpa using h.1
structure ScFacts (outer inner:Scope):Prop where
 kind:inner.kind=.function
 own:∀ y∈inner.names,y.2=.cell->inner.names.lookup y.1=some .cell
 loc:∀ y∈inner.names,y.2=.local->inner.names.lookup y.1=some .local
 free:∀ y∈inner.names,y.2=.free->inner.names.lookup y.1=some .free/\(outer.names.lookup y.1=some .cell\/outer.names.lookup y.1=some .free)
theorem DI {outer inner:Scope} (h:qaP outer inner=true):ScFacts outer inner:=by
 unfold qaP at h
 rw [Bool.and_eq_true] at h
 have ha:=List.all_eq_true.mp h.2
 refine ⟨by simpa using h.1,fun y hy e=>?_,fun y hy e=>?_,fun y hy e=>?_⟩
 ·have:=ha y hy
  rw [e] at this
  simpa using this
 ·have:=ha y hy
  rw [e] at this
  simpa using this
 ·have:=ha y hy
  rw [e] at this
  simpa using this
theorem JB {scope:Scope} {env:Env} {x:Str} {k:NameKind} (h:(relabel scope env).names.lookup x=some k):scope.names.lookup x=some k\/(k=.cell/\scope.names.lookup x=some .free):=by
 have key:∀ (l:List (Str×NameKind)),(l.map fun (n,k)=>if (k == NameKind.free && env.scope.kind == .function && env.kindOf n == some .cell) then (n,NameKind.cell) else (n,k)).lookup x=some k->l.lookup x=some k\/(k=.cell/\l.lookup x=some .free):=by
  intro l
  induction l with
  | nil=>intro h;simp at h
  | cons y r ih=>
   intro h
   obtain ⟨n,j⟩:=y
   rw [List.map_cons] at h
   dsimp only at h
   by_cases hc:(j == NameKind.free && env.scope.kind == .function && env.kindOf n == some .cell)=true
   ·rw [if_pos hc,List.lookup_cons] at h
    rw [List.lookup_cons]
    cases hx:x == n with
    | true=>
     rw [hx] at h
     have hk:NameKind.cell=k:=by simpa using h
     have hj:j=.free:=by simp only [Bool.and_eq_true,beq_iff_eq] at hc;exact hc.1.1
     exact .inr ⟨hk.symm,by rw [hj]⟩
    | false=>rw [hx] at h;exact ih h
   ·rw [if_neg hc,List.lookup_cons] at h
    rw [List.lookup_cons]
    cases hx:x == n with
    | true=>rw [hx] at h;exact .inl h
    | false=>rw [hx] at h;exact ih h
 exact key scope.names h
def PF (X:Cx) (ifs:List Expr) (t:TT):Prop:=
 ∀ (pins:List (Addr×Obj)) (s:Shared) (σ:L2.St) (H:Hp) (Q:Bool->Hp->Prop),Inv X pins σ H s->t σ H Q ->
  wpAny (model X.prog X.w) X.A (forIn ifs true fun c r=>if r=true then do let ok ← isTrue c X.env (eval c X.env);pure (ForInStep.yield ok) else pure (ForInStep.yield r)) (TP X pins σ Q) X.xe s
theorem qnn {X:Cx}:PF X [] (fun _ H Q=>Q true H):=fun _ _ _ H _ I h=>wpAny_tests_nil ⟨H,I,h⟩
theorem qjp {X:Cx} {c:Expr} {t:TT} (h:PT X c t):PF X [c] t:=fun pins s σ H Q I q=>wpAny_tests_one (h pins s σ H Q I q)
section
variable {X:Cx} {pins:List (Addr×Obj)} {σ:L2.St} {H:Hp} {s:Shared}
theorem SL {N':List Str} {scope:Scope} {fp:List Addr} {m:List (Option Nat)} {h1:Heap} {mm:Str->Option Value} (hc:X.calm=true) (I:Inv X pins σ H s) (sc:ScFacts X.env.scope scope) (hcap:UL X.N N' scope m=true)
  (hfp:∀ b∈fp,KM X pins H b) (hob:∀ b∈fp,∃ o,s.heap.get? b=some o) (hns:h1.Ns s.heap.objs.size mm) (hk:∀ b o,s.heap.get? b=some o->h1.get? b=some o) (hown:CellsOk h1 (s.heap.objs.size+1) (cellsFrom (s.heap.objs.size+1) scope.names [])) :
  Inv (ql X N' scope s H fp) [] (cap m σ) H { s with heap:=h1 }:=by
 have hcl:∀ y∈scope.names,y.2=.free->∃ c,X.env.cells.lookup y.1=some c:=fun y hy e=>by
  rcases (sc.free y hy e).2 with z | z
  ·exact I.ok.has y.1 (.inl z)
  ·exact I.ok.has y.1 (.inr z)
 have cl:∀ x c,(CY X.env scope.names []).lookup x=some c->X.env.cells.lookup x=some c:=fun x c e=>UP scope.names [] x c hcl (fun _ _ z=>by simp at z) e
 have clt:∀ x c,(CY X.env scope.names []).lookup x=some c->c < s.heap.objs.size:=fun x c e=>by
  obtain ⟨v,q⟩:=I.cell x c (cl x c e)
  exact q.lt
 -- a cell of the block: its own,or one from around
 have cs:∀ x c,(cellsFrom (s.heap.objs.size+1) scope.names (CY X.env scope.names [])).lookup x=some c->((x,c)∈cellsFrom (s.heap.objs.size+1) scope.names []/\s.heap.objs.size+1<=c/\h1.IsCell c none)\/(CY X.env scope.names []).lookup x=some c:=fun x c e=>by
  rw [jE,DM] at e
  cases q:(cellsFrom (s.heap.objs.size+1) scope.names []).lookup x with
  | none=>rw [q] at e;exact .inr e
  | some d=>
   rw [q] at e
   cases e
   have mem:=PySem.mem_of_lookup q
   exact .inl ⟨mem,(hown.empty x _ mem).2,(hown.empty x _ mem).1⟩
 have fpne:∀ b∈fp,b≠s.heap.objs.size:=fun b hb=>let ⟨o,e⟩:=hob b hb;Nat.ne_of_lt (Heap.lt_size e)
 refine ⟨⟨I.ok.mod,sc.kind,I.ok.glob,I.ok.blt,Nat.le_refl _,fun x y c e1 e2=>?_,fun x hx=>?_,fun x c hf e=>?_,fun _=>I.ok.hd hc,I.ok.frames,.inl rfl,fun b hb=>⟨fpne b hb,fun x c e=>?_⟩,I.bs,Nat.le_trans I.ok.bsz I.sz,fun b o e hb=>?_,fun b hb z=>?_,I.stack,I.stkFree⟩,
  rfl,I.bare,Un.kept hk,⟨mm,hns,fun i x v e1 e2 e3=>?_⟩,fun x c e=>?_,I.fresh,fun x c e=>?_,fun p hp=>absurd (show p∈([]:List (Addr×Obj)) from hp) (by simp),I.hok.kept hk,qgJ σ hcap⟩
 ·rcases cs x c e1 with ⟨m1,l1,_⟩ | z1 <;> rcases cs y c e2 with ⟨m2,l2,_⟩ | z2
  ·exact PySem.name_of_addr hown.apart m1 m2
  ·exact absurd (clt y c z2) (Nat.not_lt.mpr (Nat.le_trans (Nat.le_succ _) l1))
  ·exact absurd (clt x c z1) (Nat.not_lt.mpr (Nat.le_trans (Nat.le_succ _) l2))
  ·exact I.ok.inj x y c (cl x c z1) (cl y c z2)
 ·have hx:(relabel scope X.env).names.lookup x=some .cell\/(relabel scope X.env).names.lookup x=some .free:=hx
  have hf:scope.names.lookup x=some .cell\/scope.names.lookup x=some .free:=by
   rcases hx with z | z
   ·rcases JB z with q | ⟨_,q⟩
    ·exact .inl q
    ·exact .inr q
   ·rcases JB z with q | ⟨q,_⟩
    ·exact .inr q
    ·cases q
  show ∃ c,(cellsFrom (s.heap.objs.size+1) scope.names (CY X.env scope.names [])).lookup x=some c
  rcases hf with hf | hf
  ·exact Q0 scope.names _ _ x (.inl (PySem.mem_of_lookup hf))
  ·exact Q0 scope.names _ _ x (.inr (WP scope.names [] x (.inl (PySem.mem_of_lookup hf))))
 ·have hf:scope.names.lookup x=some .cell:=by simpa [ql] using hf
  rcases cs x c e with ⟨_,l1,_⟩ | z1
  ·exact Nat.le_trans (Nat.le_succ _) l1
  ·rcases S7 scope.names [] x c z1 with q | q
   ·rw [(sc.free _ q rfl).1] at hf;cases hf
   ·simp at q
 ·rcases cs x c e with ⟨_,l1,_⟩ | z1
  ·obtain ⟨o,eo⟩:=hob b hb
   exact Nat.ne_of_gt (Nat.lt_of_lt_of_le (Heap.lt_size eo) (Nat.le_trans (Nat.le_succ _) l1))
  ·exact (hfp b hb).2.2.2.2.1 x c (cl x c z1)
 ·rcases (hfp b hb).2.2.2.1 with z | z
  ·exact I.ok.noex b o e z
  ·exact absurd (Nat.lt_of_lt_of_le (Heap.lt_size e) (Nat.le_trans I.ok.bsz z)) (Nat.lt_irrefl _)
 ·rcases List.mem_cons.mp (I.stkSub b z) with q | q
  ·exact (hfp b hb).2.1 q
  ·exact (hfp b hb).2.2.1 q
 ·obtain ⟨j,ej,es⟩:=qbD e2
  obtain ⟨hN,hfr⟩:=qa8 hcap ej e1
  have mem:=PySem.mem_of_lookup hfr
  have ho:=(sc.free _ mem rfl).2
  obtain ⟨m0,hn0,hl0⟩:=I.loc
  obtain ⟨u,ru,lk⟩:=hl0 j x v hN es (ho.elim (fun z=>.inr (.inl z)) fun z=>.inr (.inr z))
  refine ⟨u,ru,.inr ⟨?_,?_⟩⟩
  ·rcases e3 with z | z | z
   ·rcases JB z with q | ⟨q,_⟩
    ·rw [hfr] at q;cases q
    ·cases q
   ·exact .inl z
   ·exact .inr z
  ·rcases lk with ⟨z,_⟩ | ⟨_,c,hc',hcell⟩
   ·have z:X.env.scope.names.lookup x=some .local:=z
    rcases ho with q | q <;> (rw [z] at q;cases q)
   ·obtain ⟨c',hc2⟩:=WP (env:=X.env) scope.names [] x (.inl mem)
    have e:=cl x c' hc2
    rw [hc'] at e
    cases e
    obtain ⟨o,eo,d⟩:=hcell
    refine ⟨c,?_,o,hk c o eo,d⟩
    show (cellsFrom (s.heap.objs.size+1) scope.names (CY X.env scope.names [])).lookup x=some c
    rw [jE,DM]
    cases q:(cellsFrom (s.heap.objs.size+1) scope.names []).lookup x with
    | none=>exact hc2
    | some d=>
     rcases YC scope.names _ [] x d (PySem.mem_of_lookup q) with z | z
     ·rw [sc.own _ z rfl] at hfr;cases hfr
     ·simp at z
 ·rcases cs x c e with ⟨_,_,z⟩ | z1
  ·exact ⟨none,z⟩
  ·obtain ⟨v,o,eo,d⟩:=I.cell x c (cl x c z1)
   exact ⟨v,o,hk c o eo,d⟩
 ·rcases cs x c e with ⟨_,l1,_⟩ | z1
  ·exact I.hok.fresh (Nat.le_trans (Nat.le_succ _) l1)
  ·exact I.freeC x c (cl x c z1)
theorem DA {N':List Str} {scope:Scope} {fp:List Addr} {pins':List (Addr×Obj)} {σ':L2.St} {H':Hp} {s':Shared} {h2:Heap} (I:Inv X pins σ H s) (hfp:∀ b∈fp,KM X pins H b) (J:Inv (ql X N' scope s H fp) pins' σ' H' s')
  (sb:Heap.SameBut s.heap.objs.size s'.heap h2):Inv X pins σ H' { s' with heap:=h2 }:=by
 have ne:∀ b o,s.heap.get? b=some o->b≠s.heap.objs.size:=fun b o e=>Nat.ne_of_lt (Heap.lt_size e)
 have g:∀ b,b≠s.heap.objs.size->h2.get? b=s'.heap.get? b:=fun b hb=>sb.2 b hb
 have hn:H' s.heap.objs.size=none:=J.free
 have u:Un (frs X.stack) fp H H' s.heap s'.heap:=J.base
 refine I.call' (s':={ s' with heap:=h2 }) J.os ⟨fun b o e n hb hx=>?_,fun b o e n hb hx=>?_,u.free,fun b o e hx=>?_,u.tups,u.frzs,u.tbls⟩ (fun a o e=>?_) J.bare fun b hb=>⟨(hfp b hb).2.2.2.1,(hfp b hb).2.1,(hfp b hb).2.2.2.2.1,(hfp b hb).2.2.2.2.2⟩
 ·show h2.get? b=_
  rw [g b (ne b o e)];exact u.keep b o e n hb hx
 ·show ∃ sl,h2.get? b=_
  rw [g b (ne b o e)];exact u.slot b o e n hb hx
 ·show ∃ o',h2.get? b=_
  rw [g b (ne b o e)];exact u.there b o e hx
 ·refine (J.hok a o e).stay (fun b v hb q=>?_) (fun _ q=>q) fun _ _ q=>q
  have hb':b≠s.heap.objs.size:=by
   intro z
   subst z
   rcases hb with z | z
   ·rw [← z] at e;rw [hn] at e;cases e
   ·rw [hn] at z;cases z
  rw [g b hb'];exact q
end
end L3
namespace L3
open PySem PySem.Spec PyProof.Rows L2
def tLC (wi:TI) (g:TG) (tif:TT) (te:TE) (m:List (Option Nat)):TE:=fun σ H Q=>wi σ H fun J H1=>∀ D,H1 D=none ->
 ∃ W:Nat->Nat->L2.St->Hp->Prop,(∃ n,W 0 n (cap m σ) (upd H1 D (.lst [])))/\∀ i n σ H,W i n σ H ->
  (J.stop i H/\Q (.ref D) H)\/(J.go i H/\∀ x H',J.yld i H x H'->g x σ H' fun σ2 H2=>tif σ2 H2 fun k H3=>
   if k=true then te σ2 H3 fun y H4=>∃ zs,H4 D=some (.lst zs)/\zs.length < sizeLine/\∃ n',n' < n/\W (i+1) n' σ2 (upd H4 D (.lst (zs++[y])))
   else ∃ n',n' < n/\W (i+1) n' σ2 H3)
section
variable {X:Cx}
theorem qos {elt tg iter:Expr} {ifs:List Expr} {scope:Scope} {pos:Pos} {N':List Str} {m:List (Option Nat)} {wi:TI} {g:TG} {tif:TT} {te:TE} (hc:X.calm=true) (hi:PI X tg iter wi)
  (hg:∀ s H fp,PG (ql X N' scope s H fp) tg g) (hf:∀ s H fp,PF (ql X N' scope s H fp) ifs tif) (he:∀ s H fp,PE (ql X N' scope s H fp) elt te)
  (hsc:qaP X.env.scope scope=true) (hcap:UL X.N N' scope m=true) (hs:∀ x,foldedSetIterable iter X.env x=pure x:=by intro _;rfl) :
  PE X (.ListComp elt [⟨tg,iter,ifs,0⟩] scope pos) (tLC wi g tif te m):=by
 intro pins s σ H Q I h
 have sc:=DI hsc
 have hcl:∀ y∈scope.names,y.2=.free->∃ c,X.env.cells.lookup y.1=some c:=fun y hy e=>by
  rcases (sc.free y hy e).2 with z | z
  ·exact I.ok.has y.1 (.inl z)
  ·exact I.ok.has y.1 (.inr z)
 rw [eval_ListComp]
 refine wpAny_comprehension_free (use:=none) (g:=⟨tg,iter,ifs,0⟩) (gs:=[]) rfl hs (YB hcl) sc.kind sc.loc ?_
 show wpAny _ _ (eval iter X.env) _ _ s
 refine thn (hi pins s σ H _ I h) fun v s1 h1=>thn h1 fun itv s2 h2=>?_
 obtain ⟨it,fp,tn,J,H2,rfl,I2,T,st2,f2,hW⟩:=h2
 refine wpAny_newObj_type ?_
 have hD:H2 s2.heap.objs.size=none:=I2.fresh
 obtain ⟨W,⟨n0,w0⟩,turn⟩:=hW _ hD
 generalize hDe:s2.heap.objs.size=D at *
 have I3:Inv X pins σ (upd H2 D (.lst [])) { s2 with heap:=s2.heap.push { cls:=.type "list",dict:=none,data:=.seq ([]:List Value).toArray } }:=by
  subst hDe
  exact I2.laid (t':=s2.toks) (fun b u e=>Heap.get?_push_of_some _ e) (Nat.le_refl _) ⟨Nat.zero_le _,[],0,.nil,Heap.get?_push_size _ rfl⟩
 have ob2:=T.obj 0 _ st2
 have ob3:∀ b∈fp,∃ o,(s2.heap.push { cls:=.type "list",dict:=none,data:=.seq ([]:List Value).toArray }).get? b=some o:=fun b hb=>let ⟨o,e,_⟩:=ob2 b hb;⟨o,Heap.get?_push_of_some _ e⟩
 have f3:∀ b∈fp,KM X pins (upd H2 D (.lst [])) b:=fun b hb=>by
  obtain ⟨o,e,_⟩:=ob2 b hb
  have:b≠D:=by rw [← hDe];exact Nat.ne_of_lt (Heap.lt_size e)
  exact ⟨by rw [qH this];exact (f2 b hb).1,(f2 b hb).2⟩
 have k23:∀ b o,s2.heap.get? b=some o->(s2.heap.push { cls:=.type "list",dict:=none,data:=.seq ([]:List Value).toArray }).get? b=some o:=fun b o e=>Heap.get?_push_of_some _ e
 generalize hH3:upd H2 D (.lst [])=H3 at *
 generalize hs3:({ s2 with heap:=s2.heap.push { cls:=.type "list",dict:=none,data:=.seq ([]:List Value).toArray } }:Shared)=s3 at *
 have ob3:∀ b∈fp,∃ o,s3.heap.get? b=some o:=by rw [← hs3];exact ob3
 have k23:∀ b o,s2.heap.get? b=some o->s3.heap.get? b=some o:=by rw [← hs3];exact k23
 refine QL fun h₁ hns hk hown=>?_
 have I4:Inv (ql X N' scope s3 H3 fp) [] (cap m σ) H3 { s3 with heap:=h₁ }:=SL hc I3 sc hcap f3 ob3 hns hk hown
 have tn4:tn 0 h₁:=T.keep _ _ _ st2 fun b hb o e=>hk b o (k23 b o e)
 have fr4:∀ b∈fp,H3 b=none:=fun b hb=>(f3 b hb).1
 have stat:∀ {H':Hp},(∀ b∈fp,H' b=none)->∀ b∈fp,KM (ql X N' scope s3 H3 fp) [] H' b:=fun hn b hb=>by
  refine ⟨hn b hb,I4.ok.exf b hb |>.1,I4.ok.exfs b hb,.inl hb,fun x c e=>(I4.ok.exf b hb).2 x c e,fun p hp=>absurd (show p∈([]:List (Addr×Obj)) from hp) (by simp)⟩
 show codeAny (model X.prog X.w) X.A (.compStart (.ListComp elt [⟨tg,iter,ifs,0⟩] scope pos) 0 (.ref it) (.ref D) (ql X N' scope s3 H3 fp).env) (compPost (model X.prog X.w) X.A X.xe none (EP X pins σ Q) (.ref D) s3.heap.objs.size) { s3 with heap:=h₁ }
 have loop:codeAny (model X.prog X.w) X.A (.compLoop (.ListComp elt [⟨tg,iter,ifs,0⟩] scope pos) 0 (.ref it) (.ref D) (ql X N' scope s3 H3 fp).env) (compPost (model X.prog X.w) X.A X.xe none (EP X pins σ Q) (.ref D) s3.heap.objs.size) { s3 with heap:=h₁ }:=by
  refine codeAny_loop rfl (fun n s'=>∃ i σ' H',Inv (ql X N' scope s3 H3 fp) [] σ' H' s'/\tn i s'.heap/\(∀ b∈fp,H' b=none)/\W i n σ' H') (fun n s' hI=>?_) n0 ⟨0,cap m σ,H3,I4,tn4,fr4,w0⟩
  show wpAny _ X.A ((compTurn (.ListComp elt [⟨tg,iter,ifs,0⟩] scope pos) 0 (.ref it) (.ref D) (ql X N' scope s3 H3 fp).env).onRaise (fun x=>do noteFrame x (ql X N' scope s3 H3 fp).env;theTreesLotGoes x)) _ _ s'
  refine wpAny_noted ?_
  rw [compTurn_list]
  refine wpAny_bind (wpAny_standAt (wpAny_bind ?_))
  obtain ⟨i,σ5,H5,I5,st5,fr5,w5⟩:=hI
  rcases turn i n σ5 H5 w5 with ⟨stop,q⟩ | ⟨go,step⟩
  ·refine thn (T.done (ql X N' scope s3 H3 fp) rfl rfl rfl rfl i [] s' σ5 H5 _ I5 (stat fr5) st5 stop) fun r s6 ⟨hr,I6⟩=>?_
   subst hr
   refine wpAny_pure ?_
   obtain ⟨mm,hn6,_⟩:=I6.loc
   exact ⟨mm,hn6,fun h' sb=>⟨.ref D,H5,DA I3 f3 I6 sb,rfl,q⟩⟩
  ·refine thn (T.item (ql X N' scope s3 H3 fp) rfl rfl rfl rfl i [] s' σ5 H5 _ I5 (stat fr5) st5 go) fun r s6 ⟨u,hr,h6⟩=>?_
   subst hr
   refine wpAny_bind (thn h6 fun _ s7 ⟨x,H7,I7,r7,y7,st7,fr7⟩=>?_)
   have I7':=I7.pinned (stat fr7) (T.obj _ _ st7)
   have again:∀ {σ8:L2.St} {H8:Hp} {s8:Shared},Inv (ql X N' scope s3 H3 fp) ([]++D8 fp s7.heap) σ8 H8 s8->(∃ n',n' < n/\W (i+1) n' σ8 H8) ->
     ∃ m',m' < n/\∃ i σ' H',Inv (ql X N' scope s3 H3 fp) [] σ' H' s8/\tn i s8.heap/\(∀ b∈fp,H' b=none)/\W i m' σ' H':=fun {σ8 H8 s8} I8 ⟨n',hn,w8⟩=>by
    refine ⟨n',hn,i+1,σ8,H8,I8.unpinned,T.keep _ _ _ st7 fun b hb o e=>(I8.pin (b,o) (List.mem_append_right _ (List.mem_append_right _ (zO hb e)))).1,fun b hb=>?_,w8⟩
    obtain ⟨o,e,d⟩:=T.obj _ _ st7 b hb
    exact (I8.pin (b,o) (List.mem_append_right _ (List.mem_append_right _ (zO hb e)))).2.1
   refine wpAny_bind (wpAny_mono (hg s3 H3 fp _ s7 σ5 H7 x u _ I7' r7 (step x H7 y7)) (fun _ s8 ⟨σ8,H8,I8,q8⟩=>?_) fun _ _ z=>z.elim)
   refine wpAny_bind (wpAny_mono (hf s3 H3 fp _ s8 σ8 H8 _ I8 q8) (fun k s9 ⟨H9,I9,q9⟩=>?_) fun _ _ z=>z.elim)
   cases k with
   | false=>
    rw [if_neg Bool.false_ne_true] at q9
    exact wpAny_pure ⟨rfl,again I9 q9⟩
   | true=>
    rw [if_pos rfl] at q9
    refine wpAny_bind (wpAny_bind (wpAny_mono (he s3 H3 fp _ s9 σ8 H9 _ I9 q9) (fun w s10 ⟨y,H10,I10,r10,q10⟩=>?_) fun _ _ z=>z.elim))
    obtain ⟨zs,hz,hl,q10⟩:=q10
    refine wpAny_bind (wpAny_mono (UW (X:=ql X N' scope s3 H3 fp) _ s10 σ8 H10 (.ref D) [y] (.ref D) [w] (fun _ H11=>H11=upd H10 D (.lst (zs++[y]))) I10 rfl (.cons r10 .nil) ⟨D,zs,y,rfl,rfl,hz,hl,rfl⟩) (fun _ s11 ⟨_,H11,I11,_,e11⟩=>?_) fun _ _ z=>z.elim)
    subst e11
    exact wpAny_pure (wpAny_pure ⟨rfl,again I11 q10⟩)
 exact codeAny_compStart_list loop (T.self X.A 0 _ _ _ tn4 loop)
end
end L3
namespace L3
open PySem PySem.Spec PyProof.Rows L2
section
variable {K:PySem.W.Frag} {G G':Gp} {H H':Hp}
theorem qhv {D:Addr} {o:HO} {ws:List V} (hD:H D=some (.lst ws)) {a:Addr} {vs:List V} (h:SqT K H a vs):SqT K (upd H D o) a vs:=by
 rcases h with h | h
 ·refine .inl ?_
  rcases h with h | ⟨ob,h⟩
  ·have:a≠D:=by intro e;subst e;rw [hD] at h;cases h
   exact .inl (by rw [qH this];exact h)
  ·have:a≠D:=by intro e;subst e;rw [hD] at h;cases h
   exact .inr ⟨ob,by rw [qH this];exact h⟩
 ·exact .inr h
mutual
theorem Rp.wrD {D:Addr} {o:HO} {ws:List V} (hD:H D=some (.lst ws)):∀ {x:T} {v:V},Rp K H x v->Rp K (upd H D o) x v
 | _,_,.non=>.non
 | _,_,.bl b=>.bl b
 | _,_,.int i=>.int i
 | _,_,.str x=>.str x
 | _,_,.ref a=>.ref a
 | _,_,.tup h hs=>.tup (qhv hD h) (Rps.wrD hD hs)
theorem Rps.wrD {D:Addr} {o:HO} {ws:List V} (hD:H D=some (.lst ws)):∀ {x:List T} {v:List V},Rps K H x v->Rps K (upd H D o) x v
 | _,_,.nil=>.nil
 | _,_,.cons a b=>.cons (Rp.wrD hD a) (Rps.wrD hD b)
end
theorem HR.wrD {D:Addr} {o:HO} {ws:List V} (hr:HR K G H) (hD:H D=some (.lst ws)) (g:G D=none):HR K G (upd H D o):=fun a ob e=>by
 have ha:a≠D:=by intro z;subst z;rw [g] at e;cases e
 have q:=hr a ob e
 cases ob with
 | lst xs=>obtain ⟨vs,h1,h2⟩:=q;exact ⟨vs,by rw [qH ha];exact h1,h2.wrD hD⟩
 | frz xs=>obtain ⟨vs,⟨o1,h1⟩,h2⟩:=q;exact ⟨vs,⟨o1,by rw [qH ha];exact h1⟩,h2.wrD hD⟩
theorem Rel.wrD {D:Addr} {o:HO} {ws:List V} {τ:St3} {σ:L2.St} (r:Rel K τ G σ H) (hD:H D=some (.lst ws)) (g:G D=none):Rel K τ G σ (upd H D o):=
 ⟨r.hp.wrD hD g,r.len,fun i t e=>let ⟨v,h1,h2⟩:=r.st i t e;⟨v,h1,h2.wrD hD⟩⟩
theorem Kp.wrD {D:Addr} {o:HO} (k:Kp G H G' H') (hD:H D=none):Kp G H G' (upd H' D o):=fun a ob h g=>by
 obtain ⟨h1,h2⟩:=k a ob h g
 exact ⟨by rw [qH (qA h hD)];exact h1,h2⟩
theorem qdk {α:Type} {m:List (Option Nat)} {σ:List (Option α)} {i j:Nat} (h:m[i]?=some (some j)):(cap m σ)[i]?=some ((σ[j]?).join):=by
 unfold cap;rw [List.getElem?_map,h];rfl
theorem Rel.cap {τ:St3} {σ:L2.St} (r:Rel K τ G σ H) (m:List (Option Nat)):Rel K (cap m τ) G (L3.cap m σ) H:=by
 refine ⟨r.hp,by simp [L3.cap],fun i t e=>?_⟩
 obtain ⟨j,e1,e2⟩:=qbD e
 obtain ⟨v,h1,h2⟩:=r.st j t e2
 exact ⟨v,by rw [qdk e1,h1];rfl,h2⟩
end
def M4 (stay:Gp->Prop) (g:TG3) (tif:TT3) (te:TE3) (q:Q3):List T->List T->St3->Gp->Prop
 | [],ys,_,G=>stay G/\∀ p,G p=none->q (.ref p) (gu G p (.lst ys))
 | x :: r,ys,τ,G=>stay G/\g x τ G fun τ2 G2=>tif τ2 G2 fun k G3=>if k=true then te τ2 G3 fun y G4=>ys.length < sizeLine/\M4 stay g tif te q r (ys++[y]) τ2 G4 else M4 stay g tif te q r ys τ2 G3
def lc3 (wi:TI3) (g:TG3) (tif:TT3) (te:TE3) (m:List (Option Nat)):TE3:=fun τ G q=>wi τ G fun items stay G1=>M4 stay g tif te q items [] (cap m τ) G1
abbrev F3 (X:Cx) (ifs:List Expr) (t:TT3):Prop:=PF X ifs (lT X.K t)
def tt3:TT3:=fun _ G q=>q true G
theorem qoV {X:Cx}:F3 X [] tt3:=fun pins s σ H Q I ⟨τ,G,q,rl,h,af⟩=>qnn pins s σ H Q I (af true G h H rl.hp Kp.refl)
theorem qpm {X:Cx} {c:Expr} {t:TT3} (h:C3 X c t):F3 X [c] t:=qjp h
section
variable {X:Cx}
theorem qq4 {elt tg iter:Expr} {ifs:List Expr} {scope:Scope} {pos:Pos} (N':List Str) (m:List (Option Nat)) {wi:TI3} {g:TG3} {tif:TT3} {te:TE3} (hc:X.calm=true) (hi:I3 X tg iter wi)
  (hg:∀ s H fp,G3 (ql X N' scope s H fp) tg g) (hf:∀ s H fp,F3 (ql X N' scope s H fp) ifs tif) (he:∀ s H fp,E3 (ql X N' scope s H fp) elt te)
  (hsc:qaP X.env.scope scope=true) (hcap:UL X.N N' scope m=true) (hs:∀ x,foldedSetIterable iter X.env x=pure x:=by intro _;rfl) :
  E3 X (.ListComp elt [⟨tg,iter,ifs,0⟩] scope pos) (lc3 wi g tif te m):=
 WS (qos (g:=lG X.K g) (tif:=lT X.K tif) (te:=lE X.K te) hc hi hg hf he hsc hcap hs) fun σ H Q ⟨τ,G,q,rl,h,af⟩=>by
  refine ⟨τ,G,_,rl,h,fun items stay G1 h1 J H1 hr1 k1 ok D hD=>?_⟩
  have gD:G1 D=none:=hr1.free hD
  refine ⟨fun i n σ' H'=>n=items.length - i/\i<=items.length/\∃ τ' G' ys vs,Rel X.K τ' G' σ' H'/\Kp G1 H1 G' H'/\H' D=some (.lst vs)/\Rps X.K H' ys vs/\G' D=none/\M4 stay g tif te q (items.drop i) ys τ' G',
   ⟨_,rfl,Nat.zero_le _,cap m τ,G1,[],[],((rl.next hr1 k1).cap m).next (hr1.laid hD) (Kp.laid hD),Kp.laid hD,zm,.nil,gD,by simpa using h1⟩,?_⟩
  rintro i n σ' H' ⟨rfl,hi,τ',G',ys,vs,rl',k',hDl,rys,gD',h'⟩
  by_cases hlt:i < items.length
  ·rw [List.drop_eq_getElem_cons hlt] at h'
   obtain ⟨hst,h'⟩:=h'
   obtain ⟨go,yld,_⟩:=ok G' H' rl'.hp k' hst
   have hx:items[i]?=some items[i]:=List.getElem?_eq_getElem hlt
   refine .inr ⟨go i _ hx,fun v H2 y=>?_⟩
   obtain ⟨rv,hr2,k2⟩:=yld i _ v H2 hx y
   have nxt:∀ {τ4:St3} {G4:Gp} {σ4:L2.St} {H4:Hp} {ys4:List T} {vs4:List V},Rel X.K τ4 G4 σ4 H4->Kp G1 H1 G4 H4->H4 D=some (.lst vs4)->Rps X.K H4 ys4 vs4->G4 D=none->M4 stay g tif te q (items.drop (i+1)) ys4 τ4 G4 ->
     ∃ n',n' < items.length - i/\(n'=items.length - (i+1)/\i+1<=items.length/\∃ τ' G' ys vs,Rel X.K τ' G' σ4 H4/\Kp G1 H1 G' H4/\H4 D=some (.lst vs)/\Rps X.K H4 ys vs/\G' D=none/\M4 stay g tif te q (items.drop (i+1)) ys τ' G'):=
    fun {τ4 G4 σ4 H4 ys4 vs4} a b c d e f=>⟨_,by omega,rfl,hlt,τ4,G4,ys4,vs4,a,b,c,d,e,f⟩
   refine ⟨_,τ',G',_,rv,rl'.next hr2 k2,h',fun τ3 G3 h3 σ3 H3 rl3 k3=>⟨τ3,G3,_,rl3,h3,fun k G4 h4 H4 hr4 k4=>?_⟩⟩
   have kk:=(k2.trans k3).trans k4
   obtain ⟨hD4,gD4⟩:=kk D _ hDl gD'
   have rys4:=rys.keep rl'.hp kk
   cases k with
   | false=>
    rw [if_neg Bool.false_ne_true] at h4
    refine qny ?_
    exact nxt (rl3.next hr4 k4) (k'.trans kk) hD4 rys4 gD4 h4
   | true=>
    rw [if_pos rfl] at h4
    refine qnG ?_
    refine ⟨τ3,G4,_,rl3.next hr4 k4,h4,fun z G5 h5 w H5 rw5 hr5 k5=>?_⟩
    obtain ⟨hD5,gD5⟩:=k5 D _ hD4 gD4
    have rys5:=rys4.keep hr4 k5
    exact ⟨vs,hD5,by rw [← rys.length];exact h5.1,nxt (((rl3.next hr4 k4).next hr5 k5).wrD hD5 gD5) (((k'.trans kk).trans k5).wrD hD) zm ((rys5.append (.cons rw5 .nil)).wrD hD5) gD5 h5.2⟩
  ·have e:i=items.length:=by omega
   subst e
   rw [List.drop_length] at h'
   obtain ⟨_,_,stop⟩:=ok G' H' rl'.hp k' h'.1
   refine .inl ⟨stop,af _ _ (h'.2 D gD') _ H' (.ref D) (fun a o e=>?_) fun a o e ga=>?_⟩
   ·by_cases ha:a=D
    ·subst ha
     rw [qT] at e;cases e
     exact ⟨vs,hDl,rys⟩
    ·rw [QP ha] at e
     exact rl'.hp a o e
   ·obtain ⟨e1,g1⟩:=k1 a o e ga
    obtain ⟨e2,g2⟩:=k' a o e1 g1
    exact ⟨e2,by rw [QP (qA e1 hD)];exact g2⟩
end
end L3
namespace L3
open PySem PySem.Spec PyProof.Rows L2
structure Src (P:Program) (w:World) (it c:Addr) (St:Nat->Heap->Prop) (Has:Array Value->Heap->Prop):Prop where
 obj:∀ {k h},St k h->∃ o,h.get? it=some o/\∀ v,o.data≠.cell v
 keep:∀ {k h h'},St k h->(∀ o,h.get? it=some o->h'.get? it=some o)->St k h'
 hkeep:∀ {xs h h'},Has xs h->(∀ o,h.get? c=some o->h'.get? c=some o)->Has xs h'
 item:∀ {A:Around} {s:Shared} {k:Nat} {xs:Array Value} {x:Value} {Q:Value->Shared->Prop} {E:Value->Shared->Prop},St k s.heap->Has xs s.heap->xs[k]?=some x ->
  (∀ h',St (k+1) h'->Heap.SameBut it s.heap h'->Q x { s with heap:=h' })->wpAny (model P w) A (Builtin.SmallTypes.nextOf (.ref it)) Q E s
 done:∀ {A:Around} {s:Shared} {k:Nat} {xs:Array Value} {Q:Value->Shared->Prop} {E:Value->Shared->Prop},A.handled=none->St k s.heap->Has xs s.heap->xs[k]?=none ->
  (∀ h' e,Heap.ExtBut it s.heap h'->(∃ o,h'.get? e=some o/\o.cls=.type "StopIteration")->E (.ref e) { s with heap:=h' })->wpAny (model P w) A (Builtin.SmallTypes.nextOf (.ref it)) Q E s
theorem qda {P:Program} {w:World} (it l:Addr):Src P w it l (fun k h=>h.IsListIter it l k) (fun xs h=>h.IsList l xs) where
 obj:=fun st=>let ⟨o,e,_,d⟩:=st;⟨o,e,fun v z=>by rw [d] at z;cases z⟩
 keep:=fun st k=>st.at fun o e=>k o e
 hkeep:=fun st k=>st.at fun o e=>k o e
 item:=fun st hl hx hQ=>wpAny_nextOf_list_item st hl hx hQ
 done:=fun hh st hl hx hE=>wpAny_nextOf_list_end hh st hl hx hE
theorem qat {P:Program} {w:World} {A:Around} {s:Shared} {it t:Addr} {i:Nat} {its:Array Value} {x:Value} {Q:Value->Shared->Prop} {E:Value->Shared->Prop} (hit:s.heap.IsTupleIter it t i) (ht:s.heap.IsTuple t its) (hx:its[i]?=some x)
  (hQ:∀ h',h'.IsTupleIter it t (i+1)->Heap.SameBut it s.heap h'->Q x { s with heap:=h' }):wpAny (model P w) A (Builtin.SmallTypes.nextOf (.ref it)) Q E s:=by
 obtain ⟨o1,e1,c1,d1⟩:=id hit
 obtain ⟨o2,e2,_,n2,d2⟩:=ht
 unfold Builtin.SmallTypes.nextOf
 refine wpAny_bind (wpAny_callSpecial?_slot (name:=Str.ofString "__next__") hit.typeIs F.slot_tuple_iterator_next (wpAny_call_entry F.slot_tuple_iterator_next hit.typeIs F.entry_tuple_iterator_next ?_ (F.args_tuple_iterator_next_1 _)))
 refine wpAny_bind (m:=field (.ref it) 0) (wpAny_field e1 d1 (x:=.ref t) rfl ?_)
 rw [if_neg (show ¬ ((Value.ref t == Value.none)=true) by exact Bool.false_ne_true)]
 refine wpAny_bind (m:=field (.ref it) 1) (wpAny_field e1 d1 (x:=.int i 0) rfl ?_)
 refine wpAny_bind (m:=seqItems? (.ref t)) (wpAny_seqItems e2 d2 ?_)
 simp only [Int.toNat_natCast,hx]
 refine wpAny_bind (wpAny_setField e1 d1 (by simp) (wpAny_pure ⟨x,rfl,wpAny_pure (hQ _ ⟨_,Heap.get?_update_self _ e1 (Obj.isFreed_of_fields (Obj.data_mapFields d1 _)),(Obj.cls_mapFields ..).trans c1,?_⟩ (Heap.SameBut.update ..))⟩))
 rw [Obj.data_mapFields d1];simp [rawInt]
theorem CI {P:Program} {w:World} {A:Around} {s:Shared} {it t:Addr} {i:Nat} {its:Array Value} {Q:Value->Shared->Prop} {E:Value->Shared->Prop} (hh:A.handled=none) (hit:s.heap.IsTupleIter it t i) (ht:s.heap.IsTuple t its) (hx:its[i]?=none)
  (hE:∀ h' e,Heap.ExtBut it s.heap h'->(∃ o,h'.get? e=some o/\o.cls=.type "StopIteration")->E (.ref e) { s with heap:=h' }):wpAny (model P w) A (Builtin.SmallTypes.nextOf (.ref it)) Q E s:=by
 obtain ⟨o1,e1,c1,d1⟩:=id hit
 obtain ⟨o2,e2,_,n2,d2⟩:=ht
 unfold Builtin.SmallTypes.nextOf
 refine wpAny_bind (wpAny_callSpecial?_slot (name:=Str.ofString "__next__") hit.typeIs F.slot_tuple_iterator_next (wpAny_call_entry F.slot_tuple_iterator_next hit.typeIs F.entry_tuple_iterator_next ?_ (F.args_tuple_iterator_next_1 _)))
 refine wpAny_bind (m:=field (.ref it) 0) (wpAny_field e1 d1 (x:=.ref t) rfl ?_)
 rw [if_neg (show ¬ ((Value.ref t == Value.none)=true) by exact Bool.false_ne_true)]
 refine wpAny_bind (m:=field (.ref it) 1) (wpAny_field e1 d1 (x:=.int i 0) rfl ?_)
 refine wpAny_bind (m:=seqItems? (.ref t)) (wpAny_seqItems e2 d2 ?_)
 simp only [Int.toNat_natCast,hx]
 refine wpAny_bind (wpAny_rule (wpAny_bind (wpAny_setField e1 d1 (by simp) ?_)))
 refine wpAny_bind (m:=newExc (.type "StopIteration") []) ?_
 simp only [newExc,newTuple]
 refine wpAny_bind (wpAny_newObj_type ?_ (by size_fits))
 refine wpAny_bind (m:=firstArgMember _ _) (wpAny_of_eq (a:=Value.none) (by first | rfl | (simp only [firstArgMember] <;> rfl)) (wpAny_newObj_type ?_ (by size_fits)))
 simp only [raiseNew]
 refine wpAny_bind (wpAny_handled ?_)
 first | rw [show A.in1.handled=Option.none from hh] | rw [show A.handled=Option.none from hh]
 exact wpAny_bind (wpAny_pure (wpAny_throw (hE _ _ (((Heap.SameBut.update ..).extBut.push _).push _) ⟨_,Heap.get?_push_size _ rfl,rfl⟩)))
theorem qhf {P:Program} {w:World} (it t:Addr):Src P w it t (fun k h=>h.IsTupleIter it t k) (fun xs h=>h.IsTuple t xs) where
 obj:=fun st=>let ⟨o,e,_,d⟩:=st;⟨o,e,fun v z=>by rw [d] at z;cases z⟩
 keep:=fun st k=>st.at fun o e=>k o e
 hkeep:=fun st k=>st.at fun o e=>k o e
 item:=fun st hl hx hQ=>qat st hl hx hQ
 done:=fun hh st hl hx hE=>CI hh st hl hx hE
structure ZA (z ti to i1 i2 c1 c2:Addr):Prop where
 ne:([z,ti,to,i1,i2]:List Addr).Nodup
 a1:c1 ∉ [z,to,i1,i2]
 a2:c2 ∉ [z,to,i1,i2]
section
variable {P:Program} {w:World} {A:Around} {s:Shared} {z ti to i1 i2 c1 c2:Addr} {S1 S2:Nat->Heap->Prop} {H1 H2:Array Value->Heap->Prop} {k1 k2:Nat} {xs ys:Array Value} {x y a b:Value} {E:Value->Shared->Prop}
theorem qdo {Q:Value->Shared->Prop} (R1:Src P w i1 c1 S1 H1) (R2:Src P w i2 c2 S2 H2) (D:ZA z ti to i1 i2 c1 c2) (hz:IsZip s.heap z ti to .none) (hi:IsPair s.heap ti (.ref i1) (.ref i2)) (ho:IsPair s.heap to a b)
  (p1:S1 k1 s.heap) (p2:S2 k2 s.heap) (l1:H1 xs s.heap) (l2:H2 ys s.heap) (hx:xs[k1]?=some x) (hy:ys[k2]?=some y)
  (hQ:∀ h',IsZip h' z ti to (rawInt s.heap.objs.size)->IsPair h' to x y->S1 (k1+1) h'->S2 (k2+1) h'->IsPair h' s.heap.objs.size x y->(∀ c o,c ∉ [z,to,i1,i2]->s.heap.get? c=some o->h'.get? c=some o)->Q (.ref s.heap.objs.size) { s with heap:=h' }) :
  wpAny (model P w) A (Builtin.«zip.__next__» ⟨[.ref z],[]⟩) (fun fin s'=>∃ v,fin=.done (.ret v)/\Q v s') E s:=by
 have ne:=D.ne
 simp only [List.nodup_cons,List.mem_cons,List.not_mem_nil,not_or,or_false] at ne
 obtain ⟨⟨n1,n2,n3,n4⟩,⟨n5,n6,n7⟩,⟨n8,n9⟩,n10,_⟩:=ne
 have a1:=D.a1
 have a2:=D.a2
 simp only [List.mem_cons,List.not_mem_nil,not_or,or_false] at a1 a2
 obtain ⟨q1,q2,q3,q4⟩:=a1
 obtain ⟨r1,r2,r3,r4⟩:=a2
 refine wpAny_bind (m:=field (.ref z) 2) (wpAny_field hz rfl (x:=.bool false) rfl ?_)
 refine wpAny_bind (m:=field (.ref z) 3) (wpAny_field hz rfl (x:=.ref ti) rfl ?_)
 refine wpAny_bind (wpAny_seqItems hi rfl ?_)
 refine wpAny_bind (m:=Builtin.SmallTypes.ownedTupleIsFree (.ref z)) ?_
 unfold Builtin.SmallTypes.ownedTupleIsFree
 refine wpAny_bind (wpAny_field hz rfl (x:=Value.none) rfl (wpAny_pure ?_))
 simp only [if_true]
 refine wpAny_bind (wpAny_rule (wpAny_bind (wpAny_field hz rfl (x:=.ref to) rfl (wpAny_bind (wpAny_setField_rec hz (by simp) fun g1 z1 s1=>?_)))))
 replace z1:IsZip g1 z ti to Value.ellipsis:=z1
 refine wpAny_bind ?_
 simp only [List.zipIdx_cons,List.zipIdx_nil,List.forIn_cons,List.forIn_nil]
 refine wpAny_bind (wpAny_bind (wpAny_onRaise (wpAny_bind (m:=Builtin.SmallTypes.nextOf (.ref i1)) ?_)))
 refine R1.item (R1.keep p1 fun o e=>s1.extBut _ _ (Ne.symm n3) e) (R1.hkeep l1 fun o e=>s1.extBut _ _ q1 e) hx fun g2 p12 s2=>wpAny_pure ?_
 have t2:IsPair g2 to a b:=s2.extBut _ _ n8 (s1.extBut _ _ (Ne.symm n2) ho)
 refine wpAny_bind (wpAny_seqItems t2 rfl (wpAny_bind (wpAny_updateSeq_pair t2 fun g3 t3 s3=>?_)))
 replace t3:IsPair g3 to x b:=t3
 refine wpAny_bind (wpAny_letGo (wpAny_pure (wpAny_bind (wpAny_bind (wpAny_onRaise (wpAny_bind (m:=Builtin.SmallTypes.nextOf (.ref i2)) ?_))))))
 refine R2.item (R2.keep p2 fun o e=>s3.extBut _ _ (Ne.symm n9) (s2.extBut _ _ (Ne.symm n10) (s1.extBut _ _ (Ne.symm n4) e))) (R2.hkeep l2 fun o e=>s3.extBut _ _ r2 (s2.extBut _ _ r3 (s1.extBut _ _ r1 e))) hy fun g4 p24 s4=>wpAny_pure ?_
 have t4:IsPair g4 to x b:=s4.extBut _ _ n9 t3
 refine wpAny_bind (wpAny_seqItems t4 rfl (wpAny_bind (wpAny_updateSeq_pair t4 fun g5 t5 s5=>?_)))
 replace t5:IsPair g5 to x y:=t5
 refine wpAny_bind (wpAny_letGo (wpAny_pure (wpAny_pure (wpAny_bind (wpAny_seqItems t5 rfl (wpAny_bind (wpAny_newTuple ?_)))))))
 have sz:g5.objs.size=s.heap.objs.size:=by rw [s5.1,s4.1,s3.1,s2.1,s1.1]
 have z5:IsZip g5 z ti to Value.ellipsis:=s5.extBut _ _ n2 (s4.extBut _ _ n4 (s3.extBut _ _ n2 (s2.extBut _ _ n3 z1)))
 have kk:∀ c o,c ∉ [z,to,i1,i2]->s.heap.get? c=some o->g5.get? c=some o:=fun c o hc e=>by
  simp only [List.mem_cons,List.not_mem_nil,not_or,or_false] at hc
  exact s5.extBut _ _ hc.2.1 (s4.extBut _ _ hc.2.2.2 (s3.extBut _ _ hc.2.1 (s2.extBut _ _ hc.2.2.1 (s1.extBut _ _ hc.1 e))))
 have p15:S1 (k1+1) g5:=R1.keep p12 fun o e=>s5.extBut _ _ (Ne.symm n8) (s4.extBut _ _ n10 (s3.extBut _ _ (Ne.symm n8) e))
 have p25:S2 (k2+1) g5:=R2.keep p24 fun o e=>s5.extBut _ _ (Ne.symm n9) e
 have zlt:z < g5.objs.size:=Heap.lt_size z5
 refine wpAny_bind (m:=Builtin.SmallTypes.ownedTupleHandOut (.ref z) (.ref g5.objs.size)) ?_
 unfold Builtin.SmallTypes.ownedTupleHandOut
 have z6:IsZip (g5.push { cls:=.type "tuple",data:=.seq #[x,y] }) z ti to Value.ellipsis:=Heap.get?_push_of_some _ z5
 refine wpAny_bind (wpAny_setField_rec z6 (by simp) fun g7 z7 s7=>?_)
 replace z7:IsZip g7 z ti to (rawInt g5.objs.size):=z7
 refine wpAny_setField_rec z7 (by simp) fun g8 z8 s8=>?_
 replace z8:IsZip g8 z ti to (rawInt g5.objs.size):=z8
 have up:∀ c o,c≠z->g5.get? c=some o->g8.get? c=some o:=fun c o hc e=>s8.extBut _ _ hc (s7.extBut _ _ hc (Heap.get?_push_of_some _ e))
 have t8:IsPair g8 g5.objs.size x y:=s8.extBut _ _ (Nat.ne_of_gt zlt) (s7.extBut _ _ (Nat.ne_of_gt zlt) (Heap.get?_push_size _ rfl))
 rw [sz] at z8 t8
 refine wpAny_pure ⟨_,rfl,?_⟩
 show Q (Value.ref g5.objs.size) _
 rw [sz]
 exact hQ g8 z8 (up _ _ (Ne.symm n2) t5) (R1.keep p15 fun o e=>up _ o (Ne.symm n3) e) (R2.keep p25 fun o e=>up _ o (Ne.symm n4) e) t8 fun c o hc e=>up c o (fun q=>hc (by simp [q])) (kk c o hc e)
theorem qh4 {Q:Fin->Shared->Prop} (hh:A.handled=none) (R1:Src P w i1 c1 S1 H1) (R2:Src P w i2 c2 S2 H2) (D:ZA z ti to i1 i2 c1 c2) (hz:IsZip s.heap z ti to .none) (hi:IsPair s.heap ti (.ref i1) (.ref i2)) (ho:IsPair s.heap to a b)
  (p1:S1 k1 s.heap) (p2:S2 k2 s.heap) (l1:H1 xs s.heap) (l2:H2 ys s.heap) (hend:xs[k1]?=none\/ys[k2]?=none)
  (hE:∀ h' e,(∀ c o,c ∉ [z,to,i1,i2]->s.heap.get? c=some o->h'.get? c=some o)->(∃ o,h'.get? e=some o/\o.cls=.type "StopIteration")->E (.ref e) { s with heap:=h' }) :
  wpAny (model P w) A (Builtin.«zip.__next__» ⟨[.ref z],[]⟩) Q E s:=by
 have ne:=D.ne
 simp only [List.nodup_cons,List.mem_cons,List.not_mem_nil,not_or,or_false] at ne
 obtain ⟨⟨n1,n2,n3,n4⟩,⟨n5,n6,n7⟩,⟨n8,n9⟩,n10,_⟩:=ne
 have a1:=D.a1
 have a2:=D.a2
 simp only [List.mem_cons,List.not_mem_nil,not_or,or_false] at a1 a2
 obtain ⟨q1,q2,q3,q4⟩:=a1
 obtain ⟨r1,r2,r3,r4⟩:=a2
 refine wpAny_bind (m:=field (.ref z) 2) (wpAny_field hz rfl (x:=.bool false) rfl ?_)
 refine wpAny_bind (m:=field (.ref z) 3) (wpAny_field hz rfl (x:=.ref ti) rfl ?_)
 refine wpAny_bind (wpAny_seqItems hi rfl ?_)
 refine wpAny_bind (m:=Builtin.SmallTypes.ownedTupleIsFree (.ref z)) ?_
 unfold Builtin.SmallTypes.ownedTupleIsFree
 refine wpAny_bind (wpAny_field hz rfl (x:=Value.none) rfl (wpAny_pure ?_))
 simp only [if_true]
 refine wpAny_bind (wpAny_rule (wpAny_bind (wpAny_field hz rfl (x:=.ref to) rfl (wpAny_bind (wpAny_setField_rec hz (by simp) fun g1 z1 s1=>?_)))))
 replace z1:IsZip g1 z ti to Value.ellipsis:=z1
 refine wpAny_bind ?_
 simp only [List.zipIdx_cons,List.zipIdx_nil,List.forIn_cons,List.forIn_nil]
 refine wpAny_bind (wpAny_bind (wpAny_onRaise (wpAny_bind (m:=Builtin.SmallTypes.nextOf (.ref i1)) ?_)))
 cases hx:xs[k1]? with
 | none=>
  refine R1.done hh (R1.keep p1 fun o e=>s1.extBut _ _ (Ne.symm n3) e) (R1.hkeep l1 fun o e=>s1.extBut _ _ q1 e) hx fun g2 e s2 ⟨oe,he,ce⟩=>?_
  have z2:IsZip g2 z ti to Value.ellipsis:=s2 _ _ n3 z1
  have ez:e≠z:=fun q=>by subst q;rw [z2] at he;cases he;simp at ce
  refine wpAny_setField_rec z2 (by simp) fun g3 _ s3=>hE g3 e (fun c o hc q=>?_) ⟨oe,s3.extBut _ _ ez he,ce⟩
  simp only [List.mem_cons,List.not_mem_nil,not_or,or_false] at hc
  exact s3.extBut _ _ hc.1 (s2 _ _ hc.2.2.1 (s1.extBut _ _ hc.1 q))
 | some x=>
  have hy:ys[k2]?=none:=by rcases hend with q | q;rw [hx] at q;cases q;exact q
  refine R1.item (R1.keep p1 fun o e=>s1.extBut _ _ (Ne.symm n3) e) (R1.hkeep l1 fun o e=>s1.extBut _ _ q1 e) hx fun g2 p12 s2=>wpAny_pure ?_
  have t2:IsPair g2 to a b:=s2.extBut _ _ n8 (s1.extBut _ _ (Ne.symm n2) ho)
  refine wpAny_bind (wpAny_seqItems t2 rfl (wpAny_bind (wpAny_updateSeq_pair t2 fun g3 t3 s3=>?_)))
  refine wpAny_bind (wpAny_letGo (wpAny_pure (wpAny_bind (wpAny_bind (wpAny_onRaise (wpAny_bind (m:=Builtin.SmallTypes.nextOf (.ref i2)) ?_))))))
  refine R2.done hh (R2.keep p2 fun o e=>s3.extBut _ _ (Ne.symm n9) (s2.extBut _ _ (Ne.symm n10) (s1.extBut _ _ (Ne.symm n4) e))) (R2.hkeep l2 fun o e=>s3.extBut _ _ r2 (s2.extBut _ _ r3 (s1.extBut _ _ r1 e))) hy fun g4 e s4 ⟨oe,he,ce⟩=>?_
  have z4:IsZip g4 z ti to Value.ellipsis:=s4 _ _ n4 (s3.extBut _ _ n2 (s2.extBut _ _ n3 z1))
  have ez:e≠z:=fun q=>by subst q;rw [z4] at he;cases he;simp at ce
  refine wpAny_setField_rec z4 (by simp) fun g5 _ s5=>hE g5 e (fun c o hc q=>?_) ⟨oe,s5.extBut _ _ ez he,ce⟩
  simp only [List.mem_cons,List.not_mem_nil,not_or,or_false] at hc
  exact s5.extBut _ _ hc.1 (s4 _ _ hc.2.2.2 (s3.extBut _ _ hc.2.1 (s2.extBut _ _ hc.2.2.1 (s1.extBut _ _ hc.1 q))))
end
end L3
namespace L3
open PySem PySem.Spec PyProof.Rows L2
abbrev qpe (b:Bool):String:=if b then "list_iterator" else "tuple_iterator"
abbrev zT (b:Bool) (c:Addr):Obj:={ cls:=.type (qpe b),data:=.fields #[.ref c,.int 0 0] }
def qdU (b:Bool) (it c:Addr) (k:Nat) (h:Heap):Prop:=match b with | true=>h.IsListIter it c k | false=>h.IsTupleIter it c k
def LL (b:Bool) (c:Addr) (xs:Array Value) (h:Heap):Prop:=match b with | true=>h.IsList c xs | false=>h.IsTuple c xs
theorem zU {P:Program} {w:World} (b:Bool) (it c:Addr):Src P w it c (qdU b it c) (LL b c):=by
 cases b
 ·exact qhf it c
 ·exact qda it c
theorem L9 {P:Program} {w:World} {A:Around} {s:Shared} {b:Bool} {c:Addr} {xs:Array Value} {Q:Value->Shared->Prop} {E:Value->Shared->Prop} (h:LL b c xs s.heap) (q:Q (.ref s.heap.objs.size) { s with heap:=s.heap.push (zT b c) }) :
  wpAny (model P w) A (pyIter (.ref c)) Q E s:=by
 cases b
 ·exact wpAny_pyIter_tuple (show s.heap.IsTuple c xs from h) q
 ·exact wpAny_pyIter_list (show s.heap.IsList c xs from h) q
theorem qci {b:Bool} {c:Addr} {xs:Array Value} {h:Heap} {o:Obj} (q:LL b c xs h):LL b c xs (h.push o):=by
 cases b
 ·exact (show h.IsTuple c xs from q).at fun _ e=>Heap.get?_push_of_some _ e
 ·exact (show h.IsList c xs from q).at fun _ e=>Heap.get?_push_of_some _ e
abbrev zh1 (h:Heap) (o1:Obj):Heap:=h.push o1
abbrev zh2 (h:Heap) (o1 o2:Obj):Heap:=(zh1 h o1).push o2
abbrev zh3 (h:Heap) (o1 o2:Obj):Heap:=(zh2 h o1 o2).push { cls:=.type "tuple",data:=.seq #[.ref h.objs.size,.ref (zh1 h o1).objs.size] }
abbrev zh4 (h:Heap) (o1 o2:Obj):Heap:=(zh3 h o1 o2).push { cls:=.type "tuple",data:=.seq #[.none,.none] }
abbrev zh5 (h:Heap) (o1 o2:Obj):Heap:=(zh4 h o1 o2).push { cls:=.type "zip",data:=.fields #[.none,.bool false,.bool false,.ref (zh2 h o1 o2).objs.size,.ref (zh3 h o1 o2).objs.size] }
theorem qbJ (c1 c2:Addr) (o1 o2:Obj) :
  Meets (Builtin.«zip.__new__» ⟨[.type "zip",.ref c1,.ref c2],[]⟩) (fun _ R s=>
   (∀ (P:Program) (w:World) (A:Around) (Q:Value->Shared->Prop) (E:Value->Shared->Prop),Q (.ref s.heap.objs.size) { s with heap:=zh1 s.heap o1 }->wpAny (model P w) A (pyIter (.ref c1)) Q E s) /\
   (∀ (P:Program) (w:World) (A:Around) (Q:Value->Shared->Prop) (E:Value->Shared->Prop),Q (.ref (zh1 s.heap o1).objs.size) { s with heap:=zh2 s.heap o1 o2 }->wpAny (model P w) A (pyIter (.ref c2)) Q E { s with heap:=zh1 s.heap o1 }) /\
   R (.ok (.ret (.ref (zh4 s.heap o1 o2).objs.size))) { s with heap:=zh5 s.heap o1 o2 }):=
 .of_wp fun prog w A R s h=>by
  obtain ⟨hp,g,d,tk,os⟩:=s
  obtain ⟨h1,h2,h⟩:=h
  have hsub:=sub_zip
  have k1:=fun A Q E=>h1 prog w A Q E
  have k2:=fun A Q E=>h2 prog w A Q E
  wp_walk using k1 _ _ _,k2 _ _ _
  exact ⟨_,rfl,h⟩
end L3
namespace L3
open PySem PySem.Spec PyProof.Rows L2
def qdu (b1 b2:Bool) (z ti to i1 i2 c1 c2:Addr) (k:Nat) (h:Heap):Prop:=
 IsZip h z ti to .none/\IsPair h ti (.ref i1) (.ref i2)/\(∃ a b,IsPair h to a b)/\qdU b1 i1 c1 k h/\qdU b2 i2 c2 k h
section
variable {P:Program} {w:World} {A:Around} {s:Shared} {E:Value->Shared->Prop}
theorem qdg {b1 b2:Bool} {c1 c2:Addr} {xs ys:Array Value} {Q:Value->Shared->Prop} (h1:LL b1 c1 xs s.heap) (h2:LL b2 c2 ys s.heap)
  (q:∀ h',qdu b1 b2 (s.heap.objs.size+4) (s.heap.objs.size+2) (s.heap.objs.size+3) s.heap.objs.size (s.heap.objs.size+1) c1 c2 0 h'->(∀ c o,s.heap.get? c=some o->h'.get? c=some o)->Q (.ref (s.heap.objs.size+4)) { s with heap:=h' }) :
  wpAny (model P w) A (call (.type "zip") [.ref c1,.ref c2]) Q E s:=by
 refine callType_new F.called_zip (by decide) (F.typeCall_zip_2 _ _) (F.newCall_zip_2 _ _) (fun obj=>F.args_object_init_3 obj _ _) F.entry_zip_new
  (qbJ c1 c2 (zT b1 c1) (zT b2 c2)) ⟨fun P w A Q E q=>L9 h1 q,fun P w A Q E q=>L9 (s:={ s with heap:=zh1 s.heap (zT b1 c1) }) (qci h2) q,?_⟩
 have e1:(zh1 s.heap (zT b1 c1)).objs.size=s.heap.objs.size+1:=Heap.size_push ..
 have e2:(zh2 s.heap (zT b1 c1) (zT b2 c2)).objs.size=s.heap.objs.size+2:=by rw [Heap.size_push,e1]
 have e3:(zh3 s.heap (zT b1 c1) (zT b2 c2)).objs.size=s.heap.objs.size+3:=by rw [Heap.size_push,e2]
 have e4:(zh4 s.heap (zT b1 c1) (zT b2 c2)).objs.size=s.heap.objs.size+4:=by rw [Heap.size_push,e3]
 have g5:(zh5 s.heap (zT b1 c1) (zT b2 c2)).get? (zh4 s.heap (zT b1 c1) (zT b2 c2)).objs.size=some _:=Heap.get?_push_size _ rfl
 have g4:(zh5 s.heap (zT b1 c1) (zT b2 c2)).get? (zh3 s.heap (zT b1 c1) (zT b2 c2)).objs.size=some _:=Heap.get?_push_of_some _ (Heap.get?_push_size _ rfl)
 have g3:(zh5 s.heap (zT b1 c1) (zT b2 c2)).get? (zh2 s.heap (zT b1 c1) (zT b2 c2)).objs.size=some _:=Heap.get?_push_of_some _ (Heap.get?_push_of_some _ (Heap.get?_push_size _ rfl))
 have g2:(zh5 s.heap (zT b1 c1) (zT b2 c2)).get? (zh1 s.heap (zT b1 c1)).objs.size=some (zT b2 c2):=Heap.get?_push_of_some _ (Heap.get?_push_of_some _ (Heap.get?_push_of_some _ (Heap.get?_push_size _ rfl)))
 have g1:(zh5 s.heap (zT b1 c1) (zT b2 c2)).get? s.heap.objs.size=some (zT b1 c1):=Heap.get?_push_of_some _ (Heap.get?_push_of_some _ (Heap.get?_push_of_some _ (Heap.get?_push_of_some _ (Heap.get?_push_size _ rfl))))
 show _/\_
 rw [e2,e3,e4] at g5
 rw [e1,e2] at g3
 rw [e3] at g4
 rw [e1] at g2
 rw [e4]
 refine ⟨⟨_,g5,rfl⟩,q _ ⟨g5,g3,⟨_,_,g4⟩,?_,?_⟩ fun c o e=>Heap.get?_push_of_some _ (Heap.get?_push_of_some _ (Heap.get?_push_of_some _ (Heap.get?_push_of_some _ (Heap.get?_push_of_some _ e))))⟩
 ·cases b1 <;> exact ⟨_,g1,rfl,rfl⟩
 ·cases b2 <;> exact ⟨_,g2,rfl,rfl⟩
theorem qdZ {b1 b2:Bool} {z ti to i1 i2 c1 c2:Addr} {k:Nat} {xs ys:Array Value} {x y:Value} {Q:Option Value->Shared->Prop} (D:ZA z ti to i1 i2 c1 c2) (st:qdu b1 b2 z ti to i1 i2 c1 c2 k s.heap) (l1:LL b1 c1 xs s.heap) (l2:LL b2 c2 ys s.heap) (hx:xs[k]?=some x) (hy:ys[k]?=some y)
  (hQ:∀ h',IsZip h' z ti to (rawInt s.heap.objs.size)->IsPair h' ti (.ref i1) (.ref i2)->(∃ a b,IsPair h' to a b)->qdU b1 i1 c1 (k+1) h'->qdU b2 i2 c2 (k+1) h'->IsPair h' s.heap.objs.size x y->(∀ c o,c ∉ [z,to,i1,i2]->s.heap.get? c=some o->h'.get? c=some o)->Q (some (.ref s.heap.objs.size)) { s with heap:=h' }) :
  wpAny (model P w) A (pyNext (.ref z)) Q E s:=by
 obtain ⟨hz,hi,⟨a,b,ho⟩,p1,p2⟩:=st
 have ty:s.TypeIs (.ref z) "zip" := ⟨_,hz,rfl⟩
 have nti:ti ∉ [z,to,i1,i2]:=by
  have ne:=D.ne
  simp only [List.nodup_cons,List.mem_cons,List.not_mem_nil,not_or,or_false] at ne ⊢
  exact ⟨Ne.symm ne.1.1,ne.2.1.1,ne.2.1.2.1,ne.2.1.2.2⟩
 unfold pyNext
 exact wpAny_bind (wpAny_attempt (wpAny_callSpecial?_slot (name:=Str.ofString "__next__") ty F.slot_zip_next (wpAny_call_entry F.slot_zip_next ty F.entry_zip_next
  (qdo (zU b1 i1 c1) (zU b2 i2 c2) D hz hi ho p1 p2 l1 l2 hx hy fun h' u1 u2 u3 u4 u5 u6=>wpAny_pure (hQ h' u1 (u6 _ _ nti hi) ⟨_,_,u2⟩ u3 u4 u5 u6)) (F.args_zip_next_1 _))))
theorem TW {b1 b2:Bool} {z ti to i1 i2 c1 c2:Addr} {k:Nat} {xs ys:Array Value} {Q:Option Value->Shared->Prop} (hh:A.handled=none) (D:ZA z ti to i1 i2 c1 c2) (st:qdu b1 b2 z ti to i1 i2 c1 c2 k s.heap) (l1:LL b1 c1 xs s.heap) (l2:LL b2 c2 ys s.heap) (hend:xs[k]?=none\/ys[k]?=none)
  (hQ:∀ h',(∀ c o,c ∉ [z,to,i1,i2]->s.heap.get? c=some o->h'.get? c=some o)->Q none { s with heap:=h' }):wpAny (model P w) A (pyNext (.ref z)) Q E s:=by
 obtain ⟨hz,hi,⟨a,b,ho⟩,p1,p2⟩:=st
 have ty:s.TypeIs (.ref z) "zip" := ⟨_,hz,rfl⟩
 unfold pyNext
 refine wpAny_bind (wpAny_attempt (wpAny_callSpecial?_slot (name:=Str.ofString "__next__") ty F.slot_zip_next (wpAny_call_entry F.slot_zip_next ty F.entry_zip_next
  (qh4 hh (zU b1 i1 c1) (zU b2 i2 c2) D hz hi ho p1 p2 l1 l2 hend fun h' e hk ⟨o,q1,q2⟩=>?_) (F.args_zip_next_1 _))))
 exact wpAny_bind (wpAny_isInstance (T:="StopIteration") (b:=true) ⟨o,q1,q2⟩ isSubtype_stop (wpAny_pure (hQ _ hk)))
end
def SqB (K:PySem.W.Frag) (b:Bool) (H:Hp) (a:Addr) (xs:List V):Prop:=match b with | true=>SqL K H a xs | false=>SqT K H a xs
theorem SqB.get {X:Cx} {pins:List (Addr×Obj)} {σ:L2.St} {H:Hp} {s:Shared} {b:Bool} {a:Addr} {xs:List V} (I:Inv X pins σ H s) (h:SqB X.K b H a xs):∃ its:List Value,jk xs its/\LL b a its.toArray s.heap/\xs.length<=sizeLine:=by
 cases b
 ·obtain ⟨its,r,p,hz⟩:=I.tuple (show SqT X.K H a xs from h)
  exact ⟨its,r,(show s.heap.IsTuple a its.toArray from p),hz⟩
 ·obtain ⟨its,r,p,hz⟩:=I.list (show SqL X.K H a xs from h)
  exact ⟨its,r,p.isList,hz⟩
theorem SqB.inj {X:Cx} {pins:List (Addr×Obj)} {σ:L2.St} {H:Hp} {s:Shared} {b:Bool} {a:Addr} {xs ys:List V} (I:Inv X pins σ H s) (h:SqB X.K b H a xs) (h':SqB X.K b H a ys):xs=ys:=by
 cases b
 ·exact I.tuple_inj h h'
 ·exact I.list_inj h h'
def Itz (K:PySem.W.Frag) (b1 b2:Bool) (c1 c2:Addr):It:=
  ⟨fun i H=>∃ xs ys x y,SqB K b1 H c1 xs/\SqB K b2 H c2 ys/\xs[i]?=some x/\ys[i]?=some y,
   fun i H v H'=>∃ p x y,H p=none/\v=.ref p/\H'=upd H p (.tup [x,y])/\(∀ xs,SqB K b1 H c1 xs->xs[i]?=some x)/\(∀ ys,SqB K b2 H c2 ys->ys[i]?=some y),
   fun i H=>∃ xs ys,SqB K b1 H c1 xs/\SqB K b2 H c2 ys/\(xs.length<=i\/ys.length<=i)⟩
theorem qgZ {b:Bool} {c:Addr} {xs:Array Value} {h:Heap} (q:LL b c xs h):c < h.objs.size:=by
 cases b
 ·obtain ⟨o,e,_⟩:=(show h.IsTuple c xs from q);exact Heap.lt_size e
 ·obtain ⟨o,e,_⟩:=(show h.IsList c xs from q);exact Heap.lt_size e
theorem qdY {P:Program} {w:World} {K:PySem.W.Frag} {es:List Expr} {k1:Nat} {pt:Pos} {b1 b2:Bool} {z ti to i1 i2 c1 c2:Addr} (D:ZA z ti to i1 i2 c1 c2):Turn P w K (.Tuple es k1 pt) (Itz K b1 b2 c1 c2) [z,ti,to,i1,i2] z (qdu b1 b2 z ti to i1 i2 c1 c2) where
 mem:=by simp
 obj:=fun i h ⟨hz,hi,⟨a,b,ho⟩,p1,p2⟩ c hc=>by
  simp only [List.mem_cons,List.not_mem_nil,or_false] at hc
  rcases hc with rfl | rfl | rfl | rfl | rfl
  ·exact ⟨_,hz,fun v q=>by cases q⟩
  ·exact ⟨_,hi,fun v q=>by cases q⟩
  ·exact ⟨_,ho,fun v q=>by cases q⟩
  ·exact (zU (P:=P) (w:=w) b1 c c1).obj p1
  ·exact (zU (P:=P) (w:=w) b2 c c2).obj p2
 keep:=fun i h h' ⟨hz,hi,⟨a,b,ho⟩,p1,p2⟩ k=>
  ⟨k z (by simp) _ hz,k ti (by simp) _ hi,⟨a,b,k to (by simp) _ ho⟩,(zU (P:=P) (w:=w) b1 i1 c1).keep p1 fun o e=>k i1 (by simp) o e,(zU (P:=P) (w:=w) b2 i2 c2).keep p2 fun o e=>k i2 (by simp) o e⟩
 item:=by
  intro X hP hw hK hc i pins s σ H E I hf st hg
  subst hP hw hK
  obtain ⟨xs,ys,x,y,sq1,sq2,hx,hy⟩:=hg
  obtain ⟨its1,rv1,l1,z1⟩:=sq1.get I
  obtain ⟨its2,rv2,l2,z2⟩:=sq2.get I
  obtain ⟨u1,hu1,ru1⟩:=rv1.get hx
  obtain ⟨u2,hu2,ru2⟩:=rv2.get hy
  refine qdZ D st l1 l2 (x:=u1) (y:=u2) (by simpa using hu1) (by simpa using hu2) fun h' hz hi ho p1 p2 hp hk=>?_
  have hfr:H s.heap.objs.size=none:=I.fresh
  have free:∀ b∈[z,ti,to,i1,i2],H b=none:=fun b hb=>(hf b hb).1
  refine ⟨_,rfl,wpAny_letOwnedTupleGo_zip hz fun h2 hz2 s2=>?_⟩
  have zlt:z < s.heap.objs.size:=Heap.lt_size st.1
  have hp2:IsPair h2 s.heap.objs.size u1 u2:=(s2.2 _ (Nat.ne_of_gt zlt)).trans hp
  have ne:=D.ne
  simp only [List.nodup_cons,List.mem_cons,List.not_mem_nil,not_or,or_false] at ne
  have up:∀ c o,c≠z->h'.get? c=some o->h2.get? c=some o:=fun c o hc e=>(s2.2 c hc).trans e
  have kk:∀ c o,c ∉ [z,to,i1,i2]->s.heap.get? c=some o->h2.get? c=some o:=fun c o hc e=>up c o (fun q=>hc (by simp [q])) (hk c o hc e)
  have I3:Inv X pins σ (upd H s.heap.objs.size (.tup [x,y])) { s with heap:=h2 }:=by
   refine I.step (g':=s.gens) (d':=s.drawn) (t':=s.toks) (ch:=[z,to,i1,i2]) (fun b hb=>?_) (fun b o _ _ hcb e _=>kk b o hcb e) (fun b o _ _ hcb e _=>⟨o.slots,kk b o hcb e⟩) (fun b o _ e n=>by rw [qH (Nat.ne_of_lt (Heap.lt_size e))];exact n) (fun b o hcb e=>⟨o,kk b o hcb e⟩)
    (fun b _ e=>by rw [qH (qA e hfr)];exact e) (fun b _ _ e=>by rw [qH (qA e hfr)];exact e) (fun b ps e=>⟨#[],by rw [qH (qA e hfr),e];simp⟩) (fun m hm=>?_) (fun b u e=>?_) I.bare
   ·obtain ⟨f0,f1,f2,f3,f4,f5⟩:=hf b (by simp only [List.mem_cons,List.not_mem_nil,or_false] at hb ⊢;rcases hb with q | q | q | q <;> simp [q])
    exact ⟨f3,f1,f4,f5⟩
   ·obtain ⟨o,es',ep,ho',r⟩:=hm
    refine ⟨o,es',ep,kk _ o (fun q=>?_) ho',r⟩
    obtain ⟨f0,f1,_⟩:=hf X.env.locals (by simp only [List.mem_cons,List.not_mem_nil,or_false] at q ⊢;rcases q with q | q | q | q <;> simp [q])
    exact f1 rfl
   ·by_cases hb:b=s.heap.objs.size
    ·subst hb
     rw [zm] at e
     cases e
     exact ⟨by show 2<=sizeLine;decide,[u1,u2],.cons ru1 (.cons ru2 .nil),⟨_,hp2,rfl,_,rfl⟩⟩
    ·rw [qH hb] at e
     refine (I.hok b u e).stay (fun c v hcb q=>kk c v (fun m=>?_) q) (fun _ q=>by rw [qH (qA q hfr)];exact q) fun _ _ q=>by rw [qH (qA q hfr)];exact q
     have hn:=free c (by simp only [List.mem_cons,List.not_mem_nil,or_false] at m ⊢;rcases m with q | q | q | q <;> simp [q])
     rcases hcb with q | q
     ·rw [q] at hn;rw [hn] at e;cases e
     ·rw [hn] at q;cases q
  refine ⟨.ref s.heap.objs.size,_,I3,rfl,⟨_,x,y,hfr,rfl,rfl,fun zs q=>by rw [q.inj I sq1];exact hx,fun zs q=>by rw [q.inj I sq2];exact hy⟩,⟨hz2,up _ _ (Ne.symm ne.1.1) hi,let ⟨a,b,q⟩:=ho;⟨a,b,up _ _ (Ne.symm ne.1.2.1) q⟩,(zU (P:=X.prog) (w:=X.w) b1 i1 c1).keep p1 fun o e=>up _ o (Ne.symm ne.1.2.2.1) e,(zU (P:=X.prog) (w:=X.w) b2 i2 c2).keep p2 fun o e=>up _ o (Ne.symm ne.1.2.2.2) e⟩,fun b hb=>?_⟩
  rw [qH (fun q=>?_)]
  ·exact free b hb
  ·subst q
   obtain ⟨hz0,hi0,⟨a0,b0,ho0⟩,q1,q2⟩:=st
   simp only [List.mem_cons,List.not_mem_nil,or_false] at hb
   rcases hb with q | q | q | q | q
   ·exact absurd q (Nat.ne_of_gt zlt)
   ·exact absurd q (Nat.ne_of_gt (Heap.lt_size hi0))
   ·exact absurd q (Nat.ne_of_gt (Heap.lt_size ho0))
   ·obtain ⟨o,e,_⟩:=(zU (P:=X.prog) (w:=X.w) b1 i1 c1).obj q1
    exact absurd q (Nat.ne_of_gt (Heap.lt_size e))
   ·obtain ⟨o,e,_⟩:=(zU (P:=X.prog) (w:=X.w) b2 i2 c2).obj q2
    exact absurd q (Nat.ne_of_gt (Heap.lt_size e))
 done:=by
  intro X hP hw hK hc i pins s σ H E I hf st hg
  subst hP hw hK
  obtain ⟨xs,ys,sq1,sq2,hend⟩:=hg
  obtain ⟨its1,rv1,l1,z1⟩:=sq1.get I
  obtain ⟨its2,rv2,l2,z2⟩:=sq2.get I
  have e1:=rv1.length
  have e2:=rv2.length
  refine TW (I.ok.hd hc) D st l1 l2 (by rcases hend with q | q;exact .inl (by simp;omega);exact .inr (by simp;omega)) fun h' hk=>⟨rfl,?_⟩
  have free:∀ b∈[z,ti,to,i1,i2],H b=none:=fun b hb=>(hf b hb).1
  refine I.step (g':=s.gens) (d':=s.drawn) (t':=s.toks) (ch:=[z,to,i1,i2]) (fun b hb=>?_) (fun b o _ _ hcb e _=>hk b o hcb e) (fun b o _ _ hcb e _=>⟨o.slots,hk b o hcb e⟩) (fun _ _ _ _ n=>n) (fun b o hcb e=>⟨o,hk b o hcb e⟩) (fun _ _ e=>e) (fun _ _ _ e=>e) (fun b ps e=>⟨#[],by rw [e];simp⟩) (fun m hm=>?_) (fun b u e=>?_) I.bare
  ·obtain ⟨f0,f1,f2,f3,f4,f5⟩:=hf b (by simp only [List.mem_cons,List.not_mem_nil,or_false] at hb ⊢;rcases hb with q | q | q | q <;> simp [q])
   exact ⟨f3,f1,f4,f5⟩
  ·obtain ⟨o,es',ep,ho',r⟩:=hm
   refine ⟨o,es',ep,hk _ o (fun q=>?_) ho',r⟩
   obtain ⟨f0,f1,_⟩:=hf X.env.locals (by simp only [List.mem_cons,List.not_mem_nil,or_false] at q ⊢;rcases q with q | q | q | q <;> simp [q])
   exact f1 rfl
  ·refine (I.hok b u e).stay (fun c v hcb q=>hk c v (fun m=>?_) q) (fun _ q=>q) fun _ _ q=>q
   have hn:=free c (by simp only [List.mem_cons,List.not_mem_nil,or_false] at m ⊢;rcases m with q | q | q | q <;> simp [q])
   rcases hcb with q | q
   ·rw [q] at hn;rw [hn] at e;cases e
   ·rw [hn] at q;cases q
 self:=fun A i s Q E st h=>wpAny_pyIter_zip st.1 h
end L3
namespace L3
open PySem PySem.Spec PyProof.Rows L2
theorem qlK {n c1 c2:Addr} (h1:c1 < n) (h2:c2 < n):ZA (n+4) (n+2) (n+3) n (n+1) c1 c2:=by
 have k:∀ n c:Nat,c < n->c≠n+4/\c≠n+3/\c≠n/\c≠n+1:=fun n c h=>by omega
 have d:∀ n:Nat,(([n+4,n+2,n+3,n,n+1]:List Nat)).Nodup:=fun n=>by
  simp only [List.nodup_cons,List.mem_cons,List.not_mem_nil,not_or,or_false,List.nodup_nil,and_true,not_false_eq_true]
  omega
 refine ⟨d n,?_,?_⟩
 ·simp only [List.mem_cons,List.not_mem_nil,not_or,or_false];exact k n c1 h1
 ·simp only [List.mem_cons,List.not_mem_nil,not_or,or_false];exact k n c2 h2
section
variable {X:Cx} {a b e l:Expr} {es:List Expr} {pos:Pos}
theorem qlB {p pt:Pos} {k1:Nat} {ta:TA} (hg:Gl X "zip") (hm:X.mg "zip" = none) (ha:PA X [a,b] ta) (hs:starEach [a,b] X.env=[(false,eval a X.env),(false,eval b X.env)]:=by rfl) (hs2:starEach [b] X.env=[(false,eval b X.env)]:=by rfl) :
  PI X (.Tuple es k1 pt) (.Call (.Name "zip" p) [a,b] [] pos) (fun σ H R=>ta σ H fun vs H1=>∃ b1 b2 c1 c2 xs ys,vs=[.ref c1,.ref c2]/\SqB X.K b1 H1 c1 xs/\SqB X.K b2 H1 c2 ys/\R (Itz X.K b1 b2 c1 c2) H1):=by
 intro pins s σ H R I h
 refine Call_ (XO I hg hm PyProof.Rows.boot_zip (PyProof.Rows.callWith_type1 (thn (ha pos pins s σ H _ I h) fun us s1 ⟨vs,H1,I1,r1,q1⟩=>?_) (by rw [hs,hs2]) (by rw [hs2];rfl)))
 obtain ⟨b1,b2,c1,c2,xs,ys,rfl,sq1,sq2,q⟩:=q1
 obtain ⟨u1,u2,rfl,e1,e2⟩:=qbA r1
 cases (show u1=Value.ref c1 from e1)
 cases (show u2=Value.ref c2 from e2)
 obtain ⟨its1,rv1,l1,z1⟩:=sq1.get I1
 obtain ⟨its2,rv2,l2,z2⟩:=sq2.get I1
 refine qdg l1 l2 fun h' st hk=>wpAny_pyIter_zip st.1 ?_
 refine ⟨s1.heap.objs.size+4,[s1.heap.objs.size+4,s1.heap.objs.size+2,s1.heap.objs.size+3,s1.heap.objs.size,s1.heap.objs.size+1],_,_,H1,rfl,I1.kept (t':=s1.toks) hk,qdY (qlK (qgZ l1) (qgZ l2)),st,fun c hc=>?_,q⟩
 have hle:s1.heap.objs.size<=c:=by
  simp only [List.mem_cons,List.not_mem_nil,or_false] at hc
  rcases hc with rfl | rfl | rfl | rfl | rfl <;> first | exact Nat.le_refl _ | exact Nat.le_add_right _ _
 exact I1.fpOk hle (I1.hok.fresh hle)
end
def jK (G:Gp):T->Option (List T)
 | .tup xs=>some xs
 | .ref p=>getL G p
 | _=>none
theorem qcb {K:PySem.W.Frag} {G0:Gp} {H0:Hp} {x:T} {v:V} {us:List T} (hr0:HR K G0 H0) (rx:Rp K H0 x v) (h:jK G0 x=some us) :
  ∃ b c,v=.ref c/\∀ G H,HR K G H->Kp G0 H0 G H->jK G x=some us->∃ vs,SqB K b H c vs/\Rps K H us vs:=by
 cases rx with
 | tup hs rs=>
  cases h
  exact ⟨false,_,rfl,fun G H hr k _=>⟨_,(S9 hr0 k hs:SqT K H _ _),rs.keep hr0 k⟩⟩
 | ref a=>exact ⟨true,a,rfl,fun G H hr k hq=>let ⟨vs,h1,h2⟩:=jh hr (show getL G a=some us from hq);⟨vs,h1,h2⟩⟩
 | _=>cases h
def qcW (us vs:List T):List T:=(us.zip vs).map fun p=>.tup [p.1,p.2]
theorem SG {us vs:List T} {i:Nat} {x:T} (h:(qcW us vs)[i]?=some x):∃ a b,us[i]?=some a/\vs[i]?=some b/\x=.tup [a,b]:=by
 unfold qcW at h
 rw [List.getElem?_map] at h
 cases e:(us.zip vs)[i]? with
 | none=>rw [e] at h;cases h
 | some p=>
  rw [e] at h
  have:=List.getElem?_zip_eq_some.mp e
  exact ⟨p.1,p.2,this.1,this.2,by simpa using h.symm⟩
theorem qlQ {K:PySem.W.Frag} {b1 b2:Bool} {c1 c2:Addr} {x y:T} {us vs:List T} {G0:Gp} {H0:Hp}
  (f1:∀ G H,HR K G H->Kp G0 H0 G H->jK G x=some us->∃ vs,SqB K b1 H c1 vs/\Rps K H us vs) (f2:∀ G H,HR K G H->Kp G0 H0 G H->jK G y=some vs->∃ ws,SqB K b2 H c2 ws/\Rps K H vs ws) :
  qir K (Itz K b1 b2 c1 c2) (qcW us vs) (fun G=>jK G x=some us/\jK G y=some vs) G0 H0:=by
 intro G H hr k ⟨h1,h2⟩
 obtain ⟨p,sp,rp⟩:=f1 G H hr k h1
 obtain ⟨q,sq,rq⟩:=f2 G H hr k h2
 refine ⟨fun i z hz=>?_,fun i z v H' hz hy=>?_,⟨p,q,sp,sq,?_⟩⟩
 ·obtain ⟨a,b,ha,hb,_⟩:=SG hz
  obtain ⟨v,hv,_⟩:=rp.get ha
  obtain ⟨w,hw,_⟩:=rq.get hb
  exact ⟨p,q,v,w,sp,sq,hv,hw⟩
 ·obtain ⟨a,b,ha,hb,rfl⟩:=SG hz
  obtain ⟨t,v1,v2,ht,rfl,rfl,g1,g2⟩:=hy
  obtain ⟨v,hv,rv⟩:=rp.get ha
  obtain ⟨w,hw,rw'⟩:=rq.get hb
  have e1:=(g1 p sp).symm.trans hv
  have e2:=(g2 q sq).symm.trans hw
  obtain rfl:v1=v:=Option.some.inj e1
  obtain rfl:v2=w:=Option.some.inj e2
  have kk:Kp G H G (upd H t (.tup [v1,v2])):=Kp.laid ht
  exact ⟨.tup (SqT.of zm) (.cons (rv.keep hr kk) (.cons (rw'.keep hr kk) .nil)),hr.laid ht,kk⟩
 ·rw [← rp.length,← rq.length,show (qcW us vs).length=min us.length vs.length by simp [qcW]]
  omega
def qal (ta:TA3):TI3:=fun τ G r=>ta τ G fun xs G1=>match xs with
 | [x,y]=>(match jK G1 x,jK G1 y with | some us,some vs=>r (qcW us vs) (fun G=>jK G x=some us/\jK G y=some vs) G1 | _,_=>False)
 | _=>False
section
variable {X:Cx} {a b e l:Expr} {es:List Expr} {pos:Pos} {t:TA3}
theorem qn0 {p pt:Pos} {k1:Nat} (hg:Gl X "zip") (hm:X.mg "zip" = none) (ha:A3 X [a,b] t) (hs:starEach [a,b] X.env=[(false,eval a X.env),(false,eval b X.env)]:=by rfl) (hs2:starEach [b] X.env=[(false,eval b X.env)]:=by rfl) :
  I3 X (.Tuple es k1 pt) (.Call (.Name "zip" p) [a,b] [] pos) (qal t):=
 qiQ (qlB hg hm ha hs hs2) fun σ H R ⟨τ,G,r,rl,h,af⟩=>YZ rl h fun xs G1 h1 vs H1 rs hr1 k1 rl1=>by
  split at h1
  ·rename_i x y
   split at h1
   ·rename_i us ws e1 e2
    obtain ⟨v,u,rfl,r1,r2⟩:=qnP rs
    obtain ⟨b1,c1,rfl,f1⟩:=qcb hr1 r1 e1
    obtain ⟨b2,c2,rfl,f2⟩:=qcb hr1 r2 e2
    obtain ⟨p,sp,_⟩:=f1 G1 H1 hr1 Kp.refl e1
    obtain ⟨q,sq,_⟩:=f2 G1 H1 hr1 Kp.refl e2
    exact ⟨b1,b2,c1,c2,p,q,rfl,sp,sq,af _ _ G1 h1 _ H1 hr1 k1 (qlQ f1 f2)⟩
   ·exact h1.elim
  ·exact h1.elim
def qbt:List T->Gp->Q3->Prop:=fun xs G q=>match xs with
 | [.ref p]=>(match getL G p with | some ys=>(match qeQ ys with | some k=>q (.bl k) G | none=>False) | none=>False)
 | _=>False
theorem qbH {K:PySem.W.Frag} {H:Hp}:∀ {ys:List T} {vs:List V} {k:Bool},Rps K H ys vs->qeQ ys=some k->∃ ks:List Bool,vs=ks.map V.bl/\ks.all id=k
 | _,_,_,.nil,h=>by cases h;exact ⟨[],rfl,rfl⟩
 | y :: ys,_,k,.cons a b,h=>by
  unfold qeQ at h
  split at h
  ·rename_i e;cases e
  ·rename_i j r e
   cases e
   split at h
   ·rename_i i ei
    obtain ⟨ks,rfl,hk⟩:=qbH b ei
    cases a
    cases h
    exact ⟨j :: ks,rfl,by rw [List.all_cons,hk];rfl⟩
   ·cases h
  ·cases h
theorem TF {K:PySem.W.Frag}:M1 K qbt (fun xs H Q=>∃ (p:Addr) (ks:List Bool),xs=[.ref p]/\SqL K H p (ks.map V.bl)/\Q (.bl (ks.all id)) H):=fun xs vs G H q Q hr rs h af=>by
 unfold qbt at h
 split at h
 ·rename_i p
  obtain ⟨v,rfl,r⟩:=K3 rs
  cases r
  split at h
  ·rename_i ys e0
   split at h
   ·rename_i k e1
    obtain ⟨us,hs,r2⟩:=jh hr e0
    obtain ⟨ks,rfl,hk⟩:=qbH r2 e1
    exact ⟨p,ks,rfl,hs,by rw [hk];exact af _ G h _ H (.bl _) hr Kp.refl⟩
   ·exact h.elim
  ·exact h.elim
 ·exact h.elim
end
end L3
namespace L3
open PySem PySem.Spec PyProof.Rows L2
def qpC:Value->Bool
 | .type t=>t == "list"
 | _=>false
def EX:List (Addr×Obj)->Bool
 | []=>true
 | p :: r=>if qpC p.2.cls then false else EX r
theorem RB:∀ {K:List (Addr×Obj)} {a:Addr} {o:Obj},EX K=true->K.lookup a=some o->o.cls≠.type "list"
 | [],_,_,_,e=>by simp at e
 | (b,x) :: r,a,o,h,e=>by
  unfold EX at h
  split at h
  ·cases h
  ·rename_i hx
   rw [List.lookup_cons] at e
   split at e
   ·cases e
    intro z
    rw [z] at hx
    exact hx rfl
   ·exact RB h e
theorem qae {K:PySem.W.Frag} {H:Hp} {a:Addr} {ns:List Int} (hK:EX K=true) (hO:qnx H) (hS:SqL K H a (ns.map V.int)):∃ o,H a=some (.frz o (.lst (ns.map V.int))):=by
 rcases hS with (h | h) | ⟨o,its,n,h1,h2,_⟩
 ·rcases hO a with z | ⟨o,xs,z⟩ <;> (rw [h] at z;cases z)
 ·exact h
 ·exact absurd h2 (RB hK h1)
def only (a:Addr) (ns:List Int):Gp:=fun b=>if b=a then some (.frz (ns.map T.int)) else none
theorem qhS {K:PySem.W.Frag} {H:Hp} {a:Addr} {ns:List Int} (h:∃ o,H a=some (.frz o (.lst (ns.map V.int)))):HR K (only a ns) H:=fun b o e=>by
 unfold only at e
 split at e
 ·rename_i hb;subst hb;cases e;exact ⟨_,h,Rps.ints ns⟩
 ·cases e
def RK:Sp3:=fun ts G q=>∃ (a:Addr) (ns:List Int),ts=[.ref a]/\G a=some (.frz (ns.map T.int))/\ns.length<=63/\∀ G',q (.bl true) G'
theorem qoz {l:PySem.W.OpenLaw} {k:Nat} {q:Program} {loose:List Str} {XP:(Str->Option Value)->Heap->Prop} {YP:World->Heap->Prop} {d:DefRec} {K:Params->PySem.W.Frag} {x:Str} (hn:l.most=some 63) (hdf:d.params.defaults=[]) (hr:Room k callerA)
  (hY:∀ (w:World) (h:Heap),YP w h->(K w.params).In h) (hK:∀ w:World,EX (K w.params)=true)
  (F:∀ (w:World) (mg:Str->Option Value) (fa:Addr) (h:Heap),(K w.params).In h->h.Ns mainGlobals mg->mg d.name=some (.ref fa) ->
   ∃ fd:FuncData,(∀ (s:Shared) (u:Value),BindsTo s fd ⟨[u],[]⟩ [(x,u)])/\∀ base:Heap,(K w.params).In base->base.Ns mainGlobals mg->FnOk l.prog w (K w.params) mg base CX0 k fa fd [x] (lSp (K w.params) RK)) :
  PySem.W.WalkO q loose XP YP l.row.toRowW d [] (fun f vs=>PySem.call f vs):=
 L2.qhE (n:=63) (k:=k) (x:=x) (CX:=fun _=>CX0) (sp:=fun w=>lSp (K w.params) RK) hn (by decide) hdf hr hY F
  (fun w H a ns hl hO hS=>⟨[.ref a],only a ns,fun t _=>t=.bl true,qhS (qae (hK w) hO hS),.cons (.ref a) .nil,⟨a,ns,rfl,by simp [only],hl,fun _=>rfl⟩,fun t G' e v H' r _ _=>by subst e;cases r;rfl⟩) fun _ _ _ _ _ z=>z
theorem qhb {P:Program} {w:World} {K:PySem.W.Frag} {mg:Str->Option Value} {base:Heap} {x qual:Str} {st:Stmt} {f:Addr} {fd:FuncData} {N ps:List Str} {k:Nat} {sp:Sp3} {t3:TS3} (F:Fun K x qual st f fd) (S:FnScope N ps (qi st))
  (body:∀ (cdv:Value) (A:Around) (outer:List Env) (s:Shared) (H:Hp) (E:XK),Room k (A.deeper (envOfC qual (qi st) s.heap.objs.size f cdv)) ->
   B3 (qcX CX0 P w K mg base N qual (qi st) f cdv A outer s H E).nox (jL st) t3)
  (read:∀ ts G q,sp ts G q->ts.length=ps.length/\t3 { nx:=fun _ G'=>q .non G',rt:=q } (qE N ts) G):FnOk P w K mg base CX0 (k+1) f fd ps (lSp K sp):=by
 refine F.ok S (fun vs H Q E ⟨ts,G,q,h1,h2,h3,h4⟩=>by rw [← h2.length];exact (read ts G q h3).1) fun cdv A outer s H vs Q E hr ⟨ts,G,q,h1,h2,h3,h4⟩=>?_
 refine ⟨_,body cdv A outer s H E hr,qE N ts,G,_,KQ h1 h2,(read ts G q h3).2,⟨fun τ' G' h' σ' H' rl' k'=>h4 _ G' h' _ H' .non rl'.hp k',h4,fun _ _ z=>z.elim,fun _ _ z=>z.elim⟩⟩
end L3
namespace L3
open PySem PySem.Spec PyProof.Rows L2
abbrev eh1 (h:Heap) (o1:Obj):Heap:=h.push o1
abbrev eh2 (h:Heap) (o1:Obj):Heap:=(eh1 h o1).push { cls:=.type "enumerate",data:=.fields #[.none,.bool false,.ref h.objs.size,rawInt 0,.none,.none] }
theorem qaq (c:Addr) (o1:Obj) (ob:Obj) :
  Meets (Builtin.«enumerate.__new__» ⟨[.type "enumerate",.ref c],[]⟩) (fun _ R s=>s.heap.get? c=some ob /\
   (∀ (P:Program) (w:World) (A:Around) (Q:Value->Shared->Prop) (E:Value->Shared->Prop),Q (.ref s.heap.objs.size) { s with heap:=eh1 s.heap o1 }->wpAny (model P w) A (pyIter (.ref c)) Q E s) /\
   R (.ok (.ret (.ref (eh1 s.heap o1).objs.size))) { s with heap:=eh2 s.heap o1 }):=
 .of_wp fun prog w A R s h=>by
  obtain ⟨hp,g,d,tk,os⟩:=s
  obtain ⟨hl,h1,h⟩:=h
  have hsub:=sub_enumerate
  have k1:=fun A Q E=>h1 prog w A Q E
  wp_walk using wpAny_loadPart' hl
  refine wpAny_stack_any fun st=>wpAny_pure ?_
  split
  ·rename_i c _ _ _ _ _
   cases (c == Value.type "enumerate")
   ·wp_walk using wpAny_loadPart' hl,k1 _ _ _
    exact ⟨_,rfl,h⟩
   ·wp_walk using wpAny_loadPart' hl,k1 _ _ _
    exact ⟨_,rfl,h⟩
  ·wp_walk using wpAny_loadPart' hl,k1 _ _ _
   exact ⟨_,rfl,h⟩
theorem qdA {b:Bool} {c:Addr} {xs:Array Value} {h:Heap} (q:LL b c xs h):∃ o,h.get? c=some o:=by
 cases b
 ·obtain ⟨o,e,_⟩:=(show h.IsTuple c xs from q);exact ⟨o,e⟩
 ·obtain ⟨o,e,_⟩:=(show h.IsList c xs from q);exact ⟨o,e⟩
section
variable {P:Program} {w:World} {A:Around} {s:Shared} {E:Value->Shared->Prop}
theorem qa4 {b:Bool} {c:Addr} {xs:Array Value} {Q:Value->Shared->Prop} (h1:LL b c xs s.heap)
  (q:∀ h',IsEnum h' (s.heap.objs.size+1) s.heap.objs.size 0 .none->qdU b s.heap.objs.size c 0 h'->(∀ c o,s.heap.get? c=some o->h'.get? c=some o)->Q (.ref (s.heap.objs.size+1)) { s with heap:=h' }) :
  wpAny (model P w) A (call (.type "enumerate") [.ref c]) Q E s:=by
 obtain ⟨ob,hob⟩:=qdA h1
 refine callType_new F.called_enumerate (by decide) (F.typeCall_enumerate_1 _) (F.newCall_enumerate_1 _) (fun obj=>F.args_object_init_2 obj _) F.entry_enumerate_new
  (qaq c (zT b c) ob) ⟨hob,fun P w A Q E q=>L9 h1 q,?_⟩
 have e1:(eh1 s.heap (zT b c)).objs.size=s.heap.objs.size+1:=Heap.size_push ..
 have g2:(eh2 s.heap (zT b c)).get? (eh1 s.heap (zT b c)).objs.size=some _:=Heap.get?_push_size _ rfl
 have g1:(eh2 s.heap (zT b c)).get? s.heap.objs.size=some (zT b c):=Heap.get?_push_of_some _ (Heap.get?_push_size _ rfl)
 show _/\_
 rw [e1] at g2 ⊢
 refine ⟨⟨_,g2,rfl⟩,q _ g2 ?_ fun c o e=>Heap.get?_push_of_some _ (Heap.get?_push_of_some _ e)⟩
 cases b <;> exact ⟨_,g1,rfl,rfl⟩
end
theorem qdI {P:Program} {w:World} {A:Around} (hh:A.handled=none) (b:Bool) (it c:Addr) (hne:c≠it) (xs:Array Value) :
  Draws P w A it [it,c] xs.size (fun i v=>xs[i]?=some v) (fun i h=>qdU b it c i h/\LL b c xs h) where
 live:=fun i h st=>let ⟨o,e,_⟩:=(zU (P:=P) (w:=w) b it c).obj st.1;⟨o,e⟩
 frame:=fun i h h' st hk=>⟨(zU (P:=P) (w:=w) b it c).keep st.1 fun o e=>hk it (by simp) o e,(zU (P:=P) (w:=w) b it c).hkeep st.2 fun o e=>hk c (by simp) o e⟩
 item:=fun i s Q E hi st hQ=>by
  refine (zU (P:=P) (w:=w) b it c).item st.1 st.2 (x:=xs[i]) (by simp [hi]) fun h' st' sb=>?_
  exact hQ _ h' s.toks (by simp [hi]) ⟨st',(zU (P:=P) (w:=w) b it c).hkeep st.2 fun o e=>(sb.2 c hne).trans e⟩ sb
 done:=fun s Q E st hE=>(zU (P:=P) (w:=w) b it c).done hh st.1 st.2 (by simp) hE
theorem SY {P:Program} {w:World} {A:Around} {s:Shared} {E:Value->Shared->Prop} {b:Bool} {e it c:Addr} {i:Nat} {xs:Array Value} {old:Value} {Q:Option Value->Shared->Prop} (hh:A.handled=none) (he:IsEnum s.heap e it i old) (p1:qdU b it c i s.heap) (l1:LL b c xs s.heap) (hx:xs[i]?=none)
  (hQ:∀ h',Heap.ExtBut it s.heap h'->Q none { s with heap:=h' }):wpAny (model P w) A (pyNext (.ref e)) Q E s:=by
 have hT:s.TypeIs (.ref e) "enumerate" := ⟨_,he,rfl⟩
 unfold pyNext
 refine wpAny_bind (wpAny_attempt (wpAny_callSpecial?_slot (name:=Str.ofString "__next__") hT F.slot_enumerate_next
  (wpAny_call_entry F.slot_enumerate_next hT F.entry_enumerate_next ?_ (F.args_enumerate_next_1 _))))
 show wpAny _ _ (field (.ref e) 2 >>= _) _ _ _
 refine wpAny_bind (wpAny_field he rfl (x:=.ref it) rfl ?_)
 refine wpAny_bind ((zU (P:=P) (w:=w) b it c).done (show A.in1.handled=none from hh) p1 l1 hx fun h' x he' hx'=>?_)
 obtain ⟨o,ho,hc⟩:=hx'
 refine wpAny_bind (wpAny_isInstance (T:="StopIteration") (b:=true) ⟨o,ho,hc⟩ isSubtype_stop ?_)
 exact wpAny_pure (hQ _ he')
def Ite (K:PySem.W.Frag) (b:Bool) (c:Addr):It:=
  ⟨fun i H=>∃ xs x,SqB K b H c xs/\xs[i]?=some x,
   fun i H v H'=>∃ p x,H p=none/\v=.ref p/\H'=upd H p (.tup [.int i,x])/\(∀ xs,SqB K b H c xs->xs[i]?=some x),
   fun i H=>∃ xs,SqB K b H c xs/\xs.length<=i⟩
def qls (b:Bool) (e it c:Addr) (k:Nat) (h:Heap):Prop:=(∃ old,IsEnum h e it k old)/\qdU b it c k h
theorem qaT {P:Program} {w:World} {K:PySem.W.Frag} {es:List Expr} {k1:Nat} {pt:Pos} {b:Bool} {e it c:Addr} (n1:e≠it) (n2:c≠e) (n3:c≠it):Turn P w K (.Tuple es k1 pt) (Ite K b c) [e,it] e (qls b e it c) where
 mem:=by simp
 obj:=fun i h ⟨⟨old,he⟩,p1⟩ d hd=>by
  simp only [List.mem_cons,List.not_mem_nil,or_false] at hd
  rcases hd with rfl | rfl
  ·exact ⟨_,he,fun v q=>by cases q⟩
  ·exact (zU (P:=P) (w:=w) b d c).obj p1
 keep:=fun i h h' ⟨⟨old,he⟩,p1⟩ k=>⟨⟨old,k e (by simp) _ he⟩,(zU (P:=P) (w:=w) b it c).keep p1 fun o e=>k it (by simp) o e⟩
 item:=by
  intro X hP hw hK hc i pins s σ H E I hf st hg
  subst hP hw hK
  obtain ⟨xs,x,sq,hx⟩:=hg
  obtain ⟨its,rv,l1,z1⟩:=sq.get I
  obtain ⟨u,hu,ru⟩:=rv.get hx
  obtain ⟨⟨old,he⟩,p1⟩:=st
  have hil:i < its.toArray.size:=by have:=(List.getElem?_eq_some_iff.mp hu).1;simpa using this
  refine wpAny_pyNext_enum_itemD (qdI (show X.A.in1.handled=none from I.ok.hd hc) b it c n3 its.toArray) he ⟨p1,l1⟩ hil n1 (by simp only [List.mem_cons,List.not_mem_nil,or_false,not_or];exact ⟨n1,Ne.symm n2⟩) fun y h' tk hy ho st' ht hsz hk=>?_
  have hy':y=u:=by
   have:its.toArray[i]?=some u:=by simpa using hu
   rw [this] at hy;exact (Option.some.inj hy).symm
  subst hy'
  have hfr:H s.heap.objs.size=none:=I.fresh
  have free:∀ b∈[e,it],H b=none:=fun b hb=>(hf b hb).1
  refine ⟨_,rfl,wpAny_letOwnedTupleGo_enum ho fun h2 hz2 s2=>?_⟩
  have elt:e < s.heap.objs.size:=Heap.lt_size he
  have hp2:h2.get? s.heap.objs.size=some { cls:=.type "tuple",data:=.seq #[.int i tk,y] }:=(s2.2 _ (Nat.ne_of_gt elt)).trans ht
  have up:∀ c o,c≠e->h'.get? c=some o->h2.get? c=some o:=fun c o hc e=>(s2.2 c hc).trans e
  have kk:∀ c o,c ∉ [e,it]->s.heap.get? c=some o->h2.get? c=some o:=fun c o hc q=>by
   simp only [List.mem_cons,List.not_mem_nil,or_false,not_or] at hc
   exact up c o hc.1 (hk c o hc.1 hc.2 q)
  have I3:Inv X pins σ (upd H s.heap.objs.size (.tup [.int i,x])) { s with heap:=h2,toks:=tk+1 }:=by
   refine I.step (g':=s.gens) (d':=s.drawn) (t':=tk+1) (ch:=[e,it]) (fun b hb=>?_) (fun b o _ _ hcb e _=>kk b o hcb e) (fun b o _ _ hcb e _=>⟨o.slots,kk b o hcb e⟩) (fun b o _ e n=>by rw [qH (Nat.ne_of_lt (Heap.lt_size e))];exact n) (fun b o hcb e=>⟨o,kk b o hcb e⟩)
    (fun b _ e=>by rw [qH (qA e hfr)];exact e) (fun b _ _ e=>by rw [qH (qA e hfr)];exact e) (fun b ps e=>⟨#[],by rw [qH (qA e hfr),e];simp⟩) (fun m hm=>?_) (fun b u e=>?_) I.bare
   ·obtain ⟨f0,f1,f2,f3,f4,f5⟩:=hf b hb
    exact ⟨f3,f1,f4,f5⟩
   ·obtain ⟨o,es',ep,ho',r⟩:=hm
    refine ⟨o,es',ep,kk _ o (fun q=>?_) ho',r⟩
    obtain ⟨f0,f1,_⟩:=hf X.env.locals q
    exact f1 rfl
   ·by_cases hb:b=s.heap.objs.size
    ·subst hb
     rw [zm] at e
     cases e
     exact ⟨by show 2<=sizeLine;decide,[.int i tk,y],.cons ⟨tk,rfl⟩ (.cons ru .nil),⟨_,hp2,rfl,_,rfl⟩⟩
    ·rw [qH hb] at e
     refine (I.hok b u e).stay (fun c v hcb q=>kk c v (fun m=>?_) q) (fun _ q=>by rw [qH (qA q hfr)];exact q) fun _ _ q=>by rw [qH (qA q hfr)];exact q
     have hn:=free c m
     rcases hcb with q | q
     ·rw [q] at hn;rw [hn] at e;cases e
     ·rw [hn] at q;cases q
  refine ⟨.ref s.heap.objs.size,_,I3,rfl,⟨_,x,hfr,rfl,rfl,fun zs q=>by rw [q.inj I sq];exact hx⟩,⟨⟨_,by push_cast;exact hz2⟩,(zU (P:=X.prog) (w:=X.w) b it c).keep st'.1 fun o e=>up _ o (Ne.symm n1) e⟩,fun b hb=>?_⟩
  rw [qH (fun q=>?_)]
  ·exact free b hb
  ·subst q
   simp only [List.mem_cons,List.not_mem_nil,or_false] at hb
   rcases hb with q | q
   ·exact absurd q (Nat.ne_of_gt elt)
   ·obtain ⟨o,e,_⟩:=(zU (P:=X.prog) (w:=X.w) b it c).obj p1
    exact absurd q (Nat.ne_of_gt (Heap.lt_size e))
 done:=by
  intro X hP hw hK hc i pins s σ H E I hf st hg
  subst hP hw hK
  obtain ⟨xs,sq,hend⟩:=hg
  obtain ⟨its,rv,l1,z1⟩:=sq.get I
  obtain ⟨⟨old,he⟩,p1⟩:=st
  have e1:=rv.length
  have free:∀ b∈[e,it],H b=none:=fun b hb=>(hf b hb).1
  refine SY (I.ok.hd hc) he p1 l1 (by simp;omega) fun h' hk0=>⟨rfl,?_⟩
  have hk:∀ c o,c ∉ [e,it]->s.heap.get? c=some o->h'.get? c=some o:=fun c o hcb q=>hk0 c o (by simp only [List.mem_cons,List.not_mem_nil,or_false,not_or] at hcb;exact hcb.2) q
  refine I.step (g':=s.gens) (d':=s.drawn) (t':=s.toks) (ch:=[e,it]) (fun b hb=>?_) (fun b o _ _ hcb e _=>hk b o hcb e) (fun b o _ _ hcb e _=>⟨o.slots,hk b o hcb e⟩) (fun _ _ _ _ n=>n) (fun b o hcb e=>⟨o,hk b o hcb e⟩) (fun _ _ e=>e) (fun _ _ _ e=>e) (fun b ps e=>⟨#[],by rw [e];simp⟩) (fun m hm=>?_) (fun b u e=>?_) I.bare
  ·obtain ⟨f0,f1,f2,f3,f4,f5⟩:=hf b hb
   exact ⟨f3,f1,f4,f5⟩
  ·obtain ⟨o,es',ep,ho',r⟩:=hm
   refine ⟨o,es',ep,hk _ o (fun q=>?_) ho',r⟩
   obtain ⟨f0,f1,_⟩:=hf X.env.locals q
   exact f1 rfl
  ·refine (I.hok b u e).stay (fun c v hcb q=>hk c v (fun m=>?_) q) (fun _ q=>q) fun _ _ q=>q
   have hn:=free c m
   rcases hcb with q | q
   ·rw [q] at hn;rw [hn] at e;cases e
   ·rw [hn] at q;cases q
 self:=fun A i s Q E st h=>let ⟨⟨old,he⟩,_⟩:=st;wpAny_pyIter_enum he h
section
variable {X:Cx} {a b e l:Expr} {es:List Expr} {pos:Pos}
theorem qhU {p pt:Pos} {k1:Nat} {ta:TA} (hg:Gl X "enumerate") (hm:X.mg "enumerate" = none) (ha:PA X [a] ta) (hs:starEach [a] X.env=[(false,eval a X.env)]:=by rfl) :
  PI X (.Tuple es k1 pt) (.Call (.Name "enumerate" p) [a] [] pos) (fun σ H R=>ta σ H fun vs H1=>∃ b1 c1 xs,vs=[.ref c1]/\SqB X.K b1 H1 c1 xs/\R (Ite X.K b1 c1) H1):=by
 intro pins s σ H R I h
 refine Call_ (XO I hg hm PyProof.Rows.boot_enumerate (PyProof.Rows.callWith_type1 (thn (ha pos pins s σ H _ I h) fun us s1 ⟨vs,H1,I1,r1,q1⟩=>?_) (by rw [hs];rfl) (by rfl)))
 obtain ⟨b1,c1,xs,rfl,sq1,q⟩:=q1
 obtain ⟨u1,rfl,e1⟩:=WF r1
 cases (show u1=Value.ref c1 from e1)
 obtain ⟨its1,rv1,l1,z1⟩:=sq1.get I1
 refine qa4 l1 fun h' he hit hk=>wpAny_pyIter_enum he ?_
 have lt:=qgZ l1
 have ne3:∀ n c:Nat,c < n->n+1≠n/\c≠n+1/\c≠n:=fun n c h=>by omega
 obtain ⟨m1,m2,m3⟩:=ne3 _ _ lt
 refine ⟨s1.heap.objs.size+1,[s1.heap.objs.size+1,s1.heap.objs.size],_,_,H1,rfl,I1.kept (t':=s1.toks) hk,qaT m1 m2 m3,⟨⟨_,he⟩,hit⟩,fun c hc=>?_,q⟩
 have hle:s1.heap.objs.size<=c:=by
  simp only [List.mem_cons,List.not_mem_nil,or_false] at hc
  rcases hc with rfl | rfl <;> first | exact Nat.le_refl _ | exact Nat.le_add_right _ _
 exact I1.fpOk hle (I1.hok.fresh hle)
end
def QX (k:Nat):List T->List T
 | []=>[]
 | x :: r=>.tup [.int (k:Int),x] :: QX (k+1) r
def qdD (us:List T):List T:=QX 0 us
theorem DX:∀ {us:List T} {k i:Nat} {x:T},(QX k us)[i]?=some x->∃ a,us[i]?=some a/\x=.tup [.int ((k+i:Nat):Int),a]
 | [],_,_,_,h=>by simp [QX] at h
 | u :: us,k,0,x,h=>by simp [QX] at h;exact ⟨u,rfl,by simp [← h]⟩
 | u :: us,k,i+1,x,h=>by
  simp [QX] at h
  obtain ⟨a,ha,hx⟩:=DX h
  exact ⟨a,by simpa using ha,by rw [hx];congr 4;omega⟩
theorem DS:∀ (us:List T) (k:Nat),(QX k us).length=us.length
 | [],_=>rfl
 | u :: us,k=>by simp [QX,DS us]
theorem qbf (us:List T):(qdD us).length=us.length:=DS us 0
theorem KG {us:List T} {i:Nat} {x:T} (h:(qdD us)[i]?=some x):∃ a,us[i]?=some a/\x=.tup [.int (i:Int),a]:=by
 obtain ⟨a,ha,hx⟩:=DX h
 exact ⟨a,ha,by rw [hx];congr 4;omega⟩
theorem qkv {K:PySem.W.Frag} {b1:Bool} {c1:Addr} {x:T} {us:List T} {G0:Gp} {H0:Hp}
  (f1:∀ G H,HR K G H->Kp G0 H0 G H->jK G x=some us->∃ vs,SqB K b1 H c1 vs/\Rps K H us vs) :
  qir K (Ite K b1 c1) (qdD us) (fun G=>jK G x=some us) G0 H0:=by
 intro G H hr k h1
 obtain ⟨p,sp,rp⟩:=f1 G H hr k h1
 refine ⟨fun i z hz=>?_,fun i z v H' hz hy=>?_,⟨p,sp,?_⟩⟩
 ·obtain ⟨a,ha,_⟩:=KG hz
  obtain ⟨v,hv,_⟩:=rp.get ha
  exact ⟨p,v,sp,hv⟩
 ·obtain ⟨a,ha,rfl⟩:=KG hz
  obtain ⟨t,v1,ht,rfl,rfl,g1⟩:=hy
  obtain ⟨v,hv,rv⟩:=rp.get ha
  have e1:=(g1 p sp).symm.trans hv
  obtain rfl:v1=v:=Option.some.inj e1
  have kk:Kp G H G (upd H t (.tup [.int i,v1])):=Kp.laid ht
  exact ⟨.tup (SqT.of zm) (.cons (.int _) (.cons (rv.keep hr kk) .nil)),hr.laid ht,kk⟩
 ·rw [← rp.length,qbf]
  exact Nat.le_refl _
def EF (ta:TA3):TI3:=fun τ G r=>ta τ G fun xs G1=>match xs with
 | [x]=>(match jK G1 x with | some us=>r (qdD us) (fun G=>jK G x=some us) G1 | _=>False)
 | _=>False
section
variable {X:Cx} {a b e l:Expr} {es:List Expr} {pos:Pos} {t:TA3}
theorem qj2 {p pt:Pos} {k1:Nat} (hg:Gl X "enumerate") (hm:X.mg "enumerate" = none) (ha:A3 X [a] t) (hs:starEach [a] X.env=[(false,eval a X.env)]:=by rfl) :
  I3 X (.Tuple es k1 pt) (.Call (.Name "enumerate" p) [a] [] pos) (EF t):=
 qiQ (qhU hg hm ha hs) fun σ H R ⟨τ,G,r,rl,h,af⟩=>YZ rl h fun xs G1 h1 vs H1 rs hr1 k1 rl1=>by
  split at h1
  ·rename_i x
   split at h1
   ·rename_i us e1
    obtain ⟨v,rfl,r1⟩:=K3 rs
    obtain ⟨b1,c1,rfl,f1⟩:=qcb hr1 r1 e1
    obtain ⟨p,sp,_⟩:=f1 G1 H1 hr1 Kp.refl e1
    exact ⟨b1,c1,p,rfl,sp,af _ _ G1 h1 _ H1 hr1 k1 (qkv f1)⟩
   ·exact h1.elim
  ·exact h1.elim
end
end L3
namespace L3
open PySem PySem.Spec PyProof.Rows L2
section
variable {X:Cx} {a b c e:Expr} {es:List Expr} {ta tb tc te:TE3} {t:TA3} {pos:Pos}
def SN:List T->Option (List Int)
 | []=>some []
 | .int i :: r=>(match SN r with | some ns=>some (i :: ns) | none=>none)
 | _=>none
theorem XX (ns:List Int):SN (ns.map T.int)=some ns:=by
 induction ns with
 | nil=>rfl
 | cons n r ih=>simp [SN,ih]
theorem WN:∀ {xs:List T} {ns:List Int},SN xs=some ns->xs=ns.map T.int
 | [],_,h=>by simp [SN] at h;subst h;rfl
 | x :: r,ns,h=>by
  unfold SN at h
  split at h
  ·rename_i e;cases e
  ·rename_i i r' e
   cases e
   split at h
   ·rename_i ms e2
    cases h
    rw [WN e2];rfl
   ·cases h
  ·cases h
theorem WQ {K:PySem.W.Frag} {H:Hp}:∀ {ns:List Int} {vs:List V},Rps K H (ns.map T.int) vs->vs=ns.map V.int
 | [],_,r=>by cases r;rfl
 | n :: ns,_,r=>by
  cases r with
  | cons a b=>cases a;rw [WQ b];rfl
end
end L3
namespace L3
open PySem PySem.Spec PyProof.Rows L2
section
variable {X:Cx}
theorem qgM {elt tg iter:Expr} {ifs:List Expr} {scope:Scope} {pos cpos:Pos} {N':List Str} {m:List (Option Nat)} {wi:TI} {g:TG} {tif:TT} {te:TE} {use:Option (Value->Sem Unit)} {Qc:Value->Shared->Prop} {QD:Addr->Hp->Prop} (hc:X.calm=true) (hi:PI X tg iter wi)
  (hg:∀ s H fp,PG (ql X N' scope s H fp) tg g) (hf:∀ s H fp,PF (ql X N' scope s H fp) ifs tif) (he:∀ s H fp,PE (ql X N' scope s H fp) elt te)
  (hsc:qaP X.env.scope scope=true) (hcap:UL X.N N' scope m=true) (hs:∀ x,foldedSetIterable iter X.env x=pure x) {pins:List (Addr×Obj)} {s:Shared} {σ:L2.St} {H:Hp} (I:Inv X pins σ H s)
  (h:wi σ H fun J H1=>∀ D,H1 D=none ->
   ∃ W:Nat->Nat->L2.St->Hp->Prop,(∃ n,W 0 n (cap m σ) (upd H1 D (.lst [])))/\∀ i n σ H,W i n σ H ->
    (J.stop i H/\QD D H)\/(J.go i H/\∀ x H',J.yld i H x H'->g x σ H' fun σ2 H2=>tif σ2 H2 fun k H3=>
     if k=true then te σ2 H3 fun y H4=>∃ zs,H4 D=some (.lst zs)/\zs.length < sizeLine/\∃ n',n' < n/\W (i+1) n' σ2 (upd H4 D (.lst (zs++[y])))
     else ∃ n',n' < n/\W (i+1) n' σ2 H3))
  (fin:∀ (D:Addr) (s3:Shared) (H3:Hp) (fp:List Addr) (s6:Shared) (H6:Hp) (σ6:L2.St) (r:Flow),Inv X pins σ H3 s3->(∀ b∈fp,KM X pins H3 b)->Inv (ql X N' scope s3 H3 fp) [] σ6 H6 s6->QD D H6->compPost (model X.prog X.w) X.A X.xe use Qc (.ref D) s3.heap.objs.size (.ok r) s6) :
  wpAny (model X.prog X.w) X.A (comprehension (.ListComp elt [⟨tg,iter,ifs,0⟩] scope pos) scope X.env cpos (newList []) false (eval iter X.env) use) Qc X.xe s:=by
 have sc:=DI hsc
 have hcl:∀ y∈scope.names,y.2=.free->∃ c,X.env.cells.lookup y.1=some c:=fun y hy e=>by
  rcases (sc.free y hy e).2 with z | z
  ·exact I.ok.has y.1 (.inl z)
  ·exact I.ok.has y.1 (.inr z)
 refine wpAny_comprehension_free (g:=⟨tg,iter,ifs,0⟩) (gs:=[]) rfl hs (YB hcl) sc.kind sc.loc ?_
 show wpAny _ _ (eval iter X.env) _ _ s
 refine thn (hi pins s σ H _ I h) fun v s1 h1=>thn h1 fun itv s2 h2=>?_
 obtain ⟨it,fp,tn,J,H2,rfl,I2,T,st2,f2,hW⟩:=h2
 refine wpAny_newObj_type ?_
 have hD:H2 s2.heap.objs.size=none:=I2.fresh
 obtain ⟨W,⟨n0,w0⟩,turn⟩:=hW _ hD
 generalize hDe:s2.heap.objs.size=D at *
 have I3:Inv X pins σ (upd H2 D (.lst [])) { s2 with heap:=s2.heap.push { cls:=.type "list",dict:=none,data:=.seq ([]:List Value).toArray } }:=by
  subst hDe
  exact I2.laid (t':=s2.toks) (fun b u e=>Heap.get?_push_of_some _ e) (Nat.le_refl _) ⟨Nat.zero_le _,[],0,.nil,Heap.get?_push_size _ rfl⟩
 have ob2:=T.obj 0 _ st2
 have ob3:∀ b∈fp,∃ o,(s2.heap.push { cls:=.type "list",dict:=none,data:=.seq ([]:List Value).toArray }).get? b=some o:=fun b hb=>let ⟨o,e,_⟩:=ob2 b hb;⟨o,Heap.get?_push_of_some _ e⟩
 have f3:∀ b∈fp,KM X pins (upd H2 D (.lst [])) b:=fun b hb=>by
  obtain ⟨o,e,_⟩:=ob2 b hb
  have:b≠D:=by rw [← hDe];exact Nat.ne_of_lt (Heap.lt_size e)
  exact ⟨by rw [qH this];exact (f2 b hb).1,(f2 b hb).2⟩
 have k23:∀ b o,s2.heap.get? b=some o->(s2.heap.push { cls:=.type "list",dict:=none,data:=.seq ([]:List Value).toArray }).get? b=some o:=fun b o e=>Heap.get?_push_of_some _ e
 generalize hH3:upd H2 D (.lst [])=H3 at *
 generalize hs3:({ s2 with heap:=s2.heap.push { cls:=.type "list",dict:=none,data:=.seq ([]:List Value).toArray } }:Shared)=s3 at *
 have ob3:∀ b∈fp,∃ o,s3.heap.get? b=some o:=by rw [← hs3];exact ob3
 have k23:∀ b o,s2.heap.get? b=some o->s3.heap.get? b=some o:=by rw [← hs3];exact k23
 refine QL fun h₁ hns hk hown=>?_
 have I4:Inv (ql X N' scope s3 H3 fp) [] (cap m σ) H3 { s3 with heap:=h₁ }:=SL hc I3 sc hcap f3 ob3 hns hk hown
 have tn4:tn 0 h₁:=T.keep _ _ _ st2 fun b hb o e=>hk b o (k23 b o e)
 have fr4:∀ b∈fp,H3 b=none:=fun b hb=>(f3 b hb).1
 have stat:∀ {H':Hp},(∀ b∈fp,H' b=none)->∀ b∈fp,KM (ql X N' scope s3 H3 fp) [] H' b:=fun hn b hb=>by
  refine ⟨hn b hb,I4.ok.exf b hb |>.1,I4.ok.exfs b hb,.inl hb,fun x c e=>(I4.ok.exf b hb).2 x c e,fun p hp=>absurd (show p∈([]:List (Addr×Obj)) from hp) (by simp)⟩
 show codeAny (model X.prog X.w) X.A (.compStart (.ListComp elt [⟨tg,iter,ifs,0⟩] scope pos) 0 (.ref it) (.ref D) (ql X N' scope s3 H3 fp).env) (compPost (model X.prog X.w) X.A X.xe use Qc (.ref D) s3.heap.objs.size) { s3 with heap:=h₁ }
 have loop:codeAny (model X.prog X.w) X.A (.compLoop (.ListComp elt [⟨tg,iter,ifs,0⟩] scope pos) 0 (.ref it) (.ref D) (ql X N' scope s3 H3 fp).env) (compPost (model X.prog X.w) X.A X.xe use Qc (.ref D) s3.heap.objs.size) { s3 with heap:=h₁ }:=by
  refine codeAny_loop rfl (fun n s'=>∃ i σ' H',Inv (ql X N' scope s3 H3 fp) [] σ' H' s'/\tn i s'.heap/\(∀ b∈fp,H' b=none)/\W i n σ' H') (fun n s' hI=>?_) n0 ⟨0,cap m σ,H3,I4,tn4,fr4,w0⟩
  show wpAny _ X.A ((compTurn (.ListComp elt [⟨tg,iter,ifs,0⟩] scope pos) 0 (.ref it) (.ref D) (ql X N' scope s3 H3 fp).env).onRaise (fun x=>do noteFrame x (ql X N' scope s3 H3 fp).env;theTreesLotGoes x)) _ _ s'
  refine wpAny_noted ?_
  rw [compTurn_list]
  refine wpAny_bind (wpAny_standAt (wpAny_bind ?_))
  obtain ⟨i,σ5,H5,I5,st5,fr5,w5⟩:=hI
  rcases turn i n σ5 H5 w5 with ⟨stop,q⟩ | ⟨go,step⟩
  ·refine thn (T.done (ql X N' scope s3 H3 fp) rfl rfl rfl rfl i [] s' σ5 H5 _ I5 (stat fr5) st5 stop) fun r s6 ⟨hr,I6⟩=>?_
   subst hr
   refine wpAny_pure ?_
   exact fin D s3 H3 fp s6 H5 σ5 _ I3 f3 I6 q
  ·refine thn (T.item (ql X N' scope s3 H3 fp) rfl rfl rfl rfl i [] s' σ5 H5 _ I5 (stat fr5) st5 go) fun r s6 ⟨u,hr,h6⟩=>?_
   subst hr
   refine wpAny_bind (thn h6 fun _ s7 ⟨x,H7,I7,r7,y7,st7,fr7⟩=>?_)
   have I7':=I7.pinned (stat fr7) (T.obj _ _ st7)
   have again:∀ {σ8:L2.St} {H8:Hp} {s8:Shared},Inv (ql X N' scope s3 H3 fp) ([]++D8 fp s7.heap) σ8 H8 s8->(∃ n',n' < n/\W (i+1) n' σ8 H8) ->
     ∃ m',m' < n/\∃ i σ' H',Inv (ql X N' scope s3 H3 fp) [] σ' H' s8/\tn i s8.heap/\(∀ b∈fp,H' b=none)/\W i m' σ' H':=fun {σ8 H8 s8} I8 ⟨n',hn,w8⟩=>by
    refine ⟨n',hn,i+1,σ8,H8,I8.unpinned,T.keep _ _ _ st7 fun b hb o e=>(I8.pin (b,o) (List.mem_append_right _ (List.mem_append_right _ (zO hb e)))).1,fun b hb=>?_,w8⟩
    obtain ⟨o,e,d⟩:=T.obj _ _ st7 b hb
    exact (I8.pin (b,o) (List.mem_append_right _ (List.mem_append_right _ (zO hb e)))).2.1
   refine wpAny_bind (wpAny_mono (hg s3 H3 fp _ s7 σ5 H7 x u _ I7' r7 (step x H7 y7)) (fun _ s8 ⟨σ8,H8,I8,q8⟩=>?_) fun _ _ z=>z.elim)
   refine wpAny_bind (wpAny_mono (hf s3 H3 fp _ s8 σ8 H8 _ I8 q8) (fun k s9 ⟨H9,I9,q9⟩=>?_) fun _ _ z=>z.elim)
   cases k with
   | false=>
    rw [if_neg Bool.false_ne_true] at q9
    exact wpAny_pure ⟨rfl,again I9 q9⟩
   | true=>
    rw [if_pos rfl] at q9
    refine wpAny_bind (wpAny_bind (wpAny_mono (he s3 H3 fp _ s9 σ8 H9 _ I9 q9) (fun w s10 ⟨y,H10,I10,r10,q10⟩=>?_) fun _ _ z=>z.elim))
    obtain ⟨zs,hz,hl,q10⟩:=q10
    refine wpAny_bind (wpAny_mono (UW (X:=ql X N' scope s3 H3 fp) _ s10 σ8 H10 (.ref D) [y] (.ref D) [w] (fun _ H11=>H11=upd H10 D (.lst (zs++[y]))) I10 rfl (.cons r10 .nil) ⟨D,zs,y,rfl,rfl,hz,hl,rfl⟩) (fun _ s11 ⟨_,H11,I11,_,e11⟩=>?_) fun _ _ z=>z.elim)
    subst e11
    exact wpAny_pure (wpAny_pure ⟨rfl,again I11 q10⟩)
 exact codeAny_compStart_list loop (T.self X.A 0 _ _ _ tn4 loop)
theorem qdl {i:Nat} {y:Str} {py spos:Pos} {elt tg iter:Expr} {ifs:List Expr} {scope:Scope} {pos:Pos} {N':List Str} {m:List (Option Nat)} {wi:TI} {g:TG} {tif:TT} {te:TE} (hc:X.calm=true) (hN:X.N.Nodup) (hi:PI X tg iter wi)
  (hg:∀ s H fp,PG (ql X N' scope s H fp) tg g) (hf:∀ s H fp,PF (ql X N' scope s H fp) ifs tif) (he:∀ s H fp,PE (ql X N' scope s H fp) elt te)
  (hsc:qaP X.env.scope scope=true) (hcap:UL X.N N' scope m=true) (hs:∀ x,foldedSetIterable iter X.env x=pure x) (hiy:X.N[i]?=some y) (hl:X.env.scope.names.lookup y=some .local)
  (hsw:swapsWith (.ListComp elt [⟨tg,iter,ifs,0⟩] scope pos) (some (.Name y py)) spos.line X.env=pure true) :
  PS X (.Assign [.Name y py] (.ListComp elt [⟨tg,iter,ifs,0⟩] scope pos) spos) (qn2 (tLC wi g tif te m) (qgU i)):=by
 intro pins s σ H D I h
 rw [exec_Assign_Name_used _ _ _ _ hsw]
 refine wpAny_bind (wpAny_standAt (wpAny_bind ?_))
 show wpAny _ X.A (do let _ ← comprehension (.ListComp elt [⟨tg,iter,ifs,0⟩] scope pos) scope X.env _ (newList []) false (eval iter X.env) (some (assign (.Name y py) X.env))) _ _ s
 refine wpAny_bind (wpAny_mono (qgM (use:=some (assign (.Name y py) X.env)) (QD:=fun D' H'=>D.nx (σ.set i (some (.ref D'))) H') (Qc:=fun _ s'=>∃ σ' H',Inv X pins σ' H' s'/\D.nx σ' H') hc hi hg hf he hsc hcap hs I h fun D' s3 H3 fp s6 H6 σ6 r I3 f3 I6 q=>?_) (fun _ s' hq=>wpAny_pure (wpAny_pure hq)) fun _ _ e=>e)
 have I7:Inv X pins σ H6 s6:=DA (h2:=s6.heap) I3 f3 I6 ⟨rfl,fun _ _=>rfl⟩
 obtain ⟨mm,hn6,_⟩:=I6.loc
 have hfC:KM X pins H6 s3.heap.objs.size:=I3.fpOk (Nat.le_refl _) I6.free
 obtain ⟨f0,f1,f2,f3',f4,f5⟩:=hfC
 show wpAny _ X.A (assign (.Name y py) X.env (.ref D')) _ _ _
 refine wpAny_assign_Name (KC I7 hN hiy (.inl hl) (v:=.ref D') rfl (fun s8 I8 hch=>?_) (.inr hl))
 obtain ⟨a,sb,ha⟩:=hch
 have hne:s3.heap.objs.size≠a:=by
  rcases ha with rfl | ha
  ·exact f1
  ·exact Ne.symm (f4 _ _ ha)
 refine ⟨mm,hn6.sameBut sb hne,fun h' sb'=>⟨_,_,I8.turned (t':=s8.toks) (fun b o hb e=>(sb'.2 b hb).trans e) f0 f1 f3' f4 f5,q⟩⟩
end
theorem qoR {K:PySem.W.Frag} {m:List (Option Nat)} {wi:TI3} {g:TG3} {tif:TT3} {te:TE3} {σ:L2.St} {H:Hp} {Q:VK} (hh:lE K (lc3 wi g tif te m) σ H Q):tLC (lI K wi) (lG K g) (lT K tif) (lE K te) m σ H Q:=by
  obtain ⟨τ,G,q,rl,h,af⟩:=hh
  refine ⟨τ,G,_,rl,h,fun items stay G1 h1 J H1 hr1 k1 ok D hD=>?_⟩
  have gD:G1 D=none:=hr1.free hD
  refine ⟨fun i n σ' H'=>n=items.length - i/\i<=items.length/\∃ τ' G' ys vs,Rel K τ' G' σ' H'/\Kp G1 H1 G' H'/\H' D=some (.lst vs)/\Rps K H' ys vs/\G' D=none/\M4 stay g tif te q (items.drop i) ys τ' G',
   ⟨_,rfl,Nat.zero_le _,cap m τ,G1,[],[],((rl.next hr1 k1).cap m).next (hr1.laid hD) (Kp.laid hD),Kp.laid hD,zm,.nil,gD,by simpa using h1⟩,?_⟩
  rintro i n σ' H' ⟨rfl,hi,τ',G',ys,vs,rl',k',hDl,rys,gD',h'⟩
  by_cases hlt:i < items.length
  ·rw [List.drop_eq_getElem_cons hlt] at h'
   obtain ⟨hst,h'⟩:=h'
   obtain ⟨go,yld,_⟩:=ok G' H' rl'.hp k' hst
   have hx:items[i]?=some items[i]:=List.getElem?_eq_getElem hlt
   refine .inr ⟨go i _ hx,fun v H2 y=>?_⟩
   obtain ⟨rv,hr2,k2⟩:=yld i _ v H2 hx y
   have nxt:∀ {τ4:St3} {G4:Gp} {σ4:L2.St} {H4:Hp} {ys4:List T} {vs4:List V},Rel K τ4 G4 σ4 H4->Kp G1 H1 G4 H4->H4 D=some (.lst vs4)->Rps K H4 ys4 vs4->G4 D=none->M4 stay g tif te q (items.drop (i+1)) ys4 τ4 G4 ->
     ∃ n',n' < items.length - i/\(n'=items.length - (i+1)/\i+1<=items.length/\∃ τ' G' ys vs,Rel K τ' G' σ4 H4/\Kp G1 H1 G' H4/\H4 D=some (.lst vs)/\Rps K H4 ys vs/\G' D=none/\M4 stay g tif te q (items.drop (i+1)) ys τ' G'):=
    fun {τ4 G4 σ4 H4 ys4 vs4} a b c d e f=>⟨_,by omega,rfl,hlt,τ4,G4,ys4,vs4,a,b,c,d,e,f⟩
   refine ⟨_,τ',G',_,rv,rl'.next hr2 k2,h',fun τ3 G3 h3 σ3 H3 rl3 k3=>⟨τ3,G3,_,rl3,h3,fun k G4 h4 H4 hr4 k4=>?_⟩⟩
   have kk:=(k2.trans k3).trans k4
   obtain ⟨hD4,gD4⟩:=kk D _ hDl gD'
   have rys4:=rys.keep rl'.hp kk
   cases k with
   | false=>
    rw [if_neg Bool.false_ne_true] at h4
    refine qny ?_
    exact nxt (rl3.next hr4 k4) (k'.trans kk) hD4 rys4 gD4 h4
   | true=>
    rw [if_pos rfl] at h4
    refine qnG ?_
    refine ⟨τ3,G4,_,rl3.next hr4 k4,h4,fun z G5 h5 w H5 rw5 hr5 k5=>?_⟩
    obtain ⟨hD5,gD5⟩:=k5 D _ hD4 gD4
    have rys5:=rys4.keep hr4 k5
    exact ⟨vs,hD5,by rw [← rys.length];exact h5.1,nxt (((rl3.next hr4 k4).next hr5 k5).wrD hD5 gD5) (((k'.trans kk).trans k5).wrD hD) zm ((rys5.append (.cons rw5 .nil)).wrD hD5) gD5 h5.2⟩
  ·have e:i=items.length:=by omega
   subst e
   rw [List.drop_length] at h'
   obtain ⟨_,_,stop⟩:=ok G' H' rl'.hp k' h'.1
   refine .inl ⟨stop,af _ _ (h'.2 D gD') _ H' (.ref D) (fun a o e=>?_) fun a o e ga=>?_⟩
   ·by_cases ha:a=D
    ·subst ha
     rw [qT] at e;cases e
     exact ⟨vs,hDl,rys⟩
    ·rw [QP ha] at e
     exact rl'.hp a o e
   ·obtain ⟨e1,g1⟩:=k1 a o e ga
    obtain ⟨e2,g2⟩:=k' a o e1 g1
    exact ⟨e2,by rw [QP (qA e1 hD)];exact g2⟩
theorem qhG {X:Cx} {py spos:Pos} {elt tg iter:Expr} {ifs:List Expr} {scope:Scope} {pos:Pos} {y:Str} (i:Nat) (N':List Str) (m:List (Option Nat)) {wi:TI3} {g:TG3} {tif:TT3} {te:TE3} (hc:X.calm=true) (hN:X.N.Nodup) (hi:I3 X tg iter wi)
  (hg:∀ s H fp,G3 (ql X N' scope s H fp) tg g) (hf:∀ s H fp,F3 (ql X N' scope s H fp) ifs tif) (he:∀ s H fp,E3 (ql X N' scope s H fp) elt te)
  (hsc:qaP X.env.scope scope=true) (hcap:UL X.N N' scope m=true) (hl:X.env.scope.names.lookup y=some .local) (hsw:swapsWith (.ListComp elt [⟨tg,iter,ifs,0⟩] scope pos) (some (.Name y py)) spos.line X.env=pure true) (hiy:X.N[i]?=some y:=by rfl) (hs:∀ x,foldedSetIterable iter X.env x=pure x:=by intro _;rfl) :
  S3 X (.Assign [.Name y py] (.ListComp elt [⟨tg,iter,ifs,0⟩] scope pos) spos) (zN (lc3 wi g tif te m) (gn3 i)):=
 qfY (qdl (g:=lG X.K g) (tif:=lT X.K tif) (te:=lE X.K te) hc hN hi hg hf he hsc hcap hs hiy hl hsw) fun _ σ H ⟨τ,G,d,rl,h,af⟩=>
  qoR ⟨τ,G,_,rl,h,fun x G1 h1 v H1 rx hr1 k1=>af.nx _ G1 h1 _ H1 ((rl.next hr1 k1).set i rx) k1⟩
end L3
set_option autoImplicit true
namespace L3
open PySem PySem.Spec PyProof.Rows L2
structure jE3 (X:Cx) (e:Expr) (t:TE3):Prop where h:E3 X e t
structure jC3 (X:Cx) (e:Expr) (t:TT3):Prop where h:C3 X e t
structure jW3 (X:Cx) (e:Expr) (t:TT3):Prop where h:W3 X e t
structure jA3 (X:Cx) (e:List Expr) (t:TA3):Prop where h:A3 X e t
structure jP3 (X:Cx) (e:Option Expr) (t:TO3):Prop where h:P3 X e t
structure jS3 (X:Cx) (e:Stmt) (t:TS3):Prop where h:S3 X e t
structure jB3 (X:Cx) (e:List Stmt) (t:TS3):Prop where h:B3 X e t
structure jG3 (X:Cx) (e:Expr) (t:TG3):Prop where h:G3 X e t
structure jGs3 (X:Cx) (e:List Expr) (t:LK):Prop where h:Gs3 X e t
structure jI3 (X:Cx) (tg e:Expr) (t:TI3):Prop where h:I3 X tg e t
structure jF3 (X:Cx) (e:List Expr) (t:TT3):Prop where h:F3 X e t
theorem qb {X:Cx} (i:Nat) {x:Str} {pos:Pos} (hN:X.N[i]?=some x:=by rfl) (hv:Vis X.env.scope x:=by first | exact Or.inl rfl | exact Or.inr (Or.inl rfl) | exact Or.inr (Or.inr rfl)) (hd:(x == ("__debug__" : Str))=false:=by decide)
  (hcd:(x == ("__classdict__" : Str))=false:=by decide):jE3 X (.Name x pos) (v3 i):=
 ⟨qpo (i:=i) (hN:=hN) (hv:=hv) (hd:=hd) (hcd:=hcd)⟩
theorem qe {X:Cx} {i:Int} {j pos}:jE3 X (.Constant (.int i) j pos) (c3 (.int i)):=
 ⟨qpz ⟩
theorem VJ {X:Cx} {b:Bool} {j pos}:jE3 X (.Constant (.bool b) j pos) (c3 (.bl b)):=
 ⟨qqW ⟩
theorem JT {X:Cx} {j pos}:jE3 X (.Constant .none j pos) (c3 .non):=
 ⟨qpk ⟩
theorem zr {X:Cx} {x:Str} {j pos}:jE3 X (.Constant (.str x) j pos) (c3 (.str x)):=
 ⟨qoS ⟩
theorem QV {ta:TE3} {tb:TE3} {pos:Pos} {a:Expr} {b:Expr} {X:Cx} {op:CmpOp} {r3:R3} {r:R2} (ho:OpR X (compareOp op) r) (hr:W2 X.K r3 r) (ha:jE3 X a ta) (hb:jE3 X b tb) (hm:behindInMarks op b=false):jE3 X (.Compare a [op] [b] pos) (o3 r3 ta tb):=
 ⟨qpa (ho:=ho) (hr:=hr) (ha:=ha.h) (hb:=hb.h) (hm:=hm)⟩
theorem qJ {ta:TE3} {tb:TE3} {pos:Pos} {a:Expr} {b:Expr} {X:Cx} {op:CmpOp} {r3:R3} {r:R2} (ho:OpR X (compareOp op) r) (hr:W2 X.K r3 r) (ha:jE3 X a ta) (hb:jE3 X b tb) (hm:behindInMarks op b=false):jC3 X (.Compare a [op] [b] pos) (tb3 (o3 r3 ta tb)):=
 ⟨qn8 (ho:=ho) (hr:=hr) (ha:=ha.h) (hb:=hb.h) (hm:=hm)⟩
theorem S8 {ta:TE3} {tb:TE3} {tc:TE3} {pos:Pos} {a:Expr} {b:Expr} {c:Expr} {X:Cx} {op op':CmpOp} {r3 r3':R3} {r r':R2} (ho:OpR X (compareOp op) r) (hr:W2 X.K r3 r) (ho':OpR X (compareOp op') r') (hr':W2 X.K r3' r') (ha:jE3 X a ta) (hb:jE3 X b tb) (hc:jE3 X c tc)
  (hm:lastMarks [op,op'] [b,c]=false:=by with_unfolding_all rfl):jE3 X (.Compare a [op,op'] [b,c] pos) (ch3 r3 r3' ta tb tc):=
 ⟨qg0 (ho:=ho) (hr:=hr) (ho':=ho') (hr':=hr') (ha:=ha.h) (hb:=hb.h) (hc:=hc.h) (hm:=hm)⟩
theorem D0 {ta:TE3} {tb:TE3} {pos:Pos} {a:Expr} {b:Expr} {X:Cx} (ha:jE3 X a ta) (hb:jE3 X b tb):jE3 X (.BinOp a .Sub b pos) (o3 (iI (· - ·)) ta tb):=
 ⟨qoD (ha:=ha.h) (hb:=hb.h)⟩
theorem zD {ta:TE3} {tb:TE3} {pos:Pos} {a:Expr} {b:Expr} {X:Cx} (ha:jE3 X a ta) (hb:jE3 X b tb):jE3 X (.BinOp a .Mult b pos) (o3 (iC jP (· * ·)) ta tb):=
 ⟨qn3 (ha:=ha.h) (hb:=hb.h)⟩
theorem VL {ta:TE3} {tb:TE3} {pos:Pos} {a:Expr} {b:Expr} {X:Cx} (ha:jE3 X a ta) (hb:jE3 X b tb):jE3 X (.BinOp a .Mod b pos) (o3 (iC (fun _ j=>0 < j) (· % ·)) ta tb):=
 ⟨qpM (ha:=ha.h) (hb:=hb.h)⟩
theorem T5 {ta:TE3} {tb:TE3} {pos:Pos} {a:Expr} {b:Expr} {X:Cx} (ha:jE3 X a ta) (hb:jE3 X b tb):jE3 X (.BinOp a .FloorDiv b pos) (o3 (iC qaF (· / ·)) ta tb):=
 ⟨qnU (ha:=ha.h) (hb:=hb.h)⟩
theorem qll {ta:TE3} {tb:TE3} {pos:Pos} {a:Expr} {b:Expr} {X:Cx} (ha:jE3 X a ta) (hb:jE3 X b tb):jE3 X (.BinOp a .Pow b pos) (o3 (iC LN (fun i j=>i ^ j.toNat)) ta tb):=
 ⟨qob (ha:=ha.h) (hb:=hb.h)⟩
theorem qcr {ta:TE3} {tb:TE3} {pos:Pos} {a:Expr} {b:Expr} {X:Cx} (ha:jE3 X a ta) (hb:jE3 X b tb):jE3 X (.BinOp a .LShift b pos) (o3 (iC LN (fun i j=>i * 2 ^ j.toNat)) ta tb):=
 ⟨qo2 (ha:=ha.h) (hb:=hb.h)⟩
theorem RH {ta:TE3} {pos:Pos} {a:Expr} {X:Cx} (ha:jE3 X a ta):jE3 X (.UnaryOp .USub a pos) (u3 qcY ta):=
 ⟨qn1 (ha:=ha.h)⟩
theorem LP {tA:TT3} {pos:Pos} {a:Expr} {X:Cx} (ha:jC3 X a tA):jW3 X (.BoolOp .And [a] pos) tA:=
 ⟨qmY (ha:=ha.h)⟩
theorem RC {tA:TT3} {pos:Pos} {a:Expr} {X:Cx} (ha:jC3 X a tA):jW3 X (.BoolOp .Or [a] pos) tA:=
 ⟨qpE (ha:=ha.h)⟩
theorem qcx {JJ:List Expr} {tA:TT3} {tB:TT3} {pos:Pos} {a:Expr} {X:Cx} (ha:jC3 X a tA) (hb:jW3 X (.BoolOp .And (b :: JJ) pos) tB):jW3 X (.BoolOp .And (a :: b :: JJ) pos) (qdE tA tB):=
 ⟨qpw (ha:=ha.h) (hb:=hb.h)⟩
theorem qag {JJ:List Expr} {tA:TT3} {tB:TT3} {pos:Pos} {a:Expr} {X:Cx} (ha:jC3 X a tA) (hb:jW3 X (.BoolOp .Or (b :: JJ) pos) tB):jW3 X (.BoolOp .Or (a :: b :: JJ) pos) (or3 tA tB):=
 ⟨qrg (ha:=ha.h) (hb:=hb.h)⟩
theorem V9 {tA:TT3} {pos:Pos} {a:Expr} {X:Cx} (ha:jC3 X a tA):jC3 X (.UnaryOp .Not a pos) (K7 tA):=
 ⟨qoA (ha:=ha.h)⟩
theorem JE {X:Cx} {e:Expr} {t:TE3} (h:jE3 X e t) (he:∀ whole,isTrue e X.env whole=(do let v ← whole;standAt e.pos;holding [v] (truthy v)):=by intro _;rfl):jC3 X e (tb3 t):=
 ⟨qpP (h:=h.h) (he:=he)⟩
theorem YJ {ta:TE3} {pos:Pos} {a:Expr} {X:Cx} {op} (h:jE3 X a ta):jE3 X (.BoolOp op [a] pos) ta:=
 ⟨qoW (h:=h.h)⟩
theorem QT {JJ:List Expr} {ta:TE3} {tb:TE3} {pos:Pos} {a:Expr} {X:Cx} (ha:jE3 X a ta) (hb:jE3 X (.BoolOp .And (b :: JJ) pos) tb):jE3 X (.BoolOp .And (a :: b :: JJ) pos) (QJ ta tb):=
 ⟨qoY (ha:=ha.h) (hb:=hb.h)⟩
theorem qes {ta:TE3} {pos:Pos} {a:Expr} {X:Cx} (ha:jE3 X a ta):jE3 X (.UnaryOp .Not a pos) (qcN ta):=
 ⟨qoU (ha:=ha.h)⟩
theorem qii {tA:TT3} {ta:TE3} {tb:TE3} {pos:Pos} {a:Expr} {b:Expr} {X:Cx} {c:Expr} (hc:jC3 X c tA) (ha:jE3 X a ta) (hb:jE3 X b tb):jE3 X (.IfExp c a b pos) (if3 tA ta tb):=
 ⟨qqY (hc:=hc.h) (ha:=ha.h) (hb:=hb.h)⟩
theorem qd {X:Cx} :jA3 X [] qj:=
 ⟨qoG ⟩
theorem qa {te:TE3} {t:TA3} {es:List Expr} {X:Cx} (ha:jE3 X e te) (hr:jA3 X es t) (hs:starEach (e :: es) X.env=(false,eval e X.env) :: starEach es X.env:=by rfl):jA3 X (e :: es) (qc te t):=
 ⟨qiD (ha:=ha.h) (hr:=hr.h) (hs:=hs)⟩
theorem qW {t:TA3} {pos:Pos} {es:List Expr} {X:Cx} {x1} (h:jA3 X es t):jE3 X (.Tuple es x1 pos) (QU t):=
 ⟨qpG (h:=h.h)⟩
theorem YK {t:TA3} {pos:Pos} {es:List Expr} {X:Cx} (h:jA3 X es t):jE3 X (.List es pos) (XS t):=
 ⟨qnZ (h:=h.h)⟩
theorem qy {t:TA3} {pos:Pos} {es:List Expr} {X:Cx} {x:Str} {p:Pos} {id:String} {r3:List T->Gp->Q3->Prop} {r:List V->Hp->VK->Prop} (hc:YH X (.builtin id) r) (hr:M1 X.K r3 r) (hg:Gl X x) (hm:X.mg x=none) (hv:bootBuiltins x=some (.builtin id)) (ha:jA3 X (e :: es) t) (hn:x≠"__name__" := by decide) (hdb:(x == ("__debug__" : Str))=false:=by decide)
  (he:starEach (e :: es) X.env=(false,eval e X.env) :: starEach es X.env:=by rfl) (hpl:(backTo pos (starEach es X.env)).any (·.1)=false:=by rfl):jE3 X (.Call (.Name x p) (e :: es) [] pos) (cb3 r3 t):=
 ⟨qhj (hc:=hc) (hr:=hr) (hg:=hg) (hm:=hm) (hv:=hv) (ha:=ha.h) (hn:=hn) (hdb:=hdb) (he:=he) (hpl:=hpl)⟩
theorem ZF {t:TA3} {pos:Pos} {es:List Expr} {X:Cx} {x:Str} {p:Pos} {ty:String} {r3:List T->Gp->Q3->Prop} {r:List V->Hp->VK->Prop} (hc:YH X (.type ty) r) (hr:M1 X.K r3 r) (hg:Gl X x) (hm:X.mg x=none) (hv:bootBuiltins x=some (.type ty)) (ha:jA3 X (e :: es) t) (hn:x≠"__name__" := by decide) (hdb:(x == ("__debug__" : Str))=false:=by decide)
  (he:starEach (e :: es) X.env=(false,eval e X.env) :: starEach es X.env:=by rfl) (hpl:(backTo pos (starEach es X.env)).any (·.1)=false:=by rfl):jE3 X (.Call (.Name x p) (e :: es) [] pos) (cb3 r3 t):=
 ⟨qdy (hc:=hc) (hr:=hr) (hg:=hg) (hm:=hm) (hv:=hv) (ha:=ha.h) (hn:=hn) (hdb:=hdb) (he:=he) (hpl:=hpl)⟩
theorem qu {ta:TE3} {tb:TE3} {pos:Pos} {a:Expr} {b:Expr} {X:Cx} (ha:jE3 X a ta) (hb:jE3 X b tb) (hs:EU b:=by intro _ _;rfl):jE3 X (.Subscript a b pos) (o3 ix3 ta tb):=
 ⟨qq0 (ha:=ha.h) (hb:=hb.h) (hs:=hs)⟩
theorem qhH {X:Cx} :jP3 X none np3:=
 ⟨qkb ⟩
theorem MQ {te:TE3} {e:Expr} {X:Cx} (h:jE3 X e te):jP3 X (some e) (sp3 te):=
 ⟨qkj (h:=h.h)⟩
theorem NH {te:TE3} {pos:Pos} {e:Expr} {X:Cx} {lo hi:Option Expr} {tl th:TO3} {p2:Pos} (he:jE3 X e te) (hl:jP3 X lo tl) (hu:jP3 X hi th):jE3 X (.Subscript e (.Slice lo hi none p2) pos) (qiw te tl th):=
 ⟨qhr (he:=he.h) (hl:=hl.h) (hu:=hu.h)⟩
theorem qK {ta:TE3} {tb:TE3} {pos:Pos} {a:Expr} {b:Expr} {X:Cx} (ha:jE3 X a ta) (hb:jE3 X b tb):jE3 X (.BinOp a .Add b pos) (o3 jN ta tb):=
 ⟨qjc (ha:=ha.h) (hb:=hb.h)⟩
theorem W6 {t:TA3} {e:Expr} {X:Cx} {o:Expr} {to:TE3} {apos cpos:Pos} (ho:jE3 X o to) (ha:jA3 X [e] t)
  (hbase:attributeBase o "append" X.env (eval o X.env)=eval o X.env:=by rfl)
  (hfew:((backTo cpos (starEach [e] X.env)).all (fun x=>!x.1) && (backToKw cpos (keywordEach [] X.env)).all (fun x=>x.1.isSome)
   && decide (([e]:List Expr).length+([]:List Keyword).length+(if ([]:List Keyword).isEmpty then 0 else 1) < 30))=true:=by rfl)
  (hline:(apos.endLine == cpos.line)=true:=by rfl) (hs:starEach [e] X.env=(false,eval e X.env) :: starEach [] X.env:=by rfl) (hplain:(backTo cpos (starEach [] X.env)).any (·.1)=false:=by rfl):jE3 X (.Call (.Attribute o "append" apos) [e] [] cpos) (bm3 qcV to t):=
 ⟨qdq (ho:=ho.h) (ha:=ha.h) (hbase:=hbase) (hfew:=hfew) (hline:=hline) (hs:=hs) (hplain:=hplain)⟩
theorem qcI {t:TA3} {e:Expr} {X:Cx} {o:Expr} {to:TE3} {apos cpos:Pos} (ho:jE3 X o to) (ha:jA3 X [e] t)
  (hbase:attributeBase o "extend" X.env (eval o X.env)=eval o X.env:=by rfl)
  (hfew:((backTo cpos (starEach [e] X.env)).all (fun x=>!x.1) && (backToKw cpos (keywordEach [] X.env)).all (fun x=>x.1.isSome)
   && decide (([e]:List Expr).length+([]:List Keyword).length+(if ([]:List Keyword).isEmpty then 0 else 1) < 30))=true:=by rfl)
  (hline:(apos.endLine == cpos.line)=true:=by rfl) (hs:starEach [e] X.env=(false,eval e X.env) :: starEach [] X.env:=by rfl) (hplain:(backTo cpos (starEach [] X.env)).any (·.1)=false:=by rfl):jE3 X (.Call (.Attribute o "extend" apos) [e] [] cpos) (bm3 qgD to t):=
 ⟨qdL (ho:=ho.h) (ha:=ha.h) (hbase:=hbase) (hfew:=hfew) (hline:=hline) (hs:=hs) (hplain:=hplain)⟩
theorem JO {te:TE3} {pos:Pos} {e:Expr} {X:Cx} {tn:Str} {ty:String} {p p2:Pos} (he:jE3 X e te) (hg:Gl X "isinstance") (hm:X.mg "isinstance" = none) (hg2:Gl X tn) (hm2:X.mg tn=none) (hv:bootBuiltins tn=some (.type ty)) (hmem:ty∈ZE:=by decide) (hn:tn≠"__name__" := by decide) (hdb:(tn == ("__debug__" : Str))=false:=by decide)
  (hs:starEach [e,.Name tn p2] X.env=(false,eval e X.env) :: starEach [.Name tn p2] X.env:=by rfl) (hs2:starEach [.Name tn p2] X.env=(false,eval (.Name tn p2) X.env) :: starEach [] X.env:=by rfl) (hpl:(backTo pos (starEach [.Name tn p2] X.env)).any (·.1)=false:=by rfl):jE3 X (.Call (.Name "isinstance" p) [e,.Name tn p2] [] pos) (CH (fun t=>j5 t ty) te):=
 ⟨qpp (he:=he.h) (hg:=hg) (hm:=hm) (hg2:=hg2) (hm2:=hm2) (hv:=hv) (hmem:=hmem) (hn:=hn) (hdb:=hdb) (hs:=hs) (hs2:=hs2) (hpl:=hpl)⟩
theorem qa7 {te:TE3} {pos:Pos} {e:Expr} {X:Cx} {tn tn':Str} {ty ty':String} {p p2 p3 p4:Pos} {x1} (he:jE3 X e te) (hg:Gl X "isinstance") (hm:X.mg "isinstance" = none) (hg2:Gl X tn) (hm2:X.mg tn=none) (hv:bootBuiltins tn=some (.type ty)) (hg3:Gl X tn') (hm3:X.mg tn'=none) (hv3:bootBuiltins tn'=some (.type ty'))
  (hmem:ty∈ZE:=by decide) (hn:tn≠"__name__" := by decide) (hdb:(tn == ("__debug__" : Str))=false:=by decide) (hmem3:ty'∈ZE:=by decide) (hn3:tn'≠"__name__" := by decide) (hdb3:(tn' == ("__debug__" : Str))=false:=by decide)
  (hs:starEach [e,.Tuple [.Name tn p2,.Name tn' p3] x1 p4] X.env=(false,eval e X.env) :: starEach [.Tuple [.Name tn p2,.Name tn' p3] x1 p4] X.env:=by rfl) (hs2:starEach [.Tuple [.Name tn p2,.Name tn' p3] x1 p4] X.env=(false,eval (.Tuple [.Name tn p2,.Name tn' p3] x1 p4) X.env) :: starEach [] X.env:=by rfl)
  (hs3:starEach [.Name tn p2,.Name tn' p3] X.env=(false,eval (.Name tn p2) X.env) :: starEach [.Name tn' p3] X.env:=by rfl) (hs4:starEach [.Name tn' p3] X.env=(false,eval (.Name tn' p3) X.env) :: starEach [] X.env:=by rfl)
  (hpl:(backTo pos (starEach [.Tuple [.Name tn p2,.Name tn' p3] x1 p4] X.env)).any (·.1)=false:=by rfl):jE3 X (.Call (.Name "isinstance" p) [e,.Tuple [.Name tn p2,.Name tn' p3] x1 p4] [] pos) (CH (fun t=>j5 t ty || j5 t ty') te):=
 ⟨qlY (he:=he.h) (hg:=hg) (hm:=hm) (hg2:=hg2) (hm2:=hm2) (hv:=hv) (hg3:=hg3) (hm3:=hm3) (hv3:=hv3) (hmem:=hmem) (hn:=hn) (hdb:=hdb) (hmem3:=hmem3) (hn3:=hn3) (hdb3:=hdb3) (hs:=hs) (hs2:=hs2) (hs3:=hs3) (hs4:=hs4) (hpl:=hpl)⟩
theorem qM {X:Cx} :jB3 X [] qO:=
 ⟨qol ⟩
theorem qg {JJ:List Stmt} {st:Stmt} {t1:TS3} {t2:TS3} {X:Cx} (h1:jS3 X st t1) (h2:jB3 X JJ t2):jB3 X (st :: JJ) (qS t1 t2):=
 ⟨qkp (h1:=h1.h) (h2:=h2.h)⟩
theorem qk {st:Stmt} {t1:TS3} {X:Cx} (h1:jS3 X st t1):jB3 X [st] t1:=
 ⟨qpr (h1:=h1.h)⟩
theorem TN {te:TE3} {pos:Pos} {e:Expr} {X:Cx} (he:jE3 X e te) (hs:swapsWith e none pos.line X.env=pure false:=by rfl):jS3 X (.Expr e pos) (XV te):=
 ⟨qk7 (he:=he.h) (hs:=hs)⟩
theorem qo {te:TE3} {pos:Pos} {e:Expr} {X:Cx} (he:jE3 X e te):jS3 X (.Return (some e) pos) (za te):=
 ⟨qn9 (he:=he.h)⟩
theorem zA {tA:TT3} {t1:TS3} {t2:TS3} {pos:Pos} {X:Cx} {c:Expr} {ba bb:List Stmt} (hc:jC3 X c tA) (ha:jB3 X ba t1) (hb:jB3 X bb t2):jS3 X (.If c ba bb pos) (jt tA t1 t2):=
 ⟨qqT (hc:=hc.h) (ha:=ha.h) (hb:=hb.h)⟩
theorem qdJ {X:Cx} {sts:List Stmt}:jB3 X sts qnL:=
 ⟨qgY ⟩
theorem qv {pos:Pos} {X:Cx} {i:Nat} {x:Str} (hN:X.N.Nodup) (hi:X.N[i]?=some x:=by rfl) (hx:Loc X.env.scope x:=by first | exact Or.inl rfl | exact Or.inr rfl) (hf:X.fn x=true\/X.env.scope.names.lookup x=some .local:=by first | exact .inl rfl | exact .inr rfl):jG3 X (.Name x pos) (gn3 i):=
 ⟨qi0 (hN:=hN) (hi:=hi) (hx:=hx) (hf:=hf)⟩
theorem zQ {X:Cx} :jGs3 X [] jp:=
 ⟨qow ⟩
theorem qp {es:List Expr} {X:Cx} {tg:TG3} {tgs:LK} (h1:jG3 X e tg) (h2:jGs3 X es tgs) (hs:(assignEach (e :: es) X.env).map (·.2)=assign e X.env :: (assignEach es X.env).map (·.2):=by rfl):jGs3 X (e :: es) (qr tg tgs):=
 ⟨qi3 (h1:=h1.h) (h2:=h2.h) (hs:=hs)⟩
theorem zR {pos:Pos} {es:List Expr} {X:Cx} {k:Nat} {tgs:LK} {n:Nat} (hc:X.calm=true) (h:jGs3 X es tgs) (hn:(assignEach es X.env).length=n:=by rfl) (hst:(assignEach es X.env).findIdx? (·.1)=none:=by rfl):jG3 X (.Tuple es k pos) (jr n tgs):=
 ⟨qou (hc:=hc) (h:=h.h) (hn:=hn) (hst:=hst)⟩
theorem qfk {pos : Pos} {X : Cx} {o i : Expr} {to ti : TE3} (ho : jE3 X o to) (hi : jE3 X i ti) (ha : ∀ v,assign (.Subscript o i pos) X.env v = (do
      let ov ← holding [v] (eval o X.env)
      let iv ← holding [v,ov] (eval i X.env)
      standAt pos
      holding [v,ov,iv] (setItem ov iv v)
      release [v,ov,iv] []):=by intro _;rfl):jG3 X (.Subscript o i pos) (TD to ti):=
  ⟨qoi (ho:=ho.h) (hi:=hi.h) (ha:=ha)⟩
theorem YL {te:TE3} {pos:Pos} {X:Cx} {tg e:Expr} {g:TG3} (he:jE3 X e te) (hg:jG3 X tg g) (hs:swapsWithSole [tg] e pos.line X.env=pure false:=by rfl) (hw:swappedStores [tg] e X.env=pure none:=by rfl)
  (h1:(assignEach [tg] X.env).map (·.2)=[assign tg X.env]:=by rfl):jS3 X (.Assign [tg] e pos) (zN te g):=
 ⟨qnS (he:=he.h) (hg:=hg.h) (hs:=hs) (hw:=hw) (h1:=h1)⟩
theorem zj {te:TE3} {pos:Pos} {X:Cx} (i:Nat) {x:Str} {e:Expr} {pos':Pos} (hN:X.N.Nodup) (he:jE3 X e te) (hi:X.N[i]?=some x:=by rfl) (hx:Loc X.env.scope x:=by first | exact Or.inl rfl | exact Or.inr rfl) (hs:swapsWith e (some (.Name x pos')) pos.line X.env=pure false:=by rfl) (hf:X.fn x=true\/X.env.scope.names.lookup x=some .local:=by first | exact .inl rfl | exact .inr rfl):jS3 X (.Assign [.Name x pos'] e pos) (zN te (gn3 i)):=
 ⟨qn7 (i:=i) (hN:=hN) (he:=he.h) (hi:=hi) (hx:=hx) (hs:=hs) (hf:=hf)⟩
theorem NI {pos:Pos} {X:Cx} {i j:Nat} {x y:Str} {a b:Expr} {tt:TA3} {px py pt:Pos} {kt k2 pt2} (hc:X.calm=true) (hN:X.N.Nodup) (hi:X.N[i]?=some x) (hj:X.N[j]?=some y) (hij:i≠j)
  (hx:X.env.scope.names.lookup x=some .local) (hy:X.env.scope.names.lookup y=some .local) (ha:jA3 X [a,b] tt)
  (hw:swappedStores [.Tuple [.Name x px,.Name y py] kt pt] (.Tuple [a,b] k2 pt2) X.env=pure (some [x,y]):=by rfl)
  (hs:swapsWithSole [.Tuple [.Name x px,.Name y py] kt pt] (.Tuple [a,b] k2 pt2) pos.line X.env=pure false:=by rfl):jS3 X (.Assign [.Tuple [.Name x px,.Name y py] kt pt] (.Tuple [a,b] k2 pt2) pos) (qc3 i j tt):=
 ⟨qph (hc:=hc) (hN:=hN) (hi:=hi) (hj:=hj) (hij:=hij) (hx:=hx) (hy:=hy) (ha:=ha.h) (hw:=hw) (hs:=hs)⟩
theorem QR {te:TE3} {X:Cx} {tg:Expr} {l:Expr} (hl:jE3 X l te):jI3 X tg l (JV te):=
 ⟨qpD (hl:=hl.h)⟩
theorem zB {t:TA3} {pos:Pos} {a:Expr} {X:Cx} {tg:Expr} {p:Pos} (hg:Gl X "range") (hm:X.mg "range" = none) (ha:jA3 X [a] t) (hs:starEach [a] X.env=[(false,eval a X.env)]:=by rfl) (h1:∀ τ G q,t τ G q->t τ G fun xs G=>q xs G/\xs.length=1):jI3 X tg (.Call (.Name "range" p) [a] [] pos) (jJ t):=
 ⟨qdS (hg:=hg) (hm:=hm) (ha:=ha.h) (hs:=hs) (h1:=h1)⟩
theorem VF {t:TA3} {pos:Pos} {a:Expr} {b:Expr} {X:Cx} {tg:Expr} {p:Pos} (hg:Gl X "range") (hm:X.mg "range" = none) (ha:jA3 X [a,b] t) (hs:starEach [a,b] X.env=[(false,eval a X.env),(false,eval b X.env)]:=by rfl) (hs2:starEach [b] X.env=[(false,eval b X.env)]:=by rfl) (h1:∀ τ G q,t τ G q->t τ G fun xs G=>q xs G/\xs.length=2):jI3 X tg (.Call (.Name "range" p) [a,b] [] pos) (jJ t):=
 ⟨qd0 (hg:=hg) (hm:=hm) (ha:=ha.h) (hs:=hs) (hs2:=hs2) (h1:=h1)⟩
theorem JN {pos:Pos} {X:Cx} {tg:Expr} {iter:Expr} {body:List Stmt} {wi:TI3} {g:TG3} {tb:TS3} (hp:PassesOwn (model X.prog X.w) X.A X.env X.xe) (hc:X.calm=true) (hi:jI3 X tg iter wi) (hg:jG3 X tg g) (hb:jB3 X body tb)
  (hs:∀ x,foldedSetIterable iter X.env x=pure x:=by intro _;rfl):jS3 X (.For tg iter body [] pos) (CT wi g tb):=
 ⟨qok (hp:=hp) (hc:=hc) (hi:=hi.h) (hg:=hg.h) (hb:=hb.h) (hs:=hs)⟩
theorem qh {t:TA3} {pos:Pos} {es:List Expr} {X:Cx} {k:Nat} {x:Str} {p:Pos} {sp:Sp3} (F:Fn3 X.prog X.w X.K X.mg X.base k x sp) (hr:Room k X.A) (hg:Gl X x) (ha:jA3 X (e :: es) t) (hdb:(x == ("__debug__" : Str))=false:=by decide)
  (he:starEach (e :: es) X.env=(false,eval e X.env) :: starEach es X.env:=by rfl) (hpl:(backTo pos (starEach es X.env)).any (·.1)=false:=by rfl):jE3 X (.Call (.Name x p) (e :: es) [] pos) (cb3 sp t):=
 ⟨qiB (F:=F) (hr:=hr) (hg:=hg) (ha:=ha.h) (hdb:=hdb) (he:=he) (hpl:=hpl)⟩
theorem YS {X:Cx} {elt tg iter:Expr} {ifs:List Expr} {scope:Scope} {pos:Pos} (N':List Str) (m:List (Option Nat)) {wi:TI3} {g:TG3} {tif:TT3} {te:TE3} (hc:X.calm=true) (hi:jI3 X tg iter wi)
  (hg:∀ s H fp,jG3 (ql X N' scope s H fp) tg g) (hf:∀ s H fp,jF3 (ql X N' scope s H fp) ifs tif) (he:∀ s H fp,jE3 (ql X N' scope s H fp) elt te)
  (hsc:qaP X.env.scope scope=true) (hcap:UL X.N N' scope m=true) (hs:∀ x,foldedSetIterable iter X.env x=pure x:=by intro _;rfl):jE3 X (.ListComp elt [⟨tg,iter,ifs,0⟩] scope pos) (lc3 wi g tif te m):=
 ⟨qq4 (N':=N') (m:=m) (hc:=hc) (hi:=hi.h) (hg:=(fun s H fp=>(hg s H fp).h)) (hf:=(fun s H fp=>(hf s H fp).h)) (he:=(fun s H fp=>(he s H fp).h)) (hsc:=hsc) (hcap:=hcap) (hs:=hs)⟩
theorem zM {X:Cx}:jF3 X [] tt3:=
 ⟨qoV ⟩
theorem qgh {X:Cx} {c:Expr} {t:TT3} (h:jC3 X c t):jF3 X [c] t:=
 ⟨qpm (h:=h.h)⟩
theorem qfP {t:TA3} {pos:Pos} {es:List Expr} {a:Expr} {b:Expr} {X:Cx} {p pt:Pos} {k1:Nat} (hg:Gl X "zip") (hm:X.mg "zip" = none) (ha:jA3 X [a,b] t) (hs:starEach [a,b] X.env=[(false,eval a X.env),(false,eval b X.env)]:=by rfl) (hs2:starEach [b] X.env=[(false,eval b X.env)]:=by rfl):jI3 X (.Tuple es k1 pt) (.Call (.Name "zip" p) [a,b] [] pos) (qal t):=
 ⟨qn0 (hg:=hg) (hm:=hm) (ha:=ha.h) (hs:=hs) (hs2:=hs2)⟩
theorem RY {t:TA3} {pos:Pos} {es:List Expr} {a:Expr} {X:Cx} {p pt:Pos} {k1:Nat} (hg:Gl X "enumerate") (hm:X.mg "enumerate" = none) (ha:jA3 X [a] t) (hs:starEach [a] X.env=[(false,eval a X.env)]:=by rfl):jI3 X (.Tuple es k1 pt) (.Call (.Name "enumerate" p) [a] [] pos) (EF t):=
 ⟨qj2 (hg:=hg) (hm:=hm) (ha:=ha.h) (hs:=hs)⟩
theorem WW {X:Cx} {py spos:Pos} {elt tg iter:Expr} {ifs:List Expr} {scope:Scope} {pos:Pos} {y:Str} (i:Nat) (N':List Str) (m:List (Option Nat)) {wi:TI3} {g:TG3} {tif:TT3} {te:TE3} (hc:X.calm=true) (hN:X.N.Nodup) (hi:jI3 X tg iter wi)
  (hg:∀ s H fp,jG3 (ql X N' scope s H fp) tg g) (hf:∀ s H fp,jF3 (ql X N' scope s H fp) ifs tif) (he:∀ s H fp,jE3 (ql X N' scope s H fp) elt te)
  (hsc:qaP X.env.scope scope=true) (hcap:UL X.N N' scope m=true) (hl:X.env.scope.names.lookup y=some .local) (hsw:swapsWith (.ListComp elt [⟨tg,iter,ifs,0⟩] scope pos) (some (.Name y py)) spos.line X.env=pure true) (hiy:X.N[i]?=some y:=by rfl) (hs:∀ x,foldedSetIterable iter X.env x=pure x:=by intro _;rfl):jS3 X (.Assign [.Name y py] (.ListComp elt [⟨tg,iter,ifs,0⟩] scope pos) spos) (zN (lc3 wi g tif te m) (gn3 i)):=
 ⟨qhG (i:=i) (N':=N') (m:=m) (hc:=hc) (hN:=hN) (hi:=hi.h) (hg:=(fun s H fp=>(hg s H fp).h)) (hf:=(fun s H fp=>(hf s H fp).h)) (he:=(fun s H fp=>(he s H fp).h)) (hsc:=hsc) (hcap:=hcap) (hl:=hl) (hsw:=hsw) (hiy:=hiy) (hs:=hs)⟩
theorem jpt {X:Cx} {e:Expr} {t:TT3} (h:jW3 X e t):jC3 X e t:=⟨PW.pt h.h⟩
theorem qC {P:Program} {w:World} {K:PySem.W.Frag} {mg:Str->Option Value} {base:Heap} {x qual:Str} {st:Stmt} {f:Addr} {fd:FuncData} {N ps:List Str} {k:Nat} {sp:Sp3} {t3:TS3} (F:Fun K x qual st f fd) (S:FnScope N ps (qi st)) (bd:zn K fd ps []) (hm:mg x=some (.ref f))
  (body:∀ (cdv:Value) (A:Around) (outer:List Env) (s:Shared) (H:Hp) (E:XK),Room k (A.deeper (envOfC qual (qi st) s.heap.objs.size f cdv)) ->
   jB3 (qcX CX0 P w K mg base N qual (qi st) f cdv A outer s H E).nox (jL st) t3)
  (read:∀ ts G q,sp ts G q->ts.length=ps.length/\t3 { nx:=fun _ G'=>q .non G',rt:=q } (qE N ts) G):Fn3 P w K mg base (k+1) x sp:=
 qjv F S bd hm (fun cdv A outer s H E hr=>(body cdv A outer s H E hr).h) read
theorem qdQ {P:Program} {w:World} {K:PySem.W.Frag} {mg:Str->Option Value} {base:Heap} {x qual:Str} {st:Stmt} {f:Addr} {fd:FuncData} {N ps:List Str} {k:Nat} {sp:Sp3} {t3:TS3} (F:Fun K x qual st f fd) (S:FnScope N ps (qi st))
  (body:∀ (cdv:Value) (A:Around) (outer:List Env) (s:Shared) (H:Hp) (E:XK),Room k (A.deeper (envOfC qual (qi st) s.heap.objs.size f cdv)) ->
   jB3 (qcX CX0 P w K mg base N qual (qi st) f cdv A outer s H E).nox (jL st) t3)
  (read:∀ ts G q,sp ts G q->ts.length=ps.length/\t3 { nx:=fun _ G'=>q .non G',rt:=q } (qE N ts) G):FnOk P w K mg base CX0 (k+1) f fd ps (lSp K sp):=
 qhb F S (fun cdv A outer s H E hr=>(body cdv A outer s H E hr).h) read
end L3
namespace L3
open PySem PySem.Spec PyProof.Rows L2
open PySem.SeqAt
def Ex (G G':Gp):Prop:=∀ b o,G b=some o->G' b=some o
theorem Ex.refl {G:Gp}:Ex G G:=fun _ _ e=>e
theorem Ex.trans {G G1 G2:Gp} (a:Ex G G1) (b:Ex G1 G2):Ex G G2:=fun x o e=>b x o (a x o e)
theorem VB {G:Gp} {p:Addr} {o:O} (hp:G p=none):Ex G (gu G p o):=fun b ob e=>by
 rw [QP (by rintro rfl;rw [hp] at e;cases e)];exact e
mutual
inductive Dp (G:Gp):T->PyData->Prop
 | non:Dp G .non .none
 | bl (b:Bool):Dp G (.bl b) (.bool b)
 | int (i:Int):Dp G (.int i) (.int i)
 | str (x:Str):Dp G (.str x) (.str x)
 | tup {xs:List T} {ds:List PyData}:Dps G xs ds->Dp G (.tup xs) (.tuple ds)
 | lst {p:Addr} {xs:List T} {ds:List PyData}:getL G p=some xs->Dps G xs ds->Dp G (.ref p) (.list ds)
inductive Dps (G:Gp):List T->List PyData->Prop
 | nil:Dps G [] []
 | cons {x:T} {d:PyData} {xs:List T} {ds:List PyData}:Dp G x d->Dps G xs ds->Dps G (x :: xs) (d :: ds)
end
theorem Ex.getL {G G':Gp} (e:Ex G G') {p:Addr} {xs:List T} (h:getL G p=some xs):getL G' p=some xs:=by
 unfold L3.getL at h ⊢
 split at h
 ·rename_i ys g;cases h;rw [e _ _ g]
 ·rename_i ys g;cases h;rw [e _ _ g]
 ·cases h
mutual
theorem Dp.up {G G':Gp} (e:Ex G G'):∀ {x:T} {d:PyData},Dp G x d->Dp G' x d
 | _,_,.non=>.non
 | _,_,.bl b=>.bl b
 | _,_,.int i=>.int i
 | _,_,.str x=>.str x
 | _,_,.tup h=>.tup (Dps.up e h)
 | _,_,.lst h1 h2=>.lst (e.getL h1) (Dps.up e h2)
theorem Dps.up {G G':Gp} (e:Ex G G'):∀ {x:List T} {d:List PyData},Dps G x d->Dps G' x d
 | _,_,.nil=>.nil
 | _,_,.cons a b=>.cons (Dp.up e a) (Dps.up e b)
end
theorem Dps.length {G:Gp}:∀ {xs:List T} {ds:List PyData},Dps G xs ds->xs.length=ds.length
 | _,_,.nil=>rfl
 | _,_,.cons _ b=>by simp [Dps.length b]
theorem Dps.get {G:Gp}:∀ {xs:List T} {ds:List PyData} {i:Nat} {x:T},Dps G xs ds->xs[i]?=some x->∃ d,ds[i]?=some d/\Dp G x d
 | _,_,_,_,.nil,e=>by simp at e
 | _,_,0,_,.cons r _,e=>by simp at e;subst e;exact ⟨_,rfl,r⟩
 | _,_,i+1,x,.cons _ t,e=>by
  obtain ⟨u,h1,h2⟩:=Dps.get (i:=i) (x:=x) t (by simpa using e)
  exact ⟨u,by simpa using h1,h2⟩
mutual
inductive DV (K:PySem.W.Frag) (H:Hp):V->PyData->Prop
 | non:DV K H .non .none
 | bl (b:Bool):DV K H (.bl b) (.bool b)
 | int (i:Int):DV K H (.int i) (.int i)
 | str (x:Str):DV K H (.str x) (.str x)
 | tup {a:Addr} {vs:List V} {ds:List PyData}:SqT K H a vs->DVs K H vs ds->DV K H (.ref a) (.tuple ds)
 | lst {a:Addr} {vs:List V} {ds:List PyData}:SqL K H a vs->DVs K H vs ds->DV K H (.ref a) (.list ds)
inductive DVs (K:PySem.W.Frag) (H:Hp):List V->List PyData->Prop
 | nil:DVs K H [] []
 | cons {x:V} {d:PyData} {xs:List V} {ds:List PyData}:DV K H x d->DVs K H xs ds->DVs K H (x :: xs) (d :: ds)
end
mutual
theorem Dp.dv {K:PySem.W.Frag} {G:Gp} {H:Hp} (hr:HR K G H):∀ {x:T} {d:PyData} {v:V},Dp G x d->Rp K H x v->DV K H v d
 | _,_,_,.non,.non=>.non
 | _,_,_,.bl b,.bl _=>.bl b
 | _,_,_,.int i,.int _=>.int i
 | _,_,_,.str x,.str _=>.str x
 | _,_,_,.tup h,.tup hs rs=>.tup hs (Dps.dv hr h rs)
 | _,_,_,.lst g h,r=>by
  cases r
  obtain ⟨_,hs,rs⟩:=jh hr g
  exact .lst hs (Dps.dv hr h rs)
theorem Dps.dv {K:PySem.W.Frag} {G:Gp} {H:Hp} (hr:HR K G H):∀ {x:List T} {d:List PyData} {v:List V},Dps G x d->Rps K H x v->DVs K H v d
 | _,_,_,.nil,.nil=>.nil
 | _,_,_,.cons a b,.cons c d=>.cons (Dp.dv hr a c) (Dps.dv hr b d)
end
mutual
def JC:PyData->PyData->Option Bool
 | .none,.none=>some true
 | .bool a,.bool b=>some (a == b)
 | .int a,.int b=>some (a == b)
 | .str a,.str b=>some (a == b)
 | .list xs,.list ys=>YO xs ys
 | .tuple xs,.tuple ys=>YO xs ys
 | _,_=>none
def YO:List PyData->List PyData->Option Bool
 | [],[]=>some true
 | x :: xs,y :: ys=>match JC x y,YO xs ys with | some a,some b=>some (a && b) | _,_=>none
 | _,_=>some false
end
mutual
def dpt:PyData->Nat
 | .list xs=>qfr xs+1
 | .tuple xs=>qfr xs+1
 | _=>0
def qfr:List PyData->Nat
 | []=>0
 | x :: xs=>max (dpt x) (qfr xs)
end
section
variable {X:Cx} {pins:List (Addr×Obj)} {σ:L2.St} {H:Hp} {s:Shared}
mutual
theorem DV.inj (I:Inv X pins σ H s):∀ {v:V} {d e:PyData},DV X.K H v d->DV X.K H v e->d=e
 | _,_,_,.non,.non=>rfl
 | _,_,_,.bl _,.bl _=>rfl
 | _,_,_,.int _,.int _=>rfl
 | _,_,_,.str _,.str _=>rfl
 | _,_,_,.tup h hs,.tup k ks=>by
  have:=I.tuple_inj h k
  subst this
  rw [DVs.inj I hs ks]
 | _,_,_,.lst h hs,.lst k ks=>by
  have:=I.list_inj h k
  subst this
  rw [DVs.inj I hs ks]
 | _,_,_,.tup h hs,.lst k ks=>by
  obtain ⟨i1,_,p1,_⟩:=I.tuple h
  obtain ⟨i2,_,p2,_⟩:=I.list k
  exact absurd rfl (ne_of_list_tuple p2.isList (show s.heap.IsTuple _ i1.toArray from p1))
 | _,_,_,.lst k ks,.tup h hs=>by
  obtain ⟨i1,_,p1,_⟩:=I.tuple h
  obtain ⟨i2,_,p2,_⟩:=I.list k
  exact absurd rfl (ne_of_list_tuple p2.isList (show s.heap.IsTuple _ i1.toArray from p1))
theorem DVs.inj (I:Inv X pins σ H s):∀ {v:List V} {d e:List PyData},DVs X.K H v d->DVs X.K H v e->d=e
 | _,_,_,.nil,.nil=>rfl
 | _,_,_,.cons a b,.cons c d=>by rw [DV.inj I a c,DVs.inj I b d]
end
mutual
theorem T1:∀ {d:PyData} {b:Bool},JC d d=some b->b=true
 | .none,_,h=>by simp [JC] at h;exact h
 | .bool _,_,h=>by simp [JC] at h;exact h
 | .int _,_,h=>by simp [JC] at h;exact h
 | .str _,_,h=>by simp [JC] at h;exact h
 | .list xs,_,h=>by simp only [JC] at h;exact DC h
 | .tuple xs,_,h=>by simp only [JC] at h;exact DC h
 | .dict _,_,h=>by simp [JC] at h
theorem DC:∀ {d:List PyData} {b:Bool},YO d d=some b->b=true
 | [],_,h=>by simp [YO] at h;exact h
 | x :: xs,b,h=>by
  simp only [YO] at h
  split at h
  ·rename_i a c e1 e2
   rw [T1 e1,DC e2] at h
   simpa using h.symm
  ·cases h
end
theorem YV:∀ {xs ys:List PyData} {b:Bool},YO xs ys=some b->xs.length=ys.length->∃ e:Nat->Bool,(∀ (j:Nat) x y,xs[j]?=some x->ys[j]?=some y->JC x y=some (e j))/\b=(List.range xs.length).all e
 | [],[],b,h,_=>by simp [YO] at h;exact ⟨fun _=>true,by simp,by simp [h]⟩
 | x :: xs,y :: ys,b,h,hl=>by
  simp only [YO] at h
  split at h
  ·rename_i a c e1 e2
   obtain ⟨e,h1,h2⟩:=YV e2 (by simpa using hl)
   refine ⟨fun j=>match j with | 0=>a | j+1=>e j,fun j u v hu hv=>?_,?_⟩
   ·cases j with
    | zero=>simp at hu hv;subst hu;subst hv;exact e1
    | succ j=>exact h1 j u v (by simpa using hu) (by simpa using hv)
   ·rw [List.length_cons,List.range_succ_eq_map,List.all_cons,List.all_map]
    cases h
    rw [h2]
    rfl
  ·cases h
 | [],_ :: _,_,_,hl=>by simp at hl
 | _ :: _,[],_,_,hl=>by simp at hl
theorem Y0:∀ {xs ys:List PyData} {b:Bool},YO xs ys=some b->xs.length≠ys.length->b=false/\∃ e:Nat->Bool,∀ (j:Nat) x y,xs[j]?=some x->ys[j]?=some y->JC x y=some (e j)
 | [],[],_,_,hl=>by simp at hl
 | [],_ :: _,b,h,_=>by simp [YO] at h;exact ⟨h,fun _=>true,by simp⟩
 | _ :: _,[],b,h,_=>by simp [YO] at h;exact ⟨h,fun _=>true,by simp⟩
 | x :: xs,y :: ys,b,h,hl=>by
  simp only [YO] at h
  split at h
  ·rename_i a c e1 e2
   obtain ⟨h0,e,h1⟩:=Y0 e2 (by simpa using hl)
   subst h0
   refine ⟨by simpa using h.symm,fun j=>match j with | 0=>a | j+1=>e j,fun j u v hu hv=>?_⟩
   cases j with
   | zero=>simp at hu hv;subst hu;subst hv;exact e1
   | succ j=>exact h1 j u v (by simpa using hu) (by simpa using hv)
  ·cases h
theorem U8:∀ {xs:List PyData} {x:PyData},x∈xs->dpt x<=qfr xs
 | [],_,h=>by simp at h
 | y :: ys,x,h=>by
  simp only [qfr]
  rcases List.mem_cons.mp h with e | e
  ·subst e;omega
  ·have:=U8 e;omega
theorem DVs.get {K:PySem.W.Frag} {H:Hp}:∀ {xs:List V} {ds:List PyData} {i:Nat} {x:V},DVs K H xs ds->xs[i]?=some x->∃ d,ds[i]?=some d/\DV K H x d
 | _,_,_,_,.nil,e=>by simp at e
 | _,_,0,_,.cons r _,e=>by simp at e;subst e;exact ⟨_,rfl,r⟩
 | _,_,i+1,x,.cons _ t,e=>by
  obtain ⟨u,h1,h2⟩:=DVs.get (i:=i) (x:=x) t (by simpa using e)
  exact ⟨u,by simpa using h1,h2⟩
theorem DVs.length {K:PySem.W.Frag} {H:Hp}:∀ {xs:List V} {ds:List PyData},DVs K H xs ds->xs.length=ds.length
 | _,_,.nil=>rfl
 | _,_,.cons _ b=>by simp [DVs.length b]
theorem VH {vs:List V} {us:List Value} (r:jk vs us) {j:Nat} (h:j < us.toArray.size):∃ v,vs[j]?=some v/\j8 v us.toArray[j]:=by
 have hj:j < vs.length:=by rw [r.length];simpa using h
 obtain ⟨u,hu,ru⟩:=r.get (List.getElem?_eq_getElem hj)
 refine ⟨vs[j],List.getElem?_eq_getElem hj,?_⟩
 have hj2:j < us.length:=by simpa using h
 rw [List.getElem?_eq_getElem hj2] at hu
 have:us[j]=u:=Option.some.inj hu
 simpa [this] using ru
theorem SJ (I:Inv X pins σ H s):∀ (n:Nat) {v u:V} {d e:PyData} {b:Bool} {x y:Value} {A:Around},DV X.K H v d->DV X.K H u e->JC d e=some b->dpt d<=n->A.units+n < cLine->j8 v x->j8 u y ->
  RcAt A s x y b/\EqAt A s x y b:=by
 intro n
 induction n with
 | zero=>
  intro v u d e b x y A hv hu h hd hn rx ry
  cases hv with
  | non=>cases hu <;> simp [JC] at h;subst h;cases (show x=Value.none from rx);cases (show y=Value.none from ry);exact ⟨RcAt.none_none,EqAt.same _⟩
  | bl a=>cases hu <;> simp [JC] at h;subst h;cases (show x=Value.bool _ from rx);cases (show y=Value.bool _ from ry);exact ⟨RcAt.bool_bool _ _,EqAt.bool_bool _ _⟩
  | int a=>cases hu <;> simp [JC] at h;subst h;obtain ⟨t,rfl⟩:=(show ∃ t,x=Value.int _ t from rx);obtain ⟨t',rfl⟩:=(show ∃ t,y=Value.int _ t from ry);exact ⟨RcAt.int_int _ _ _ _,EqAt.int_int _ _ _ _⟩
  | str a=>cases hu <;> simp [JC] at h;subst h;obtain ⟨t,rfl⟩:=(show ∃ t,x=Value.str _ t from rx);obtain ⟨t',rfl⟩:=(show ∃ t,y=Value.str _ t from ry);exact ⟨RcAt.str_str _ _ _ _,EqAt.str_str _ _ _ _⟩
  | tup=>simp [dpt] at hd
  | lst=>simp [dpt] at hd
 | succ n ih=>
  intro v u d e b x y A hv hu h hd hn rx ry
  have fin:∀ {l l':Addr} {k:Bool},x=.ref l->y=.ref l'->v=.ref l->u=.ref l'->b=k->RcAt A s x y k->RcAt A s x y b/\EqAt A s x y b:=by
   rintro l l' k rfl rfl rfl rfl rfl rc
   refine ⟨rc,?_⟩
   by_cases hll:l=l'
   ·subst hll
    have:=DV.inj I hv hu
    subst this
    rw [T1 h]
    exact EqAt.same _
   ·exact EqAt.of_refs hll rc
  cases hv with
  | non=>cases hu <;> simp [JC] at h;subst h;cases (show x=Value.none from rx);cases (show y=Value.none from ry);exact ⟨RcAt.none_none,EqAt.same _⟩
  | bl a=>cases hu <;> simp [JC] at h;subst h;cases (show x=Value.bool _ from rx);cases (show y=Value.bool _ from ry);exact ⟨RcAt.bool_bool _ _,EqAt.bool_bool _ _⟩
  | int a=>cases hu <;> simp [JC] at h;subst h;obtain ⟨t,rfl⟩:=(show ∃ t,x=Value.int _ t from rx);obtain ⟨t',rfl⟩:=(show ∃ t,y=Value.int _ t from ry);exact ⟨RcAt.int_int _ _ _ _,EqAt.int_int _ _ _ _⟩
  | str a=>cases hu <;> simp [JC] at h;subst h;obtain ⟨t,rfl⟩:=(show ∃ t,x=Value.str _ t from rx);obtain ⟨t',rfl⟩:=(show ∃ t,y=Value.str _ t from ry);exact ⟨RcAt.str_str _ _ _ _,EqAt.str_str _ _ _ _⟩
  | tup hq hs=>
   cases hu with
   | tup kq ks=>
    rename_i a1 vs1 ds1 a2 vs2 ds2
    simp only [JC] at h
    obtain ⟨i1,r1,p1,z1⟩:=I.tuple hq
    obtain ⟨i2,r2,p2,z2⟩:=I.tuple kq
    have l1:=hs.length;have l2:=ks.length;have m1:=r1.length;have m2:=r2.length
    have el:∀ (e:Nat->Bool),(∀ (j:Nat) x y,ds1[j]?=some x->ds2[j]?=some y->JC x y=some (e j))->∀ j (h1:j < i1.toArray.size) (h2:j < i2.toArray.size),EqAt A.in1 s i1.toArray[j] i2.toArray[j] (e j):=fun e he j h1 h2=>by
     obtain ⟨w1,g1,q1⟩:=VH r1 h1
     obtain ⟨w2,g2,q2⟩:=VH r2 h2
     obtain ⟨d1,f1,dv1⟩:=hs.get g1
     obtain ⟨d2,f2,dv2⟩:=ks.get g2
     have:=U8 (List.mem_of_getElem? f1)
     exact (ih dv1 dv2 (he j d1 d2 f1 f2) (by simp only [dpt] at hd;omega) (show A.units+1+n < cLine by omega) q1 q2).2
    cases (show x=Value.ref a1 from rx)
    cases (show y=Value.ref a2 from ry)
    by_cases hl:ds1.length=ds2.length
    ·obtain ⟨e,he,hb⟩:=YV h hl
     refine fin rfl rfl rfl rfl (k:=(List.range (min i1.toArray.size i2.toArray.size)).all e && i1.toArray.size == i2.toArray.size) ?_ (RcAt.tuples (show s.heap.IsTuple a1 i1.toArray from p1) (show s.heap.IsTuple a2 i2.toArray from p2) (by omega) (el e he))
     have e1:i1.toArray.size=ds1.length:=by rw [List.size_toArray];omega
     have e2:i2.toArray.size=ds1.length:=by rw [List.size_toArray];omega
     rw [e1,e2,hb];simp
    ·obtain ⟨hb,e,he⟩:=Y0 h hl
     refine fin rfl rfl rfl rfl (k:=(List.range (min i1.toArray.size i2.toArray.size)).all e && i1.toArray.size == i2.toArray.size) ?_ (RcAt.tuples (show s.heap.IsTuple a1 i1.toArray from p1) (show s.heap.IsTuple a2 i2.toArray from p2) (by omega) (el e he))
     have e1:i1.toArray.size≠i2.toArray.size:=by rw [List.size_toArray,List.size_toArray];omega
     rw [hb];simp [e1]
     intro;omega
   | _=>simp [JC] at h
  | lst hq hs=>
   cases hu with
   | lst kq ks=>
    rename_i a1 vs1 ds1 a2 vs2 ds2
    simp only [JC] at h
    obtain ⟨i1,r1,p1,z1⟩:=I.list hq
    obtain ⟨i2,r2,p2,z2⟩:=I.list kq
    have l1:=hs.length;have l2:=ks.length;have m1:=r1.length;have m2:=r2.length
    have el:∀ (e:Nat->Bool),(∀ (j:Nat) x y,ds1[j]?=some x->ds2[j]?=some y->JC x y=some (e j))->∀ j (h1:j < i1.toArray.size) (h2:j < i2.toArray.size),EqAt A.in1 s i1.toArray[j] i2.toArray[j] (e j):=fun e he j h1 h2=>by
     obtain ⟨w1,g1,q1⟩:=VH r1 h1
     obtain ⟨w2,g2,q2⟩:=VH r2 h2
     obtain ⟨d1,f1,dv1⟩:=hs.get g1
     obtain ⟨d2,f2,dv2⟩:=ks.get g2
     have:=U8 (List.mem_of_getElem? f1)
     exact (ih dv1 dv2 (he j d1 d2 f1 f2) (by simp only [dpt] at hd;omega) (show A.units+1+n < cLine by omega) q1 q2).2
    cases (show x=Value.ref a1 from rx)
    cases (show y=Value.ref a2 from ry)
    by_cases hl:ds1.length=ds2.length
    ·obtain ⟨e,he,hb⟩:=YV h hl
     refine fin rfl rfl rfl rfl (k:=(List.range i1.toArray.size).all e) ?_ (RcAt.lists p1.isList p2.isList (by rw [List.size_toArray,List.size_toArray];omega) (by omega) (el e he))
     have e1:i1.toArray.size=ds1.length:=by rw [List.size_toArray];omega
     rw [e1,hb]
    ·obtain ⟨hb,e,he⟩:=Y0 h hl
     refine fin rfl rfl rfl rfl (k:=false) hb (RcAt.lists_lengths p1.isList p2.isList (by rw [List.size_toArray,List.size_toArray];simp;omega) (by omega))
   | _=>simp [JC] at h
theorem qg4 (I:Inv X pins σ H s) {n:Nat} {v u:V} {d e:PyData} {b:Bool} {x y:Value} {A:Around} (hv:DV X.K H v d) (hu:DV X.K H u e) (h:JC d e=some b) (hd:dpt d<=n+1) (hn:A.units+(n+1) < cLine) (rx:j8 v x) (ry:j8 u y) (hs:dpt d≠0):RcNeAt A s x y (!b):=by
 cases hv with
 | tup hq hs'=>
  cases hu with
  | tup kq ks=>
   rename_i a1 vs1 ds1 a2 vs2 ds2
   simp only [JC] at h
   obtain ⟨i1,r1,p1,z1⟩:=I.tuple hq
   obtain ⟨i2,r2,p2,z2⟩:=I.tuple kq
   have l1:=hs'.length;have l2:=ks.length;have m1:=r1.length;have m2:=r2.length
   have el:∀ (e:Nat->Bool),(∀ (j:Nat) x y,ds1[j]?=some x->ds2[j]?=some y->JC x y=some (e j))->∀ j (h1:j < i1.toArray.size) (h2:j < i2.toArray.size),EqAt A.in1 s i1.toArray[j] i2.toArray[j] (e j):=fun e he j h1 h2=>by
    obtain ⟨w1,g1,q1⟩:=VH r1 h1
    obtain ⟨w2,g2,q2⟩:=VH r2 h2
    obtain ⟨d1,f1,dv1⟩:=hs'.get g1
    obtain ⟨d2,f2,dv2⟩:=ks.get g2
    have:=U8 (List.mem_of_getElem? f1)
    exact (SJ I n dv1 dv2 (he j d1 d2 f1 f2) (by simp only [dpt] at hd;omega) (show A.units+1+n < cLine by omega) q1 q2).2
   cases (show x=Value.ref a1 from rx)
   cases (show y=Value.ref a2 from ry)
   by_cases hl:ds1.length=ds2.length
   ·obtain ⟨e,he,hb⟩:=YV h hl
    have:=RcNeAt.tuples (show s.heap.IsTuple a1 i1.toArray from p1) (show s.heap.IsTuple a2 i2.toArray from p2) (A:=A) (by omega) (el e he)
    have e1:i1.toArray.size=ds1.length:=by rw [List.size_toArray];omega
    have e2:i2.toArray.size=ds1.length:=by rw [List.size_toArray];omega
    rw [e1,e2] at this
    rw [hb];simpa using this
   ·obtain ⟨hb,e,he⟩:=Y0 h hl
    have:=RcNeAt.tuples (show s.heap.IsTuple a1 i1.toArray from p1) (show s.heap.IsTuple a2 i2.toArray from p2) (A:=A) (by omega) (el e he)
    have e1:(i1.toArray.size == i2.toArray.size)=false:=by rw [List.size_toArray,List.size_toArray];simp;omega
    rw [e1] at this
    rw [hb];simpa using this
  | _=>simp [JC] at h
 | lst hq hs'=>
  cases hu with
  | lst kq ks=>
   rename_i a1 vs1 ds1 a2 vs2 ds2
   simp only [JC] at h
   obtain ⟨i1,r1,p1,z1⟩:=I.list hq
   obtain ⟨i2,r2,p2,z2⟩:=I.list kq
   have l1:=hs'.length;have l2:=ks.length;have m1:=r1.length;have m2:=r2.length
   have el:∀ (e:Nat->Bool),(∀ (j:Nat) x y,ds1[j]?=some x->ds2[j]?=some y->JC x y=some (e j))->∀ j (h1:j < i1.toArray.size) (h2:j < i2.toArray.size),EqAt A.in1 s i1.toArray[j] i2.toArray[j] (e j):=fun e he j h1 h2=>by
    obtain ⟨w1,g1,q1⟩:=VH r1 h1
    obtain ⟨w2,g2,q2⟩:=VH r2 h2
    obtain ⟨d1,f1,dv1⟩:=hs'.get g1
    obtain ⟨d2,f2,dv2⟩:=ks.get g2
    have:=U8 (List.mem_of_getElem? f1)
    exact (SJ I n dv1 dv2 (he j d1 d2 f1 f2) (by simp only [dpt] at hd;omega) (show A.units+1+n < cLine by omega) q1 q2).2
   cases (show x=Value.ref a1 from rx)
   cases (show y=Value.ref a2 from ry)
   by_cases hl:ds1.length=ds2.length
   ·obtain ⟨e,he,hb⟩:=YV h hl
    have:=RcNeAt.lists p1.isList p2.isList (A:=A) (by rw [List.size_toArray,List.size_toArray];omega) (by omega) (el e he)
    have e1:i1.toArray.size=ds1.length:=by rw [List.size_toArray];omega
    rw [e1] at this
    rw [hb];exact this
   ·obtain ⟨hb,e,he⟩:=Y0 h hl
    rw [hb]
    exact RcNeAt.lists_lengths p1.isList p2.isList (by rw [List.size_toArray,List.size_toArray];simp;omega) (by omega)
  | _=>simp [JC] at h
 | _=>simp [dpt] at hs
def qip (K:PySem.W.Frag) (neg:Bool):R2:=fun x y H Q=>∃ d e b,DV K H x d/\DV K H y e/\JC d e=some b/\dpt d<=40/\dpt d≠0/\Q (.bl (if neg then !b else b)) H
theorem qkz (hu:X.A.units+64 < cLine):OpR X (compareOp .Eq) (qip X.K false):=by
 intro pins s σ H x y v u Q I rx ry h
 obtain ⟨d,e,b,hx,hy,hb,hd,_,q⟩:=h
 exact (SJ I 40 hx hy hb hd (by omega) rx ry).1 X.prog X.w X.xe _ ⟨.bl b,H,I,rfl,q⟩
theorem qmI (hu:X.A.units+64 < cLine):OpR X (compareOp .NotEq) (qip X.K true):=by
 intro pins s σ H x y v u Q I rx ry h
 obtain ⟨d,e,b,hx,hy,hb,hd,hs,q⟩:=h
 exact qg4 I (n:=40) hx hy hb (by omega) (by omega) rx ry hs X.prog X.w X.xe _ ⟨.bl (!b),H,I,rfl,q⟩
end
def jM (neg:Bool):R3:=fun x y G q=>match YQ x y with
 | some k=>q (.bl (if neg then !k else k)) G
 | none=>∃ d e b,Dp G x d/\Dp G y e/\JC d e=some b/\dpt d<=40/\dpt d≠0/\q (.bl (if neg then !b else b)) G
theorem qL {K:PySem.W.Frag}:W2 K (jM false) (fun x y H Q=>rEq x y H Q\/qip K false x y H Q):=fun x y v u G H q Q hr rx ry h af=>by
 unfold jM at h
 split at h
 ·rename_i k e
  obtain ⟨h1,h2⟩:=M2 rx ry e
  refine .inl ⟨h1,?_⟩
  rw [h2]
  exact af _ G h _ H (.bl _) hr Kp.refl
 ·obtain ⟨d,e,b,h1,h2,h3,h4,h5,h6⟩:=h
  exact .inr ⟨d,e,b,h1.dv hr rx,h2.dv hr ry,h3,h4,h5,af _ G h6 _ H (.bl _) hr Kp.refl⟩
theorem UE {K:PySem.W.Frag}:W2 K (jM true) (fun x y H Q=>rNe x y H Q\/qip K true x y H Q):=fun x y v u G H q Q hr rx ry h af=>by
 unfold jM at h
 split at h
 ·rename_i k e
  obtain ⟨h1,h2⟩:=M2 rx ry e
  refine .inl ⟨h1,?_⟩
  rw [h2]
  exact af _ G h _ H (.bl _) hr Kp.refl
 ·obtain ⟨d,e,b,h1,h2,h3,h4,h5,h6⟩:=h
  exact .inr ⟨d,e,b,h1.dv hr rx,h2.dv hr ry,h3,h4,h5,af _ G h6 _ H (.bl _) hr Kp.refl⟩
theorem zk {X:Cx} (hu:X.A.units+64 < cLine):OpR X (compareOp .Eq) (fun x y H Q=>rEq x y H Q\/qip X.K false x y H Q):=qn5.or (qkz hu)
theorem WX {X:Cx} (hu:X.A.units+64 < cLine):OpR X (compareOp .NotEq) (fun x y H Q=>rNe x y H Q\/qip X.K true x y H Q):=qpO.or (qmI hu)
end L3
namespace L3
open PySem PySem.Spec PyProof.Rows L2
section
variable {X:Cx} {pins:List (Addr×Obj)} {σ:L2.St} {H:Hp} {s:Shared}
end
end L3
namespace L3
open PySem PySem.Spec PyProof.Rows L2
section
variable {X:Cx}
end
end L3
namespace L3
open PySem PySem.Spec PyProof.Rows L2
section
variable {prog:Program} {w:World} {A:Around} {R:Result->Shared->Prop} {s:Shared}
theorem SQ (elt t1 i1 t2 i2:Expr) (f1 f2:List Expr) (scope:Scope) (pos:Pos) (it acc:Value) (env:Env) :
  compTurn (.ListComp elt [⟨t1,i1,f1,0⟩,⟨t2,i2,f2,0⟩] scope pos) 0 it acc env=(do
   standAt i1.pos
   match ← pyNext it with
   | none=>pure (.done .next)
   | some v=>
    letOwnedTupleGo t1 it v
    assign t1 env v
    let mut ok:=true
    for c in f1 do
     if ok then ok ← isTrue c env (eval c env)
    if ok then
     let x ← eval i2 env
     standAt i2.pos
     let x ← foldedSetIterable i2 env x
     let _ ← runOwn (.compStart (.ListComp elt [⟨t1,i1,f1,0⟩,⟨t2,i2,f2,0⟩] scope pos) 1 (← holding [x] (pyIter x)) acc env) env
    again (.compLoop (.ListComp elt [⟨t1,i1,f1,0⟩,⟨t2,i2,f2,0⟩] scope pos) 0 it acc env)):=by rfl
theorem S0 (elt t1 i1 t2 i2:Expr) (f1 f2:List Expr) (scope:Scope) (pos:Pos) (it acc:Value) (env:Env) :
  compTurn (.ListComp elt [⟨t1,i1,f1,0⟩,⟨t2,i2,f2,0⟩] scope pos) 1 it acc env=(do
   standAt i2.pos
   match ← pyNext it with
   | none=>pure (.done .next)
   | some v=>
    letOwnedTupleGo t2 it v
    assign t2 env v
    let mut ok:=true
    for c in f2 do
     if ok then ok ← isTrue c env (eval c env)
    if ok then
     (do let _ ← call (.builtin "list.append") [acc,← eval elt env])
    again (.compLoop (.ListComp elt [⟨t1,i1,f1,0⟩,⟨t2,i2,f2,0⟩] scope pos) 1 it acc env)):=by rfl
theorem YM {elt t1 i1 t2 i2:Expr} {f1 f2:List Expr} {scope:Scope} {pos:Pos} {it acc:Value} {env:Env}
  (h0:codeAny (model prog w) A (.compLoop (.ListComp elt [⟨t1,i1,f1,0⟩,⟨t2,i2,f2,0⟩] scope pos) 1 it acc env) R s)
  (h:wpAny (model prog w) A (pyIter it) (fun it' s'=>codeAny (model prog w) A (.compLoop (.ListComp elt [⟨t1,i1,f1,0⟩,⟨t2,i2,f2,0⟩] scope pos) 1 it' acc env) R s')
   (notedBy (model prog w) A env fun x s'=>R (.error x) s') s) :
  codeAny (model prog w) A (.compStart (.ListComp elt [⟨t1,i1,f1,0⟩,⟨t2,i2,f2,0⟩] scope pos) 1 it acc env) R s:=by
 refine codeAny_of_tree ?_
 show wpAny _ _ ((compStart (.ListComp elt [⟨t1,i1,f1,0⟩,⟨t2,i2,f2,0⟩] scope pos) 1 it acc env).onRaise (fun x=>do noteFrame x env;standAt theWindowsPlace)) _ _ s
 refine wpAny_notedAt ?_
 unfold compStart
 show wpAny _ _ (ask >>= _) _ _ s
 refine wpAny_bind (wpAny_askSetting (wpAny_ite ?_))
 split
 ·first
   | exact wpAny_bind (wpAny_pure (wpAny_pure (And.intro rfl h0)))
   | exact wpAny_pure (And.intro rfl h0)
 ·first
   | exact wpAny_bind (wpAny_rule (wpAny_bind (wpAny_standAt (wpAny_bind (wpAny_mono h (fun it' s' h'=>wpAny_pure (And.intro rfl h')) fun _ _ x=>x)))))
   | (refine wpAny_bind (wpAny_rule ?_);show wpAny _ _ (standAt i2.pos >>= _) _ _ s;exact wpAny_bind (wpAny_standAt (wpAny_bind (wpAny_mono h (fun it' s' h'=>wpAny_pure (And.intro rfl h')) fun _ _ x=>x))))
end
def tIn (wi:TI) (g:TG) (tif:TT) (te:TE) (D:Addr) (N:L2.St->Hp->Prop) (σ:L2.St) (H:Hp):Prop:=wi σ H fun J H1=>
 ∃ W:Nat->Nat->L2.St->Hp->Prop,(∃ n,W 0 n σ H1)/\∀ i n σ H,W i n σ H ->
  (J.stop i H/\N σ H)\/(J.go i H/\∀ x H',J.yld i H x H'->g x σ H' fun σ2 H2=>tif σ2 H2 fun k H3=>
   if k=true then te σ2 H3 fun y H4=>∃ zs,H4 D=some (.lst zs)/\zs.length < sizeLine/\∃ n',n' < n/\W (i+1) n' σ2 (upd H4 D (.lst (zs++[y])))
   else ∃ n',n' < n/\W (i+1) n' σ2 H3)
section
variable {X:Cx}
theorem qlb {elt t1 i1 t2 i2:Expr} {f1 f2:List Expr} {scope:Scope} {pos:Pos} {wi:TI} {g:TG} {tif:TT} {te:TE} {D:Addr} {N:L2.St->Hp->Prop} (hc:X.calm=true) (hx:∀ v s,¬ X.xe v s) (hi:PI X t2 i2 wi) (hg:PG X t2 g) (hf:PF X f2 tif) (he:PE X elt te)
    (hs:∀ x,foldedSetIterable i2 X.env x=pure x) {pins:List (Addr×Obj)} {s:Shared} {σ:L2.St} {H:Hp} {E:Value->Shared->Prop} {α:Type} {kk:Sem α} {Q:α->Shared->Prop} (I:Inv X pins σ H s) (h:tIn wi g tif te D N σ H) (hk:∀ s' σ' H',Inv X pins σ' H' s'->N σ' H'->wpAny (model X.prog X.w) X.A kk Q E s') :
    wpAny (model X.prog X.w) X.A (do
            let x ← eval i2 X.env
            standAt i2.pos
            let x ← foldedSetIterable i2 X.env x
            let _ ← runOwn (.compStart (.ListComp elt [⟨t1,i1,f1,0⟩,⟨t2,i2,f2,0⟩] scope pos) 1 (← holding [x] (pyIter x)) (.ref D) X.env) X.env
            kk) Q E s:=by
  refine wpAny_bind (wpAny_mono (hi pins s σ H _ I h) (fun v s1 h1=>?_) fun _ _ z=>(hx _ _ z).elim)
  refine wpAny_bind (wpAny_standAt (wpAny_bind (wpAny_of_eq (hs v) ?_)))
  refine wpAny_bind (wpAny_holding (wpAny_mono h1 (fun itv s2 h2=>?_) fun _ _ z=>(hx _ _ z).elim))
  obtain ⟨it,fp,tn,J,H2,rfl,I2,T,st2,f2',W,⟨n0,w0⟩,turn⟩:=h2
  have stat:∀ {H':Hp},(∀ b∈fp,H' b=none)->∀ b∈fp,KM X pins H' b:=fun hn b hb=>⟨hn b hb,(f2' b hb).2⟩
  refine wpAny_bind (wpAny_runOwn ?_)
  show codeAny (model X.prog X.w) X.A (.compStart (.ListComp elt [⟨t1,i1,f1,0⟩,⟨t2,i2,f2,0⟩] scope pos) 1 (.ref it) (.ref D) X.env) _ s2
  have loop:codeAny (model X.prog X.w) X.A (.compLoop (.ListComp elt [⟨t1,i1,f1,0⟩,⟨t2,i2,f2,0⟩] scope pos) 1 (.ref it) (.ref D) X.env) (fun r s'=>match r with
      | .ok f=>wpAny (model X.prog X.w) X.A kk Q E s'
      | .error e=>cameBackBy (model X.prog X.w) X.A X.env E e s') s2:=by
    refine codeAny_loop rfl (fun n s'=>∃ i σ' H',Inv X pins σ' H' s'/\tn i s'.heap/\(∀ b∈fp,H' b=none)/\W i n σ' H') (fun n s' hI=>?_) n0 ⟨0,σ,H2,I2,st2,fun b hb=>(f2' b hb).1,w0⟩
    show wpAny _ X.A ((compTurn (.ListComp elt [⟨t1,i1,f1,0⟩,⟨t2,i2,f2,0⟩] scope pos) 1 (.ref it) (.ref D) X.env).onRaise (fun x=>do noteFrame x X.env;theTreesLotGoes x)) _ _ s'
    refine wpAny_noted ?_
    rw [S0]
    refine wpAny_bind (wpAny_standAt (wpAny_bind ?_))
    obtain ⟨i,σ5,H5,I5,st5,fr5,w5⟩:=hI
    rcases turn i n σ5 H5 w5 with ⟨stop,q⟩ | ⟨go,step⟩
    · refine thn (T.done X rfl rfl rfl hc i pins s' σ5 H5 _ I5 (stat fr5) st5 stop) fun r s6 ⟨hr,I6⟩=>?_
      subst hr
      exact wpAny_pure (hk _ σ5 H5 I6 q)
    · refine thn (T.item X rfl rfl rfl hc i pins s' σ5 H5 _ I5 (stat fr5) st5 go) fun r s6 ⟨u,hr,h6⟩=>?_
      subst hr
      refine wpAny_bind (thn h6 fun _ s7 ⟨x,H7,I7,r7,y7,st7,fr7⟩=>?_)
      have I7':=I7.pinned (stat fr7) (T.obj _ _ st7)
      have again:∀ {σ8:L2.St} {H8:Hp} {s8:Shared},Inv X (pins++D8 fp s7.heap) σ8 H8 s8->(∃ n',n' < n/\W (i+1) n' σ8 H8) ->
          ∃ m',m' < n/\∃ i σ' H',Inv X pins σ' H' s8/\tn i s8.heap/\(∀ b∈fp,H' b=none)/\W i m' σ' H':=fun {σ8 H8 s8} I8 ⟨n',hn,w8⟩=>by
        refine ⟨n',hn,i+1,σ8,H8,I8.unpinned,T.keep _ _ _ st7 fun b hb o e=>(I8.pin (b,o) (List.mem_append_right _ (List.mem_append_right _ (zO hb e)))).1,fun b hb=>?_,w8⟩
        obtain ⟨o,e,d⟩:=T.obj _ _ st7 b hb
        exact (I8.pin (b,o) (List.mem_append_right _ (List.mem_append_right _ (zO hb e)))).2.1
      refine wpAny_bind (wpAny_mono (hg _ s7 σ5 H7 x u _ I7' r7 (step x H7 y7)) (fun _ s8 ⟨σ8,H8,I8,q8⟩=>?_) fun _ _ z=>(hx _ _ z).elim)
      refine wpAny_bind (wpAny_mono (hf _ s8 σ8 H8 _ I8 q8) (fun k s9 ⟨H9,I9,q9⟩=>?_) fun _ _ z=>(hx _ _ z).elim)
      cases k with
      | false=>
        rw [if_neg Bool.false_ne_true] at q9
        exact wpAny_pure ⟨rfl,again I9 q9⟩
      | true=>
        rw [if_pos rfl] at q9
        refine wpAny_bind (wpAny_bind (wpAny_mono (he _ s9 σ8 H9 _ I9 q9) (fun w s10 ⟨y,H10,I10,r10,q10⟩=>?_) fun _ _ z=>(hx _ _ z).elim))
        obtain ⟨zs,hz,hl,q10⟩:=q10
        refine wpAny_bind (wpAny_mono (UW (X:=X) _ s10 σ8 H10 (.ref D) [y] (.ref D) [w] (fun _ H11=>H11=upd H10 D (.lst (zs++[y]))) I10 rfl (.cons r10 .nil) ⟨D,zs,y,rfl,rfl,hz,hl,rfl⟩) (fun _ s11 ⟨_,H11,I11,_,e11⟩=>?_) fun _ _ z=>(hx _ _ z).elim)
        subst e11
        exact wpAny_pure (wpAny_pure ⟨rfl,again I11 q10⟩)
  exact YM loop (T.self X.A 0 _ _ _ st2 loop)
def qrd (wi:TI) (g:TG) (tif:TT) (wi2:TI) (g2:TG) (tif2:TT) (te:TE) (m:List (Option Nat)):TE:=fun σ H Q=>wi σ H fun J H1=>∀ D,H1 D=none ->
 ∃ W:Nat->Nat->L2.St->Hp->Prop,(∃ n,W 0 n (cap m σ) (upd H1 D (.lst [])))/\∀ i n σ H,W i n σ H ->
  (J.stop i H/\Q (.ref D) H)\/(J.go i H/\∀ x H',J.yld i H x H'->g x σ H' fun σ2 H2=>tif σ2 H2 fun k H3=>
   if k=true then tIn wi2 g2 tif2 te D (fun σ4 H4=>∃ n',n' < n/\W (i+1) n' σ4 H4) σ2 H3
   else ∃ n',n' < n/\W (i+1) n' σ2 H3)
theorem qkB {elt tg iter t2 i2:Expr} {ifs f2:List Expr} {scope:Scope} {pos:Pos} {N':List Str} {m:List (Option Nat)} {wi:TI} {g:TG} {tif:TT} {wi2:TI} {g2:TG} {tif2:TT} {te:TE} (hc:X.calm=true) (hi:PI X tg iter wi)
  (hg:∀ s H fp,PG (ql X N' scope s H fp) tg g) (hf:∀ s H fp,PF (ql X N' scope s H fp) ifs tif) (hi2:∀ s H fp,PI (ql X N' scope s H fp) t2 i2 wi2) (hg2:∀ s H fp,PG (ql X N' scope s H fp) t2 g2) (hf2:∀ s H fp,PF (ql X N' scope s H fp) f2 tif2) (he:∀ s H fp,PE (ql X N' scope s H fp) elt te)
  (hsc:qaP X.env.scope scope=true) (hcap:UL X.N N' scope m=true) (hs:∀ x,foldedSetIterable iter X.env x=pure x:=by intro _;rfl) (hs2:∀ s H fp x,foldedSetIterable i2 (ql X N' scope s H fp).env x=pure x:=by intro _ _ _ _;rfl) :
  PE X (.ListComp elt [⟨tg,iter,ifs,0⟩,⟨t2,i2,f2,0⟩] scope pos) (qrd wi g tif wi2 g2 tif2 te m):=by
 intro pins s σ H Q I h
 have sc:=DI hsc
 have hcl:∀ y∈scope.names,y.2=.free->∃ c,X.env.cells.lookup y.1=some c:=fun y hy e=>by
  rcases (sc.free y hy e).2 with z | z
  ·exact I.ok.has y.1 (.inl z)
  ·exact I.ok.has y.1 (.inr z)
 rw [eval_ListComp]
 refine wpAny_comprehension_free (use:=none) (g:=⟨tg,iter,ifs,0⟩) (gs:=[⟨t2,i2,f2,0⟩]) rfl hs (YB hcl) sc.kind sc.loc ?_
 show wpAny _ _ (eval iter X.env) _ _ s
 refine thn (hi pins s σ H _ I h) fun v s1 h1=>thn h1 fun itv s2 h2=>?_
 obtain ⟨it,fp,tn,J,H2,rfl,I2,T,st2,fF2,hW⟩:=h2
 refine wpAny_newObj_type ?_
 have hD:H2 s2.heap.objs.size=none:=I2.fresh
 obtain ⟨W,⟨n0,w0⟩,turn⟩:=hW _ hD
 generalize hDe:s2.heap.objs.size=D at *
 have I3:Inv X pins σ (upd H2 D (.lst [])) { s2 with heap:=s2.heap.push { cls:=.type "list",dict:=none,data:=.seq ([]:List Value).toArray } }:=by
  subst hDe
  exact I2.laid (t':=s2.toks) (fun b u e=>Heap.get?_push_of_some _ e) (Nat.le_refl _) ⟨Nat.zero_le _,[],0,.nil,Heap.get?_push_size _ rfl⟩
 have ob2:=T.obj 0 _ st2
 have ob3:∀ b∈fp,∃ o,(s2.heap.push { cls:=.type "list",dict:=none,data:=.seq ([]:List Value).toArray }).get? b=some o:=fun b hb=>let ⟨o,e,_⟩:=ob2 b hb;⟨o,Heap.get?_push_of_some _ e⟩
 have f3:∀ b∈fp,KM X pins (upd H2 D (.lst [])) b:=fun b hb=>by
  obtain ⟨o,e,_⟩:=ob2 b hb
  have:b≠D:=by rw [← hDe];exact Nat.ne_of_lt (Heap.lt_size e)
  exact ⟨by rw [qH this];exact (fF2 b hb).1,(fF2 b hb).2⟩
 have k23:∀ b o,s2.heap.get? b=some o->(s2.heap.push { cls:=.type "list",dict:=none,data:=.seq ([]:List Value).toArray }).get? b=some o:=fun b o e=>Heap.get?_push_of_some _ e
 generalize hH3:upd H2 D (.lst [])=H3 at *
 generalize hs3:({ s2 with heap:=s2.heap.push { cls:=.type "list",dict:=none,data:=.seq ([]:List Value).toArray } }:Shared)=s3 at *
 have ob3:∀ b∈fp,∃ o,s3.heap.get? b=some o:=by rw [← hs3];exact ob3
 have k23:∀ b o,s2.heap.get? b=some o->s3.heap.get? b=some o:=by rw [← hs3];exact k23
 refine QL fun h₁ hns hk hown=>?_
 have I4:Inv (ql X N' scope s3 H3 fp) [] (cap m σ) H3 { s3 with heap:=h₁ }:=SL hc I3 sc hcap f3 ob3 hns hk hown
 have tn4:tn 0 h₁:=T.keep _ _ _ st2 fun b hb o e=>hk b o (k23 b o e)
 have fr4:∀ b∈fp,H3 b=none:=fun b hb=>(f3 b hb).1
 have stat:∀ {H':Hp},(∀ b∈fp,H' b=none)->∀ b∈fp,KM (ql X N' scope s3 H3 fp) [] H' b:=fun hn b hb=>by
  refine ⟨hn b hb,I4.ok.exf b hb |>.1,I4.ok.exfs b hb,.inl hb,fun x c e=>(I4.ok.exf b hb).2 x c e,fun p hp=>absurd (show p∈([]:List (Addr×Obj)) from hp) (by simp)⟩
 show codeAny (model X.prog X.w) X.A (.compStart (.ListComp elt [⟨tg,iter,ifs,0⟩,⟨t2,i2,f2,0⟩] scope pos) 0 (.ref it) (.ref D) (ql X N' scope s3 H3 fp).env) (compPost (model X.prog X.w) X.A X.xe none (EP X pins σ Q) (.ref D) s3.heap.objs.size) { s3 with heap:=h₁ }
 have loop:codeAny (model X.prog X.w) X.A (.compLoop (.ListComp elt [⟨tg,iter,ifs,0⟩,⟨t2,i2,f2,0⟩] scope pos) 0 (.ref it) (.ref D) (ql X N' scope s3 H3 fp).env) (compPost (model X.prog X.w) X.A X.xe none (EP X pins σ Q) (.ref D) s3.heap.objs.size) { s3 with heap:=h₁ }:=by
  refine codeAny_loop rfl (fun n s'=>∃ i σ' H',Inv (ql X N' scope s3 H3 fp) [] σ' H' s'/\tn i s'.heap/\(∀ b∈fp,H' b=none)/\W i n σ' H') (fun n s' hI=>?_) n0 ⟨0,cap m σ,H3,I4,tn4,fr4,w0⟩
  show wpAny _ X.A ((compTurn (.ListComp elt [⟨tg,iter,ifs,0⟩,⟨t2,i2,f2,0⟩] scope pos) 0 (.ref it) (.ref D) (ql X N' scope s3 H3 fp).env).onRaise (fun x=>do noteFrame x (ql X N' scope s3 H3 fp).env;theTreesLotGoes x)) _ _ s'
  refine wpAny_noted ?_
  rw [SQ]
  refine wpAny_bind (wpAny_standAt (wpAny_bind ?_))
  obtain ⟨i,σ5,H5,I5,st5,fr5,w5⟩:=hI
  rcases turn i n σ5 H5 w5 with ⟨stop,q⟩ | ⟨go,step⟩
  ·refine thn (T.done (ql X N' scope s3 H3 fp) rfl rfl rfl rfl i [] s' σ5 H5 _ I5 (stat fr5) st5 stop) fun r s6 ⟨hr,I6⟩=>?_
   subst hr
   refine wpAny_pure ?_
   obtain ⟨mm,hn6,_⟩:=I6.loc
   exact ⟨mm,hn6,fun h' sb=>⟨.ref D,H5,DA I3 f3 I6 sb,rfl,q⟩⟩
  ·refine thn (T.item (ql X N' scope s3 H3 fp) rfl rfl rfl rfl i [] s' σ5 H5 _ I5 (stat fr5) st5 go) fun r s6 ⟨u,hr,h6⟩=>?_
   subst hr
   refine wpAny_bind (thn h6 fun _ s7 ⟨x,H7,I7,r7,y7,st7,fr7⟩=>?_)
   have I7':=I7.pinned (stat fr7) (T.obj _ _ st7)
   have again:∀ {σ8:L2.St} {H8:Hp} {s8:Shared},Inv (ql X N' scope s3 H3 fp) ([]++D8 fp s7.heap) σ8 H8 s8->(∃ n',n' < n/\W (i+1) n' σ8 H8) ->
     ∃ m',m' < n/\∃ i σ' H',Inv (ql X N' scope s3 H3 fp) [] σ' H' s8/\tn i s8.heap/\(∀ b∈fp,H' b=none)/\W i m' σ' H':=fun {σ8 H8 s8} I8 ⟨n',hn,w8⟩=>by
    refine ⟨n',hn,i+1,σ8,H8,I8.unpinned,T.keep _ _ _ st7 fun b hb o e=>(I8.pin (b,o) (List.mem_append_right _ (List.mem_append_right _ (zO hb e)))).1,fun b hb=>?_,w8⟩
    obtain ⟨o,e,d⟩:=T.obj _ _ st7 b hb
    exact (I8.pin (b,o) (List.mem_append_right _ (List.mem_append_right _ (zO hb e)))).2.1
   refine wpAny_bind (wpAny_mono (hg s3 H3 fp _ s7 σ5 H7 x u _ I7' r7 (step x H7 y7)) (fun _ s8 ⟨σ8,H8,I8,q8⟩=>?_) fun _ _ z=>z.elim)
   refine wpAny_bind (wpAny_mono (hf s3 H3 fp _ s8 σ8 H8 _ I8 q8) (fun k s9 ⟨H9,I9,q9⟩=>?_) fun _ _ z=>z.elim)
   cases k with
   | false=>
    rw [if_neg Bool.false_ne_true] at q9
    exact wpAny_pure ⟨rfl,again I9 q9⟩
   | true=>
    rw [if_pos rfl] at q9
    refine qlb (X:=ql X N' scope s3 H3 fp) rfl (fun _ _ z=>z) (hi2 s3 H3 fp) (hg2 s3 H3 fp) (hf2 s3 H3 fp) (he s3 H3 fp) (hs2 s3 H3 fp) I9 q9 fun s10 σ10 H10 I10 q10=>?_
    exact wpAny_pure ⟨rfl,again I10 q10⟩
 exact codeAny_compStart_list loop (T.self X.A 0 _ _ _ tn4 loop)
end
end L3
namespace L3
open PySem PySem.Spec PyProof.Rows L2
def qit (D:Addr) (stay:Gp->Prop) (g:TG3) (tif:TT3) (te:TE3) (N:St3->Gp->Prop):List T->St3->Gp->Prop
 | [],τ,G=>stay G/\N τ G
 | x :: r,τ,G=>stay G/\g x τ G fun τ2 G2=>tif τ2 G2 fun k G3=>
  if k=true then te τ2 G3 fun y G4=>(match G4 D with | some (.lst ys)=>ys.length < sizeLine/\qit D stay g tif te N r τ2 (gu G4 D (.lst (ys++[y]))) | _=>False) else qit D stay g tif te N r τ2 G3
def qbc (D:Addr) (stay:Gp->Prop) (g:TG3) (tif:TT3) (wi2:TI3) (g2:TG3) (tif2:TT3) (te:TE3) (q:Q3):List T->St3->Gp->Prop
 | [],_,G=>stay G/\q (.ref D) G
 | x :: r,τ,G=>stay G/\g x τ G fun τ2 G2=>tif τ2 G2 fun k G3=>
  if k=true then wi2 τ2 G3 fun items2 stay2 G4=>qit D stay2 g2 tif2 te (fun τ' G'=>qbc D stay g tif wi2 g2 tif2 te q r τ' G') items2 τ2 G4 else qbc D stay g tif wi2 g2 tif2 te q r τ2 G3
def qis (wi:TI3) (g:TG3) (tif:TT3) (wi2:TI3) (g2:TG3) (tif2:TT3) (te:TE3) (m:List (Option Nat)):TE3:=fun τ G q=>wi τ G fun items stay G1=>∀ D,G1 D=none->qbc D stay g tif wi2 g2 tif2 te q items (cap m τ) (gu G1 D (.lst []))
section
variable {K:PySem.W.Frag}
theorem qia {wi2:TI3} {g2:TG3} {tif2:TT3} {te:TE3} {D:Addr} {N3:St3->Gp->Prop} {N:L2.St->Hp->Prop} {τ:St3} {G:Gp} {σ:L2.St} {H:Hp} {Gb:Gp} {Hb:Hp} (rl:Rel K τ G σ H) (kb:Kp Gb Hb G H) (h:wi2 τ G fun items stay G1=>qit D stay g2 tif2 te N3 items τ G1)
  (hN:∀ τ' G' σ' H',Rel K τ' G' σ' H'->Kp Gb Hb G' H'->N3 τ' G'->N σ' H'):tIn (lI K wi2) (lG K g2) (lT K tif2) (lE K te) D N σ H:=by
 refine ⟨τ,G,_,rl,h,fun items stay G1 h1 J H1 hr1 k1 ok=>?_⟩
 refine ⟨fun i n σ' H'=>n=items.length - i/\i<=items.length/\∃ τ' G',Rel K τ' G' σ' H'/\Kp G1 H1 G' H'/\qit D stay g2 tif2 te N3 (items.drop i) τ' G',⟨_,rfl,Nat.zero_le _,τ,G1,rl.next hr1 k1,Kp.refl,by simpa using h1⟩,?_⟩
 rintro i n σ' H' ⟨rfl,hi,τ',G',rl',k',h'⟩
 by_cases hlt:i < items.length
 ·rw [List.drop_eq_getElem_cons hlt] at h'
  obtain ⟨hst,h'⟩:=h'
  obtain ⟨go,yld,_⟩:=ok G' H' rl'.hp k' hst
  have hx:items[i]?=some items[i]:=List.getElem?_eq_getElem hlt
  refine .inr ⟨go i _ hx,fun v H2 y=>?_⟩
  obtain ⟨rv,hr2,k2⟩:=yld i _ v H2 hx y
  refine ⟨_,τ',G',_,rv,rl'.next hr2 k2,h',fun τ3 G3 h3 σ3 H3 rl3 k3=>⟨τ3,G3,_,rl3,h3,fun k G4 h4 H4 hr4 k4=>?_⟩⟩
  have kk:=(k2.trans k3).trans k4
  cases k with
  | false=>
   rw [if_neg Bool.false_ne_true] at h4
   refine qny ?_
   exact ⟨_,by omega,rfl,hlt,τ3,G4,rl3.next hr4 k4,k'.trans kk,h4⟩
  | true=>
   rw [if_pos rfl] at h4
   refine qnG ?_
   refine ⟨τ3,G4,_,rl3.next hr4 k4,h4,fun z G5 h5 w H5 rw5 hr5 k5=>?_⟩
   split at h5
   ·rename_i ys e1
    obtain ⟨vs,g1,r1⟩:=hr5.lst e1
    exact ⟨vs,g1,by rw [← r1.length];exact h5.1,_,by omega,rfl,hlt,τ3,_,((rl3.next hr4 k4).next hr5 k5).next (hr5.wr e1 (r1.append (.cons rw5 .nil))) (Kp.wr e1),((k'.trans kk).trans k5).trans (Kp.wr e1),h5.2⟩
   ·exact h5.elim
 ·have e:i=items.length:=by omega
  subst e
  rw [List.drop_length] at h'
  obtain ⟨_,_,stop⟩:=ok G' H' rl'.hp k' h'.1
  exact .inl ⟨stop,hN _ _ _ _ rl' ((kb.trans k1).trans k') h'.2⟩
end
section
variable {X:Cx}
theorem qof {elt tg iter t2 i2:Expr} {ifs f2:List Expr} {scope:Scope} {pos:Pos} (N':List Str) (m:List (Option Nat)) {wi:TI3} {g:TG3} {tif:TT3} {wi2:TI3} {g2:TG3} {tif2:TT3} {te:TE3} (hc:X.calm=true) (hi:I3 X tg iter wi)
  (hg:∀ s H fp,G3 (ql X N' scope s H fp) tg g) (hf:∀ s H fp,F3 (ql X N' scope s H fp) ifs tif) (hi2:∀ s H fp,I3 (ql X N' scope s H fp) t2 i2 wi2) (hg2:∀ s H fp,G3 (ql X N' scope s H fp) t2 g2) (hf2:∀ s H fp,F3 (ql X N' scope s H fp) f2 tif2) (he:∀ s H fp,E3 (ql X N' scope s H fp) elt te)
  (hsc:qaP X.env.scope scope=true) (hcap:UL X.N N' scope m=true) (hs:∀ x,foldedSetIterable iter X.env x=pure x:=by intro _;rfl) (hs2:∀ s H fp x,foldedSetIterable i2 (ql X N' scope s H fp).env x=pure x:=by intro _ _ _ _;rfl) :
  E3 X (.ListComp elt [⟨tg,iter,ifs,0⟩,⟨t2,i2,f2,0⟩] scope pos) (qis wi g tif wi2 g2 tif2 te m):=
 WS (qkB (g:=lG X.K g) (tif:=lT X.K tif) (wi2:=lI X.K wi2) (g2:=lG X.K g2) (tif2:=lT X.K tif2) (te:=lE X.K te) hc hi hg hf hi2 hg2 hf2 he hsc hcap hs hs2) fun σ H Q ⟨τ,G,q,rl,h,af⟩=>by
  refine ⟨τ,G,_,rl,h,fun items stay G1 h1 J H1 hr1 k1 ok D hD=>?_⟩
  have gD:G1 D=none:=hr1.free hD
  have h1:=h1 D gD
  have hr1':HR X.K (gu G1 D (.lst [])) (upd H1 D (.lst [])):=HR.newL hr1 hD .nil
  have k1':Kp G1 H1 (gu G1 D (.lst [])) (upd H1 D (.lst [])):=Kp.newL hD
  refine ⟨fun i n σ' H'=>n=items.length - i/\i<=items.length/\∃ τ' G',Rel X.K τ' G' σ' H'/\Kp G1 H1 G' H'/\qbc D stay g tif wi2 g2 tif2 te q (items.drop i) τ' G',
   ⟨_,rfl,Nat.zero_le _,cap m τ,_,((rl.next hr1 k1).cap m).next hr1' k1',k1',by simpa using h1⟩,?_⟩
  rintro i n σ' H' ⟨rfl,hi,τ',G',rl',k',h'⟩
  by_cases hlt:i < items.length
  ·rw [List.drop_eq_getElem_cons hlt] at h'
   obtain ⟨hst,h'⟩:=h'
   obtain ⟨go,yld,_⟩:=ok G' H' rl'.hp k' hst
   have hx:items[i]?=some items[i]:=List.getElem?_eq_getElem hlt
   refine .inr ⟨go i _ hx,fun v H2 y=>?_⟩
   obtain ⟨rv,hr2,k2⟩:=yld i _ v H2 hx y
   refine ⟨_,τ',G',_,rv,rl'.next hr2 k2,h',fun τ3 G3 h3 σ3 H3 rl3 k3=>⟨τ3,G3,_,rl3,h3,fun k G4 h4 H4 hr4 k4=>?_⟩⟩
   have kk:=(k2.trans k3).trans k4
   cases k with
   | false=>
    rw [if_neg Bool.false_ne_true] at h4
    refine qny ?_
    exact ⟨_,by omega,rfl,hlt,τ3,G4,rl3.next hr4 k4,k'.trans kk,h4⟩
   | true=>
    rw [if_pos rfl] at h4
    refine qnG ?_
    exact qia (rl3.next hr4 k4) (k'.trans kk) h4 fun τ5 G5 σ5 H5 rl5 k5 h5=>⟨_,by omega,rfl,hlt,τ5,G5,rl5,k5,h5⟩
  ·have e:i=items.length:=by omega
   subst e
   rw [List.drop_length] at h'
   obtain ⟨_,_,stop⟩:=ok G' H' rl'.hp k' h'.1
   exact .inl ⟨stop,af _ _ h'.2 _ H' (.ref D) rl'.hp (k1.trans k')⟩
theorem qcl {elt tg iter t2 i2:Expr} {ifs f2:List Expr} {scope:Scope} {pos:Pos} (N':List Str) (m:List (Option Nat)) {wi:TI3} {g:TG3} {tif:TT3} {wi2:TI3} {g2:TG3} {tif2:TT3} {te:TE3} (hc:X.calm=true) (hi:jI3 X tg iter wi)
  (hg:∀ s H fp,jG3 (ql X N' scope s H fp) tg g) (hf:∀ s H fp,jF3 (ql X N' scope s H fp) ifs tif) (hi2:∀ s H fp,jI3 (ql X N' scope s H fp) t2 i2 wi2) (hg2:∀ s H fp,jG3 (ql X N' scope s H fp) t2 g2) (hf2:∀ s H fp,jF3 (ql X N' scope s H fp) f2 tif2) (he:∀ s H fp,jE3 (ql X N' scope s H fp) elt te)
  (hsc:qaP X.env.scope scope=true) (hcap:UL X.N N' scope m=true) (hs:∀ x,foldedSetIterable iter X.env x=pure x:=by intro _;rfl) (hs2:∀ s H fp x,foldedSetIterable i2 (ql X N' scope s H fp).env x=pure x:=by intro _ _ _ _;rfl) :
  jE3 X (.ListComp elt [⟨tg,iter,ifs,0⟩,⟨t2,i2,f2,0⟩] scope pos) (qis wi g tif wi2 g2 tif2 te m):=
 ⟨qof N' m hc hi.h (fun s H fp=>(hg s H fp).h) (fun s H fp=>(hf s H fp).h) (fun s H fp=>(hi2 s H fp).h) (fun s H fp=>(hg2 s H fp).h) (fun s H fp=>(hf2 s H fp).h) (fun s H fp=>(he s H fp).h) hsc hcap hs hs2⟩
end
end L3
namespace L3
open PySem PySem.Spec PyProof.Rows L2
section
variable {X:Cx}
theorem RT:∀ {its:List Value} {ns:List Int},jk (ns.map V.int) its->IntsAre its ns
 | _,[],h=>by cases h;exact .nil
 | _,n :: ns,h=>by
  cases h with
  | cons r t=>
   obtain ⟨k,rfl⟩:=r
   exact .cons n k (RT t)
end
end L3
namespace L3
open PySem PySem.Spec PyProof.Rows L2
section
variable {X:Cx} {tg a b c:Expr} {pos:Pos}
end
end L3
namespace L3
open PySem PySem.Spec PyProof.Rows L2
def U0 (ns:List Int):Nat:=(firstMet (fun i=>ns.getD i 0) ns.length).length
section
variable {X:Cx}
theorem S6 (hc:X.calm=true):YH X (.type "set") (fun xs H Q=>∃ (p:Addr) (ns:List Int),xs=[.ref p]/\SqL X.K H p (ns.map V.int)/\ns.length < 4000/\∀ l S,H l=none->Q (.ref l) (upd H l (.set S (U0 ns)))):=by
 intro pins s σ H xs us Q I r h
 obtain ⟨p,ns,rfl,hq,hl,q⟩:=h
 obtain ⟨u,rfl,rp⟩:=WF r
 cases (show u=Value.ref p from rp)
 obtain ⟨its,rv,pl,hz⟩:=I.list hq
 have hlen:its.length=ns.length:=by have:=rv.length;simp at this;omega
 refine call_set_list (items:=its.toArray) (ns:=ns) (I.ok.hd hc) pl.isList (by simpa using RT rv) (by rw [List.size_toArray];unfold scanBound;omega) fun h' tk hs kp=>?_
 have e:(its.toArray).size=ns.length:=by rw [List.size_toArray];exact hlen
 rw [e] at hs
 exact ⟨.ref s.heap.objs.size,_,I.laid (t':=tk) (o:=.set (fun k'=>(firstMet (fun i=>ns.getD i 0) ns.length).any (· == k')) (U0 ns)) (fun b o hb=>kp b o (Heap.lt_size hb) hb) (Nat.le_refl _) hs,rfl,q _ _ (I.hok.fresh (Nat.le_refl _))⟩
theorem S4:YH X (.builtin "len") (fun xs H Q=>∃ a S n,xs=[.ref a]/\H a=some (.set S n)/\Q (.int n) H):=by
 intro pins s σ H xs us Q I r h
 obtain ⟨a,S,n,rfl,ha,q⟩:=h
 obtain ⟨u,rfl,rp⟩:=WF r
 cases (show u=Value.ref a from rp)
 obtain ⟨o,es,ep,t,h1,h2,h3,_,_,h6,h7,h8⟩:=(show s.heap.SetOf (intKind X.prog X.w) a S n from I.hok a _ ha)
 refine call_len_set h1 h2 h3 h7 (by unfold scanBound at h6;omega) ⟨.int n,H,I.tok _,⟨_,by rw [h8]⟩,q⟩
def qg5 (te:TE3):TE3:=fun τ G q=>te τ G fun x G1=>match x with
 | .ref p=>(match getL G1 p with | some ys=>(match SN ys with | some ns=>ns.length < 4000/\q (.int (U0 ns)) G1 | none=>False) | none=>False)
 | _=>False
theorem qbe {e:Expr} {te:TE3} {p p2 pos pos2:Pos} (hc:X.calm=true) (hg:Gl X "len") (hm:X.mg "len" = none) (hg2:Gl X "set") (hm2:X.mg "set" = none) (he:jE3 X e te)
  (h1:starEach [e] X.env=(false,eval e X.env) :: starEach [] X.env:=by rfl) (h2:starEach [.Call (.Name "set" p2) [e] [] pos2] X.env=(false,eval (.Call (.Name "set" p2) [e] [] pos2) X.env) :: starEach [] X.env:=by rfl)
  (h3:(backTo pos (starEach [] X.env)).any (·.1)=false:=by rfl) (h4:(backTo pos2 (starEach [] X.env)).any (·.1)=false:=by rfl):jE3 X (.Call (.Name "len" p) [.Call (.Name "set" p2) [e] [] pos2] [] pos) (qg5 te):=
 ⟨WS (WU S4 hg hm PySem.boot_len (J3 (KF (S6 hc) hg2 hm2 (show bootBuiltins "set" = some (.type "set") by decide +kernel) (J3 he.h RD h1) (he:=h1) (hpl:=h4)) RD h2) (he:=h2) (hpl:=h3)) fun _ _ _ ⟨τ,G,q,rl,h,af⟩=>zK rl h fun x G1 h1 v H1 rx hr1 k1 rl1=>by
  split at h1
  ·rename_i l
   cases rx
   split at h1
   ·rename_i ys e0
    split at h1
    ·rename_i ns e1
     obtain ⟨us,hs,r2⟩:=jh hr1 e0
     have:=WN e1
     subst this
     have:=WQ r2
     subst this
     exact ⟨l,ns,rfl,hs,h1.1,fun a S ha=>⟨a,S,_,rfl,zm,af _ _ h1.2 _ _ (.int _) (HR.laid hr1 ha) (k1.trans (Kp.laid ha))⟩⟩
    ·exact h1.elim
   ·exact h1.elim
  ·exact h1.elim⟩
end
end L3
namespace L3
open PySem PySem.Spec PyProof.Rows L2
end L3
namespace L3
open PySem PySem.Spec PyProof.Rows L2
section
variable {X:Cx} {a b:Expr} {ta tb:TE3} {pos:Pos}
theorem qbo:OpR X (compareOp .IsNot) (fun x y H Q=>∃ i j,x=.bl i/\y=.bl j/\Q (.bl (i != j)) H):=by
 intro pins s σ H x y v u Q I rx ry h
 obtain ⟨i,j,rfl,rfl,q⟩:=h
 cases rx
 cases ry
 exact isnot_bool (zc I q rfl)
def qjy (neg:Bool):R3:=fun x y G q=>match x,y with | .bl i,.bl j=>q (.bl (if neg then i != j else i == j)) G | _,_=>False
theorem NQ {K:PySem.W.Frag}:W2 K (qjy true) (fun x y H Q=>∃ i j,x=.bl i/\y=.bl j/\Q (.bl (i != j)) H):=fun x y v u G H q Q hr rx ry h af=>by
 cases x <;> try exact h.elim
 cases y <;> try exact h.elim
 cases rx;cases ry
 exact ⟨_,_,rfl,rfl,af _ G h _ H (.bl _) hr Kp.refl⟩
end
end L3
namespace HT
open PySem PySem.Spec PyProof.Rows
section
variable {prog:Program} {w:World} {A:Around} {E:Value->Shared->Prop} {s:Shared}
end
end HT
namespace L3
open PySem PySem.Spec PyProof.Rows L2
section
variable {X:Cx} {e ek:Expr} {p2 pos:Pos}
end
end L3
namespace L3
open PySem PySem.Spec PyProof.Rows L2
section
variable {X:Cx} {a b:Expr} {ta tb:TE3} {pos:Pos}
end
end L3
namespace L3
open PySem PySem.Spec PyProof.Rows L2
abbrev Rd (sp:Sp3) (n:Nat) (t:TS3) (N:List Str):Prop:=∀ ts G q,sp ts G q->ts.length=n/\t { nx:=fun _ G'=>q .non G',rt:=q } (qE N ts) G
theorem jgn {pos:Pos} {X:Cx} {x:Str} (i:Nat) (hN:decide X.N.Nodup=true:=by kernel_rfl) (hi:X.N[i]?=some x:=by rfl) (hx:Loc X.env.scope x:=by first | exact Or.inl rfl | exact Or.inr rfl) (hf:X.fn x=true\/X.env.scope.names.lookup x=some .local:=by first | exact .inl rfl | exact .inr rfl):jG3 X (.Name x pos) (gn3 i):=
 qv (of_decide_eq_true hN) hi hx hf
end L3
namespace L2
open PySem PySem.Spec PyProof.Rows
section
variable {X:Cx} {pos:Pos}
end
end L2
namespace L3
open PySem PySem.Spec PyProof.Rows L2
section
variable {X:Cx} {pos:Pos}
end
end L3
namespace L3
open PySem PySem.Spec PyProof.Rows L2
section
variable {X:Cx} {K:PySem.W.Frag} {w:World} {mg:Str->Option Value}
inductive Ents (K:PySem.W.Frag) (w:World):List DictEntry->List (Str×T)->Prop
 | nil:Ents K w [] []
 | cons {x:Str} {tk:Tok} {u:Value} {v:V} {t:T} {es:List DictEntry} {tab:List (Str×T)}:j8 v u->(∀ H,Rp K H t v)->Ents K w es tab->Ents K w (⟨PyData.keyHash w.params x,.str x tk,u⟩ :: es) ((x,t) :: tab)
def jO:List (Str×T)->Str->Option T
 | [],_=>none
 | (y,t) :: r,x=>if y=x then some t else jO r x
structure Tb (K:PySem.W.Frag) (mg:Str->Option Value) (w:World) (x:Str) (tab:List (Str×T)):Prop where
 at_:∃ (d:Addr) (es:Array DictEntry) (ep:Nat),mg x=some (.ref d)/\K.lookup d=some ⟨.type "dict",none,.dict es ep,#[]⟩/\(d == sysModules)=false/\Ents K w es.toList tab
theorem Ents.keys {P:Program}:∀ {es:List DictEntry} {tab:List (Str×T)},Ents K w es tab->∀ e∈es,∃ k,(PySem.strKind P w).is k e.key=true/\e.hash=(PySem.strKind P w).hash k
 | _,_,.nil,e,h=>by cases h
 | _,_,.cons (x:=x) a b t,e,h=>by
  rcases List.mem_cons.mp h with rfl | h
  ·exact ⟨x,by show (x == x)=true;simp,rfl⟩
  ·exact Ents.keys t e h
theorem Ents.find:∀ {es:List DictEntry} {tab:List (Str×T)} (x:Str),Ents K w es tab ->
    (match jO tab x with
     | some t=>∃ (u:Value) (v:V),(es.find? fun e=>Value.isStrOf x e.key).map (·.val)=some u/\j8 v u/\∀ H,Rp K H t v
     | none=>(es.find? fun e=>Value.isStrOf x e.key).map (·.val)=none)
  | _,_,x,.nil=>by simp [jO]
  | _,_,x,.cons (x:=y) (tk:=tk) (u:=u) (v:=v) (t:=t) (es:=es) (tab:=tab) a b r=>by
    by_cases e:y=x
    · have:Value.isStrOf x (Value.str y tk)=true:=by show (y == x)=true;simp [e]
      simp only [jO,e,if_true,List.find?_cons,this]
      subst e
      simp only [this]
      exact ⟨u,v,rfl,a,b⟩
    · have:Value.isStrOf x (Value.str y tk)=false:=by show (y == x)=false;simp [e]
      have ih:=Ents.find x r
      simp only [jO,e,if_false,List.find?_cons,this]
      exact ih
theorem Ents.map {P:Program} {h:Heap} {d:Addr} {es:Array DictEntry} {ep:Nat} {tab:List (Str×T)} (hd:h.get? d=some ⟨.type "dict",none,.dict es ep,#[]⟩) (en:Ents K w es.toList tab) :
  Heap.MapOf (PySem.strKind P w) h d (fun x=>findBy Value.isStrOf es x):=
 ⟨_,es,ep,hd,⟨rfl,rfl,rfl⟩,rfl,fun e he=>en.keys e (by simpa using he),fun _=>rfl⟩
def qq5 (K:PySem.W.Frag) (d:Addr) (tab:List (Str×T)):R2:=fun x y H Q=>x=.ref d/\∃ s t,y=.str s/\jO tab s=some t/\∀ v,Rp K H t v->Q v H
theorem qjM {d:Addr} {es:Array DictEntry} {ep:Nat} {tab:List (Str×T)} (hk:X.K.lookup d=some ⟨.type "dict",none,.dict es ep,#[]⟩) (en:Ents X.K X.w es.toList tab):IxR X (qq5 X.K d tab):=by
 intro value slice pins s σ H x y v u Q I rx ry h hs
 obtain ⟨rfl,z,t,rfl,ht,q⟩:=h
 cases rx
 obtain ⟨tk,rfl⟩:=ry
 have hd:=I.kIn _ _ hk
 have f:=en.find z
 rw [ht] at f
 obtain ⟨u,v,hf,rv,rp⟩:=f
 have hf':findBy Value.isStrOf es z=some u:=by
  unfold findBy
  rw [← Array.find?_toList]
  exact hf
 refine subscriptTail_builtinR (x:=u) ⟨_,hd,rfl⟩ PySem.F.slot_dict_getitem.lookup (wpAny_getItem_of (knd:=PySem.strKind X.prog X.w) (Q:=fun r s'=>r=u/\EP X pins σ Q r s') (k:=z) (by show (z == z)=true;simp) (en.map hd) hf' ⟨rfl,v,H,I.tok _,rv,q v (rp H)⟩) hs
def qc9 (tab:List (Str×T)) (te:TE3):TE3:=fun τ G q=>te τ G fun x G1=>match x with | .str s=>(match jO tab s with | some t=>q t G1 | none=>False) | _=>False
theorem qgO {x:Str} {e:Expr} {te:TE3} {tab:List (Str×T)} {p1 pos:Pos} (tb:Tb X.K X.mg X.w x tab) (hg:Gl X x) (he:jE3 X e te) (hs:EU e) (hd:(x == ("__debug__" : Str))=false:=by decide):jE3 X (.Subscript (.Name x p1) e pos) (qc9 tab te):=by
 obtain ⟨d,es,ep,hm,hk,hn,en⟩:=tb.at_
 exact ⟨WS (qmn (qjM hk en) (qhD hg hm (v:=.ref d) rfl hd) he.h hs) fun _ _ _ ⟨τ,G,q,rl,h,af⟩=>zK rl h fun y G1 h1 v H1 rx hr1 k1 rl1=>by
  cases y <;> try exact h1.elim
  case str z=>
   cases rx
   unfold qc9 at h
   simp only at h1
   split at h1
   ·rename_i t ht
    exact ⟨rfl,z,t,rfl,ht,fun v rv=>af.back k1 _ _ h1 _ _ rv hr1 Kp.refl⟩
   ·exact h1.elim⟩
theorem JD (hc:X.calm=true):YH X (.builtin "min") (fun xs H Q=>∃ (p:Addr) (ns:List Int),xs=[.ref p]/\SqL X.K H p (ns.map V.int)/\ns≠[]/\∀ m∈ns,(∀ a∈ns,m<=a)->Q (.int m) H):=by
 intro pins s σ H xs us Q I r h
 obtain ⟨p,ns,rfl,hq,hne,q⟩:=h
 obtain ⟨u,rfl,rp⟩:=WF r
 cases (show u=Value.ref p from rp)
 obtain ⟨its,rv,pl,hz⟩:=I.list hq
 have hlen:its.length=ns.length:=by have:=rv.length;simp at this;omega
 have hpos:0 < ns.length:=List.length_pos_iff.mpr hne
 have hp:p < s.heap.objs.size:=by obtain ⟨o,n,e,_⟩:=pl;exact Heap.lt_size e
 have vals:∀ (i:Nat) (v:Value),its.toArray[i]?=some v->∃ t,v=Value.int (ns.getD i 0) t:=fun i v hv=>by
  have hv':its[i]?=some v:=by simpa using hv
  obtain ⟨hi,_⟩:=List.getElem?_eq_some_iff.mp hv'
  have hi':i < ns.length:=by omega
  obtain ⟨u,hu,ru⟩:=rv.get (i:=i) (show (ns.map V.int)[i]?=some (V.int (ns[i])) by simp [hi'])
  rw [hv'] at hu;cases hu
  obtain ⟨t,rfl⟩:=ru
  exact ⟨t,by show Value.int ns[i] t=Value.int (ns.getD i 0) t;rw [List.getD_eq_getElem?_getD,List.getElem?_eq_getElem hi'];rfl⟩
 refine call_min_walk (wpAny_pyIter_list pl.isList ⟨s.heap.objs.size,_,_,_,_,_,_,rfl,Walks.list (A:=X.A.in1) (show X.A.in1.handled=none from I.ok.hd hc) s.heap.objs.size p (Nat.ne_of_lt hp) its.toArray,⟨⟨_,Heap.get?_push_size _ rfl,rfl,rfl⟩,?_⟩,fun b hb=>?_,by rw [List.size_toArray];omega,CmpOf.ints_lt (fun i=>ns.getD i 0) vals,fun v h' tk hP hk=>?_⟩)
 ·obtain ⟨o,n,e,c,_,d⟩:=pl
  exact ⟨o,Heap.get?_push_of_some _ e,c,n,d⟩
 ·have lt1:∀ n c:Nat,c < n->c < n+1:=fun n c h=>by omega
  rw [show (({ s with heap:=s.heap.push _ }:Shared).heap.objs.size)=s.heap.objs.size+1 from Heap.size_push ..]
  simp only [List.mem_cons,List.not_mem_nil,or_false] at hb
  rcases hb with rfl | rfl
  ·exact Nat.lt_succ_self _
  ·exact lt1 _ _ hp
 ·obtain ⟨b1,b2⟩:=argBest_lt (fun i=>ns.getD i 0) (its.toArray.size - 1)
  obtain ⟨t,rfl⟩:=vals _ _ hP
  rw [List.size_toArray] at b1 b2 ⊢
  have gd:∀ j,j < ns.length->ns.getD j 0∈ns:=fun j hj=>by rw [List.getD_eq_getElem?_getD,List.getElem?_eq_getElem hj];exact List.getElem_mem hj
  refine ⟨.int _,H,I.kept (h':=h') (t':=tk) fun b o e=>hk b o (by simp;exact Nat.ne_of_lt (Heap.lt_size e)) (Heap.get?_push_of_some _ e),⟨_,rfl⟩,q _ (gd _ (by omega)) fun a ha=>?_⟩
  obtain ⟨j,hj,rfl⟩:=List.mem_iff_getElem.mp ha
  have:=b2 j (by omega)
  have e:ns.getD j 0=ns[j]:=by rw [List.getD_eq_getElem?_getD,List.getElem?_eq_getElem hj];rfl
  rw [e] at this
  exact this
def CO:List T->Gp->Q3->Prop:=fun xs G q=>match xs with
 | [.ref p]=>(match getL G p with | some ys=>(match SN ys with | some ns=>ns≠[]/\∀ m∈ns,(∀ a∈ns,m<=a)->q (.int m) G | none=>False) | none=>False)
 | _=>False
theorem VO {K:PySem.W.Frag}:M1 K CO (fun xs H Q=>∃ (p:Addr) (ns:List Int),xs=[.ref p]/\SqL K H p (ns.map V.int)/\ns≠[]/\∀ m∈ns,(∀ a∈ns,m<=a)->Q (.int m) H):=fun xs vs G H q Q hr rs h af=>by
 unfold CO at h
 split at h
 ·rename_i p
  obtain ⟨v,rfl,r⟩:=K3 rs
  cases r
  split at h
  ·rename_i ys e0
   split at h
   ·rename_i ns e1
    obtain ⟨us,hs,r2⟩:=jh hr e0
    have:=WN e1
    subst this
    have:=WQ r2
    subst this
    exact ⟨p,ns,rfl,hs,h.1,fun m hm ha=>af _ _ (h.2 m hm ha) _ _ (.int _) hr Kp.refl⟩
   ·exact h.elim
  ·exact h.elim
 ·exact h.elim
theorem UT (hc:X.calm=true):YH X (.builtin "max") (fun xs H Q=>∃ (p:Addr) (ns:List Int),xs=[.ref p]/\SqL X.K H p (ns.map V.int)/\ns≠[]/\∀ m∈ns,(∀ a∈ns,a<=m)->Q (.int m) H):=by
 intro pins s σ H xs us Q I r h
 obtain ⟨p,ns,rfl,hq,hne,q⟩:=h
 obtain ⟨u,rfl,rp⟩:=WF r
 cases (show u=Value.ref p from rp)
 obtain ⟨its,rv,pl,hz⟩:=I.list hq
 have hlen:its.length=ns.length:=by have:=rv.length;simp at this;omega
 have hpos:0 < ns.length:=List.length_pos_iff.mpr hne
 have hp:p < s.heap.objs.size:=by obtain ⟨o,n,e,_⟩:=pl;exact Heap.lt_size e
 have vals:∀ (i:Nat) (v:Value),its.toArray[i]?=some v->∃ t,v=Value.int (ns.getD i 0) t:=fun i v hv=>by
  have hv':its[i]?=some v:=by simpa using hv
  obtain ⟨hi,_⟩:=List.getElem?_eq_some_iff.mp hv'
  have hi':i < ns.length:=by omega
  obtain ⟨u,hu,ru⟩:=rv.get (i:=i) (show (ns.map V.int)[i]?=some (V.int (ns[i])) by simp [hi'])
  rw [hv'] at hu;cases hu
  obtain ⟨t,rfl⟩:=ru
  exact ⟨t,by show Value.int ns[i] t=Value.int (ns.getD i 0) t;rw [List.getD_eq_getElem?_getD,List.getElem?_eq_getElem hi'];rfl⟩
 refine call_max_walk (wpAny_pyIter_list pl.isList ⟨s.heap.objs.size,_,_,_,_,_,_,rfl,Walks.list (A:=X.A.in1) (show X.A.in1.handled=none from I.ok.hd hc) s.heap.objs.size p (Nat.ne_of_lt hp) its.toArray,⟨⟨_,Heap.get?_push_size _ rfl,rfl,rfl⟩,?_⟩,fun b hb=>?_,by rw [List.size_toArray];omega,CmpOf.ints_gt (fun i=>ns.getD i 0) vals,fun v h' tk hP hk=>?_⟩)
 ·obtain ⟨o,n,e,c,_,d⟩:=pl
  exact ⟨o,Heap.get?_push_of_some _ e,c,n,d⟩
 ·have lt1:∀ n c:Nat,c < n->c < n+1:=fun n c h=>by omega
  rw [show (({ s with heap:=s.heap.push _ }:Shared).heap.objs.size)=s.heap.objs.size+1 from Heap.size_push ..]
  simp only [List.mem_cons,List.not_mem_nil,or_false] at hb
  rcases hb with rfl | rfl
  ·exact Nat.lt_succ_self _
  ·exact lt1 _ _ hp
 ·obtain ⟨b1,b2⟩:=argBest_gt (fun i=>ns.getD i 0) (its.toArray.size - 1)
  obtain ⟨t,rfl⟩:=vals _ _ hP
  rw [List.size_toArray] at b1 b2 ⊢
  have gd:∀ j,j < ns.length->ns.getD j 0∈ns:=fun j hj=>by rw [List.getD_eq_getElem?_getD,List.getElem?_eq_getElem hj];exact List.getElem_mem hj
  refine ⟨.int _,H,I.kept (h':=h') (t':=tk) fun b o e=>hk b o (by simp;exact Nat.ne_of_lt (Heap.lt_size e)) (Heap.get?_push_of_some _ e),⟨_,rfl⟩,q _ (gd _ (by omega)) fun a ha=>?_⟩
  obtain ⟨j,hj,rfl⟩:=List.mem_iff_getElem.mp ha
  have:=b2 j (by omega)
  have e:ns.getD j 0=ns[j]:=by rw [List.getD_eq_getElem?_getD,List.getElem?_eq_getElem hj];rfl
  rw [e] at this
  exact this
def KI:List T->Gp->Q3->Prop:=fun xs G q=>match xs with
 | [.ref p]=>(match getL G p with | some ys=>(match SN ys with | some ns=>ns≠[]/\∀ m∈ns,(∀ a∈ns,a<=m)->q (.int m) G | none=>False) | none=>False)
 | _=>False
theorem WV {K:PySem.W.Frag}:M1 K KI (fun xs H Q=>∃ (p:Addr) (ns:List Int),xs=[.ref p]/\SqL K H p (ns.map V.int)/\ns≠[]/\∀ m∈ns,(∀ a∈ns,a<=m)->Q (.int m) H):=fun xs vs G H q Q hr rs h af=>by
 unfold KI at h
 split at h
 ·rename_i p
  obtain ⟨v,rfl,r⟩:=K3 rs
  cases r
  split at h
  ·rename_i ys e0
   split at h
   ·rename_i ns e1
    obtain ⟨us,hs,r2⟩:=jh hr e0
    have:=WN e1
    subst this
    have:=WQ r2
    subst this
    exact ⟨p,ns,rfl,hs,h.1,fun m hm ha=>af _ _ (h.2 m hm ha) _ _ (.int _) hr Kp.refl⟩
   ·exact h.elim
  ·exact h.elim
 ·exact h.elim
end
end L3
namespace L3
open PySem PySem.Spec PyProof.Rows L2
inductive Cv:List Str->List V->List (Value×Value)->Prop
 | nil:Cv [] [] []
 | cons {k:Str} {tk:Tok} {v:V} {u:Value} {ks:List Str} {xs:List V} {vs:List (Value×Value)}:j8 v u->Cv ks xs vs->Cv (k :: ks) (v :: xs) ((.str k tk,u) :: vs)
structure jD3 (X:Cx) (keys:List (Option Expr)) (values:List Expr) (ks:List Str) (t:TA3):Prop where
 h:∀ (pos:Pos) (pins:List (Addr×Obj)) (s:Shared) (σ:L2.St) (H:Hp) (Q:List V->Hp->Prop),Inv X pins σ H s->lA X.K t σ H Q ->
  wpAny (model X.prog X.w) X.A (evalPairs (pairTrees keys values X.env pos)) (fun vs s'=>∃ xs H',Inv X pins σ H' s'/\Cv ks xs vs/\Q xs H') X.xe s
 len:keys.length=values.length
 all:(keys.all fun x=>x.isSome)=true
section
variable {X:Cx}
theorem qjj:jD3 X [] [] [] qj:=
 ⟨fun pos pins s σ H Q I ⟨τ,G,q,rl,h,af⟩=>by
  show wpAny _ _ (evalPairs []) _ _ _
  exact wpAny_pure ⟨[],H,I,.nil,af _ _ h _ _ .nil rl.hp Kp.refl⟩,rfl,rfl⟩
theorem X8 {k:Str} {j:Nat} {kp:Pos} {v:Expr} {tv:TE3} {keys:List (Option Expr)} {values:List Expr} {ks:List Str} {t:TA3} (hv:jE3 X v tv) (r:jD3 X keys values ks t) :
  jD3 X (some (.Constant (.str k) j kp) :: keys) (v :: values) (k :: ks) (qc tv t):=
 ⟨fun pos pins s σ H Q I ⟨τ,G,q,rl,h,af⟩=>by
  show wpAny _ _ (evalPairs ((eval (.Constant (.str k) j kp) X.env,do let x ← eval v X.env;standAt pos;pure x) :: pairTrees keys values X.env pos)) _ _ _
  refine evalPairs_cons (thn (qew (X:=X) (x:=k) (j:=j) (pos:=kp) pins s σ H (fun y H'=>y=.str k/\H'=H) I ⟨rfl,rfl⟩) fun kv s1 ⟨y,H1,I1,ry,ey,eH⟩=>?_)
  subst ey;subst eH
  obtain ⟨tk,rfl⟩:=ry
  refine wpAny_bind (thn (hv.h pins s1 σ H1 (fun x H2=>lA X.K t σ H2 fun xs H3=>Q (x :: xs) H3) I1 (zK rl h fun x G1 h1 v H2 rx hr1 k1 rl1=>⟨τ,G1,_,rl1,h1,fun xs G2 h2 vs H3 rs hr2 k2=>af _ _ h2 _ _ (.cons (rx.keep hr1 k2) rs) hr2 (k1.trans k2)⟩)) fun u s2 ⟨x,H2,I2,rx,q2⟩=>?_)
  refine wpAny_bind (wpAny_standAt (wpAny_pure ?_))
  exact thn (r.h pos pins s2 σ H2 _ I2 q2) fun vs s3 ⟨xs,H3,I3,cv,q3⟩=>⟨x :: xs,H3,I3,.cons rx cv,q3⟩,by simp [r.len],by simpa using r.all⟩
theorem Cv.carries {P:Program} {w:World}:∀ {ks:List Str} {xs:List V} {vs:List (Value×Value)},Cv ks xs vs->Carries (PySem.strKind P w) vs (ks.zip (vs.map (·.2)))
 | _,_,_,.nil=>True.intro
 | _,_,_,.cons (k:=k) r t=>⟨by show (k == k)=true;simp,rfl,t.carries⟩
theorem Cv.len:∀ {ks:List Str} {xs:List V} {vs:List (Value×Value)},Cv ks xs vs->ks.length=vs.length
 | _,_,_,.nil=>rfl
 | _,_,_,.cons _ t=>by simp [t.len]
def qdn:List Str->List V->Str->Option V
 | k :: ks,v :: vs,x=>if k=x then some v else qdn ks vs x
 | _,_,_=>none
theorem Cv.get:∀ {ks:List Str} {xs:List V} {vs:List (Value×Value)} {x:Str} {v:V},Cv ks xs vs->qdn ks xs x=some v->∃ u,valueAt (ks.zip (vs.map (·.2))) x=some u/\j8 v u
 | _,_,_,x,v,.nil,h=>by simp [qdn] at h
 | _,_,_,x,v,.cons (k:=k) (u:=u) r t,h=>by
  by_cases e:k=x
  ·simp [qdn,e] at h
   subst h
   exact ⟨u,by simp [valueAt,e],r⟩
  ·simp [qdn,e] at h
   obtain ⟨u',h1,h2⟩:=Cv.get t h
   exact ⟨u',by simpa [valueAt,e] using h1,h2⟩
def qor (ks:List Str) (tv:TA) (te:TE):TE:=fun σ H Q=>tv σ H fun xs H1=>te σ H1 fun y H2=>∃ k v,y=.str k/\qdn ks xs k=some v/\Q v H2
theorem qhc {keys:List (Option Expr)} {values:List Expr} {ks:List Str} {t:TA3} {e:Expr} {te:TE} {p1 pos:Pos} (hd:jD3 X keys values ks t) (he:PE X e te) (hs:EU e) (nd:ks.Nodup) (ne:keys≠[]) (h15:keys.length<=15) :
  PE X (.Subscript (.Dict keys values p1) e pos) (qor ks (lA X.K t) te):=by
 intro pins s σ H Q I hl
 refine Subscript_ ?_
 refine wpAny_Dict_walk (knd:=PySem.strKind X.prog X.w) hd.all hd.len ne h15 ?_
 have hsz:=I.sz
 have hlt:=I.lt
 have I0:Inv X pins σ H { s with heap:=s.heap.push { cls:=.type "dict",data:=.dict #[] } }:=I.kept (t':=s.toks) fun b o e=>Heap.get?_push_of_some _ e
 have ok0:H s.heap.objs.size=none/\s.heap.objs.size≠X.env.locals/\s.heap.objs.size ∉ X.fs:=⟨I.fresh,fun z=>Nat.lt_irrefl _ (z ▸ hlt),I.nofs (Nat.le_refl _)⟩
 have hcell:∀ x c,X.env.cells.lookup x=some c->c≠s.heap.objs.size:=fun x c e z=>by
  obtain ⟨v,o,ho,_⟩:=I.cell x c e
  have:=Heap.lt_size ho
  rw [z] at this
  exact Nat.lt_irrefl _ this
 have hpin:∀ p∈X.pn++pins,p.1≠s.heap.objs.size:=fun p hp z=>by
  have:=Heap.lt_size (I.pin p hp).1
  rw [z] at this
  exact Nat.lt_irrefl _ this
 have Ip:Inv X (pins++[(s.heap.objs.size,{ cls:=.type "dict",data:=.dict #[] })]) σ H { s with heap:=s.heap.push { cls:=.type "dict",data:=.dict #[] } }:=I0.pins_of fun p hp=>by
  rcases List.mem_append.mp hp with z | z
  ·exact I0.pin p (List.mem_append_right _ z)
  ·simp only [List.mem_singleton] at z
   subst z
   exact ⟨Heap.get?_push_size _ rfl,ok0.1,ok0.2.1,ok0.2.2,fun v=>by simp⟩
 refine thn (hd.h p1 _ _ σ H _ Ip hl) fun vs s1 ⟨xs,H1,I1,cv,q1⟩=>?_
 have p1':=I1.pin (s.heap.objs.size,{ cls:=.type "dict",data:=.dict #[] }) (by simp)
 have hkeys:(List.map (fun x=>x.fst) (ks.zip (vs.map (·.2))))=ks:=by
  have:=cv.len
  rw [List.map_fst_zip (by simp;omega)]
 refine ⟨ks.zip (vs.map (·.2)),cv.carries,⟨_,#[],0,p1'.1,⟨rfl,rfl,rfl⟩,rfl,fun e he=>by simp at he,by first | exact True.intro | constructor,by simp⟩,fun h' hd' hsame=>?_⟩
 rw [merged_nil_of_nodup _ (by rw [hkeys];exact nd)] at hd'
 have I1u:Inv X pins σ H1 s1:=I1.unpinned
 have I2:Inv X pins σ H1 { heap:=h',gens:=s1.gens,drawn:=s1.drawn,toks:=s1.toks+vs.length,os:=s1.os }:=
  I1u.turned (it:=s.heap.objs.size) (fun b o hb e=>by rw [hsame.2 b hb];exact e) p1'.2.1 ok0.2.1 (.inr hsz) hcell hpin
 obtain ⟨o,es,ep,ho,hx,hdata,hk,hp,hn⟩:=hd'
 have I3:Inv X (pins++[(s.heap.objs.size,o)]) σ H1 { heap:=h',gens:=s1.gens,drawn:=s1.drawn,toks:=s1.toks+vs.length,os:=s1.os }:=I2.pins_of fun p hp=>by
  rcases List.mem_append.mp hp with z | z
  ·exact I2.pin p (List.mem_append_right _ z)
  ·simp only [List.mem_singleton] at z
   subst z
   exact ⟨ho,p1'.2.1,ok0.2.1,ok0.2.2,fun v=>by rw [hdata];simp⟩
 refine thn (he _ _ σ H1 _ I3 q1) fun u s2 ⟨y,H2,I4,ry,k,v,ey,hg,q2⟩=>?_
 subst ey
 obtain ⟨tk,rfl⟩:=ry
 have po:=I4.pin (s.heap.objs.size,o) (by simp)
 have dd:s2.heap.DictOf (PySem.strKind X.prog X.w) s.heap.objs.size (ks.zip (vs.map (·.2))):=⟨o,es,ep,po.1,hx,hdata,hk,hp,hn⟩
 obtain ⟨u,hu,ru⟩:=cv.get hg
 exact subscriptTail_builtinR (x:=u) ⟨_,po.1,hx.1⟩ PySem.F.slot_dict_getitem.lookup (wpAny_getItem_of (knd:=PySem.strKind X.prog X.w) (Q:=fun r s'=>r=u/\EP X pins σ Q r s') (k:=k) (by show (k == k)=true;simp) dd.mapOf hu ⟨rfl,v,H2,I4.unpinned.tok _,ru,q2⟩) (hs _ _)
def qie (ks:List Str) (t:TA3) (te:TE3):TE3:=fun τ G q=>t τ G fun xs G1=>te τ G1 fun y G2=>match y with | .str k=>(match jO (ks.zip xs) k with | some x=>q x G2 | none=>False) | _=>False
theorem qbM {K:PySem.W.Frag} {H:Hp}:∀ {ks:List Str} {xs:List T} {vs:List V} {k:Str} {x:T},Rps K H xs vs->jO (ks.zip xs) k=some x->∃ v,qdn ks vs k=some v/\Rp K H x v
 | [],_,_,k,x,_,h=>by simp [jO] at h
 | _ :: _,_,_,k,x,.nil,h=>by simp [jO] at h
 | y :: ks,_,_,k,x,.cons (v:=v) r t,h=>by
  by_cases e:y=k
  ·simp [jO,e] at h
   subst h
   exact ⟨v,by simp [qdn,e],r⟩
  ·simp [jO,e] at h
   obtain ⟨v,h1,h2⟩:=qbM t h
   exact ⟨v,by simpa [qdn,e] using h1,h2⟩
theorem qgF {keys:List (Option Expr)} {values:List Expr} {ks:List Str} {t:TA3} {e:Expr} {te:TE3} {p1 pos:Pos} (hd:jD3 X keys values ks t) (he:jE3 X e te) (hs:EU e:=by intro _ _;rfl) (nd:ks.Nodup:=by decide) (ne:keys≠[]:=by simp) (h15:keys.length<=15:=by decide) :
  jE3 X (.Subscript (.Dict keys values p1) e pos) (qie ks t te):=
 ⟨WS (qhc hd he.h hs nd ne h15) fun σ H Q ⟨τ,G,q,rl,h,af⟩=>
  ⟨τ,G,_,rl,h,fun xs G1 h1 vs H1 rs hr1 k1=>zK (rl.next hr1 k1) h1 fun y G2 h2 v H2 ry hr2 k2 rl2=>by
   cases y <;> try exact h2.elim
   case str k=>
    cases ry
    simp only at h2
    split at h2
    ·rename_i x hx
     obtain ⟨v,hv,rv⟩:=qbM (rs.keep hr1 k2) hx
     exact ⟨k,v,rfl,hv,af _ _ h2 _ _ rv hr2 (k1.trans k2)⟩
    ·exact h2.elim⟩⟩
end
theorem NX {K:PySem.W.Frag} {p:Addr} {od:Option Addr} {n:Nat} {sl:Array (Option Value)} {i j:Int} {ti tj:Tok} (h:K.lookup p=some ⟨.type "tuple",od,.seq #[.int i ti,.int j tj] n,sl⟩):∀ H,Rp K H (.tup [.int i,.int j]) (.ref p):=fun H=>
 .tup (vs:=[.int i,.int j]) (.inr ⟨_,_,_,h,rfl,rfl,by show 2<=sizeLine;decide,.cons ⟨_,rfl⟩ (.cons ⟨_,rfl⟩ .nil)⟩) (.cons (.int _) (.cons (.int _) .nil))
def EQ:List (Str×T):=[("row",.tup [.int 0,.int 1]),("column",.tup [.int 1,.int 0]),("slant",.tup [.int 1,.int 1]),("back",.tup [.int 1,.int (-1)])]
end L3
namespace L3
open PySem PySem.Spec PyProof.Rows L2
open PySem.SeqAt
def qc2 (dx:PyData):List PyData->Option Bool
 | []=>some false
 | d :: ds=>(match JC d dx,qc2 dx ds with | some b,some c=>some (b || c) | _,_=>none)
theorem NY {dx:PyData}:∀ {ds:List PyData} {b:Bool},qc2 dx ds=some b->∃ bs:List Bool,bs.length=ds.length/\(∀ (j:Nat) d,ds[j]?=some d->∃ c,bs[j]?=some c/\JC d dx=some c)/\b=bs.any id
 | [],b,h=>by simp [qc2] at h;subst h;exact ⟨[],rfl,fun j d hd=>by simp at hd,rfl⟩
 | d :: ds,b,h=>by
  unfold qc2 at h
  split at h
  ·rename_i b1 c1 e1 e2
   cases h
   obtain ⟨bs,hl,ha,hb⟩:=NY e2
   refine ⟨b1 :: bs,by simp [hl],fun j d' hd=>?_,by simp [hb]⟩
   cases j with
   | zero=>simp at hd;subst hd;exact ⟨b1,rfl,e1⟩
   | succ j=>simpa using ha j d' (by simpa using hd)
  ·cases h
section
variable {X:Cx} {pins:List (Addr×Obj)} {σ:L2.St} {H:Hp} {s:Shared}
theorem qcD (I:Inv X pins σ H s) {x:V} {dx:PyData} {v:Value} {xs:List V} {ds:List PyData} {its:List Value} {b:Bool} (hu:X.A.units+64 < cLine) (hx:DV X.K H x dx) (rx:j8 x v) (hs:DVs X.K H xs ds) (rs:jk xs its) (hb:qc2 dx ds=some b) (hd:∀ d∈ds,dpt d<=40) :
  ∃ e:Value->Bool,(∀ y∈its,EqAt X.A.in1 s y v (e y))/\its.any e=b:=by
 obtain ⟨bs,hl,ha,rfl⟩:=NY hb
 have un:X.A.in1.units+40 < cLine:=by
  have:X.A.in1.units<=X.A.units+8:=by first | (show X.A.units+1<=_;omega) | (show X.A.units<=_;omega) | (simp [Around.in1];omega)
  omega
 have at_:∀ (j:Nat) y,its[j]?=some y->∃ c,bs[j]?=some c/\EqAt X.A.in1 s y v c:=fun j y hj=>by
  obtain ⟨hj1,_⟩:=List.getElem?_eq_some_iff.mp hj
  have hxl:j < xs.length:=by rw [rs.length];exact hj1
  obtain ⟨u,hu',ru⟩:=rs.get (List.getElem?_eq_getElem hxl)
  rw [hj] at hu';cases hu'
  obtain ⟨d,hd1,hd2⟩:=hs.get (List.getElem?_eq_getElem hxl)
  obtain ⟨c,hc1,hc2⟩:=ha j d hd1
  exact ⟨c,hc1,(SJ I 40 hd2 hx hc2 (hd d (List.mem_of_getElem? hd1)) un ru rx).2⟩
 classical
 refine ⟨fun y=>decide (∃ j:Nat,its[j]?=some y/\bs[j]?=some true),fun y hy=>?_,?_⟩
 ·by_cases he:∃ j:Nat,its[j]?=some y/\bs[j]?=some true
  ·obtain ⟨j,h1,h2⟩:=id he
   obtain ⟨c,hc,eq⟩:=at_ j y h1
   rw [h2] at hc;cases hc
   simpa [he] using eq
  ·obtain ⟨j,hj,e⟩:=List.mem_iff_getElem.mp hy
   have hj':its[j]?=some y:=by rw [List.getElem?_eq_getElem hj,e]
   obtain ⟨c,hc,eq⟩:=at_ j y hj'
   cases c with
   | true=>exact absurd ⟨j,hj',hc⟩ he
   | false=>simpa [he] using eq
 ·rw [Bool.eq_iff_iff,List.any_eq_true,List.any_eq_true]
  constructor
  ·rintro ⟨y,_,hy⟩
   obtain ⟨j,_,h2⟩:=of_decide_eq_true hy
   exact ⟨true,List.mem_of_getElem? h2,rfl⟩
  ·rintro ⟨c,hc,e⟩
   have:c=true:=e
   subst this
   obtain ⟨j,hj,ej⟩:=List.mem_iff_getElem.mp hc
   have hl2:its.length=bs.length:=by rw [← rs.length,hs.length,hl]
   have hj2:j < its.length:=by omega
   exact ⟨its[j],List.getElem_mem hj2,decide_eq_true ⟨j,List.getElem?_eq_getElem hj2,by rw [List.getElem?_eq_getElem hj,ej]⟩⟩
def qqk (K:PySem.W.Frag) (neg:Bool):R2:=fun x y H Q=>∃ p xs dx ds b,y=.ref p/\(SqL K H p xs\/SqT K H p xs)/\DV K H x dx/\DVs K H xs ds/\qc2 dx ds=some b/\(∀ d∈ds,dpt d<=40)/\Q (.bl (if neg then !b else b)) H
theorem qcA (hu:X.A.units+64 < cLine):OpR X (compareOp .NotIn) (qqk X.K true):=by
 intro pins s σ H x y v u Q I rx ry h
 obtain ⟨p,xs,dx,ds,b,rfl,hq,hx,hs,hb,hd,q⟩:=h
 cases ry
 rcases hq with hq | hq
 ·obtain ⟨its,r,pl,hz⟩:=I.list hq
  obtain ⟨e,he,ha⟩:=qcD I hu hx rx hs r hb hd
  refine SeqAt.notIn_listAt e pl.isList (fun w hw=>he w (by simpa using hw)) ⟨.bl _,H,I,rfl,?_⟩
  rw [show its.toArray.any e=its.any e by simp,ha]
  exact q
 ·obtain ⟨its,r,pl,hz⟩:=I.tuple hq
  obtain ⟨e,he,ha⟩:=qcD I hu hx rx hs r hb hd
  refine SeqAt.notIn_tupleAt e pl (fun w hw=>he w (by simpa using hw)) ⟨.bl _,H,I,rfl,?_⟩
  rw [show its.toArray.any e=its.any e by simp,ha]
  exact q
end
def qqs (neg:Bool):R3:=fun x y G q=>∃ ys dx ds b,jK G y=some ys/\Dp G x dx/\Dps G ys ds/\qc2 dx ds=some b/\(∀ d∈ds,dpt d<=40)/\q (.bl (if neg then !b else b)) G
theorem qgy {K:PySem.W.Frag} {neg:Bool}:W2 K (qqs neg) (qqk K neg):=fun x y v u G H q Q hr rx ry h af=>by
 obtain ⟨ys,dx,ds,b,h1,h2,h3,h4,h5,h6⟩:=h
 cases y with
 | tup zs=>
  simp [jK] at h1
  subst h1
  cases ry with
  | tup hs rs=>exact ⟨_,_,dx,ds,b,rfl,.inr hs,h2.dv hr rx,h3.dv hr rs,h4,h5,af _ G h6 _ H (.bl _) hr Kp.refl⟩
 | ref p=>
  simp [jK] at h1
  cases ry
  obtain ⟨us,hs,rs⟩:=jh hr h1
  exact ⟨_,_,dx,ds,b,rfl,.inl hs,h2.dv hr rx,h3.dv hr rs,h4,h5,af _ G h6 _ H (.bl _) hr Kp.refl⟩
 | _=>simp [jK] at h1
end L3
namespace HT
open PySem PySem.Spec PyProof.Rows L2
section
open PySem.SeqAt
open PySem.MeetsSeq PySem.MeetsSeq2 PySem.MeetsSeq3
end
section
variable {prog:Program} {w:World} {A:Around} {E:Value->Shared->Prop} {s:Shared}
end
end HT
namespace L3
open PySem PySem.Spec PyProof.Rows L2
end L3
namespace L3
open PySem PySem.Spec PyProof.Rows L2
section
variable {X:Cx}
end
end L3
namespace L3
open PySem PySem.Spec PyProof.Rows L2
def qcJ:Sp3:=fun _ _ _=>False
theorem V1 {P:Program} {w:World} {K:PySem.W.Frag} {mg:Str->Option Value} {base:Heap} {x qual:Str} {st:Stmt} {f:Addr} {fd:FuncData} {ps:List Str} (F:Fun K x qual st f fd) (bd:zn K fd ps []) (hm:mg x=some (.ref f)):Fn3 P w K mg base 0 x qcJ:=
 ⟨f,fd,ps,⟨fun vs H Q E ⟨_,_,_,_,_,h,_⟩=>h.elim,fun A outer s H args us vs Q E _ _ _ _ ⟨_,_,_,_,_,h,_⟩=>h.elim⟩,bd,F.kp,hm⟩
theorem ixR (p:Addr) (i:Int) (G:Gp) (q:Q3):ix3 (.ref p) (.int i) G q=(match getL G p with | some xs=>(match L2.atI xs i with | some z=>q z G | none=>False) | none=>False):=rfl
theorem NO {α:Type} {xs:List α} {i:Int} (h0:0<=i) (h1:i < (xs.length:Int)):L2.atI xs i=xs[i.toNat]?:=by
 unfold L2.atI ixN
 have e1:i.toNat < xs.length:=by omega
 simp [h0,e1,h1]
theorem KT:¬ Str.ofString "skew" = Str.ofString "bits" := by decide
theorem SB:¬ Str.ofString "skew" = Str.ofString "table" := by decide
theorem CK:¬ Str.ofString "skew" = Str.ofString "joined" := by decide
theorem SE:¬ Str.ofString "rests" = Str.ofString "skew" := by decide
theorem SD:¬ Str.ofString "rests" = Str.ofString "bits" := by decide
theorem C4:¬ Str.ofString "rests" = Str.ofString "table" := by decide
theorem WY:¬ Str.ofString "rests" = Str.ofString "joined" := by decide
theorem SU:¬ Str.ofString "table" = Str.ofString "bits" := by decide
theorem CN:¬ Str.ofString "joined" = Str.ofString "bits" := by decide
theorem X3:¬ Str.ofString "joined" = Str.ofString "table" := by decide
theorem LI:¬ Str.ofString "row" = Str.ofString "block" := by decide
theorem MX:¬ Str.ofString "row" = Str.ofString "step" := by decide
theorem LC:¬ Str.ofString "row" = Str.ofString "cells" := by decide
theorem X0:¬ Str.ofString "column" = Str.ofString "block" := by decide
theorem C2:¬ Str.ofString "column" = Str.ofString "step" := by decide
theorem XT:¬ Str.ofString "column" = Str.ofString "cells" := by decide
theorem CW:¬ Str.ofString "slant" = Str.ofString "block" := by decide
theorem SC:¬ Str.ofString "slant" = Str.ofString "step" := by decide
theorem CV:¬ Str.ofString "slant" = Str.ofString "cells" := by decide
theorem RZ:¬ Str.ofString "back" = Str.ofString "block" := by decide
theorem LF:¬ Str.ofString "back" = Str.ofString "step" := by decide
theorem SM:¬ Str.ofString "back" = Str.ofString "cells" := by decide
theorem UB:¬ Str.ofString "block" = Str.ofString "cells" := by decide
theorem EN:¬ Str.ofString "step" = Str.ofString "block" := by decide
theorem U5:¬ Str.ofString "step" = Str.ofString "cells" := by decide
theorem cm {i j:Int} (h1:-1000000 < j) (h2:j < 1000000):jP i j:=.inr ⟨by omega,by omega⟩
theorem qdH {stay:Gp->Prop} {g:TG3} {tif:TT3} {te:TE3} {q:Q3} (items:List T) (Pv:Nat->List T->St3->Gp->Prop) {τ:St3} {G:Gp} (h0:Pv 0 [] τ G) (hst:∀ i ys τ G,i<=items.length->Pv i ys τ G->stay G)
  (hs:∀ i x ys τ G (R:List T->St3->Gp->Prop),items[i]?=some x->Pv i ys τ G->(∀ ys' τ' G',Pv (i+1) ys' τ' G'->R ys' τ' G') ->
   g x τ G fun τ2 G2=>tif τ2 G2 fun k G3=>if k=true then te τ2 G3 fun y G4=>ys.length < sizeLine/\R (ys++[y]) τ2 G4 else R ys τ2 G3)
  (hd:∀ ys τ G,Pv items.length ys τ G->∀ p,G p=none->q (.ref p) (gu G p (.lst ys))):M4 stay g tif te q items [] τ G:=by
 have key:∀ (r:List T) (i:Nat) ys τ G,items.drop i=r->i<=items.length->Pv i ys τ G->M4 stay g tif te q r ys τ G:=by
  intro r
  induction r with
  | nil=>
   intro i ys τ G e hi p
   have:i=items.length:=by have:=congrArg List.length e;simp at this;omega
   subst this
   exact ⟨hst _ ys τ G hi p,hd ys τ G p⟩
  | cons x r ih=>
   intro i ys τ G e hi p
   have hl:i < items.length:=by
    apply Classical.byContradiction
    intro z
    rw [List.drop_eq_nil_of_le (by omega)] at e
    cases e
   have e':=List.drop_eq_getElem_cons hl
   rw [e] at e'
   injection e' with e1 e2
   exact ⟨hst i ys τ G hi p,hs i x ys τ G _ (by rw [List.getElem?_eq_getElem hl,e1]) p fun ys2 τ2 G2 p2=>ih (i+1) ys2 τ2 G2 e2.symm hl p2⟩
 exact key items 0 [] τ G (by simp) (Nat.zero_le _) h0
theorem qb0 {lo:Int} {n i:Nat} {x:T} (h:(qan lo n)[i]?=some x):i < n/\x=T.int (lo+(i:Int)):=by
 unfold qan at h
 rw [List.getElem?_map] at h
 cases e:(List.range n)[i]? with
 | none=>rw [e] at h;cases h
 | some k=>
  rw [e] at h
  obtain ⟨hi,hk⟩:=List.getElem?_eq_some_iff.mp e
  simp at hi hk
  subst hk
  exact ⟨hi,by simpa using h.symm⟩
theorem qg9 (lo:Int) (n:Nat):(qan lo n).length=n:=by simp [qan]
end L3
namespace Bk
open PySem L2 L3
def YD:TS3:=(za (QJ (CH (fun t=>j5 t "int") (v3 0)) (qcN (CH (fun t=>j5 t "bool") (v3 0)))))
def US (S_is_number:Sp3):TS3:=(za (QJ (CH (fun t=>j5 t "tuple") (v3 0)) (QJ (o3 (jM false) (cb3 DY (qc (v3 0) qj)) (c3 (.int 2))) (QJ (cb3 S_is_number (qc (o3 ix3 (v3 0) (c3 (.int 0))) qj)) (cb3 S_is_number (qc (o3 ix3 (v3 0) (c3 (.int 1))) qj))))))
def UU (S_size_of:Sp3):TS3:=(qS (zN (o3 ix3 (v3 0) (c3 (.int 0))) (gn3 1)) (qS (jt (tb3 (o3 (jM false) (v3 1) (c3 (.str "bits")))) (za (QU (qc (o3 (iC LN (fun i j=>i * 2 ^ j.toNat)) (c3 (.int 1)) (o3 ix3 (v3 0) (c3 (.int 1)))) (qc (o3 (iC LN (fun i j=>i * 2 ^ j.toNat)) (c3 (.int 1)) (o3 ix3 (v3 0) (c3 (.int 2)))) (qc (o3 (iC LN (fun i j=>i * 2 ^ j.toNat)) (c3 (.int 1)) (cb3 DY (qc (o3 ix3 (v3 0) (c3 (.int 3))) qj))) qj))))) qO) (qS (jt (tb3 (o3 (jM false) (v3 1) (c3 (.str "table")))) (za (QU (qc (cb3 DY (qc (o3 ix3 (v3 0) (c3 (.int 2))) qj)) (qc (cb3 DY (qc (o3 ix3 (o3 ix3 (v3 0) (c3 (.int 2))) (c3 (.int 0))) qj)) (qc (o3 ix3 (v3 0) (c3 (.int 1))) qj))))) qO) (qS (jt (tb3 (o3 (jM false) (v3 1) (c3 (.str "joined")))) (qS (zN (cb3 S_size_of (qc (o3 ix3 (v3 0) (c3 (.int 1))) qj)) (jr 3 (qr (gn3 2) (qr (gn3 3) (qr (gn3 4) jp))))) (qS (zN (cb3 S_size_of (qc (o3 ix3 (v3 0) (c3 (.int 2))) qj)) (jr 3 (qr (gn3 5) (qr (gn3 6) (qr (gn3 7) jp))))) (za (QU (qc (o3 (iC jP (· * ·)) (v3 2) (v3 5)) (qc (o3 (iC jP (· * ·)) (v3 3) (v3 6)) (qc (o3 (iC jP (· * ·)) (v3 4) (v3 7)) qj))))))) qO) (za (QU (qc (o3 ix3 (v3 0) (c3 (.int 1))) (qc (o3 ix3 (v3 0) (c3 (.int 2))) (qc (o3 ix3 (v3 0) (c3 (.int 3))) qj)))))))))
def J0 (S_size_of:Sp3):TS3:=(qS (zN (cb3 S_size_of (qc (v3 0) qj)) (jr 3 (qr (gn3 2) (qr (gn3 3) (qr (gn3 4) jp))))) (za (o3 jN (o3 (iC jP (· * ·)) (o3 ix3 (v3 1) (c3 (.int 0))) (v3 3)) (o3 ix3 (v3 1) (c3 (.int 1))))))
def UZ (S_is_pair:Sp3) (S_size_of:Sp3):TS3:=(qS (jt (K7 (tb3 (cb3 S_is_pair (qc (v3 1) qj)))) (za (c3 (.bl false))) qO) (qS (zN (cb3 S_size_of (qc (v3 0) qj)) (jr 3 (qr (gn3 2) (qr (gn3 3) (qr (gn3 4) jp))))) (za (QJ (ch3 (iB fun i j=>decide (i<=j)) (iB fun i j=>decide (i < j)) (c3 (.int 0)) (o3 ix3 (v3 1) (c3 (.int 0))) (v3 2)) (ch3 (iB fun i j=>decide (i<=j)) (iB fun i j=>decide (i < j)) (c3 (.int 0)) (o3 ix3 (v3 1) (c3 (.int 1))) (v3 3))))))
def EB (S_number_of:Sp3) (S_bits_bank:Sp3) (S_joined_bank:Sp3):TS3:=(qS (zN (o3 ix3 (v3 0) (c3 (.int 0))) (gn3 2)) (qS (jt (tb3 (o3 (jM false) (v3 2) (c3 (.str "skew")))) (za (o3 (iC (fun _ j=>0 < j) (· % ·)) (o3 jN (o3 (iC jP (· * ·)) (o3 ix3 (v3 0) (c3 (.int 4))) (o3 ix3 (v3 1) (c3 (.int 0)))) (o3 (iC jP (· * ·)) (o3 ix3 (v3 0) (c3 (.int 5))) (o3 ix3 (v3 1) (c3 (.int 1))))) (o3 ix3 (v3 0) (c3 (.int 3))))) qO) (qS (jt (tb3 (o3 (jM false) (v3 2) (c3 (.str "rests")))) (za (o3 (iC (fun _ j=>0 < j) (· % ·)) (cb3 S_number_of (qc (v3 0) (qc (v3 1) qj))) (o3 ix3 (v3 0) (c3 (.int 3))))) qO) (qS (jt (tb3 (o3 (jM false) (v3 2) (c3 (.str "bits")))) (za (cb3 S_bits_bank (qc (o3 ix3 (v3 0) (c3 (.int 3))) (qc (cb3 S_number_of (qc (v3 0) (qc (v3 1) qj))) qj)))) qO) (qS (jt (tb3 (o3 (jM false) (v3 2) (c3 (.str "table")))) (za (o3 ix3 (o3 ix3 (o3 ix3 (v3 0) (c3 (.int 2))) (o3 ix3 (v3 1) (c3 (.int 0)))) (o3 ix3 (v3 1) (c3 (.int 1))))) qO) (za (cb3 S_joined_bank (qc (o3 ix3 (v3 0) (c3 (.int 1))) (qc (o3 ix3 (v3 0) (c3 (.int 2))) (qc (v3 1) qj))))))))))
def U7:TS3:=(qS (zN (o3 (iC (fun _ j=>0 < j) (· % ·)) (o3 (iC jP (· * ·)) (o3 jN (o3 jN (o3 (iC (fun _ j=>0 < j) (· % ·)) (v3 0) (c3 (.int 2147483629))) (o3 (iC jP (· * ·)) (o3 (iC jP (· * ·)) (v3 1) (v3 1)) (c3 (.int 7919)))) (c3 (.int 11))) (c3 (.int 48271))) (c3 (.int 2147483647))) (gn3 2)) (za (o3 (iC (fun _ j=>0 < j) (· % ·)) (o3 (iC jP (· * ·)) (v3 2) (v3 2)) (c3 (.int 1999999973)))))
def VQ:TS3:=(qS (zN (if3 (tb3 (o3 (iB fun i j=>decide (i < j)) (v3 1) (cb3 DY (qc (v3 0) qj)))) (o3 ix3 (v3 0) (v3 1)) (c3 (.int 0))) (gn3 2)) (qS (zN (if3 (tb3 (o3 (iB fun i j=>decide (j<=i)) (cb3 qng (qc (v3 2) qj)) (o3 (iC LN (fun i j=>i ^ j.toNat)) (c3 (.int 10)) (c3 (.int 18))))) (cb3 qng (qc (v3 2) qj)) (c3 (.int 0))) (gn3 3)) (za (XS (qc (v3 3) (qc (o3 jN (v3 2) (o3 (iC jP (· * ·)) (c3 (.int 1000003)) (v3 1))) (qc (c3 (.int 0)) qj)))))))
def VT (S_law_mix:Sp3):TS3:=(qS (zN (o3 jN (o3 ix3 (v3 0) (c3 (.int 2))) (c3 (.int 1))) (TD (v3 0) (c3 (.int 2)))) (qS (jt (tb3 (o3 (iB fun i j=>decide (j < i)) (o3 ix3 (v3 0) (c3 (.int 0))) (c3 (.int 0)))) (qS (zN (o3 (iC (fun _ j=>0 < j) (· % ·)) (o3 ix3 (v3 0) (c3 (.int 0))) (v3 1)) (gn3 2)) (qS (zN (o3 (iC qaF (· / ·)) (o3 ix3 (v3 0) (c3 (.int 0))) (v3 1)) (TD (v3 0) (c3 (.int 0)))) (za (v3 2)))) qO) (za (o3 (iC (fun _ j=>0 < j) (· % ·)) (o3 (iC qaF (· / ·)) (cb3 S_law_mix (qc (cb3 S_law_mix (qc (o3 ix3 (v3 0) (c3 (.int 1))) (qc (o3 ix3 (v3 0) (c3 (.int 2))) qj))) (qc (o3 jN (o3 ix3 (v3 0) (c3 (.int 2))) (c3 (.int 64))) qj))) (c3 (.int 64))) (v3 1)))))
def DG (S_law_same:Sp3):TS3:=(qS (jt (tb3 (CH (fun t=>j5 t "list" || j5 t "tuple") (v3 1))) (qS (jt (or3 (tb3 (o3 (jM true) (CH (fun t=>j5 t "list") (v3 0)) (CH (fun t=>j5 t "list") (v3 1)))) (tb3 (o3 (jM true) (CH (fun t=>j5 t "tuple") (v3 0)) (CH (fun t=>j5 t "tuple") (v3 1))))) (za (c3 (.bl false))) qO) (za (QJ (o3 (jM false) (cb3 DY (qc (v3 0) qj)) (cb3 DY (qc (v3 1) qj))) (cb3 qbt (qc (lc3 (qal (qc (v3 0) (qc (v3 1) qj))) (jr 2 (qr (gn3 0) (qr (gn3 1) jp))) tt3 (cb3 S_law_same (qc (v3 0) (qc (v3 1) qj))) [none,none]) qj))))) qO) (qS (jt (or3 (tb3 (o3 (qah false) (v3 1) (c3 .non))) (tb3 (CH (fun t=>j5 t "str" || j5 t "bool") (v3 1)))) (za (QJ (o3 (jM false) (v3 0) (v3 1)) (QJ (o3 (jM false) (CH (fun t=>j5 t "bool") (v3 0)) (CH (fun t=>j5 t "bool") (v3 1))) (o3 (jM false) (o3 (qah false) (v3 0) (c3 .non)) (o3 (qah false) (v3 1) (c3 .non)))))) qO) (za (QJ (CH (fun t=>j5 t "int") (v3 0)) (QJ (qcN (CH (fun t=>j5 t "bool") (v3 0))) (o3 (jM false) (v3 0) (v3 1)))))))
end Bk
namespace Bk
open PySem L2 L3
inductive Dl where
 | skew (r c b x y:Int)
 | rests (r c b p:Int)
 | bits (h l:Nat) (ms:List Int)
 | table (b:Int) (cells:List (List Int))
 | joined (d e:Dl)
def Dl.R:Dl->Int
 | .skew r _ _ _ _=>r
 | .rests r _ _ _=>r
 | .bits h _ _=>2 ^ h
 | .table _ cells=>cells.length
 | .joined d e=>d.R * e.R
def Dl.C:Dl->Int
 | .skew _ c _ _ _=>c
 | .rests _ c _ _=>c
 | .bits _ l _=>2 ^ l
 | .table _ cells=>((cells[0]?).getD []).length
 | .joined d e=>d.C * e.C
def Dl.B:Dl->Int
 | .skew _ _ b _ _=>b
 | .rests _ _ b _=>b
 | .bits _ _ ms=>2 ^ ms.length
 | .table b _=>b
 | .joined d e=>d.B * e.B
def Dl.Ok:Dl->Prop
 | .skew r c b x y=>1<=r/\r<=60/\1<=c/\c<=60/\1<=b/\b<=1000/\0<=x/\x<=1000/\0<=y/\y<=1000
 | .rests r c b p=>1<=r/\r<=60/\1<=c/\c<=60/\1<=b/\b<=1000/\1<=p/\p<=100000/\Int.gcd b p=1/\r * c<=b * p
 | .bits h l ms=>h<=4/\l<=4/\ms.length<=5/\∀ m∈ms,0<=m/\m < 2 ^ (h+l)
 | .table b cells=>1<=b/\b<=1000/\1<=cells.length/\cells.length<=60/\∃ c,1<=c/\c<=60/\∀ row∈cells,row.length=c/\∀ x∈row,0<=x/\x < b
 | .joined d e=>d.Ok/\e.Ok/\d.R * e.R<=4096/\d.C * e.C<=4096/\d.B * e.B<=4096
def Dl.dep:Dl->Nat
 | .joined d e=>max d.dep e.dep+1
 | _=>0
theorem p2 (n:Nat):((2:Int) ^ n)=((2 ^ n:Nat):Int):=by simp
theorem qbN (n:Nat):(1:Int)<=2 ^ n:=by
 rw [p2];have:=Nat.one_le_two_pow (n:=n);omega
theorem qgw {n k:Nat} (h:n<=k):(2:Int) ^ n<=2 ^ k:=by
 rw [p2,p2];have:=Nat.pow_le_pow_right (n:=2) (by omega) h;omega
structure Lims (d:Dl):Prop where
 r1:1<=d.R
 r2:d.R<=4096
 c1:1<=d.C
 c2:d.C<=4096
 b1:1<=d.B
 b2:d.B<=4096
theorem E8 {a b:Int} (h1:1<=a) (h2:1<=b):1<=a * b:=by
 have:=Int.mul_le_mul (a:=1) (b:=1) (c:=a) (d:=b) h1 h2 (by omega) (by omega)
 omega
theorem Dl.lims:∀ {d:Dl},d.Ok->Lims d
 | .skew r c b x y,⟨h1,h2,h3,h4,h5,h6,_⟩=>⟨h1,by simp [Dl.R];omega,h3,by simp [Dl.C];omega,h5,by simp [Dl.B];omega⟩
 | .rests r c b x,⟨h1,h2,h3,h4,h5,h6,_⟩=>⟨h1,by simp [Dl.R];omega,h3,by simp [Dl.C];omega,h5,by simp [Dl.B];omega⟩
 | .bits h l ms,⟨h1,h2,h3,_⟩=>by
  have e1:=qgw h1;have e2:=qgw h2;have e3:=qgw h3
  refine ⟨qbN _,?_,qbN _,?_,qbN _,?_⟩ <;> simp [Dl.R,Dl.C,Dl.B] <;> omega
 | .table b cells,⟨h1,h2,h3,h4,c,h5,h6,h7⟩=>by
  have e0:cells[0]?=some cells[0]:=List.getElem?_eq_getElem (by omega)
  have e1:=(h7 cells[0] (List.getElem_mem _)).1
  have e2:(Dl.table b cells).C=c:=by simp [Dl.C,e0,e1]
  exact ⟨by simp [Dl.R];omega,by simp [Dl.R];omega,by rw [e2];omega,by rw [e2];omega,h1,by simp [Dl.B];omega⟩
 | .joined d e,⟨h1,h2,h3,h4,h5⟩=>by
  have a:=Dl.lims h1;have b:=Dl.lims h2
  exact ⟨E8 a.r1 b.r1,h3,E8 a.c1 b.c1,h4,E8 a.b1 b.b1,h5⟩
abbrev qiq (q:Q3):Ends3:={ nx:=fun _ G'=>q .non G',rt:=q }
theorem JW {A B:TS3} {d:Ends3} {τ:St3} {G:Gp} (h:∀ nx,nx=B d->A { d with nx:=nx } τ G):qS A B d τ G:=h _ rfl
end Bk
namespace Bk
open PySem L2 L3
end Bk
namespace Bk
open PySem L2 L3
def Lf (G:Gp) (a:Addr) (n:Int):Prop:=∃ o c m,G a=some (.lst [.int o,.int c,.int m])/\0<=o/\0<=m/\m<=n
def Ext (a:Addr) (G G':Gp):Prop:=∀ b o,b≠a->G b=some o->G' b=some o
theorem Lf.ne {G:Gp} {a p:Addr} {n:Int} (h:Lf G a n) (hp:G p=none):p≠a:=by
 rintro rfl
 obtain ⟨o,c,m,e,_⟩:=h
 rw [hp] at e;cases e
theorem Lf.new {G:Gp} {a p:Addr} {n:Int} {ob:O} (h:Lf G a n) (hp:p≠a):Lf (gu G p ob) a n:=by
 obtain ⟨o,c,m,e,r⟩:=h
 exact ⟨o,c,m,by rw [QP (Ne.symm hp)];exact e,r⟩
theorem Lf.mono {G:Gp} {a:Addr} {n k:Int} (h:Lf G a n) (hk:n<=k):Lf G a k:=by
 obtain ⟨o,c,m,e,h1,h2,h3⟩:=h
 exact ⟨o,c,m,e,h1,h2,by omega⟩
theorem Lf.ex {G G':Gp} {a:Addr} {n:Int} (h:Lf G a n) (e:Ex G G'):Lf G' a n:=by
 obtain ⟨o,c,m,e1,h1⟩:=h
 exact ⟨o,c,m,e _ _ e1,h1⟩
theorem Ext.refl {a:Addr} {G:Gp}:Ext a G G:=fun _ _ _ e=>e
theorem Ext.trans {a:Addr} {G G1 G2:Gp} (x:Ext a G G1) (y:Ext a G1 G2):Ext a G G2:=fun b o hb e=>y b o hb (x b o hb e)
theorem CA {a p:Addr} {G:Gp} {ob:O} (hp:G p=none):Ext a G (gu G p ob):=fun b o _ e=>by
 rw [QP (by rintro rfl;rw [hp] at e;cases e)];exact e
theorem RP {a:Addr} {G G':Gp} (h:Ex G G'):Ext a G G':=fun b o _ e=>h b o e
def RN:Sp3:=fun ts G q=>∃ c k,ts=[.int c,.int k]/\0<=k/\k < 4294967296/\∀ m,0<=m->m < 1999999973->q (.int m) G
def J1:Sp3:=fun ts G q=>∃ (a:Addr) (k:Int) (ns:List Int),ts=[.ref a,.int k]/\G a=some (.frz (ns.map T.int))/\ns.length<=63/\0<=k/\k<=63/\∀ p o c,G p=none->0<=o->q (.ref p) (gu G p (.lst [.int o,.int c,.int 0]))
def zw:Sp3:=fun ts G q=>∃ a n many,ts=[.ref a,.int many]/\1<=many/\many < 1073741824/\Lf G a n/\n < 1073741824/\∀ d G',0<=d->d < many->Lf G' a (n+1)->Ext a G G'->q (.int d) G'
theorem JI {a:Addr} {n many:Int} {G:Gp} {q:Q3} (hL:Lf G a n) (h1:1<=many) (h2:many < 1073741824) (hn:n < 1073741824) (h:∀ d G',0<=d->d < many->Lf G' a (n+1)->Ext a G G'->q (.int d) G'):zw [.ref a,.int many] G q:=⟨a,n,many,rfl,h1,h2,hL,hn,h⟩
theorem qaK:∀ ts G q,RN ts G q->ts.length=2/\U7 (qiq q) (qE ["_law_cell","_law_k","_law_m"] ts) G:=by
 rintro ts G q ⟨c,k,rfl,h1,h2,h⟩
 refine ⟨rfl,?_⟩
 simp only [U7,qS,zN,o3,v3,qE,List.map_cons,List.map_nil,List.length_cons,List.length_nil,Nat.zero_add,Nat.reduceAdd,Nat.reduceSub,List.replicate_one,List.cons_append,List.nil_append,Nat.zero_lt_succ,getElem?_pos,List.getElem_cons_zero,c3,iC,Int.reduceLT,Nat.reduceLT,List.getElem_cons_succ,jN,gn3,za,List.set_cons_succ,List.set_cons_zero,Nat.lt_add_one,true_and]
 exact ⟨.inl ⟨by omega,by omega⟩,cm (by omega) (by omega),cm (by omega) (by omega),.inl ⟨by omega,by omega⟩,h _ (Int.emod_nonneg _ (by omega)) (Int.emod_lt_of_pos _ (by omega))⟩
theorem cp:LN 10 18:=⟨by decide,by decide,by decide⟩
theorem ML:∀ ts G q,J1 ts G q->ts.length=2/\VQ (qiq q) (qE ["_law_script","_law_k","_law_cell","_law_own"] ts) G:=by
 rintro ts G q ⟨a,k,ns,rfl,hG,hl,h1,h2,h⟩
 refine ⟨rfl,?_⟩
 simp only [VQ,qS,zN,if3,tb3,o3,v3,qE,List.map_cons,List.map_nil,List.length_cons,List.length_nil,Nat.zero_add,Nat.reduceAdd,Nat.reduceSub,List.reduceReplicate,List.cons_append,List.nil_append,Nat.reduceLT,getElem?_pos,List.getElem_cons_succ,List.getElem_cons_zero,cb3,qc,Nat.zero_lt_succ,qj,DY,getL,hG,iB,List.length_map,decide_eq_true_eq,gn3,List.set_cons_succ,List.set_cons_zero,qng,c3,iC,Int.reduceToNat,Int.reducePow,za,XS,Nat.lt_add_one,jN,ne_eq,sizeLine_eq,Nat.reduceLeDiff,true_and,gu,ixR,atI,ixN,List.getElem?_map,Int.lt_irrefl,↓reduceIte,Int.reduceLE,decide_false,Bool.false_eq_true,Int.zero_add]
 have ck:jP 1000003 k:=cm (by omega) (by omega)
 by_cases hk:k < ns.length
 ·have hk':k.toNat < ns.length:=by omega
  simp [hk,h1,hk',cp,ck]
  split
  ·split
   ·exact fun p hp=>h p (-ns[k.toNat]) _ hp (by omega)
   ·exact fun p hp=>h p 0 _ hp (by omega)
  ·split
   ·exact fun p hp=>h p ns[k.toNat] _ hp (by omega)
   ·exact fun p hp=>h p 0 _ hp (by omega)
 ·simp [hk,cp,ck]
  exact fun p hp=>h p 0 _ hp (by omega)
theorem MB:∀ ts G q,zw ts G q->ts.length=2/\VT RN (qiq q) (qE ["_law_left_here","_law_many","_law_digit"] ts) G:=by
 rintro ts G q ⟨a,n,many,rfl,m1,m2,⟨o,c,m,hG,ho,hm,hn⟩,h3,h⟩
 refine ⟨rfl,?_⟩
 unfold VT
 refine JW fun nx1 q1=>?_
 simp only [zN,o3,v3,qE,List.map_cons,List.map_nil,List.length_cons,List.length_nil,Nat.zero_add,Nat.reduceAdd,Nat.reduceSub,List.replicate_one,List.cons_append,List.nil_append,Nat.zero_lt_succ,getElem?_pos,List.getElem_cons_zero,c3,jN,ne_eq,sizeLine_eq,TD,qib,ixN,Int.zero_le_ofNat,↓reduceIte,Int.reduceToNat,tb3,iB,decide_eq_true_eq,Nat.reduceLT,List.getElem_cons_succ,iC,gn3,List.set_cons_succ,List.set_cons_zero,Std.le_refl,Int.natCast_pos,Int.toNat_zero,za,Nat.lt_add_one,ixR,getL,atI,qO,cb3,qc,qj,Int.toNat_one,List.length_set,hG,Int.cast_ofNat_Int,Int.reduceLT,Option.bind_some,qT]
 rw [q1]
 clear q1
 refine JW fun nx2 q2=>?_
 simp only [jt,zN,o3,v3,qE,List.map_cons,List.map_nil,List.length_cons,List.length_nil,Nat.zero_add,Nat.reduceAdd,Nat.reduceSub,List.replicate_one,List.cons_append,List.nil_append,Nat.zero_lt_succ,getElem?_pos,List.getElem_cons_zero,c3,jN,ne_eq,sizeLine_eq,TD,qib,ixN,Int.zero_le_ofNat,↓reduceIte,Int.reduceToNat,tb3,iB,decide_eq_true_eq,Nat.reduceLT,List.getElem_cons_succ,iC,gn3,List.set_cons_succ,List.set_cons_zero,Std.le_refl,Int.natCast_pos,Int.toNat_zero,za,Nat.lt_add_one,ixR,getL,atI,qO,cb3,qc,qj,Int.toNat_one,List.length_set,hG,Int.cast_ofNat_Int,Int.reduceLT,Option.bind_some,qT]
 split
 ·simp only [qS,zN,o3,v3,List.length_cons,List.length_nil,Nat.zero_add,Nat.reduceAdd,Nat.zero_lt_succ,getElem?_pos,List.getElem_cons_zero,c3,Nat.reduceLT,List.getElem_cons_succ,iC,gn3,List.set_cons_succ,List.set_cons_zero,TD,qib,ixN,Std.le_refl,↓reduceIte,Int.natCast_pos,Int.toNat_zero,za,Nat.lt_add_one,ixR,getL,atI,qT,Int.cast_ofNat_Int,Int.reduceLT,Option.bind_some]
  refine ⟨by omega,⟨by omega,m2⟩,h _ _ (Int.emod_nonneg _ (by omega)) (Int.emod_lt_of_pos _ (by omega)) ⟨o / many,c,m+1,qT,Int.ediv_nonneg ho (by omega),by omega,by omega⟩ fun b ob hb e=>?_⟩
  rw [QP hb,QP hb];exact e
 ·rw [q2]
  clear q2
  simp only [zN,o3,v3,qE,List.map_cons,List.map_nil,List.length_cons,List.length_nil,Nat.zero_add,Nat.reduceAdd,Nat.reduceSub,List.replicate_one,List.cons_append,List.nil_append,Nat.zero_lt_succ,getElem?_pos,List.getElem_cons_zero,c3,jN,ne_eq,sizeLine_eq,TD,qib,ixN,Int.zero_le_ofNat,↓reduceIte,Int.reduceToNat,tb3,iB,decide_eq_true_eq,Nat.reduceLT,List.getElem_cons_succ,iC,gn3,List.set_cons_succ,List.set_cons_zero,Std.le_refl,Int.natCast_pos,Int.toNat_zero,za,Nat.lt_add_one,ixR,getL,atI,qO,cb3,qc,qj,Int.toNat_one,List.length_set,hG,Int.cast_ofNat_Int,Int.reduceLT,Option.bind_some,qT]
  refine ⟨c,m+1,rfl,by omega,by omega,fun u u1 u2=>?_⟩
  simp only [zN,o3,v3,qE,List.map_cons,List.map_nil,List.length_cons,List.length_nil,Nat.zero_add,Nat.reduceAdd,Nat.reduceSub,List.replicate_one,List.cons_append,List.nil_append,Nat.zero_lt_succ,getElem?_pos,List.getElem_cons_zero,c3,jN,ne_eq,sizeLine_eq,TD,qib,ixN,Int.zero_le_ofNat,↓reduceIte,Int.reduceToNat,tb3,iB,decide_eq_true_eq,Nat.reduceLT,List.getElem_cons_succ,iC,gn3,List.set_cons_succ,List.set_cons_zero,Std.le_refl,Int.natCast_pos,Int.toNat_zero,za,Nat.lt_add_one,ixR,getL,atI,qO,cb3,qc,qj,Int.toNat_one,List.length_set,hG,Int.cast_ofNat_Int,Int.reduceLT,Option.bind_some,qT]
  refine ⟨u,m+1+64,rfl,by omega,by omega,fun v v1 v2=>?_⟩
  refine ⟨⟨by omega,by omega⟩,by omega,h _ _ (Int.emod_nonneg _ (by omega)) (Int.emod_lt_of_pos _ (by omega)) ⟨o,c,m+1,qT,ho,by omega,by omega⟩ fun b ob hb e=>?_⟩
  rw [QP hb];exact e
end Bk
namespace Bk
open PySem L2 L3
def UM:Nat->PyData->Prop
 | _,.none=>True
 | _,.bool _=>True
 | _,.int _=>True
 | _,.str _=>True
 | n+1,.list ds=>ds.length<=1000000/\∀ d∈ds,UM n d
 | n+1,.tuple ds=>ds.length<=1000000/\∀ d∈ds,UM n d
 | _,_=>False
def zV:Nat->Sp3
 | 0=>qcJ
 | n+1=>fun ts G q=>∃ (x y:T) (d:PyData),ts=[x,y]/\Dp G x d/\Dp G y d/\UM n d/\∀ G',Ex G G'->q (.bl true) G'
theorem NR {G G':Gp} (e:Ex G G') {x:T} {us:List T} (h:jK G x=some us):jK G' x=some us:=by
 cases x <;> simp [jK] at h ⊢
 ·exact h
 ·exact e.getL h
theorem qd6 (n:Nat):qeQ (List.replicate n (.bl true))=some true:=by
 induction n with
 | zero=>rfl
 | succ n ih=>rw [List.replicate_succ];simp [qeQ,ih]
theorem NE {G:Gp} {n:Nat} {x y:T} {us vs:List T} {ds:List PyData} {q:Q3} (hx:jK G x=some us) (hy:jK G y=some vs) (du:Dps G us ds) (dv:Dps G vs ds) (hl:us.length<=1000000) (hd:∀ d∈ds,∃ m,n=m+1/\UM m d) (h:∀ G',Ex G G'->q (.bl true) G') :
  M4 (fun G=>jK G x=some us/\jK G y=some vs) (jr 2 (qr (gn3 0) (qr (gn3 1) jp))) tt3 (cb3 (zV n) (qc (v3 0) (qc (v3 1) qj))) (fun x G1=>qbt [x] G1 q) (qcW us vs) [] [none,none] G:=by
 have e1:=du.length
 have e2:=dv.length
 refine qdH _ (fun i ys τ G'=>Ex G G'/\ys=List.replicate i (.bl true)/\∃ x0 x1,τ=[x0,x1]) ⟨Ex.refl,rfl,none,none,rfl⟩ (fun i ys τ G' _ hp=>⟨NR hp.1 hx,NR hp.1 hy⟩) ?_ ?_
 ·rintro i z ys τ G' R hz ⟨E,rfl,x0,x1,rfl⟩ hR
  obtain ⟨a,b,ha,hb,rfl⟩:=SG hz
  obtain ⟨d,hd1,da⟩:=du.get ha
  obtain ⟨d',hd2,db⟩:=dv.get hb
  rw [hd1] at hd2;cases hd2
  obtain ⟨m,rfl,dl⟩:=hd d (List.mem_of_getElem? hd1)
  have hi:=(List.getElem?_eq_some_iff.mp ha).1
  simp only [jr,List.length_cons,List.length_nil,Nat.zero_add,Nat.reduceAdd,qr,gn3,jp,tt3,↓reduceIte,cb3,qc,v3,List.set_cons_zero,List.set_cons_succ,Nat.zero_lt_succ,getElem?_pos,List.getElem_cons_zero,Nat.lt_add_one,List.getElem_cons_succ,qj,List.length_replicate,sizeLine_eq,true_and]
  refine ⟨a,b,d,rfl,da.up E,db.up E,dl,fun G2 E2=>⟨by omega,hR _ _ _ ⟨E.trans E2,?_,_,_,rfl⟩⟩⟩
  rw [List.replicate_succ']
 ·rintro ys τ G' ⟨E,rfl,x0,x1,rfl⟩ p hp
  simp [qbt,getL,qT,qd6]
  exact h _ (E.trans (VB hp))
theorem qdK {n:Nat} {ds:List PyData} (h:UM n (.list ds)):ds.length<=1000000/\∀ d∈ds,∃ m,n=m+1/\UM m d:=by
 cases n with
 | zero=>exact h.elim
 | succ n=>exact ⟨h.1,fun d hd=>⟨n,rfl,h.2 d hd⟩⟩
theorem qbw {n:Nat} {ds:List PyData} (h:UM n (.tuple ds)):ds.length<=1000000/\∀ d∈ds,∃ m,n=m+1/\UM m d:=by
 cases n with
 | zero=>exact h.elim
 | succ n=>exact ⟨h.1,fun d hd=>⟨n,rfl,h.2 d hd⟩⟩
theorem qi2 {x:T} {G:Gp} {q:Q3} (h:YQ x x=some true) (k:q (.bl true) G):jM false x x G q:=by
 unfold jM;rw [h];exact k
theorem qbO {ta tb:TE3} {e:Ends3} {τ:St3} {G:Gp} {x:T} (h:∀ q',q' x G->ta τ G q') (k:x=.bl true) (h2:tb τ G e.rt):za (QJ ta tb) e τ G:=h _ (by subst k;exact h2)
theorem qp8 {ta tb:TE3} {τ:St3} {G:Gp} {x:T} (ha:∀ q',q' x G->ta τ G q') (hb:∀ q',q' x G->tb τ G q') (h:YQ x x=some true):∀ q',q' (.bl true) G->o3 (jM false) ta tb τ G q':=fun q' k=>ha _ (hb _ (qi2 h k))
theorem qaG {c:TT3} {a b:TS3} {e:Ends3} {τ:St3} {G:Gp} (h:∀ A,A=a->jt c A b e τ G):jt c a b e τ G:=h _ rfl
theorem ZG (n:Nat):∀ ts G q,zV (n+1) ts G q->ts.length=2/\DG (zV n) (qiq q) (qE ["_law_found","_law_due"] ts) G:=by
 rintro ts G q ⟨x,y,d,rfl,hx,hy,hd,h⟩
 refine ⟨rfl,?_⟩
 have h0:=h G Ex.refl
 cases hx with
 | non=>cases hy;exact h0
 | bl b=>cases hy;cases b <;> exact h0
 | int i=>cases hy;exact qi2 (x:=.int i) (by simp [YQ]) h0
 | str s=>
  cases hy
  refine JW fun nx1 q1=>?_
  refine qaG fun A1 hA=>?_
  clear hA
  show nx1 _ _
  rw [q1];clear q1
  refine JW fun nx2 q2=>?_
  refine qaG fun A2 hA=>?_
  show A2 _ _ _
  rw [hA]
  exact qbO (qp8 (x:=.str s) (fun _ k=>k) (fun _ k=>k) (by simp [YQ])) rfl h0
 | tup dx=>
  cases hy with
  | tup dy=>
   rename_i xs ds ys
   have e1:=dx.length
   have e2:=dy.length
   obtain ⟨l1,l2⟩:=qbw hd
   have key:=NE (n:=n) (x:=.tup xs) (y:=.tup ys) (us:=xs) (vs:=ys) (q:=q) rfl rfl dx dy (by omega) l2 h
   have e3:xs.length=ys.length:=by omega
   refine JW fun nx1 q1=>?_
   clear q1
   refine qaG fun A1 hA=>?_
   show A1 _ _ _
   rw [hA];clear hA
   refine JW fun nx2 q2=>?_
   refine qaG fun A2 hA=>?_
   show nx2 _ _
   rw [q2];clear q2
   exact qbO (qp8 (x:=.int ys.length) (fun _ k=>by rw [← e3] at k;exact k) (fun _ k=>k) (by simp [YQ])) rfl key
 | lst gx dx=>
  cases hy with
  | lst gy dy=>
   rename_i p1 xs ds p2 ys
   have e1:=dx.length
   have e2:=dy.length
   obtain ⟨l1,l2⟩:=qdK hd
   have key:=NE (n:=n) (x:=.ref p1) (y:=.ref p2) (us:=xs) (vs:=ys) (q:=q) gx gy dx dy (by omega) l2 h
   have e3:xs.length=ys.length:=by omega
   refine JW fun nx1 q1=>?_
   clear q1
   refine qaG fun A1 hA=>?_
   simp only [jt,tb3,CH,v3,qE,List.map_cons,List.map_nil,List.length_cons,List.length_nil,Nat.zero_add,Nat.reduceAdd,Nat.sub_self,List.replicate_zero,List.append_nil,Nat.lt_add_one,getElem?_pos,List.getElem_cons_succ,List.getElem_cons_zero,tyT,gx,gy,Option.isSome_some,↓reduceIte,j5,BEq.rfl,String.reduceBEq,Bool.and_self,Bool.or_false,Bool.or_self,or3,o3,Nat.zero_lt_succ,jM,YQ,decide_true,Bool.not_true,Bool.false_eq_true,qO]
   rw [hA];clear hA
   refine JW fun nx2 q2=>?_
   refine qaG fun A2 hA=>?_
   clear hA
   simp only [jt,tb3,CH,v3,qE,List.map_cons,List.map_nil,List.length_cons,List.length_nil,Nat.zero_add,Nat.reduceAdd,Nat.sub_self,List.replicate_zero,List.append_nil,Nat.lt_add_one,getElem?_pos,List.getElem_cons_succ,List.getElem_cons_zero,tyT,gx,gy,Option.isSome_some,↓reduceIte,j5,BEq.rfl,String.reduceBEq,Bool.and_self,Bool.or_false,Bool.or_self,or3,o3,Nat.zero_lt_succ,jM,YQ,decide_true,Bool.not_true,Bool.false_eq_true,qO]
   rw [q2];clear q2
   simp only [jK,qbt,qE,List.map_cons,List.map_nil,List.length_cons,List.length_nil,Nat.zero_add,Nat.reduceAdd,Nat.sub_self,List.replicate_zero,List.append_nil,Nat.lt_add_one,getElem?_pos,List.getElem_cons_succ,List.getElem_cons_zero,gy,↓reduceIte,o3,v3,Nat.zero_lt_succ,gx,jM,YQ,decide_true,Bool.false_eq_true,za,QJ,cb3,qc,qj,DY,e3,lc3,qal,cap] at key ⊢
   exact key
end Bk
namespace Bk
open PySem L2 L3
theorem qoF {α:Type} {x:α} {xs:List α}:L2.atI (x :: xs) 0=some x:=by simp [L2.atI,ixN]
theorem qoq {α:Type} {x y:α} {xs:List α}:L2.atI (x :: y :: xs) 1=some y:=by
 rw [NO (by omega) (by simp;omega)];rfl
end Bk
namespace Bk
open PySem L2 L3
end Bk
namespace Bk
open PySem L2 L3
end Bk
namespace Bk
open PySem L2 L3
end Bk
namespace Bk
open PySem L2 L3
theorem _root_.L3.Dps.append {G:Gp}:∀ {xs ys:List T} {ds es:List PyData},Dps G xs ds->Dps G ys es->Dps G (xs++ys) (ds++es)
 | _,_,_,_,.nil,b=>b
 | _,_,_,_,.cons a t,b=>.cons a (L3.Dps.append t b)
theorem _root_.L3.Dps.take {G:Gp}:∀ {xs:List T} {ds:List PyData} (i:Nat),Dps G xs ds->Dps G (xs.take i) (ds.take i)
 | _,_,0,_=>.nil
 | _,_,_+1,.nil=>.nil
 | _,_,i+1,.cons a t=>.cons a (L3.Dps.take i t)
theorem _root_.L3.Dps.drop {G:Gp}:∀ {xs:List T} {ds:List PyData} (i:Nat),Dps G xs ds->Dps G (xs.drop i) (ds.drop i)
 | _,_,0,h=>h
 | _,_,_+1,.nil=>.nil
 | _,_,i+1,.cons a t=>L3.Dps.drop i t
end Bk
namespace Bk
open PySem L2 L3
end Bk
namespace Bk
open PySem L2 L3
def WT:TS3:=(za (lc3 (jJ (qc (v3 2) qj)) (gn3 0) tt3 (QU (qc (o3 (iC jP (· * ·)) (v3 0) (v3 1)) (qc (o3 (iC jP (· * ·)) (v3 0) (v3 2)) qj))) [none,some 0,some 1]))
def V6 (S_strung:Sp3):TS3:=(qS (zN (o3 ix3 (v3 0) (c3 (.int 0))) (gn3 1)) (qS (jt (tb3 (o3 (jM false) (v3 1) (c3 (.str "cells")))) (za (cb3 N4 (qc (o3 ix3 (v3 0) (c3 (.int 1))) qj))) qO) (qS (jt (tb3 (o3 (jM false) (v3 1) (c3 (.str "block")))) (za (qis (jJ (qc (o3 ix3 (v3 0) (c3 (.int 1))) qj)) (gn3 0) tt3 (jJ (qc (o3 ix3 (v3 2) (c3 (.int 2))) qj)) (gn3 1) tt3 (QU (qc (v3 0) (qc (v3 1) qj))) [none,none,some 0])) qO) (qS (jt (tb3 (o3 (jM false) (v3 1) (c3 (.str "step")))) (za (cb3 S_strung (qc (o3 ix3 (v3 0) (c3 (.int 1))) (qc (o3 ix3 (v3 0) (c3 (.int 2))) (qc (o3 ix3 (v3 0) (c3 (.int 3))) qj))))) qO) (qS (zN (qc9 EQ (v3 1)) (jr 2 (qr (gn3 2) (qr (gn3 3) jp)))) (za (cb3 S_strung (qc (v3 2) (qc (v3 3) (qc (o3 ix3 (v3 0) (c3 (.int 1))) qj))))))))))
def WJ (S_size_of:Sp3) (S_cells_of:Sp3):TS3:=(qS (zN (cb3 S_size_of (qc (v3 0) qj)) (jr 3 (qr (gn3 2) (qr (gn3 3) (qr (gn3 4) jp))))) (qS (zN (cb3 S_cells_of (qc (v3 1) qj)) (gn3 5)) (qS (zN (lc3 (JV (v3 5)) (jr 2 (qr (gn3 0) (qr (gn3 1) jp))) tt3 (v3 0) [none,none]) (gn3 6)) (qS (zN (lc3 (JV (v3 5)) (jr 2 (qr (gn3 0) (qr (gn3 1) jp))) tt3 (v3 1) [none,none]) (gn3 7)) (za (qis (jJ (qc (u3 qcY (cb3 CO (qc (v3 6) qj))) (qc (o3 (iI (· - ·)) (v3 2) (cb3 KI (qc (v3 6) qj))) qj))) (gn3 0) tt3 (jJ (qc (u3 qcY (cb3 CO (qc (v3 3) qj))) (qc (o3 (iI (· - ·)) (v3 2) (cb3 KI (qc (v3 3) qj))) qj))) (gn3 1) tt3 (QU (qc (v3 0) (qc (v3 1) qj))) [none,none,some 3,some 7]))))))
def V2 (S_law_pick:Sp3):TS3:=(za (o3 jN (c3 (.int 1)) (cb3 S_law_pick (qc (v3 0) (qc (o3 ix3 (XS (qc (c3 (.int 5)) (qc (c3 (.int 5)) (qc (c3 (.int 5)) (qc (c3 (.int 5)) (qc (c3 (.int 5)) (qc (c3 (.int 5)) (qc (c3 (.int 8)) (qc (c3 (.int 16)) qj))))))))) (cb3 S_law_pick (qc (v3 0) (qc (c3 (.int 8)) qj)))) qj)))))
def VN (S_law_pick:Sp3) (S_law_many:Sp3):TS3:=(qS (zN (cb3 S_law_pick (qc (v3 0) (qc (c3 (.int 9)) qj))) (gn3 1)) (qS (jt (tb3 (o3 (iB fun i j=>decide (i < j)) (v3 1) (c3 (.int 4)))) (za (QU (qc (o3 ix3 (XS (qc (c3 (.str "row")) (qc (c3 (.str "column")) (qc (c3 (.str "slant")) (qc (c3 (.str "back")) qj))))) (v3 1)) (qc (cb3 S_law_many (qc (v3 0) qj)) qj)))) qO) (qS (jt (tb3 (o3 (iB fun i j=>decide (i < j)) (v3 1) (c3 (.int 6)))) (qS (qc3 2 3 (qc (cb3 S_law_pick (qc (v3 0) (qc (c3 (.int 2)) qj))) (qc (o3 jN (c3 (.int 1)) (cb3 S_law_pick (qc (v3 0) (qc (c3 (.int 4)) qj)))) qj))) (qS (zN (o3 jN (c3 (.int 1)) (cb3 S_law_pick (qc (v3 0) (qc (o3 (iC qaF (· / ·)) (c3 (.int 16)) (v3 3)) qj)))) (gn3 4)) (za (o3 ix3 (XS (qc (QU (qc (c3 (.str "block")) (qc (v3 3) (qc (v3 4) qj)))) (qc (QU (qc (c3 (.str "block")) (qc (v3 4) (qc (v3 3) qj)))) qj))) (v3 2))))) qO) (qS (jt (tb3 (o3 (iB fun i j=>decide (i < j)) (v3 1) (c3 (.int 8)))) (qS (qc3 5 6 (qc (o3 (iI (· - ·)) (cb3 S_law_pick (qc (v3 0) (qc (c3 (.int 7)) qj))) (c3 (.int 3))) (qc (o3 (iI (· - ·)) (cb3 S_law_pick (qc (v3 0) (qc (c3 (.int 9)) qj))) (c3 (.int 4))) qj))) (qS (jt (tb3 (o3 (jM false) (cb3 S_law_pick (qc (v3 0) (qc (c3 (.int 6)) qj))) (c3 (.int 0)))) (za (QU (qc (c3 (.str "step")) (qc (o3 (iC jP (· * ·)) (c3 (.int 5)) (v3 5)) (qc (o3 jN (o3 (iC jP (· * ·)) (c3 (.int 3)) (v3 6)) (cb3 qc0 (qc (QJ (o3 (jM false) (v3 5) (c3 (.int 0))) (o3 (jM false) (v3 6) (c3 (.int 0)))) qj))) (qc (o3 jN (c3 (.int 1)) (cb3 S_law_pick (qc (v3 0) (qc (c3 (.int 4)) qj)))) qj)))))) qO) (za (QU (qc (c3 (.str "step")) (qc (v3 5) (qc (o3 jN (v3 6) (cb3 qc0 (qc (QJ (o3 (jM false) (v3 5) (c3 (.int 0))) (o3 (jM false) (v3 6) (c3 (.int 0)))) qj))) (qc (cb3 S_law_many (qc (v3 0) qj)) qj)))))))) qO) (qS (qc3 7 8 (qc (XS qj) (qc (o3 jN (c3 (.int 1)) (o3 (iC jP (· * ·)) (c3 (.int 4)) (cb3 qc0 (qc (o3 (jM false) (cb3 S_law_pick (qc (v3 0) (qc (c3 (.int 5)) qj))) (c3 (.int 0))) qj)))) qj))) (qS (CT (jJ (qc (cb3 S_law_many (qc (v3 0) qj)) qj)) (gn3 9) (qS (zN (QU (qc (o3 (iC jP (· * ·)) (v3 8) (o3 (iI (· - ·)) (cb3 S_law_pick (qc (v3 0) (qc (c3 (.int 6)) qj))) (c3 (.int 2)))) (qc (o3 (iC jP (· * ·)) (v3 8) (o3 (iI (· - ·)) (cb3 S_law_pick (qc (v3 0) (qc (c3 (.int 6)) qj))) (c3 (.int 2)))) qj))) (gn3 10)) (jt (tb3 (o3 (qqs true) (v3 10) (v3 7))) (XV (bm3 qcV (v3 7) (qc (v3 10) qj))) qO))) (za (QU (qc (c3 (.str "cells")) (qc (cb3 X6 (qc (v3 7) qj)) qj))))))))))
def JZ:TS3:=(qS (jt (tb3 (o3 (jM false) (o3 ix3 (v3 0) (c3 (.int 0))) (c3 (.str "cells")))) (za (cb3 N4 (qc (o3 ix3 (v3 0) (c3 (.int 1))) qj))) qO) (qS (jt (tb3 (o3 (jM false) (o3 ix3 (v3 0) (c3 (.int 0))) (c3 (.str "block")))) (qS (zN (XS qj) (gn3 1)) (qS (CT (jJ (qc (o3 ix3 (v3 0) (c3 (.int 1))) qj)) (gn3 2) (XV (bm3 qgD (v3 1) (qc (lc3 (jJ (qc (o3 ix3 (v3 0) (c3 (.int 2))) qj)) (gn3 0) tt3 (QU (qc (v3 1) (qc (v3 0) qj))) [none,some 2]) qj)))) (za (v3 1)))) qO) (qS (zN (qie ["row","column","slant","back","step"] (qc (QU (qc (c3 (.int 0)) (qc (c3 (.int 1)) qj))) (qc (QU (qc (c3 (.int 1)) (qc (c3 (.int 0)) qj))) (qc (QU (qc (c3 (.int 1)) (qc (c3 (.int 1)) qj))) (qc (QU (qc (c3 (.int 1)) (qc (u3 qcY (c3 (.int 1))) qj))) (qc (qiw (v3 0) (sp3 (c3 (.int 1))) (sp3 (c3 (.int 3)))) qj))))) (o3 ix3 (v3 0) (c3 (.int 0)))) (jr 2 (qr (gn3 3) (qr (gn3 4) jp)))) (za (lc3 (jJ (qc (o3 ix3 (v3 0) (u3 qcY (c3 (.int 1)))) qj)) (gn3 0) tt3 (QU (qc (o3 (iC jP (· * ·)) (v3 0) (v3 1)) (qc (o3 (iC jP (· * ·)) (v3 0) (v3 2)) qj))) [none,some 3,some 4])))))
def QZ:TS3:=(qS (CT (jJ (qc (cb3 DY (qc (v3 0) qj)) qj)) (gn3 1) (CT (jJ (qc (o3 jN (v3 1) (c3 (.int 1))) (qc (cb3 DY (qc (v3 0) qj)) qj))) (gn3 2) (jt (tb3 (o3 (jM false) (o3 ix3 (v3 0) (v3 1)) (o3 ix3 (v3 0) (v3 2)))) (za (QU (qc (v3 1) (qc (v3 2) qj)))) qO))) (za (c3 .non)))
def ED (S_cells_of:Sp3):TS3:=(za (lc3 (JV (cb3 S_cells_of (qc (v3 0) qj))) (jr 2 (qr (gn3 0) (qr (gn3 1) jp))) tt3 (QU (qc (o3 jN (o3 ix3 (v3 2) (c3 (.int 0))) (v3 0)) (qc (o3 jN (o3 ix3 (v3 2) (c3 (.int 1))) (v3 1)) qj))) [none,none,some 1]))
def VU (S_shifted:Sp3) (S_is_word:Sp3) (S_is_pair:Sp3):TS3:=(za (QJ (cb3 S_is_pair (qc (v3 2) qj)) (cb3 qbt (qc (lc3 (JV (cb3 S_shifted (qc (v3 1) (qc (v3 2) qj)))) (gn3 0) tt3 (cb3 S_is_word (qc (v3 1) (qc (v3 0) qj))) [none,some 0]) qj))))
def VW (S_is_start:Sp3) (S_shifted:Sp3):TS3:=(qS (jt (K7 (tb3 (cb3 S_is_start (qc (v3 0) (qc (v3 1) (qc (v3 2) qj)))))) qnL qO) (za (cb3 S_shifted (qc (v3 1) (qc (v3 2) qj)))))
def ZZ (S_words_of:Sp3) (S_bank_in:Sp3):TS3:=(za (lc3 (JV (cb3 S_words_of (qc (v3 0) (qc (v3 1) (qc (v3 2) qj))))) (gn3 0) tt3 (cb3 S_bank_in (qc (v3 1) (qc (v3 0) qj))) [none,some 0]))
def TH (S_starts:Sp3) (S_banks_from:Sp3) (S_first_alike:Sp3):TS3:=(qS (CT (JV (cb3 S_starts (qc (v3 0) (qc (v3 1) qj)))) (gn3 2) (qS (zN (cb3 S_first_alike (qc (cb3 S_banks_from (qc (v3 0) (qc (v3 1) (qc (v3 2) qj)))) qj)) (gn3 3)) (jt (tb3 (o3 (qah true) (v3 3) (c3 .non))) (za (QU (qc (v3 2) (qc (o3 ix3 (v3 3) (c3 (.int 0))) (qc (o3 ix3 (v3 3) (c3 (.int 1))) qj))))) qO))) (za (c3 .non)))
theorem YF {G:Gp} {p:Addr} {xs:List T} (h:G p=some (.lst xs)):getL G p=some xs:=by unfold getL;rw [h]
theorem qhl {xs:List T} {d:Int} (h0:0<=d) (h1:d < (xs.length:Int)):∃ z,L2.atI xs d=some z/\z∈xs:=by
 rw [NO h0 h1]
 have:d.toNat < xs.length:=by omega
 exact ⟨xs[d.toNat],List.getElem?_eq_getElem this,List.getElem_mem this⟩
inductive Wk where
 | line (k m:Nat)
 | block (h w:Nat)
 | step (d a:Int) (m:Nat)
 | cells (ps:List (Int×Int))
def jy:Nat->Str
 | 0=>"row" | 1=>"column" | 2=>"slant" | _=>"back"
def lnD:Nat->Int
 | 0=>0 | _=>1
def lnA:Nat->Int
 | 0=>1 | 1=>0 | 2=>1 | _=>-1
def pT (p:Int×Int):T:=.tup [.int p.1,.int p.2]
def Wk.t:Wk->T
 | .line k m=>.tup [.str (jy k),.int m]
 | .block h w=>.tup [.str "block",.int h,.int w]
 | .step d a m=>.tup [.str "step",.int d,.int a,.int m]
 | .cells ps=>.tup [.str "cells",.tup (ps.map pT)]
def zS (d a:Int) (m:Nat):List (Int×Int):=(List.range m).map fun (t:Nat)=>((t:Int) * d,(t:Int) * a)
def zi (h w:Nat):List (Int×Int):=(List.range h).flatMap fun (p:Nat)=>(List.range w).map fun (q:Nat)=>((p:Int),(q:Int))
def Wk.pc:Wk->List (Int×Int)
 | .line k m=>zS (lnD k) (lnA k) m
 | .block h w=>zi h w
 | .step d a m=>zS d a m
 | .cells ps=>ps
def Wk.Ok:Wk->Prop
 | .line k m=>k < 4/\1<=m/\m<=16
 | .block h w=>1<=h/\1<=w/\h<=16/\w<=16/\h * w<=16
 | .step d a m=>(-16<=d/\d<=16)/\(-16<=a/\a<=16)/\1<=m/\m<=16
 | .cells ps=>1<=ps.length/\ps.length<=16/\ps.Nodup/\∀ p∈ps,(-16<=p.1/\p.1<=16)/\(-16<=p.2/\p.2<=16)
theorem DF (h w:Nat):zi (h+1) w=zi h w++(List.range w).map fun (q:Nat)=>((h:Int),(q:Int)):=by
 simp [zi,List.range_succ]
theorem ji (h w:Nat):(zi h w).length=h * w:=by
 induction h with
 | zero=>simp [zi]
 | succ h ih=>rw [DF,List.length_append,ih,List.length_map,List.length_range,Nat.succ_mul]
theorem K4 {w:Wk} (ok:w.Ok):1<=w.pc.length/\w.pc.length<=16:=by
 cases w with
 | line k m=>simp only [Wk.pc,zS,List.length_map,List.length_range];exact ok.2
 | block h v=>
  obtain ⟨h1,h2,h3,h4,h5⟩:=ok
  simp only [Wk.pc,ji]
  exact ⟨Nat.mul_le_mul h1 h2,h5⟩
 | step d a m=>simp only [Wk.pc,zS,List.length_map,List.length_range];exact ok.2.2
 | cells ps=>exact ⟨ok.1,ok.2.1⟩
end Bk
namespace Bk
open PySem L2 L3
def UO:Sp3:=fun ts G q=>∃ a n,ts=[.ref a]/\Lf G a n/\n < 10000000/\∀ (m:Nat) G',1<=m->m<=16->Lf G' a (n+2)->Ext a G G'->q (.int m) G'
theorem MM:∀ ts G q,UO ts G q->ts.length=1/\V2 zw (qiq q) (qE ["_law_left_here"] ts) G:=by
 rintro ts G q ⟨a,n,rfl,hL,hn,h⟩
 refine ⟨rfl,?_⟩
 simp only [V2,za,o3,c3,cb3,qc,v3,qE,List.map_cons,List.map_nil,List.length_cons,List.length_nil,Nat.zero_add,Nat.sub_self,List.replicate_zero,List.append_nil,Nat.lt_add_one,getElem?_pos,List.getElem_cons_zero,XS,qj,Nat.reduceAdd,sizeLine_eq,Nat.reduceLeDiff,jN,ne_eq,true_and]
 intro p hp
 have np:=hL.ne hp
 refine JI (hL.new np) (by omega) (by omega) (by omega) fun d G1 d0 d1 L1 E1=>?_
 have g:=YF (E1 _ _ np qT)
 obtain ⟨z,hz,hm⟩:=qhl (xs:=[T.int 5,.int 5,.int 5,.int 5,.int 5,.int 5,.int 8,.int 16]) d0 (by simpa using d1)
 simp only [L3.ixR,g,hz]
 have:∃ k:Int,z=.int k/\1<=k/\k<=16:=by
  simp only [List.mem_cons,List.not_mem_nil,or_false] at hm
  rcases hm with rfl | rfl | rfl | rfl | rfl | rfl | rfl | rfl <;> exact ⟨_,rfl,by omega,by omega⟩
 obtain ⟨k,rfl,k1,k2⟩:=this
 refine JI L1 (by omega) (by omega) (by omega) fun e G2 e0 e1 L2' E2=>?_
 simp
 obtain ⟨e',rfl⟩:=Int.eq_ofNat_of_zero_le e0
 have:=h (e'+1) G2 (by omega) (by omega) (L2'.mono (by omega)) ((CA hp).trans (E1.trans E2))
 rw [show (1:Int)+(e':Int)=((e'+1:Nat):Int) by omega]
 exact this
def pD (p:Int×Int):PyData:=.tuple [.int p.1,.int p.2]
theorem qmW (G:Gp) (p:Int×Int):Dp G (pT p) (pD p):=.tup (.cons (.int _) (.cons (.int _) .nil))
theorem qfU (G:Gp):∀ ps:List (Int×Int),Dps G (ps.map pT) (ps.map pD)
 | []=>.nil
 | p :: ps=>.cons (qmW G p) (qfU G ps)
theorem qpF (p r:Int×Int):JC (pD p) (pD r)=some (decide (p=r)):=by
 obtain ⟨a,b⟩:=p
 obtain ⟨c,d⟩:=r
 simp only [pD,JC,YO]
 by_cases h:a=c <;> by_cases h':b=d <;> simp [h,h']
theorem pIn (r:Int×Int):∀ ps:List (Int×Int),qc2 (pD r) (ps.map pD)=some (decide (r∈ps))
 | []=>by simp [qc2]
 | p :: ps=>by
  simp only [List.map_cons,qc2,qpF,pIn r ps]
  by_cases h:p=r
  ·subst h;simp
  ·have h':¬ r=p:=fun z=>h z.symm
   simp [h,h']
theorem qk1 (p:Int×Int):dpt (pD p)<=40:=by simp [pD,dpt,qfr]
def J8:Sp3:=fun ts G q=>∃ a n,ts=[.ref a]/\Lf G a n/\n < 1000000/\∀ (w:Wk) G',w.Ok->Lf G' a (n+60)->Ext a G G'->q w.t G'
theorem LR:∀ ts G q,J8 ts G q->ts.length=1/\VN zw UO (qiq q) (qE ["_law_left_here","_law_way","_law_lying","_law_high","_law_wide","_law_down","_law_along","_law_pairs","_law_far","_law_turn","_law_pair"] ts) G:=by
 rintro ts G q ⟨a,n,rfl,hL,hn,h⟩
 refine ⟨rfl,?_⟩
 unfold VN
 refine JW fun nx1 q1=>?_
 simp only [zN,cb3,qc,v3,qE,List.map_cons,List.map_nil,List.length_cons,List.length_nil,Nat.zero_add,Nat.reduceAdd,Nat.add_one_sub_one,List.reduceReplicate,List.cons_append,List.nil_append,Nat.zero_lt_succ,getElem?_pos,List.getElem_cons_zero,c3,qj,gn3,List.set_cons_succ,List.set_cons_zero]
 refine JI hL (by omega) (by omega) (by omega) fun way G1 w0 w1 L1 E1=>?_
 try simp
 rw [q1]
 clear q1
 refine JW fun nx2 q2=>?_
 by_cases lt:way < 4
 ·simp only [jt,tb3,o3,v3,List.length_cons,List.length_nil,Nat.zero_add,Nat.reduceAdd,Nat.reduceLT,getElem?_pos,List.getElem_cons_succ,List.getElem_cons_zero,c3,iB,lt,decide_true,↓reduceIte,za,QU,qc,XS,qj,sizeLine_eq,Nat.reduceLeDiff,cb3,Nat.zero_lt_succ,true_and,ixR]
  intro p hp
  have np:=L1.ne hp
  have L3':=L1.new np (ob:=.lst [.str "row",.str "column",.str "slant",.str "back"])
  obtain ⟨k,rfl⟩:=Int.eq_ofNat_of_zero_le w0
  have hk:k < 4:=by omega
  have e1:L2.atI [T.str (Str.ofString "row"),.str (Str.ofString "column"),.str (Str.ofString "slant"),.str (Str.ofString "back")] (k:Int)=some (.str (jy k)):=by
   rcases k with _ | _ | _ | _ | k
   ·rfl
   ·rfl
   ·rfl
   ·rfl
   ·omega
  simp only [L3.ixR,YF qT,e1]
  refine ⟨a,_,rfl,L3',by omega,fun m G2 m1 m2 L4 E4=>?_⟩
  exact h (.line k m) _ ⟨hk,m1,m2⟩ (L4.mono (by omega)) (E1.trans ((CA hp).trans E4))
 simp only [jt,tb3,o3,v3,c3,iB,List.getElem?_cons_zero,List.getElem?_cons_succ,lt,decide_false,Bool.false_eq_true,if_false,qO]
 rw [q2]
 clear q2
 refine JW fun nx3 q3=>?_
 by_cases lt6:way < 6
 ·simp only [jt,tb3,o3,v3,c3,iB,List.getElem?_cons_zero,List.getElem?_cons_succ,lt6,decide_true,if_true]
  refine JW fun nx4 q4=>?_
  simp only [qc3,qc,cb3,v3,List.length_cons,List.length_nil,Nat.zero_add,Nat.reduceAdd,Nat.zero_lt_succ,getElem?_pos,List.getElem_cons_zero,c3,qj,o3,jN,ne_eq,sizeLine_eq,List.set_cons_succ,List.set_cons_zero]
  refine JI L1 (by omega) (by omega) (by omega) fun ly G2 y0 y1 L2' E2=>?_
  try simp
  refine JI L2' (by omega) (by omega) (by omega) fun hi G3 h0 h1 L3' E3=>?_
  try simp
  rw [q4]
  clear q4
  obtain ⟨hh,rfl⟩:=Int.eq_ofNat_of_zero_le h0
  refine JW fun nx5 q5=>?_
  simp only [zN,o3,c3,cb3,qc,v3,List.length_cons,List.length_nil,Nat.zero_add,Nat.reduceAdd,Nat.zero_lt_succ,getElem?_pos,List.getElem_cons_zero,Nat.reduceLT,List.getElem_cons_succ,iC,qj,jN,ne_eq,sizeLine_eq,gn3,List.set_cons_succ,List.set_cons_zero]
  have dv:1<=(16:Int) / (1+(hh:Int))/\(16:Int) / (1+(hh:Int))<=16:=by
   have:hh=0\/hh=1\/hh=2\/hh=3:=by omega
   rcases this with rfl | rfl | rfl | rfl <;> decide
  refine ⟨⟨by omega,by omega⟩,JI L3' (by omega) (by omega) (by omega) fun wi G4 u0 u1 L4 E4=>?_⟩
  try simp
  rw [q5]
  clear q5
  obtain ⟨ww,rfl⟩:=Int.eq_ofNat_of_zero_le u0
  have pr:(hh+1) * (ww+1)<=16:=by
   have:hh=0\/hh=1\/hh=2\/hh=3:=by omega
   rcases this with rfl | rfl | rfl | rfl <;> simp at u1 <;> omega
  simp only [za,o3,XS,qc,QU,c3,v3,List.length_cons,List.length_nil,Nat.zero_add,Nat.reduceAdd,Nat.reduceLT,getElem?_pos,List.getElem_cons_succ,List.getElem_cons_zero,qj,sizeLine_eq,Nat.reduceLeDiff,ixR,true_and]
  intro p hp
  have np:=L4.ne hp
  have X4:=E1.trans (E2.trans (E3.trans E4))
  have z1:(1:Int)+(hh:Int)=((hh+1:Nat):Int):=by omega
  have z2:(1:Int)+(ww:Int)=((ww+1:Nat):Int):=by omega
  rw [z1,z2]
  have hl:ly=0\/ly=1:=by omega
  rcases hl with rfl | rfl
  ·simp only [L3.ixR,YF qT,qoF]
   exact h (.block (hh+1) (ww+1)) _ ⟨by omega,by omega,by omega,by omega,pr⟩ ((L4.new np).mono (by omega)) (X4.trans (CA hp))
  ·simp only [L3.ixR,YF qT,qoq]
   exact h (.block (ww+1) (hh+1)) _ ⟨by omega,by omega,by omega,by omega,by rw [Nat.mul_comm];exact pr⟩ ((L4.new np).mono (by omega)) (X4.trans (CA hp))
 simp only [jt,tb3,o3,v3,c3,iB,List.getElem?_cons_zero,List.getElem?_cons_succ,lt6,decide_false,Bool.false_eq_true,if_false,qO]
 rw [q3]
 clear q3
 refine JW fun nx4 q4=>?_
 by_cases lt8:way < 8
 ·simp only [jt,tb3,o3,v3,c3,iB,List.getElem?_cons_zero,List.getElem?_cons_succ,lt8,decide_true,if_true]
  refine JW fun nx5 q5=>?_
  simp only [qc3,qc,o3,cb3,v3,List.length_cons,List.length_nil,Nat.zero_add,Nat.reduceAdd,Nat.zero_lt_succ,getElem?_pos,List.getElem_cons_zero,c3,qj,iI,List.set_cons_succ,List.set_cons_zero]
  refine JI L1 (by omega) (by omega) (by omega) fun d G2 d0 d1 L2' E2=>?_
  try simp
  refine JI L2' (by omega) (by omega) (by omega) fun al G3 a0 a1 L3' E3=>?_
  try simp
  rw [q5]
  clear q5
  obtain ⟨D,hD⟩:∃ D,D=d - 3:=⟨_,rfl⟩
  obtain ⟨A,hA⟩:∃ A,A=al - 4:=⟨_,rfl⟩
  rw [← hD,← hA]
  refine JW fun nx6 q6=>?_
  simp only [jt,tb3,o3,cb3,qc,v3,List.length_cons,List.length_nil,Nat.zero_add,Nat.reduceAdd,Nat.zero_lt_succ,getElem?_pos,List.getElem_cons_zero,c3,qj,jM,YQ,Bool.false_eq_true,↓reduceIte,za,QU,Nat.reduceLT,List.getElem_cons_succ,iC,QJ,decide_eq_true_eq,qc0,jN,ne_eq,sizeLine_eq,Nat.reduceLeDiff,true_and,Int.add_zero,qO,exists_and_left,Bool.exists_bool]
  refine JI L3' (by omega) (by omega) (by omega) fun six G4 s0 s1 L4 E4=>?_
  have X4:=E1.trans (E2.trans (E3.trans E4))
  by_cases k0:six=0
  ·subst k0
   simp only [decide_true,↓reduceIte]
   refine ⟨cm (by omega) (by omega),cm (by omega) (by omega),?_⟩
   have fin:∀ e:Int,0<=e->e<=1->zw [.ref a,.int 4] G4 fun x G'=>(match T.int 1,x with | .int i,.int j=>q (.tup [.str (Str.ofString "step"),.int (5 * D),.int (3 * A+e),.int (i+j)]) G' | _,_=>False):=by
    intro e e0 e1
    refine JI L4 (by omega) (by omega) (by omega) fun m G5 m0 m1 L5 E5=>?_
    obtain ⟨m',rfl⟩:=Int.eq_ofNat_of_zero_le m0
    have:=h (.step (5 * D) (3 * A+e) (m'+1)) G5 ⟨⟨by omega,by omega⟩,⟨by omega,by omega⟩,by omega,by omega⟩ (L5.mono (by omega)) (X4.trans E5)
    simp only [Wk.t] at this
    rw [show ((m'+1:Nat):Int)=1+(m':Int) by omega] at this
    exact this
   by_cases hD0:D=0
   ·by_cases hA0:A=0
    ·have:=fin 1 (by omega) (by omega)
     simp only [hD0,Int.mul_zero,hA0,Int.zero_add,↓reduceIte] at this ⊢
     exact this
    ·have:=fin 0 (by omega) (by omega)
     simp only [hD0,Int.mul_zero,Int.add_zero,↓reduceIte,hA0] at this ⊢
     exact this
   ·have:=fin 0 (by omega) (by omega)
    simp only [Int.add_zero,hD0,↓reduceIte] at this ⊢
    exact this
  ·simp [k0]
   rw [q6]
   clear q6
   have fin:∀ e:Int,0<=e->e<=1->UO [.ref a] G4 fun x G'=>q (.tup [.str (Str.ofString "step"),.int D,.int (A+e),x]) G':=by
    intro e e0 e1
    refine ⟨a,_,rfl,L4,by omega,fun m G5 m0 m1 L5 E5=>?_⟩
    exact h (.step D (A+e) m) G5 ⟨⟨by omega,by omega⟩,⟨by omega,by omega⟩,by omega,by omega⟩ (L5.mono (by omega)) (X4.trans E5)
   by_cases hD0:D=0
   ·by_cases hA0:A=0
    ·have:=fin 1 (by omega) (by omega)
     simp only [hD0,hA0,Int.zero_add,za,QU,qc,c3,v3,List.length_cons,List.length_nil,Nat.zero_add,Nat.reduceAdd,Nat.reduceLT,getElem?_pos,List.getElem_cons_succ,List.getElem_cons_zero,o3,cb3,QJ,jM,YQ,decide_true,Bool.false_eq_true,↓reduceIte,qj,qc0,jN,Nat.zero_lt_succ,sizeLine_eq,Nat.reduceLeDiff,true_and] at this ⊢
     exact this
    ·have:=fin 0 (by omega) (by omega)
     simp only [hD0,Int.add_zero,za,QU,qc,c3,v3,List.length_cons,List.length_nil,Nat.zero_add,Nat.reduceAdd,Nat.reduceLT,getElem?_pos,List.getElem_cons_succ,List.getElem_cons_zero,o3,cb3,QJ,jM,YQ,decide_true,Bool.false_eq_true,↓reduceIte,hA0,decide_false,qj,qc0,jN,Nat.zero_lt_succ,sizeLine_eq,Nat.reduceLeDiff,true_and] at this ⊢
     exact this
   ·have:=fin 0 (by omega) (by omega)
    simp only [Int.add_zero,za,QU,qc,c3,v3,List.length_cons,List.length_nil,Nat.zero_add,Nat.reduceAdd,Nat.reduceLT,getElem?_pos,List.getElem_cons_succ,List.getElem_cons_zero,o3,cb3,QJ,jM,YQ,hD0,decide_false,Bool.false_eq_true,↓reduceIte,qj,qc0,jN,Nat.zero_lt_succ,sizeLine_eq,Nat.reduceLeDiff,true_and] at this ⊢
    exact this
 simp only [jt,tb3,o3,v3,c3,iB,List.getElem?_cons_zero,List.getElem?_cons_succ,lt8,decide_false,Bool.false_eq_true,if_false,qO]
 rw [q4]
 clear q4
 refine JW fun nx5 q5=>?_
 simp only [qc3,qc,XS,qj,List.length_nil,sizeLine_eq,Nat.zero_le,o3,c3,cb3,v3,List.length_cons,Nat.zero_add,Nat.reduceAdd,Nat.zero_lt_succ,getElem?_pos,List.getElem_cons_zero,jM,YQ,qc0,iC,Bool.false_eq_true,↓reduceIte,jN,List.set_cons_succ,List.set_cons_zero,ne_eq,exists_and_left,Bool.exists_bool,Int.mul_zero,Int.add_zero,Int.mul_one,Int.reduceAdd,true_and]
 intro pp hpp
 have npp:=L1.ne hpp
 have Lp:=L1.new npp (ob:=.lst [])
 refine JI Lp (by omega) (by omega) (by omega) fun fv G2 f0 f1 L2' E2=>?_
 have gp2:=E2 _ _ npp qT
 have X2:Ext a G G2:=E1.trans ((CA hpp).trans E2)
 have hf:∃ far:Int,(far=1\/far=5)/\nx5=nx5:=⟨1,.inl rfl,rfl⟩
 clear hf
 have fin:∀ far:Int,far=1\/far=5->nx5 [some (.ref a),some (.int way),none,none,none,none,none,some (.ref pp),some (.int far),none,none] G2:=by
  intro far hfar
  rw [q5]
  clear q5
  refine JW fun nx6 q6=>?_
  simp only [CT,jJ,cb3,qc,qj,v3,List.getElem?_cons_zero,List.getElem?_cons_succ]
  refine ⟨a,_,rfl,L2',by omega,fun m G3 m1 m2 L3' E3=>?_⟩
  have gp3:=E3 _ _ npp gp2
  refine ⟨⟨by omega,by omega⟩,?_⟩
  rw [Int.toNat_natCast]
  refine TX _ (fun i τ G'=>∃ ps:List (Int×Int),G' pp=some (.lst (ps.map pT))/\(1<=i->1<=ps.length)/\ps.length<=i/\ps.Nodup/\(∀ p∈ps,(-16<=p.1/\p.1<=16)/\(-16<=p.2/\p.2<=16))/\Lf G' a (n+5+2 * i)/\Ext a G G'/\∃ x9 x10,τ=[some (.ref a),some (.int way),none,none,none,none,none,some (.ref pp),some (.int far),x9,x10])
   ⟨[],gp3,by omega,by simp,by simp,(by intro p hp;cases hp),by simpa using L3'.mono (by omega),X2.trans E3,none,none,rfl⟩ (fun _ _ _ _ _=>True.intro) ?_ ?_
  ·rintro i z τ G' nx hz ⟨ps,gp,i1,pl,nd,bd,L,E,x9,x10,rfl⟩ hnx
   obtain ⟨hi,rfl⟩:=qb0 hz
   simp only [gn3,List.set_cons_succ,List.set_cons_zero]
   refine JW fun nx7 q7=>?_
   simp only [zN,QU,qc,o3,v3,Int.zero_add,List.length_cons,List.length_nil,Nat.zero_add,Nat.reduceAdd,Nat.reduceLT,getElem?_pos,List.getElem_cons_succ,List.getElem_cons_zero,cb3,Nat.zero_lt_succ,c3,qj,iI,iC,sizeLine_eq,Nat.reduceLeDiff,gn3,List.set_cons_succ,List.set_cons_zero,true_and]
   refine JI L (by omega) (by omega) (by omega) fun u G4 u0 u1 L4 E4=>?_
   try simp
   refine ⟨cm (by omega) (by omega),JI L4 (by omega) (by omega) (by omega) fun v G5 v0 v1 L5 E5=>?_⟩
   try simp
   refine ⟨cm (by omega) (by omega),?_⟩
   rw [q7]
   clear q7
   have gp5:=E5 _ _ npp (E4 _ _ npp gp)
   have X5:=E.trans (E4.trans E5)
   have pe:T.tup [.int (far * (u - 2)),.int (far * (v - 2))]=pT (far * (u - 2),far * (v - 2)):=rfl
   rw [pe]
   have pb:(-16<=far * (u - 2)/\far * (u - 2)<=16)/\(-16<=far * (v - 2)/\far * (v - 2)<=16):=by rcases hfar with rfl | rfl <;> omega
   generalize hP:(far * (u - 2),far * (v - 2))=P at *
   have pb':(-16<=P.1/\P.1<=16)/\(-16<=P.2/\P.2<=16):=by rw [← hP];exact pb
   simp only [jt,tb3,o3,v3,List.getElem?_cons_zero,List.getElem?_cons_succ]
   refine ⟨_,_,_,_,YF gp5,qmW _ _,qfU _ _,pIn _ _,fun d hd=>?_,?_⟩
   ·obtain ⟨p,_,rfl⟩:=List.mem_map.mp hd
    exact qk1 p
   ·by_cases hm:P∈ps
    ·simp only [↓reduceIte,hm,decide_true,Bool.not_true,Bool.false_eq_true,qO]
     exact hnx _ _ ⟨ps,gp5,fun _=>List.length_pos_of_mem hm,by omega,nd,bd,L5.mono (by omega),X5,_,_,rfl⟩
    ·simp only [↓reduceIte,hm,decide_false,Bool.not_false,XV,bm3,v3,List.length_cons,List.length_nil,Nat.zero_add,Nat.reduceAdd,Nat.reduceLT,getElem?_pos,List.getElem_cons_succ,List.getElem_cons_zero,qc,Nat.lt_add_one,qj,qcV,gp5,List.length_map,sizeLine_eq]
     refine ⟨by rw [YF gp5];rfl,by omega,?_⟩
     refine hnx _ _ ⟨ps++[P],by rw [qT];simp,fun _=>by simp,by simp;omega,?_,fun p hp=>?_,L5.new npp |>.mono (by omega),fun b o hb eb=>?_,_,_,rfl⟩
     ·rw [List.nodup_append]
      exact ⟨nd,by simp,fun x hx y hy=>by simp at hy;subst hy;rintro rfl;exact hm hx⟩
     ·rcases List.mem_append.mp hp with hp | hp
      ·exact bd p hp
      ·simp at hp;subst hp;exact pb'
     ·have:b≠pp:=by
       rintro rfl
       have:=E1 _ _ hb eb
       rw [hpp] at this;cases this
      rw [QP this]
      exact X5 _ _ hb eb
  ·rintro τ G' ⟨ps,gp,i1,pl,nd,bd,L,E,x9,x10,rfl⟩
   rw [qg9] at i1 pl L
   show nx6 _ _
   rw [q6]
   simp only [za,QU,qc,c3,cb3,v3,List.length_cons,List.length_nil,Nat.zero_add,Nat.reduceAdd,Nat.reduceLT,getElem?_pos,List.getElem_cons_succ,List.getElem_cons_zero,qj,X6,YF gp,sizeLine_eq,Nat.reduceLeDiff,true_and]
   exact h (.cells ps) G' ⟨i1 m1,by omega,nd,bd⟩ (L.mono (by omega)) E
 by_cases k0:fv=0
 ·have:=fin 5 (.inr rfl)
  simp only [k0,decide_true,↓reduceIte,Int.mul_one,Int.reduceAdd]
  exact ⟨cm (by omega) (by omega),this⟩
 ·have:=fin 1 (.inl rfl)
  simp only [k0,decide_false,Bool.false_eq_true,↓reduceIte,Int.mul_zero,Int.add_zero]
  exact ⟨cm (by omega) (by omega),this⟩
end Bk
namespace Bk
open PySem L2 L3
end Bk
namespace Bk
open PySem L2 L3
end Bk
namespace Bk
open PySem L2 L3
end Bk
namespace Bk
open PySem L2 L3
end Bk
namespace Bk
open PySem L2 L3
def Un2 (ns:List Int) (i:Nat):Prop:=∀ a b,a < i->a < b->b < ns.length->ns[a]?≠ns[b]?
structure Fst (ns:List Int) (i j:Nat):Prop where
 ij:i < j
 jl:j < ns.length
 un:Un2 ns i
 nb:∀ b,i < b->b < j->ns[i]?≠ns[b]?
 eq:ns[i]?=ns[j]?
theorem Fst.uniq {ns:List Int} {i j i' j':Nat} (F:Fst ns i j) (F':Fst ns i' j'):i=i'/\j=j':=by
 have e:i=i':=by
  rcases Nat.lt_trichotomy i i' with z | z | z
  ·exact absurd F.eq (F'.un i j z F.ij F.jl)
  ·exact z
  ·exact absurd F'.eq (F.un i' j' z F'.ij F'.jl)
 subst e
 refine ⟨rfl,?_⟩
 rcases Nat.lt_trichotomy j j' with z | z | z
 ·exact absurd F.eq (F'.nb j F.ij z)
 ·exact z
 ·exact absurd F'.eq (F.nb j' F'.ij z)
open Classical in
def faO (ns:List Int):Option (Nat×Nat):=if h:∃ ij:Nat×Nat,Fst ns ij.1 ij.2 then some h.choose else none
theorem qZ {ns:List Int} {i j:Nat} (F:Fst ns i j):faO ns=some (i,j):=by
 have h:∃ ij:Nat×Nat,Fst ns ij.1 ij.2:=⟨(i,j),F⟩
 unfold faO
 rw [dif_pos h]
 have:=h.choose_spec
 obtain ⟨e1,e2⟩:=this.uniq F
 exact congrArg some (Prod.ext e1 e2)
theorem zl {ns:List Int} (h:Un2 ns ns.length):faO ns=none:=by
 unfold faO
 rw [dif_neg]
 rintro ⟨ij,F⟩
 exact h ij.1 ij.2 (Nat.lt_trans F.ij F.jl) F.ij F.jl F.eq
end Bk
namespace Bk
open PySem L2 L3
def V3 (S_cells_of:Sp3):TS3:=(qS (zN (v3 1) (jr 2 (qr (gn3 3) (qr (gn3 4) jp)))) (za (cb3 X6 (qc (lc3 (JV (cb3 S_cells_of (qc (v3 2) qj))) (jr 2 (qr (gn3 0) (qr (gn3 1) jp))) tt3 (o3 (iC (fun _ j=>0 < j) (· % ·)) (o3 jN (o3 (iC jP (· * ·)) (v3 3) (v3 0)) (o3 (iC jP (· * ·)) (v3 4) (v3 1))) (v3 2)) [none,none,some 0,some 3,some 4]) qj))))
def Q2:TS3:=(za (qis (jJ (qc (v3 0) qj)) (gn3 0) tt3 (jJ (qc (v3 2) qj)) (gn3 1) tt3 (QU (qc (v3 0) (qc (v3 1) qj))) [none,none,some 0]))
def J5 (S_rests_by:Sp3) (S_first_alike:Sp3):TS3:=(qS (CT (EF (qc (v3 2) qj)) (jr 2 (qr (gn3 3) (qr (gn3 4) jp))) (qS (zN (cb3 S_first_alike (qc (cb3 S_rests_by (qc (v3 0) (qc (v3 1) (qc (v3 4) qj)))) qj)) (gn3 5)) (jt (tb3 (o3 (qah true) (v3 5) (c3 .non))) (za (QU (qc (v3 3) (qc (o3 ix3 (v3 5) (c3 (.int 0))) (qc (o3 ix3 (v3 5) (c3 (.int 1))) qj))))) qO))) (za (c3 .non)))
def VY (S_all_factors:Sp3) (S_first_bar:Sp3):TS3:=(qS (zN (XS qj) (gn3 2)) (qS (CT (JV (cb3 S_all_factors (qc (v3 0) qj))) (gn3 3) (qS (zN (cb3 S_first_bar (qc (v3 0) (qc (v3 3) (qc (v3 1) qj)))) (gn3 4)) (qS (jt (tb3 (o3 (qah false) (v3 4) (c3 .non))) (za (QU (qc (c3 (.str "skew")) (qc (o3 ix3 (v3 3) (c3 (.int 0))) (qc (o3 ix3 (v3 3) (c3 (.int 1))) qj))))) qO) (XV (bm3 qcV (v3 2) (qc (v3 4) qj)))))) (za (QU (qc (c3 (.str "none")) (qc (v3 2) qj))))))
def jY:TS3:=(za (lc3 (JV (v3 0)) (jr 2 (qr (gn3 0) (qr (gn3 1) jp))) tt3 (o3 (iC (fun _ j=>0 < j) (· % ·)) (o3 jN (o3 (iC jP (· * ·)) (v3 3) (v3 0)) (o3 (iC jP (· * ·)) (v3 4) (v3 1))) (v3 2)) [none,none,some 1,some 2,some 3]))
def ZY (S_skew_for:Sp3):TS3:=(qS (zN (XS qj) (gn3 2)) (qS (CT (jJ (qc (c3 (.int 1)) (qc (o3 jN (v3 1) (c3 (.int 1))) qj))) (gn3 3) (qS (zN (cb3 S_skew_for (qc (v3 3) (qc (v3 0) qj))) (gn3 4)) (qS (jt (tb3 (o3 (jM false) (o3 ix3 (v3 4) (c3 (.int 0))) (c3 (.str "skew")))) (za (QU (qc (v3 3) (qc (o3 ix3 (v3 4) (c3 (.int 1))) (qc (o3 ix3 (v3 4) (c3 (.int 2))) (qc (v3 2) qj)))))) qO) (XV (bm3 qcV (v3 2) (qc (o3 ix3 (v3 4) (c3 (.int 1))) qj)))))) (za (c3 .non))))
theorem jQ {ns:List Int} (h:¬ Un2 ns ns.length):∃ i j,Fst ns i j:=by
 have key:∀ k,k<=ns.length->Un2 ns k\/∃ i j,Fst ns i j:=by
  intro k
  induction k with
  | zero=>exact fun _=>.inl fun a b ha=>by omega
  | succ k ih=>
   intro hk
   rcases ih (by omega) with hu | he
   ·have inner:∀ n,(∀ b,k < b->b < k+1+n->b < ns.length->ns[k]?≠ns[b]?)\/∃ j,Fst ns k j:=by
     intro n
     induction n with
     | zero=>exact .inl fun b h1 h2=>by omega
     | succ n ihn=>
      rcases ihn with hn | he
      ·by_cases hb:k+1+n < ns.length/\ns[k]?=ns[k+1+n]?
       ·exact .inr ⟨k+1+n,by omega,hb.1,hu,fun b h1 h2=>hn b h1 h2 (by omega),hb.2⟩
       ·refine .inl fun b h1 h2 h3=>?_
        by_cases e:b=k+1+n
        ·subst e;exact fun z=>hb ⟨h3,z⟩
        ·exact hn b h1 (by omega) h3
      ·exact .inr he
    rcases inner ns.length with hn | ⟨j,F⟩
    ·refine .inl fun a b ha hab hb=>?_
     by_cases e:a=k
     ·subst e;exact hn b hab (by omega) hb
     ·exact hu a b (by omega) hab hb
    ·exact .inr ⟨k,j,F⟩
   ·exact .inr he
 rcases key ns.length (Nat.le_refl _) with hu | he
 ·exact absurd hu h
 ·exact he
theorem qbF (val:Nat->Int):∀ i,(PyProof.Rows.firstMet val i).length=i ↔ ∀ a b,a < b->b < i->val a≠val b
 | 0=>by simp [PyProof.Rows.firstMet_zero]
 | i+1=>by
  have ih:=qbF val i
  have le:=PyProof.Rows.firstMet_length_le val i
  have an:=PyProof.Rows.firstMet_any val i (val i)
  rw [PyProof.Rows.firstMet_succ]
  unfold PyProof.Rows.step_dedup
  by_cases hq:((PyProof.Rows.firstMet val i).any (· == val i))=true
  ·rw [if_pos hq]
   constructor
   ·intro e;omega
   ·intro hh
    rw [an] at hq
    simp at hq
    obtain ⟨a,ha,e⟩:=hq
    exact absurd e (hh a i ha (by omega))
  ·rw [if_neg hq,List.length_append,List.length_singleton]
   have hq':∀ a,a < i->val a≠val i:=by
    intro a ha e
    apply hq
    rw [an]
    simp
    exact ⟨a,ha,e⟩
   constructor
   ·intro e a b hab hb
    by_cases eb:b=i
    ·subst eb;exact hq' a hab
    ·exact (ih.mp (by omega)) a b hab (by omega)
   ·intro hh
    rw [ih.mpr fun a b hab hb=>hh a b hab (by omega)]
theorem qaL {ns:List Int}:U0 ns=ns.length ↔ Un2 ns ns.length:=by
 unfold U0
 rw [qbF]
 constructor
 ·intro h a b ha hab hb e
  refine h a b hab hb ?_
  rw [List.getD_eq_getElem?_getD,List.getD_eq_getElem?_getD,e]
 ·intro h a b hab hb e
  have ha:a < ns.length:=by omega
  apply h a b ha hab hb
  rw [List.getD_eq_getElem?_getD,List.getD_eq_getElem?_getD] at e
  simp [ha,hb] at e
  simp [ha,hb,e]
end Bk
namespace Bk
open PySem L2 L3
end Bk
namespace Bk
open PySem L2 L3
end Bk
namespace Bk
open PySem L2 L3
end Bk
namespace Bk
open PySem L2 L3
end Bk
namespace Pu
open PySem L2 L3
def cif {α:Type} (P:Prop) (a b:α):α:=@ite α P (Classical.propDecidable P) a b
theorem jq {α:Type} {P:Prop} {a b:α} (h:P):cif P a b=a:=@if_pos P (Classical.propDecidable P) h α a b
theorem MZ {α:Type} {P:Prop} {a b:α} (h:¬ P):cif P a b=b:=@if_neg P (Classical.propDecidable P) h α a b
structure Tru (b:Bool):Prop where
 h:b=true
mutual
inductive Dq (G:Gp):T->PyData->Prop
 | non:Dq G .non .none
 | bl (b:Bool):Dq G (.bl b) (.bool b)
 | int (i:Int):Dq G (.int i) (.int i)
 | str (x:Str):Dq G (.str x) (.str x)
 | tup {xs:List T} {ds:List PyData}:Dqs G xs ds->Dq G (.tup xs) (.tuple ds)
 | lst {p:Addr} {xs:List T} {ds:List PyData}:G p=some (.lst xs)->Dqs G xs ds->Dq G (.ref p) (.list ds)
inductive Dqs (G:Gp):List T->List PyData->Prop
 | nil:Dqs G [] []
 | cons {x:T} {d:PyData} {xs:List T} {ds:List PyData}:Dq G x d->Dqs G xs ds->Dqs G (x :: xs) (d :: ds)
end
mutual
theorem Dq.up {G G':Gp} (e:Ex G G'):∀ {x:T} {d:PyData},Dq G x d->Dq G' x d
 | _,_,.non=>.non
 | _,_,.bl b=>.bl b
 | _,_,.int i=>.int i
 | _,_,.str x=>.str x
 | _,_,.tup h=>.tup (Dqs.up e h)
 | _,_,.lst h1 h2=>.lst (e _ _ h1) (Dqs.up e h2)
theorem Dqs.up {G G':Gp} (e:Ex G G'):∀ {x:List T} {d:List PyData},Dqs G x d->Dqs G' x d
 | _,_,.nil=>.nil
 | _,_,.cons a b=>.cons (Dq.up e a) (Dqs.up e b)
end
theorem je {G:Gp} {p:Addr} {xs:List T} (h:G p=some (.lst xs)):getL G p=some xs:=by unfold getL;rw [h]
mutual
theorem Dq.dp {G:Gp}:∀ {x:T} {d:PyData},Dq G x d->Dp G x d
 | _,_,.non=>.non
 | _,_,.bl b=>.bl b
 | _,_,.int i=>.int i
 | _,_,.str x=>.str x
 | _,_,.tup h=>.tup (Dqs.dp h)
 | _,_,.lst h1 h2=>.lst (je h1) (Dqs.dp h2)
theorem Dqs.dp {G:Gp}:∀ {x:List T} {d:List PyData},Dqs G x d->Dps G x d
 | _,_,.nil=>.nil
 | _,_,.cons a b=>.cons (Dq.dp a) (Dqs.dp b)
end
theorem Dqs.length {G:Gp}:∀ {xs:List T} {ds:List PyData},Dqs G xs ds->xs.length=ds.length
 | _,_,.nil=>rfl
 | _,_,.cons _ b=>by simp [Dqs.length b]
theorem Dqs.get {G:Gp}:∀ {xs:List T} {ds:List PyData} {i:Nat} {d:PyData},Dqs G xs ds->ds[i]?=some d->∃ x,xs[i]?=some x/\Dq G x d
 | _,_,_,_,.nil,e=>by simp at e
 | _,_,0,_,.cons r _,e=>by simp at e;subst e;exact ⟨_,rfl,r⟩
 | _,_,i+1,d,.cons _ t,e=>by
  obtain ⟨u,h1,h2⟩:=Dqs.get (i:=i) (d:=d) t (by simpa using e)
  exact ⟨u,by simpa using h1,h2⟩
theorem Dqs.append {G:Gp}:∀ {xs:List T} {ds:List PyData} {ys:List T} {es:List PyData},Dqs G xs ds->Dqs G ys es->Dqs G (xs++ys) (ds++es)
 | _,_,_,_,.nil,h=>h
 | _,_,_,_,.cons a b,h=>.cons a (Dqs.append b h)
theorem Dqs.drop {G:Gp}:∀ {xs:List T} {ds:List PyData} (n:Nat),Dqs G xs ds->Dqs G (xs.drop n) (ds.drop n)
 | _,_,0,h=>h
 | _,_,_+1,.nil=>.nil
 | _,_,n+1,.cons _ b=>Dqs.drop n b
theorem Dqs.take {G:Gp}:∀ {xs:List T} {ds:List PyData} (n:Nat),Dqs G xs ds->Dqs G (xs.take n) (ds.take n)
 | _,_,0,h=>by simp;exact .nil
 | _,_,_+1,.nil=>.nil
 | _,_,n+1,.cons a b=>.cons a (Dqs.take n b)
theorem Dqs.ints {G:Gp}:∀ {ns:List Int} {xs:List T},Dqs G xs (ns.map PyData.int)->xs=ns.map T.int
 | [],_,.nil=>rfl
 | n :: ns,_,.cons a b=>by cases a;rw [Dqs.ints b];rfl
theorem Dqs.ofInts {G:Gp}:∀ (ns:List Int),Dqs G (ns.map T.int) (ns.map PyData.int)
 | []=>.nil
 | n :: r=>.cons (.int n) (Dqs.ofInts r)
def rs (D:Addr->Prop) (G:Gp):Gp:=fun b=>cif (D b) none (G b)
theorem qX {D:Addr->Prop} {G:Gp} {b:Addr} {o:O} (h:rs D G b=some o):¬ D b/\G b=some o:=by
 unfold rs cif at h
 split at h
 ·cases h
 ·rename_i n;exact ⟨n,h⟩
theorem Q5 {D:Addr->Prop} {G:Gp} {b:Addr} (n:¬ D b):rs D G b=G b:=by unfold rs;exact MZ n
theorem YN {D:Addr->Prop} {G:Gp}:Ex (rs D G) G:=fun b o h=>(qX h).2
theorem QK {D:Addr->Prop} {G G':Gp} (e:Ex G G'):Ex (rs D G) (rs D G'):=fun b o h=>by
 obtain ⟨n,h⟩:=qX h
 rw [Q5 n];exact e _ _ h
theorem jG {D D':Addr->Prop} {G:Gp} (h:∀ b,D' b->D b):Ex (rs D G) (rs D' G):=fun b o e=>by
 obtain ⟨n,e⟩:=qX e
 rw [Q5 fun z=>n (h b z)];exact e
def Dom (D:Addr->Prop) (G:Gp):Prop:=∀ b,D b->G b≠none
theorem Dom.up {D:Addr->Prop} {G G':Gp} (h:Dom D G) (e:Ex G G'):Dom D G':=fun b d z=>by
 cases g:G b with
 | none=>exact h b d g
 | some o=>rw [e _ _ g] at z;cases z
theorem qjJ {D:Addr->Prop} {G:Gp} {p:Addr} {o:O} (hd:Dom D G) (hp:G p=none):rs D (gu G p o) p=some o:=by
 rw [Q5 fun z=>hd p z hp,qT]
inductive Sl where
 | un | sh (d:PyData) | ow (ds:List PyData)
abbrev Rho:=List Sl
def Sl.d:Sl->Option PyData
 | .un=>none | .sh d=>some d | .ow ds=>some (.list ds)
def vw (ρ:Rho) (i:Nat):Option PyData:=(ρ[i]?).bind Sl.d
def CS (fv:List Nat) (D:Addr->Prop) (G:Gp) (τ:St3) (ρ:Rho):Prop:=∀ i∈fv,∀ d,vw ρ i=some d->∃ t,τ[i]?=some (some t)/\Dq (rs D G) t d
theorem CS.up {fv:List Nat} {D:Addr->Prop} {G G':Gp} {τ:St3} {ρ:Rho} (h:CS fv D G τ ρ) (e:Ex G G'):CS fv D G' τ ρ:=fun i hi d hd=>
 let ⟨t,a,b⟩:=h i hi d hd;⟨t,a,b.up (QK e)⟩
theorem CS.l {fv gv:List Nat} {D:Addr->Prop} {G:Gp} {τ:St3} {ρ:Rho} (h:CS (fv++gv) D G τ ρ):CS fv D G τ ρ:=fun i hi=>h i (by simp [hi])
theorem CS.r {fv gv:List Nat} {D:Addr->Prop} {G:Gp} {τ:St3} {ρ:Rho} (h:CS (fv++gv) D G τ ρ):CS gv D G τ ρ:=fun i hi=>h i (by simp [hi])
def Nw (D:Addr->Prop) (G G':Gp) (x:T) (d:PyData):Prop:=d=.none\/∃ p xs ds,x=.ref p/\d=.list ds/\G p=none/\G' p=some (.lst xs)/\Dqs (rs (fun b=>D b\/b=p) G') xs ds
theorem Nw.back {D:Addr->Prop} {G0 G G':Gp} {x:T} {d:PyData} (h:Nw D G G' x d) (e:Ex G0 G):Nw D G0 G' x d:=by
 rcases h with h | ⟨p,xs,ds,a,b,c,r⟩
 ·exact .inl h
 refine .inr ⟨p,xs,ds,a,b,?_,r⟩
 cases z:G0 p with
 | none=>rfl
 | some o=>rw [e _ _ z] at c;cases c
structure PuE (t:TE3) where
 f:Rho->Option PyData
 fv:List Nat
 nw:Bool
 ok:∀ {D τ ρ G} {q:Q3} {d},CS fv D G τ ρ->Dom D G->f ρ=some d->(∀ x G',Ex G G'->Dq (rs D G') x d->(nw=true->Nw D G G' x d)->q x G')->t τ G q
structure PuC (t:TT3) where
 f:Rho->Option Bool
 fv:List Nat
 ok:∀ {D τ ρ G} {q:Bool->Gp->Prop} {k},CS fv D G τ ρ->Dom D G->f ρ=some k->(∀ G',Ex G G'->q k G')->t τ G q
structure PuA (t:TA3) where
 f:Rho->Option (List PyData)
 fv:List Nat
 n:Nat
 ln:∀ {ρ d},f ρ=some d->d.length=n
 ok:∀ {D τ ρ G} {q:List T->Gp->Prop} {d},CS fv D G τ ρ->Dom D G->f ρ=some d->(∀ x G',Ex G G'->Dqs (rs D G') x d->q x G')->t τ G q
structure PuO (t:TO3) where
 f:Rho->Option (Option Int)
 fv:List Nat
 ok:∀ {D τ ρ G} {q:Option Int->Gp->Prop} {k},CS fv D G τ ρ->Dom D G->f ρ=some k->(∀ G',Ex G G'->q k G')->t τ G q
structure PuI (t:TI3) where
 f:Rho->Option (List PyData)
 fv:List Nat
 /-- numbers alone -/
 nm:Bool
 ok:∀ {D τ ρ G} {r:List T->(Gp->Prop)->Gp->Prop} {ds},CS fv D G τ ρ->Dom D G->f ρ=some ds ->
  (∀ items stay G',Ex G G'->Dqs (rs D G') items ds->(∀ G'',(nm=true\/Ex (rs D G') G'')->stay G'')->(nm=true->∃ ns:List Int,ds=ns.map PyData.int)->r items stay G')->t τ G r
structure OpD (r:R3) where
 f:PyData->PyData->Option PyData
 nw:Bool
 ok:∀ {D G x y d e v} {q:Q3},Dq (rs D G) x d->Dq (rs D G) y e->Dom D G->f d e=some v->(∀ z G',Ex G G'->Dq (rs D G') z v->(nw=true->Nw D G G' z v)->q z G')->r x y G q
structure FnD (r:List T->Gp->Q3->Prop) where
 f:List PyData->Option PyData
 nw:Bool
 ok:∀ {D G xs ds v} {q:Q3},Dqs (rs D G) xs ds->Dom D G->f ds=some v->(∀ z G',Ex G G'->Dq (rs D G') z v->(nw=true->Nw D G G' z v)->q z G')->r xs G q
def bV (i:Nat):PuE (v3 i):=⟨fun ρ=>vw ρ i,[i],false,fun hv hd hf k=>by
 obtain ⟨t,e,h⟩:=hv i (by simp) _ hf
 unfold v3
 rw [e]
 exact k t _ Ex.refl h (fun z=>by cases z)⟩
def qQ (i:Int):PuE (c3 (.int i)):=⟨fun _=>some (.int i),[],false,fun hv hd hf k=>by cases hf;exact k _ _ Ex.refl (.int i) (fun z=>by cases z)⟩
def bBl (i:Bool):PuE (c3 (.bl i)):=⟨fun _=>some (.bool i),[],false,fun hv hd hf k=>by cases hf;exact k _ _ Ex.refl (.bl i) (fun z=>by cases z)⟩
def CP (i:Str):PuE (c3 (.str i)):=⟨fun _=>some (.str i),[],false,fun hv hd hf k=>by cases hf;exact k _ _ Ex.refl (.str i) (fun z=>by cases z)⟩
def qaR:PuE (c3 .non):=⟨fun _=>some .none,[],false,fun hv hd hf k=>by cases hf;exact k _ _ Ex.refl .non (fun z=>by cases z)⟩
def bO {r:R3} {ta tb:TE3} (R:OpD r) (a:PuE ta) (b:PuE tb):PuE (o3 r ta tb):=
 ⟨fun ρ=>(a.f ρ).bind fun x=>(b.f ρ).bind fun y=>R.f x y,a.fv++b.fv,R.nw,fun hv hd hf k=>by
  obtain ⟨x,e1,hf⟩:=Option.bind_eq_some_iff.mp hf
  obtain ⟨y,e2,hf⟩:=Option.bind_eq_some_iff.mp hf
  exact a.ok hv.l hd e1 fun x' G1 E1 D1 _=>b.ok (hv.r.up E1) (hd.up E1) e2 fun y' G2 E2 D2 _=>R.ok (D1.up (QK E2)) D2 ((hd.up E1).up E2) hf fun z G3 E3 D3 N3=>k z G3 ((E1.trans E2).trans E3) D3 fun h=>(N3 h).back (E1.trans E2)⟩
def qB:PuA qj:=⟨fun _=>some [],[],0,(fun h=>by cases h;rfl),fun hv hd hf k=>by cases hf;exact k _ _ Ex.refl .nil⟩
def qf {ta:TE3} {tr:TA3} (a:PuE ta) (r:PuA tr):PuA (qc ta tr):=
 ⟨fun ρ=>(a.f ρ).bind fun x=>(r.f ρ).bind fun xs=>some (x :: xs),a.fv++r.fv,r.n+1,(fun hf=>by
  obtain ⟨x,e1,hf⟩:=Option.bind_eq_some_iff.mp hf
  obtain ⟨xs,e2,hf⟩:=Option.bind_eq_some_iff.mp hf
  cases hf
  simp [r.ln e2]),fun hv hd hf k=>by
  obtain ⟨x,e1,hf⟩:=Option.bind_eq_some_iff.mp hf
  obtain ⟨xs,e2,hf⟩:=Option.bind_eq_some_iff.mp hf
  cases hf
  exact a.ok hv.l hd e1 fun x' G1 E1 D1 _=>r.ok (hv.r.up E1) (hd.up E1) e2 fun y' G2 E2 D2=>k _ G2 (E1.trans E2) (.cons (D1.up (QK E2)) D2)⟩
theorem few {n:Nat} (h:Tru (Nat.ble n 1000)):n<=sizeLine:=Nat.le_trans (Nat.le_of_ble_eq_true h.h) (by rw [sizeLine_eq];omega)
def UI {t:TA3} (a:PuA t) (hn:Tru (Nat.ble a.n 1000)):PuE (QU t):=⟨fun ρ=>(a.f ρ).map .tuple,a.fv,false,fun hv hd hf k=>by
 obtain ⟨xs,e1,rfl⟩:=Option.map_eq_some_iff.mp hf
 exact a.ok hv hd e1 fun x G1 E1 D1=>⟨by rw [D1.length,a.ln e1];exact few hn,k _ _ E1 (.tup D1) (fun z=>by cases z)⟩⟩
theorem KD {D:Addr->Prop} {G:Gp} {p:Addr} {xs:List T} {ds:List PyData} (hp:G p=none) (h:Dqs (rs D G) xs ds):Nw D G (gu G p (.lst xs)) (.ref p) (.list ds):=
 .inr ⟨p,xs,ds,rfl,rfl,hp,qT,h.up fun b o e=>by
  obtain ⟨n,e⟩:=qX e
  have:b≠p:=by rintro rfl;rw [hp] at e;cases e
  rw [Q5 (by rintro (z | z);exact n z;exact this z),QP this];exact e⟩
theorem XB {D:Addr->Prop} {G:Gp} {p:Addr} {xs:List T} {ds:List PyData} (hd:Dom D G) (hp:G p=none) (h:Dqs (rs D G) xs ds):Dq (rs D (gu G p (.lst xs))) (.ref p) (.list ds):=
 .lst (qjJ hd hp) (h.up (QK (VB hp)))
def qdX {t:TA3} (a:PuA t) (hn:Tru (Nat.ble a.n 1000)):PuE (XS t):=⟨fun ρ=>(a.f ρ).map .list,a.fv,true,fun hv hd hf k=>by
 obtain ⟨xs,e1,rfl⟩:=Option.map_eq_some_iff.mp hf
 exact a.ok hv hd e1 fun x G1 E1 D1=>⟨by rw [D1.length,a.ln e1];exact few hn,fun p hp=>k _ _ (E1.trans (VB hp)) (XB (hd.up E1) hp D1) fun _=>(KD hp D1).back E1⟩⟩
def qx {r:List T->Gp->Q3->Prop} {t:TA3} (R:FnD r) (a:PuA t):PuE (cb3 r t):=
 ⟨fun ρ=>(a.f ρ).bind R.f,a.fv,R.nw,fun hv hd hf k=>by
  obtain ⟨x,e1,hf⟩:=Option.bind_eq_some_iff.mp hf
  exact a.ok hv hd e1 fun x' G1 E1 D1=>R.ok D1 (hd.up E1) hf fun z G3 E3 D3 N3=>k z G3 (E1.trans E3) D3 fun h=>(N3 h).back E1⟩
def asB:PyData->Option Bool
 | .bool b=>some b
 | _=>none
def asI:PyData->Option Int
 | .int b=>some b
 | _=>none
theorem KP {d:PyData} {b:Bool} (h:asB d=some b):d=.bool b:=by cases d <;> simp [asB] at h;subst h;rfl
theorem qfQ {d:PyData} {b:Int} (h:asI d=some b):d=.int b:=by cases d <;> simp [asI] at h;subst h;rfl
def bTb {t:TE3} (a:PuE t):PuC (tb3 t):=⟨fun ρ=>(a.f ρ).bind asB,a.fv,fun hv hd hf k=>by
 obtain ⟨x,e1,hf⟩:=Option.bind_eq_some_iff.mp hf
 have:=KP hf;subst this
 exact a.ok hv hd e1 fun x' G1 E1 D1 _=>by cases D1;exact k G1 E1⟩
def qod {t u:TT3} (a:PuC t) (b:PuC u):PuC (qdE t u):=⟨fun ρ=>(a.f ρ).bind fun k=>if k then b.f ρ else some false,a.fv++b.fv,fun hv hd hf k=>by
 obtain ⟨x,e1,hf⟩:=Option.bind_eq_some_iff.mp hf
 refine a.ok hv.l hd e1 fun G1 E1=>?_
 cases x with
 | true=>exact b.ok (hv.r.up E1) (hd.up E1) hf fun G2 E2=>k G2 (E1.trans E2)
 | false=>cases hf;exact k G1 E1⟩
def bOr {t u:TT3} (a:PuC t) (b:PuC u):PuC (or3 t u):=⟨fun ρ=>(a.f ρ).bind fun k=>if k then some true else b.f ρ,a.fv++b.fv,fun hv hd hf k=>by
 obtain ⟨x,e1,hf⟩:=Option.bind_eq_some_iff.mp hf
 refine a.ok hv.l hd e1 fun G1 E1=>?_
 cases x with
 | false=>exact b.ok (hv.r.up E1) (hd.up E1) hf fun G2 E2=>k G2 (E1.trans E2)
 | true=>cases hf;exact k G1 E1⟩
def qc1 {t:TT3} (a:PuC t):PuC (K7 t):=⟨fun ρ=>(a.f ρ).map (! ·),a.fv,fun hv hd hf k=>by
 obtain ⟨x,e1,hf⟩:=Option.map_eq_some_iff.mp hf
 subst hf
 exact a.ok hv hd e1 fun G1 E1=>k G1 E1⟩
def bTt:PuC tt3:=⟨fun _=>some true,[],fun hv hd hf k=>by cases hf;exact k _ Ex.refl⟩
def CC {ta tb:TE3} (a:PuE ta) (b:PuE tb):PuE (QJ ta tb):=⟨fun ρ=>((a.f ρ).bind asB).bind fun k=>if k then b.f ρ else some (.bool false),a.fv++b.fv,false,fun hv hd hf k=>by
 obtain ⟨x,e1,hf⟩:=Option.bind_eq_some_iff.mp hf
 obtain ⟨y,e1,e2⟩:=Option.bind_eq_some_iff.mp e1
 have:=KP e2;subst this
 refine a.ok hv.l hd e1 fun x' G1 E1 D1 _=>?_
 cases D1
 cases x with
 | true=>exact b.ok (hv.r.up E1) (hd.up E1) hf fun z G2 E2 D2 _=>k z G2 (E1.trans E2) D2 (fun z=>by cases z)
 | false=>cases hf;exact k _ G1 E1 (.bl false) (fun z=>by cases z)⟩
def qiR {ta:TE3} (a:PuE ta):PuE (qcN ta):=⟨fun ρ=>((a.f ρ).bind asB).map fun k=>.bool (!k),a.fv,false,fun hv hd hf k=>by
 obtain ⟨x,e1,hf⟩:=Option.map_eq_some_iff.mp hf
 obtain ⟨y,e1,e2⟩:=Option.bind_eq_some_iff.mp e1
 have:=KP e2;subst this
 subst hf
 refine a.ok hv hd e1 fun x' G1 E1 D1 _=>?_
 cases D1
 exact k _ G1 E1 (.bl _) (fun z=>by cases z)⟩
def bIf {t:TT3} {ta tb:TE3} (c:PuC t) (a:PuE ta) (b:PuE tb):PuE (if3 t ta tb):=⟨fun ρ=>(c.f ρ).bind fun k=>if k then a.f ρ else b.f ρ,c.fv++(a.fv++b.fv),false,fun hv hd hf k=>by
 obtain ⟨x,e1,hf⟩:=Option.bind_eq_some_iff.mp hf
 refine c.ok hv.l hd e1 fun G1 E1=>?_
 cases x with
 | true=>exact a.ok (hv.r.l.up E1) (hd.up E1) hf fun z G2 E2 D2 _=>k z G2 (E1.trans E2) D2 (fun z=>by cases z)
 | false=>exact b.ok (hv.r.r.up E1) (hd.up E1) hf fun z G2 E2 D2 _=>k z G2 (E1.trans E2) D2 (fun z=>by cases z)⟩
def qhe {ta:TE3} (a:PuE ta):PuE (u3 qcY ta):=⟨fun ρ=>((a.f ρ).bind asI).map fun i=>.int (-i),a.fv,false,fun hv hd hf k=>by
 obtain ⟨x,e1,hf⟩:=Option.map_eq_some_iff.mp hf
 obtain ⟨y,e1,e2⟩:=Option.bind_eq_some_iff.mp e1
 have:=qfQ e2;subst this
 subst hf
 refine a.ok hv hd e1 fun x' G1 E1 D1 _=>?_
 cases D1
 exact k _ G1 E1 (.int _) (fun z=>by cases z)⟩
def bCh {r r':R3} {ta tb tc:TE3} (R:OpD r) (R':OpD r') (a:PuE ta) (b:PuE tb) (c:PuE tc):PuE (ch3 r r' ta tb tc):=
 ⟨fun ρ=>(a.f ρ).bind fun x=>(b.f ρ).bind fun y=>((R.f x y).bind asB).bind fun k=>if k then (c.f ρ).bind fun z=>R'.f y z else some (.bool false),a.fv++(b.fv++c.fv),false,fun {D τ ρ G q d} hv hd hf k=>by
  obtain ⟨x,e1,hf⟩:=Option.bind_eq_some_iff.mp hf
  obtain ⟨y,e2,hf⟩:=Option.bind_eq_some_iff.mp hf
  obtain ⟨j,e3,hf⟩:=Option.bind_eq_some_iff.mp hf
  obtain ⟨v,e3,e4⟩:=Option.bind_eq_some_iff.mp e3
  have:=KP e4;subst this
  refine a.ok hv.l hd e1 fun x' G1 E1 D1 _=>b.ok (hv.r.l.up E1) (hd.up E1) e2 fun y' G2 E2 D2 _=>R.ok (D1.up (QK E2)) D2 ((hd.up E1).up E2) e3 fun z G3 E3 D3 _=>?_
  cases D3
  have E:=(E1.trans E2).trans E3
  cases j with
  | true=>
   obtain ⟨w,e5,hf⟩:=Option.bind_eq_some_iff.mp hf
   exact c.ok (hv.r.r.up E) (hd.up E) e5 fun w' G4 E4 D4 _=>R'.ok ((D2.up (QK E3)).up (QK E4)) D4 ((hd.up E).up E4) hf fun u G5 E5 D5 _=>k u G5 ((E.trans E4).trans E5) D5 (fun z=>by cases z)
  | false=>cases hf;exact k _ G3 E (.bl false) (fun z=>by cases z)⟩
def tyD:PyData->Option String
 | .none=>some "NoneType" | .bool _=>some "bool" | .int _=>some "int" | .str _=>some "str" | .tuple _=>some "tuple" | .list _=>some "list" | .dict _=>none
def qiu {ta:TE3} (g:String->Bool) (a:PuE ta):PuE (CH g ta):=⟨fun ρ=>(a.f ρ).bind fun d=>(tyD d).map fun t=>.bool (g t),a.fv,false,fun hv hd hf k=>by
 obtain ⟨x,e1,hf⟩:=Option.bind_eq_some_iff.mp hf
 obtain ⟨y,e2,hf⟩:=Option.map_eq_some_iff.mp hf
 subst hf
 refine a.ok hv hd e1 fun x' G1 E1 D1 _=>?_
 have:tyT G1 x'=some y:=by
  cases D1 with
  | lst h _=>have g:=je (qX h).2;simp [tyT,g];simpa [tyD] using e2
  | _=>simpa [tyT,tyD] using e2
 simp only [this]
 exact k _ G1 E1 (.bl _) (fun z=>by cases z)⟩
def bNp:PuO np3:=⟨fun _=>some none,[],fun hv hd hf k=>by cases hf;exact k _ Ex.refl⟩
def bSp {t:TE3} (a:PuE t):PuO (sp3 t):=⟨fun ρ=>((a.f ρ).bind asI).map some,a.fv,fun hv hd hf k=>by
 obtain ⟨x,e1,hf⟩:=Option.map_eq_some_iff.mp hf
 obtain ⟨y,e1,e2⟩:=Option.bind_eq_some_iff.mp e1
 have:=qfQ e2;subst this
 subst hf
 refine a.ok hv hd e1 fun x' G1 E1 D1 _=>?_
 cases D1
 exact k G1 E1⟩
theorem Dqs.cut {G:Gp} {xs:List T} {ds:List PyData} (h:Dqs G xs ds) (lo hi:Option Int):Dqs G (qas xs lo hi) (qas ds lo hi):=by
 unfold qas
 rw [h.length]
 exact (h.drop _).take _
def slD (d:PyData) (lo hi:Option Int):Option PyData:=match d with
 | .tuple xs=>cif (HT.sIx xs.length 0 lo=0/\HT.sIx xs.length xs.length hi=xs.length) none (some (.tuple (qas xs lo hi)))
 | .list xs=>some (.list (qas xs lo hi))
 | _=>none
def bSl {te:TE3} {tl th:TO3} (a:PuE te) (l:PuO tl) (h:PuO th):PuE (qiw te tl th):=⟨fun ρ=>(a.f ρ).bind fun d=>(l.f ρ).bind fun lo=>(h.f ρ).bind fun hi=>slD d lo hi,a.fv++(l.fv++h.fv),false,fun hv hd hf k=>by
 obtain ⟨d,e1,hf⟩:=Option.bind_eq_some_iff.mp hf
 obtain ⟨lo,e2,hf⟩:=Option.bind_eq_some_iff.mp hf
 obtain ⟨hi,e3,hf⟩:=Option.bind_eq_some_iff.mp hf
 refine a.ok hv.l hd e1 fun x' G1 E1 D1 _=>l.ok (hv.r.l.up E1) (hd.up E1) e2 fun G2 E2=>h.ok (hv.r.r.up (E1.trans E2)) (hd.up (E1.trans E2)) e3 fun G3 E3=>?_
 have E:=(E1.trans E2).trans E3
 have D3:=(D1.up (QK E2)).up (QK E3)
 unfold slD at hf
 cases D3 with
 | tup hs=>
  simp only [cif] at hf
  split at hf
  ·cases hf
  ·rename_i n
   cases hf
   exact ⟨by rw [hs.length];exact n,k _ _ E (.tup (hs.cut _ _)) (fun z=>by cases z)⟩
 | lst g hs=>
  simp only at hf
  cases hf
  simp only [sl3,je (qX g).2]
  intro p hp
  exact k _ _ (E.trans (VB hp)) (XB (hd.up E) hp (hs.cut _ _)) (fun z=>by cases z)
 | _=>simp at hf⟩
def UJ:List PyData->Option (List Int)
 | []=>some []
 | .int i :: r=>(UJ r).map (i :: ·)
 | _=>none
theorem XN (ns:List Int):UJ (ns.map PyData.int)=some ns:=by
 induction ns with
 | nil=>rfl
 | cons n r ih=>simp [UJ,ih]
theorem WK:∀ {xs:List PyData} {ns:List Int},UJ xs=some ns->xs=ns.map PyData.int
 | [],_,h=>by simp [UJ] at h;subst h;rfl
 | .int i :: r,ns,h=>by
  simp only [UJ] at h
  obtain ⟨ms,e,rfl⟩:=Option.map_eq_some_iff.mp h
  rw [WK e];rfl
 | .none :: r,ns,h=>by simp [UJ] at h
 | .bool _ :: r,ns,h=>by simp [UJ] at h
 | .str _ :: r,ns,h=>by simp [UJ] at h
 | .list _ :: r,ns,h=>by simp [UJ] at h
 | .tuple _ :: r,ns,h=>by simp [UJ] at h
 | .dict _ :: r,ns,h=>by simp [UJ] at h
def qax (d:PyData):Option PyData:=match d with
 | .list ds=>(UJ ds).bind fun ns=>cif (ns.length < 4000) (some (.int (U0 ns))) none
 | _=>none
def qlz {te:TE3} (a:PuE te):PuE (qg5 te):=⟨fun ρ=>(a.f ρ).bind qax,a.fv,false,fun hv hd hf k=>by
 obtain ⟨d,e1,hf⟩:=Option.bind_eq_some_iff.mp hf
 refine a.ok hv hd e1 fun x' G1 E1 D1 _=>?_
 unfold qax at hf
 cases D1 with
 | lst g hs=>
  simp only at hf
  obtain ⟨ns,en,hf⟩:=Option.bind_eq_some_iff.mp hf
  unfold cif at hf
  split at hf
  ·rename_i hl
   cases hf
   have:=WK en
   subst this
   have:=hs.ints
   subst this
   simp only [je (qX g).2,XX]
   exact ⟨hl,k _ _ E1 (.int _) (fun z=>by cases z)⟩
  ·cases hf
 | _=>simp at hf⟩
end Pu
namespace Pu
open PySem L2 L3
def opI (g:Int->Int->Int):OpD (iI g):=⟨fun d e=>match d,e with | .int i,.int j=>some (.int (g i j)) | _,_=>none,false,fun {D G x y d e v q} hx hy hd hf k=>by
 cases hx <;> try (simp at hf;done)
 cases hy <;> try (simp at hf;done)
 cases hf
 exact k _ _ Ex.refl (.int _) (fun z=>by cases z)⟩
def cI (C:Int->Int->Prop) (g:Int->Int->Int) (d e:PyData):Option PyData:=match d,e with | .int i,.int j=>cif (C i j) (some (.int (g i j))) none | _,_=>none
def opC (C:Int->Int->Prop) (g:Int->Int->Int):OpD (iC C g):=⟨cI C g,false,fun {D G x y d e v q} hx hy hd hf k=>by
 unfold cI at hf
 cases hx <;> try (simp at hf;done)
 cases hy <;> try (simp at hf;done)
 simp only [cif] at hf
 split at hf
 ·rename_i c
  cases hf
  exact ⟨c,k _ _ Ex.refl (.int _) (fun z=>by cases z)⟩
 ·cases hf⟩
def opB (g:Int->Int->Bool):OpD (iB g):=⟨fun d e=>match d,e with | .int i,.int j=>some (.bool (g i j)) | _,_=>none,false,fun {D G x y d e v q} hx hy hd hf k=>by
 cases hx <;> try (simp at hf;done)
 cases hy <;> try (simp at hf;done)
 cases hf
 exact k _ _ Ex.refl (.bl _) (fun z=>by cases z)⟩
def qc7:PyData->PyData->Option Bool
 | .none,.none=>some true | .none,.int _=>some false | .int _,.none=>some false | .none,.bool _=>some false | .bool _,.none=>some false | .none,.str _=>some false | .str _,.none=>some false
 | .int i,.int j=>some (decide (i=j)) | .bool i,.bool j=>some (decide (i=j)) | .str i,.str j=>some (decide (i=j))
 | .int _,.str _=>some false | .str _,.int _=>some false | .bool _,.str _=>some false | .str _,.bool _=>some false
 | _,_=>none
theorem qcy {G:Gp} {x y:T} {d e:PyData} (hx:Dq G x d) (hy:Dq G y e):YQ x y=qc7 d e:=by
 cases hx <;> cases hy <;> rfl
def eqD (neg:Bool) (d e:PyData):Option PyData:=match qc7 d e with
 | some k=>some (.bool (if neg then !k else k))
 | none=>cif (dpt d<=40/\dpt d≠0) ((JC d e).map fun b=>.bool (if neg then !b else b)) none
def D7 (neg:Bool):OpD (jM neg):=⟨eqD neg,false,fun {D G x y d e v q} hx hy hd hf k=>by
 unfold jM
 rw [qcy hx hy]
 unfold eqD at hf
 cases h:qc7 d e with
 | some b=>rw [h] at hf;cases hf;exact k _ _ Ex.refl (.bl _) (fun z=>by cases z)
 | none=>
  rw [h] at hf
  simp only [cif] at hf ⊢
  split at hf
  ·rename_i c
   obtain ⟨b,e1,rfl⟩:=Option.map_eq_some_iff.mp hf
   exact ⟨d,e,b,(hx.up YN).dp,(hy.up YN).dp,e1,c.1,c.2,k _ _ Ex.refl (.bl _) (fun z=>by cases z)⟩
  ·cases hf⟩
def qmZ (neg:Bool) (d e:PyData):Option PyData:=match e with | .none=>some (.bool (match d with | .none=>!neg | _=>neg)) | _=>none
def qaj (neg:Bool):OpD (qah neg):=⟨qmZ neg,false,fun {D G x y d e v q} hx hy hd hf k=>by
 unfold qmZ at hf
 cases hy <;> try (simp at hf;done)
 cases hf
 unfold qah
 cases hx <;> exact k _ _ Ex.refl (.bl _) (fun z=>by cases z)⟩
def qnN (neg:Bool) (d e:PyData):Option PyData:=match d,e with | .bool i,.bool j=>some (.bool (if neg then i != j else i == j)) | _,_=>none
def qhB (neg:Bool):OpD (qjy neg):=⟨qnN neg,false,fun {D G x y d e v q} hx hy hd hf k=>by
 unfold qnN at hf
 cases hx <;> try (simp at hf;done)
 cases hy <;> try (simp at hf;done)
 cases hf
 exact k _ _ Ex.refl (.bl _) (fun z=>by cases z)⟩
def ixD (d e:PyData):Option PyData:=match d,e with
 | .tuple xs,.int i=>atI xs i
 | .list xs,.int i=>atI xs i
 | _,_=>none
theorem Dqs.atI {G:Gp} {xs:List T} {ds:List PyData} {i:Int} {d:PyData} (h:Dqs G xs ds) (e:L2.atI ds i=some d):∃ x,L2.atI xs i=some x/\Dq G x d:=by
 unfold L2.atI at e ⊢
 rw [h.length]
 obtain ⟨j,e1,e2⟩:=Option.bind_eq_some_iff.mp e
 obtain ⟨x,hx,r⟩:=h.get e2
 exact ⟨x,by rw [e1];exact hx,r⟩
def zx:OpD ix3:=⟨ixD,false,fun {D G x y d e v q} hx hy hd hf k=>by
 unfold ixD at hf
 cases hx with
 | tup hs=>
  cases hy <;> try (simp at hf;done)
  obtain ⟨x,e1,r⟩:=hs.atI hf
  simp only [ix3,e1]
  exact k _ _ Ex.refl r (fun z=>by cases z)
 | lst g hs=>
  cases hy <;> try (simp at hf;done)
  obtain ⟨x,e1,r⟩:=hs.atI hf
  simp only [ix3,je (qX g).2,e1]
  exact k _ _ Ex.refl r (fun z=>by cases z)
 | _=>simp at hf⟩
def qnw (d e:PyData):Option PyData:=match d,e with
 | .tuple xs,.tuple ys=>cif (xs≠[]/\xs.length+ys.length<=sizeLine) (some (.tuple (xs++ys))) none
 | .list xs,.list ys=>cif (xs.length+ys.length<=sizeLine) (some (.list (xs++ys))) none
 | .int i,.int j=>some (.int (i+j))
 | _,_=>none
def JM:OpD jN:=⟨qnw,false,fun {D G x y d e v q} hx hy hd hf k=>by
  unfold qnw at hf
  cases hx with
  | int i => cases hy <;> try (simp at hf;done)
             cases hf
             exact k _ _ Ex.refl (.int _) (fun z=>by cases z)
  | tup hs=>
    cases hy <;> try (simp at hf;done)
    rename_i hs2
    simp only [cif] at hf
    split at hf
    · rename_i c
      cases hf
      refine ⟨?_,by rw [hs.length,hs2.length];exact c.2,k _ _ Ex.refl (.tup (hs.append hs2)) (fun z=>by cases z)⟩
      rintro rfl
      cases hs
      exact c.1 rfl
    · cases hf
  | lst g hs=>
    cases hy <;> try (simp at hf;done)
    rename_i g2 hs2
    simp only [cif] at hf
    split at hf
    · rename_i c
      cases hf
      simp only [jN,(qX g).2,(qX g2).2]
      exact ⟨by rw [hs.length,hs2.length];exact c,fun p hp=>k _ _ (VB hp) (XB hd hp (hs.append hs2)) (fun z=>by cases z)⟩
    · cases hf
  | _=>simp at hf⟩
def qff:List PyData->Option PyData
 | [.tuple xs]=>some (.int xs.length)
 | [.list xs]=>some (.int xs.length)
 | _=>none
def M5:FnD DY:=⟨qff,false,fun {D G xs ds v q} hx hd hf k=>by
 unfold qff at hf
 split at hf
 ·cases hx with
  | cons a b=>cases b;cases a;rename_i hs;cases hf;simp only [DY];rw [hs.length];exact k _ _ Ex.refl (.int _) (fun z=>by cases z)
 ·cases hx with
  | cons a b=>cases b;cases a;rename_i g hs;cases hf;simp only [DY,je (qX g).2];rw [hs.length];exact k _ _ Ex.refl (.int _) (fun z=>by cases z)
 ·cases hf⟩
def qnA:List PyData->Option PyData
 | [.tuple xs]=>some (.tuple xs)
 | [.list xs]=>some (.tuple xs)
 | _=>none
def qpK:FnD X6:=⟨qnA,false,fun {D G xs ds v q} hx hd hf k=>by
 unfold qnA at hf
 split at hf
 ·cases hx with
  | cons a b=>cases b;cases a;rename_i hs;cases hf;exact k _ _ Ex.refl (.tup hs) (fun z=>by cases z)
 ·cases hx with
  | cons a b=>cases b;cases a;rename_i g hs;cases hf;simp only [X6,je (qX g).2];exact k _ _ Ex.refl (.tup hs) (fun z=>by cases z)
 ·cases hf⟩
def qnI:List PyData->Option PyData
 | [.tuple xs]=>some (.list xs)
 | [.list xs]=>some (.list xs)
 | _=>none
def qnQ:FnD N4:=⟨qnI,true,fun {D G xs ds v q} hx hd hf k=>by
 unfold qnI at hf
 split at hf
 ·cases hx with
  | cons a b=>cases b;cases a;rename_i hs;cases hf;exact fun p hp=>k _ _ (VB hp) (XB hd hp hs) fun _=>KD hp hs
 ·cases hx with
  | cons a b=>cases b;cases a;rename_i g hs;cases hf;simp only [N4,je (qX g).2];exact fun p hp=>k _ _ (VB hp) (XB hd hp hs) fun _=>KD hp hs
 ·cases hf⟩
def N5:List PyData->Option (List Bool)
 | []=>some []
 | .bool i :: r=>(N5 r).map (i :: ·)
 | _=>none
theorem qdG (ns:List Bool):N5 (ns.map PyData.bool)=some ns:=by
 induction ns with
 | nil=>rfl
 | cons n r ih=>simp [N5,ih]
theorem qcQ {G:Gp}:∀ {xs:List T} {ds:List PyData} {ns:List Bool},Dqs G xs ds->N5 ds=some ns->qeQ xs=some (ns.all id)/\qpH xs=some (ns.any id)
 | _,_,_,.nil,h=>by simp [N5] at h;subst h;exact ⟨rfl,rfl⟩
 | _,.bool i :: r,ns,.cons a b,h=>by
  simp only [N5] at h
  obtain ⟨ms,e,rfl⟩:=Option.map_eq_some_iff.mp h
  obtain ⟨h1,h2⟩:=qcQ b e
  cases a
  simp [qeQ,qpH,h1,h2]
 | _,.int _ :: r,ns,_,h=>by simp [N5] at h
 | _,.none :: r,ns,_,h=>by simp [N5] at h
 | _,.str _ :: r,ns,_,h=>by simp [N5] at h
 | _,.list _ :: r,ns,_,h=>by simp [N5] at h
 | _,.tuple _ :: r,ns,_,h=>by simp [N5] at h
 | _,.dict _ :: r,ns,_,h=>by simp [N5] at h
def qiO:List PyData->Option PyData
 | [.list xs]=>(N5 xs).map fun ns=>.bool (ns.all id)
 | _=>none
def qkn:FnD qbt:=⟨qiO,false,fun {D G xs ds v q} hx hd hf k=>by
 unfold qiO at hf
 split at hf
 ·obtain ⟨ns,e,rfl⟩:=Option.map_eq_some_iff.mp hf
  cases hx with
  | cons a b=>cases b;cases a;rename_i g hs;simp only [qbt,je (qX g).2,(qcQ hs e).1];exact k _ _ Ex.refl (.bl _) (fun z=>by cases z)
 ·cases hf⟩
def mn:List Int->Int
 | []=>0 | [a]=>a | a :: b :: r=>min a (mn (b :: r))
def mx:List Int->Int
 | []=>0 | [a]=>a | a :: b :: r=>max a (mx (b :: r))
theorem qaJ:∀ {ns:List Int} {m:Int},m∈ns->mn ns<=m
 | [a],m,h=>by simp at h;subst h;exact Int.le_refl _
 | a :: b :: r,m,h=>by
  unfold mn
  rcases List.mem_cons.mp h with rfl | h
  ·omega
  ·have:=qaJ h;omega
theorem M0:∀ {ns:List Int},ns≠[]->mn ns∈ns
 | [a],_=>by simp [mn]
 | a :: b :: r,_=>by
  unfold mn
  have:=M0 (ns:=b :: r) (by simp)
  rcases Int.le_total a (mn (b :: r)) with h | h
  ·rw [Int.min_eq_left h];simp
  ·rw [Int.min_eq_right h];exact List.mem_cons_of_mem _ this
theorem qdc:∀ {ns:List Int} {m:Int},m∈ns->m<=mx ns
 | [a],m,h=>by simp at h;subst h;exact Int.le_refl _
 | a :: b :: r,m,h=>by
  unfold mx
  rcases List.mem_cons.mp h with rfl | h
  ·omega
  ·have:=qdc h;omega
theorem M9:∀ {ns:List Int},ns≠[]->mx ns∈ns
 | [a],_=>by simp [mx]
 | a :: b :: r,_=>by
  unfold mx
  have:=M9 (ns:=b :: r) (by simp)
  rcases Int.le_total a (mx (b :: r)) with h | h
  ·rw [Int.max_eq_right h];exact List.mem_cons_of_mem _ this
  ·rw [Int.max_eq_left h];simp
def mnD:List PyData->Option PyData
 | [.list xs]=>(UJ xs).bind fun ns=>cif (ns≠[]) (some (.int (mn ns))) none
 | _=>none
def MR:FnD CO:=⟨mnD,false,fun {D G xs ds v q} hx hd hf k=>by
 unfold mnD at hf
 split at hf
 ·obtain ⟨ns,e,hf⟩:=Option.bind_eq_some_iff.mp hf
  unfold cif at hf
  split at hf
  ·rename_i c
   cases hf
   cases hx with
   | cons a b=>
    cases b;cases a;rename_i g hs;have:=WK e;subst this;have:=hs.ints;subst this;simp only [CO,je (qX g).2,XX]
    refine ⟨c,fun m hm hl=>?_⟩
    have:m=mn ns:=Int.le_antisymm (hl _ (M0 c)) (qaJ hm)
    subst this
    exact k _ _ Ex.refl (.int _) (fun z=>by cases z)
  ·cases hf
 ·cases hf⟩
def mxD:List PyData->Option PyData
 | [.list xs]=>(UJ xs).bind fun ns=>cif (ns≠[]) (some (.int (mx ns))) none
 | _=>none
def qct:FnD KI:=⟨mxD,false,fun {D G xs ds v q} hx hd hf k=>by
 unfold mxD at hf
 split at hf
 ·obtain ⟨ns,e,hf⟩:=Option.bind_eq_some_iff.mp hf
  unfold cif at hf
  split at hf
  ·rename_i c
   cases hf
   cases hx with
   | cons a b=>
    cases b;cases a;rename_i g hs;have:=WK e;subst this;have:=hs.ints;subst this;simp only [KI,je (qX g).2,XX]
    refine ⟨c,fun m hm hl=>?_⟩
    have:m=mx ns:=Int.le_antisymm (qdc hm) (hl _ (M9 c))
    subst this
    exact k _ _ Ex.refl (.int _) (fun z=>by cases z)
  ·cases hf
 ·cases hf⟩
def PSp (F:List PyData->Option PyData) (fr:Bool):Sp3:=fun ts G q=>∃ (D:Addr->Prop) (ds:List PyData) (d:PyData),Dqs (rs D G) ts ds/\Dom D G/\F ds=some d/\∀ x G',Ex G G'->Dq (rs D G') x d->(fr=true->Nw D G G' x d)->q x G'
def qV (F:List PyData->Option PyData) (fr:Bool):FnD (PSp F fr):=⟨F,fr,fun {D G xs ds v q} hx hd hf k=>⟨D,ds,v,hx,hd,hf,k⟩⟩
def qaB:PyData->Option (List PyData)
 | .tuple xs=>some xs
 | .list xs=>some xs
 | _=>none
def TR {t:TE3} (a:PuE t):PuI (JV t):=⟨fun ρ=>(a.f ρ).bind qaB,a.fv,false,fun {D τ ρ G r ds} hv hd hf k=>by
 obtain ⟨d,e1,hf⟩:=Option.bind_eq_some_iff.mp hf
 refine a.ok hv hd e1 fun x G1 E1 D1 _=>?_
 unfold qaB at hf
 cases D1 with
 | tup hs=>cases hf;exact k _ _ _ E1 hs (fun _ _=>trivial) (fun z=>by cases z)
 | lst g hs=>
  cases hf
  simp only [je (qX g).2]
  refine k _ _ _ E1 hs (fun G2 h=>?_) (fun z=>by cases z)
  rcases h with h | h
  ·cases h
  ·exact je (h _ _ g)
 | _=>simp at hf⟩
def QQ (lo:Int) (n:Nat):List Int:=(List.range n).map fun (i:Nat)=>lo+(i:Int)
theorem NL (lo:Int) (n:Nat):qan lo n=(QQ lo n).map T.int:=by simp [qan,QQ,List.map_map,Function.comp_def]
def qcZ:List PyData->Option (List PyData)
 | [.int j]=>cif (-(2 ^ 62)<=j/\j < 2 ^ 62) (some ((QQ 0 j.toNat).map PyData.int)) none
 | [.int i,.int j]=>cif (-(2 ^ 62)<=i/\i < 2 ^ 62/\-(2 ^ 62)<=j/\j < 2 ^ 62) (some ((QQ i (j - i).toNat).map PyData.int)) none
 | _=>none
def T7 {t:TA3} (a:PuA t):PuI (jJ t):=⟨fun ρ=>(a.f ρ).bind qcZ,a.fv,true,fun {D τ ρ G r ds} hv hd hf k=>by
 obtain ⟨d,e1,hf⟩:=Option.bind_eq_some_iff.mp hf
 refine a.ok hv hd e1 fun x G1 E1 D1=>?_
 unfold qcZ at hf
 split at hf
 ·unfold cif at hf
  split at hf
  ·rename_i c
   cases hf
   cases D1 with
   | cons a b=>cases b;cases a;simp only;rw [NL];exact ⟨c,k _ _ _ E1 (Dqs.ofInts _) (fun _ _=>trivial) fun _=>⟨_,rfl⟩⟩
  ·cases hf
 ·unfold cif at hf
  split at hf
  ·rename_i c
   cases hf
   cases D1 with
   | cons a b=>cases b with
    | cons b c'=>cases c';cases a;cases b;simp only;rw [NL];exact ⟨c,k _ _ _ E1 (Dqs.ofInts _) (fun _ _=>trivial) fun _=>⟨_,rfl⟩⟩
  ·cases hf
 ·cases hf⟩
def qgb (us vs:List PyData):List PyData:=(us.zip vs).map fun p=>.tuple [p.1,p.2]
theorem Dqs.zip {G:Gp}:∀ {xs:List T} {ds:List PyData} {ys:List T} {es:List PyData},Dqs G xs ds->Dqs G ys es->Dqs G (qcW xs ys) (qgb ds es)
 | _,_,_,_,.nil,_=>by simp [qcW,qgb];exact .nil
 | _,_,_,_,.cons _ _,.nil=>by simp [qcW,qgb];exact .nil
 | _,_,_,_,.cons a b,.cons c d=>.cons (.tup (.cons a (.cons c .nil))) (Dqs.zip b d)
theorem RU {G:Gp} {x:T} {d:PyData} {ds:List PyData} (h:Dq G x d) (e:qaB d=some ds):∃ us,jK G x=some us/\Dqs G us ds:=by
 unfold qaB at e
 cases h with
 | tup hs=>cases e;exact ⟨_,rfl,hs⟩
 | lst g hs=>cases e;exact ⟨_,je g,hs⟩
 | _=>simp at e
theorem C8 {G G':Gp} {x:T} {us:List T} (e:Ex G G') (h:jK G x=some us):jK G' x=some us:=by
 cases x with
 | tup xs=>exact h
 | ref p=>exact e.getL h
 | _=>cases h
def qqy {t:TA3} (a:PuA t):PuI (qal t):=⟨fun ρ=>(a.f ρ).bind fun ds=>match ds with | [d,e]=>(qaB d).bind fun us=>(qaB e).bind fun vs=>some (qgb us vs) | _=>none,a.fv,false,fun {D τ ρ G r ds} hv hd hf k=>by
 obtain ⟨d,e1,hf⟩:=Option.bind_eq_some_iff.mp hf
 refine a.ok hv hd e1 fun x G1 E1 D1=>?_
 split at hf
 ·obtain ⟨us,e2,hf⟩:=Option.bind_eq_some_iff.mp hf
  obtain ⟨vs,e3,hf⟩:=Option.bind_eq_some_iff.mp hf
  cases hf
  cases D1 with
  | cons a b=>cases b with
   | cons b c=>
    cases c
    obtain ⟨us',h1,h2⟩:=RU a e2
    obtain ⟨vs',h3,h4⟩:=RU b e3
    simp only [C8 YN h1,C8 YN h3]
    refine k _ _ _ E1 (h2.zip h4) (fun G2 h=>?_) (fun z=>by cases z)
    rcases h with h | h
    ·cases h
    ·exact ⟨C8 h h1,C8 h h3⟩
 ·cases hf⟩
def enD (k:Nat):List PyData->List PyData
 | []=>[]
 | x :: r=>.tuple [.int (k:Int),x] :: enD (k+1) r
theorem Dqs.enum {G:Gp}:∀ {xs:List T} {ds:List PyData} (k:Nat),Dqs G xs ds->Dqs G (QX k xs) (enD k ds)
 | _,_,_,.nil=>.nil
 | _,_,k,.cons a b=>.cons (.tup (.cons (.int _) (.cons a .nil))) (Dqs.enum (k+1) b)
def N7 {t:TA3} (a:PuA t):PuI (EF t):=⟨fun ρ=>(a.f ρ).bind fun ds=>match ds with | [d]=>(qaB d).map fun us=>enD 0 us | _=>none,a.fv,false,fun {D τ ρ G r ds} hv hd hf k=>by
 obtain ⟨d,e1,hf⟩:=Option.bind_eq_some_iff.mp hf
 refine a.ok hv hd e1 fun x G1 E1 D1=>?_
 split at hf
 ·obtain ⟨us,e2,rfl⟩:=Option.map_eq_some_iff.mp hf
  cases D1 with
  | cons a b=>
   cases b
   obtain ⟨us',h1,h2⟩:=RU a e2
   simp only [C8 YN h1]
   refine k _ _ _ E1 (h2.enum 0) (fun G2 h=>?_) (fun z=>by cases z)
   rcases h with h | h
   ·cases h
   ·exact C8 h h1
 ·cases hf⟩
inductive Bd (H:Gp):List (Nat×T)->List (Nat×PyData)->Prop
 | nil:Bd H [] []
 | cons {i:Nat} {x:T} {d:PyData} {ts:List (Nat×T)} {bs:List (Nat×PyData)}:Dq H x d->Bd H ts bs->Bd H ((i,x) :: ts) ((i,d) :: bs)
theorem Bd.append {H:Gp}:∀ {ts:List (Nat×T)} {bs:List (Nat×PyData)} {us:List (Nat×T)} {cs:List (Nat×PyData)},Bd H ts bs->Bd H us cs->Bd H (ts++us) (bs++cs)
 | _,_,_,_,.nil,h=>h
 | _,_,_,_,.cons a b,h=>.cons a (Bd.append b h)
theorem Bd.up {H H':Gp} (e:Ex H H'):∀ {ts:List (Nat×T)} {bs:List (Nat×PyData)},Bd H ts bs->Bd H' ts bs
 | _,_,.nil=>.nil
 | _,_,.cons a b=>.cons (a.up e) (Bd.up e b)
def sets:St3->List (Nat×T)->St3
 | τ,[]=>τ
 | τ,p :: r=>sets (τ.set p.1 (some p.2)) r
def QS:Rho->List (Nat×PyData)->Rho
 | ρ,[]=>ρ
 | ρ,p :: r=>QS (ρ.set p.1 (.sh p.2)) r
theorem NV:∀ (τ:St3) (a b:List (Nat×T)),sets τ (a++b)=sets (sets τ a) b
 | τ,[],b=>rfl
 | τ,p :: a,b=>by simp only [List.cons_append,sets];exact NV _ a b
structure PuG (g:TG3) where
 f:PyData->Option (List (Nat×PyData))
 tg:List Nat
 at':∀ {d bs},f d=some bs->∀ p∈bs,p.1∈tg
 ok:∀ {H x d bs},Dq H x d->f d=some bs->∃ ts,Bd H ts bs/\∀ τ G (q:St3->Gp->Prop),q (sets τ ts) G->g x τ G q
structure PuGs (g:LK) where
 f:List PyData->Option (List (Nat×PyData))
 tg:List Nat
 at':∀ {d bs},f d=some bs->∀ p∈bs,p.1∈tg
 ok:∀ {H x d bs},Dqs H x d->f d=some bs->∃ ts,Bd H ts bs/\∀ τ G (q:St3->Gp->Prop),q (sets τ ts) G->g x τ G q
def gN (i:Nat):PuG (gn3 i):=⟨fun d=>some [(i,d)],[i],fun h p hp=>by cases h;simp at hp;subst hp;simp,fun hx h=>by cases h;exact ⟨_,.cons hx .nil,fun τ G q hq=>hq⟩⟩
def DU:PuGs jp:=⟨fun ds=>match ds with | []=>some [] | _=>none,[],(fun h p hp=>by split at h;cases h;cases hp;cases h),fun hx h=>by
 split at h
 ·cases h;cases hx;exact ⟨[],.nil,fun τ G q hq=>hq⟩
 ·cases h⟩
def qU {t:TG3} {u:LK} (a:PuG t) (b:PuGs u):PuGs (qr t u):=⟨fun ds=>match ds with | d :: r=>(a.f d).bind fun x=>(b.f r).map fun y=>x++y | []=>none,a.tg++b.tg,(fun h p hp=>by
 split at h
 ·obtain ⟨x,e1,h⟩:=Option.bind_eq_some_iff.mp h
  obtain ⟨y,e2,rfl⟩:=Option.map_eq_some_iff.mp h
  rcases List.mem_append.mp hp with z | z
  ·exact List.mem_append.mpr (.inl (a.at' e1 p z))
  ·exact List.mem_append.mpr (.inr (b.at' e2 p z))
 ·cases h),fun hx h=>by
 split at h
 ·obtain ⟨x,e1,h⟩:=Option.bind_eq_some_iff.mp h
  obtain ⟨y,e2,rfl⟩:=Option.map_eq_some_iff.mp h
  cases hx with
  | cons hx hr=>
   obtain ⟨ts,b1,k1⟩:=a.ok hx e1
   obtain ⟨us,b2,k2⟩:=b.ok hr e2
   refine ⟨ts++us,b1.append b2,fun τ G q hq=>k1 τ G _ (k2 _ G q ?_)⟩
   rw [← NV];exact hq
 ·cases h⟩
def DT {u:LK} (n:Nat) (b:PuGs u):PuG (jr n u):=⟨fun d=>match d with | .tuple ds=>if ds.length=n then b.f ds else none | _=>none,b.tg,(fun h p hp=>by
 split at h
 ·split at h
  ·exact b.at' h p hp
  ·cases h
 ·cases h),fun hx h=>by
 split at h
 ·split at h
  ·rename_i c
   cases hx with
   | tup hs=>
    obtain ⟨ts,b1,k1⟩:=b.ok hs h
    exact ⟨ts,b1,fun τ G q hq=>⟨by rw [hs.length];exact c,k1 τ G q hq⟩⟩
  ·cases h
 ·cases h⟩
end Pu
namespace Pu
open PySem L2 L3
structure VA (D:Addr->Prop) (G:Gp) (τ:St3) (ρ:Rho):Prop where
 len:ρ.length=τ.length
 vw:∀ i d,vw ρ i=some d->∃ t,τ[i]?=some (some t)/\Dq (rs D G) t d
theorem VA.view {D:Addr->Prop} {G:Gp} {τ:St3} {ρ:Rho} (h:VA D G τ ρ) (fv:List Nat):CS fv D G τ ρ:=fun i _ d e=>h.vw i d e
theorem VA.upx {D:Addr->Prop} {G G':Gp} {τ:St3} {ρ:Rho} (h:VA D G τ ρ) (e:Ex (rs D G) (rs D G')):VA D G' τ ρ:=⟨h.len,fun i d hd=>let ⟨t,a,b⟩:=h.vw i d hd;⟨t,a,b.up e⟩⟩
theorem VA.up {D:Addr->Prop} {G G':Gp} {τ:St3} {ρ:Rho} (h:VA D G τ ρ) (e:Ex G G'):VA D G' τ ρ:=h.upx (QK e)
theorem qf9 {ρ:Rho} {i j:Nat} {s:Sl}:vw (ρ.set i s) j=if i=j then (if i < ρ.length then s.d else none) else vw ρ j:=by
 unfold vw
 rw [List.getElem?_set]
 split
 ·subst j;split
  ·rfl
  ·rfl
 ·rfl
theorem VA.set {D:Addr->Prop} {G:Gp} {τ:St3} {ρ:Rho} (h:VA D G τ ρ) {i:Nat} {x:T} {d:PyData} (hx:Dq (rs D G) x d):VA D G (τ.set i (some x)) (ρ.set i (.sh d)):=by
 refine ⟨by simp [h.len],fun j e he=>?_⟩
 rw [qf9] at he
 split at he
 ·subst j
  split at he
  ·rename_i l
   cases he
   refine ⟨x,?_,hx⟩
   rw [List.getElem?_set,if_pos rfl,if_pos (by rw [← h.len];exact l)]
  ·cases he
 ·rename_i n
  obtain ⟨t,a,b⟩:=h.vw j e he
  exact ⟨t,by rw [List.getElem?_set,if_neg n];exact a,b⟩
theorem VA.sets {D:Addr->Prop} {G:Gp}:∀ {ts:List (Nat×T)} {bs:List (Nat×PyData)} {τ:St3} {ρ:Rho},VA D G τ ρ->Bd (rs D G) ts bs->VA D G (Pu.sets τ ts) (QS ρ bs)
 | _,_,_,_,h,.nil=>h
 | _,_,_,_,h,.cons a b=>by unfold Pu.sets QS;exact VA.sets (h.set a) b
theorem VA.keep {D:Addr->Prop} {G:Gp} {ρ:Rho}:∀ {ts:List (Nat×T)} {τ:St3},VA D G τ ρ->(∀ p∈ts,Pu.vw ρ p.1=none)->VA D G (Pu.sets τ ts) ρ
 | [],_,h,_=>h
 | p :: r,τ,h,hn=>VA.keep (ts:=r) ⟨by rw [List.length_set];exact h.len,fun j d hd=>by
   have:p.1≠j:=by rintro rfl;rw [hn p (by simp)] at hd;cases hd
   obtain ⟨t,a,b⟩:=h.vw j d hd
   exact ⟨t,by rw [List.getElem?_set,if_neg this];exact a,b⟩⟩ fun q hq=>hn q (by simp [hq])
def C9 (m:List (Option Nat)) (ρ:Rho):Rho:=m.map fun o=>match o with | some j=>(match vw ρ j with | some d=>.sh d | none=>.un) | none=>.un
theorem VA.cap {m:List (Option Nat)} {D:Addr->Prop} {G:Gp} {τ:St3} {ρ:Rho} (h:CS (m.filterMap id) D G τ ρ):VA D G (L3.cap m τ) (C9 m ρ):=by
 refine ⟨by simp [C9,L3.cap],fun i d hd=>?_⟩
 unfold Pu.vw C9 at hd
 rw [List.getElem?_map] at hd
 cases e:m[i]? with
 | none=>rw [e] at hd;cases hd
 | some o=>
  rw [e] at hd
  cases o with
  | none=>cases hd
  | some j=>
   simp only [Option.map_some,Option.bind_some] at hd
   cases e2:Pu.vw ρ j with
   | none=>rw [e2] at hd;cases hd
   | some d'=>
    rw [e2] at hd
    have hd':d'=d:=by simpa [Sl.d] using hd
    subst hd'
    obtain ⟨t,a,b⟩:=h j (List.mem_filterMap.mpr ⟨some j,List.mem_of_getElem? e,rfl⟩) d' e2
    refine ⟨t,?_,b⟩
    unfold L3.cap
    rw [List.getElem?_map,e]
    simp [a]
theorem S5 {m:List (Option Nat)} {ρ:Rho} {i:Nat} (h:m[i]?=some none):vw (C9 m ρ) i=none:=by
 unfold vw C9
 rw [List.getElem?_map,h]
 rfl
def lcP (h:PyData->Option (Option PyData)):List PyData->Option (List PyData)
 | []=>some []
 | d :: r=>(h d).bind fun o=>(lcP h r).bind fun ys=>some (match o with | some y=>y :: ys | none=>ys)
def lcH (gf:PyData->Option (List (Nat×PyData))) (cf:Rho->Option Bool) (ef:Rho->Option PyData) (ρ:Rho) (d:PyData):Option (Option PyData):=
 (gf d).bind fun bs=>(cf (QS ρ bs)).bind fun k=>if k then (ef (QS ρ bs)).map some else some none
theorem zu {h:PyData->Option (Option PyData)} {α:Type} {g:α->PyData} {k:α->PyData} {xs:List α} (hh:∀ a∈xs,h (g a)=some (some (k a))):lcP h (xs.map g)=some (xs.map k):=by
 induction xs with
 | nil=>rfl
 | cons a r ih=>simp only [List.map_cons,lcP,hh a (by simp),Option.bind_some,ih fun b hb=>hh b (by simp [hb])]
theorem C5 {h:PyData->Option (Option PyData)} {α:Type} {g:α->PyData} {k:α->PyData} {c:α->Bool} {xs:List α} (hh:∀ a∈xs,h (g a)=some (if c a then some (k a) else none)):lcP h (xs.map g)=some ((xs.filter c).map k):=by
 induction xs with
 | nil=>rfl
 | cons a r ih=>
  simp only [List.map_cons,lcP,hh a (by simp),Option.bind_some,ih fun b hb=>hh b (by simp [hb])]
  cases e:c a with
  | true=>simp [e]
  | false=>simp [e]
theorem qbb {H:Gp}:∀ {ts:List (Nat×T)} {bs:List (Nat×PyData)},Bd H ts bs->∀ p∈ts,∃ q∈bs,q.1=p.1
 | _,_,.nil,p,hp=>by cases hp
 | _,_,.cons a b,p,hp=>by
  rcases List.mem_cons.mp hp with rfl | hp
  ·exact ⟨_,List.mem_cons_self,rfl⟩
  ·obtain ⟨q,hq,e⟩:=qbb b p hp
   exact ⟨q,by simp [hq],e⟩
theorem qhq {stay:Gp->Prop} {g:TG3} {tif:TT3} {te:TE3} {q:Q3} (pg:PuG g) (pc:PuC tif) (pe:PuE te) {D:Addr->Prop} {ρ0:Rho} {G0:Gp} (hs:∀ G,Ex G0 G->stay G) (hm:∀ i∈pg.tg,vw ρ0 i=none) (fin:List PyData) (hfin:fin.length<=sizeLine)
  (k:∀ G ys,Ex G0 G->Dqs (rs D G) ys fin->∀ p,G p=none->q (.ref p) (gu G p (.lst ys))) :
  ∀ (ds:List PyData) (items ys:List T) (es fs:List PyData) (τ:St3) (G:Gp),Dqs (rs D G0) items ds->VA D G τ ρ0->Ex G0 G->Dom D G->Dqs (rs D G) ys es->lcP (lcH pg.f pc.f pe.f ρ0) ds=some fs->es++fs=fin->M4 stay g tif te q items ys τ G
 | _,_,ys,es,fs,τ,G,.nil,va,E,hd,hy,hf,hl=>by
  cases hf
  rw [List.append_nil] at hl
  subst hl
  exact ⟨hs G E,k G ys E hy⟩
 | d :: ds,x :: items,ys,es,fs,τ,G,.cons hx hr,va,E,hd,hy,hf,hl=>by
  unfold lcP at hf
  obtain ⟨o,e1,hf⟩:=Option.bind_eq_some_iff.mp hf
  obtain ⟨JJ,e2,hf⟩:=Option.bind_eq_some_iff.mp hf
  unfold lcH at e1
  obtain ⟨bs,e3,e1⟩:=Option.bind_eq_some_iff.mp e1
  obtain ⟨c,e4,e1⟩:=Option.bind_eq_some_iff.mp e1
  obtain ⟨ts,bd,kg⟩:=pg.ok (hx.up (QK E)) e3
  refine ⟨hs G E,kg τ G _ ?_⟩
  have va1:=va.sets bd
  have va2:=va.keep (ts:=ts) fun p hp=>by
   obtain ⟨q,hq,e⟩:=qbb bd p hp
   rw [← e];exact hm _ (pg.at' e3 q hq)
  refine pc.ok (va1.view _) hd e4 fun G1 E1=>?_
  cases c with
  | true=>
   rw [if_pos rfl]
   rw [if_pos rfl] at e1
   obtain ⟨y,e5,rfl⟩:=Option.map_eq_some_iff.mp e1
   simp only [Option.some.injEq] at hf
   subst hf
   refine pe.ok ((va1.up E1).view _) (hd.up E1) e5 fun z G2 E2 D2 _=>⟨?_,?_⟩
   ·rw [hy.length]
    rw [← hl] at hfin
    simp at hfin;omega
   ·refine qhq pg pc pe hs hm fin hfin k ds items (ys++[z]) (es++[y]) JJ _ G2 hr ((va2.up E1).up E2) (E.trans (E1.trans E2)) ((hd.up E1).up E2) (((hy.up (QK E1)).up (QK E2)).append (.cons D2 .nil)) e2 ?_
    rw [← hl];simp
  | false=>
   rw [if_neg Bool.false_ne_true]
   simp at e1
   subst e1
   simp only [Option.some.injEq] at hf
   subst hf
   exact qhq pg pc pe hs hm fin hfin k ds items ys es JJ _ G1 hr (va2.up E1) (E.trans E1) (hd.up E1) (hy.up (QK E1)) e2 hl
def lcF (pi:Rho->Option (List PyData)) (h:Rho->PyData->Option (Option PyData)) (m:List (Option Nat)) (ρ:Rho):Option PyData:=
 (pi ρ).bind fun ds=>(lcP (h (C9 m ρ)) ds).bind fun fs=>cif (fs.length<=sizeLine) (some (.list fs)) none
def bLc {wi:TI3} {g:TG3} {tif:TT3} {te:TE3} (pi:PuI wi) (pg:PuG g) (pc:PuC tif) (pe:PuE te) (m:List (Option Nat)) (hm:Tru (pg.tg.all fun i=>m[i]? == some none)):PuE (lc3 wi g tif te m):=
 ⟨lcF pi.f (lcH pg.f pc.f pe.f) m,pi.fv++m.filterMap id,true,fun {D τ ρ G q d} hv hd hf k=>by
  unfold lcF at hf
  obtain ⟨ds,e1,hf⟩:=Option.bind_eq_some_iff.mp hf
  obtain ⟨fs,e2,hf⟩:=Option.bind_eq_some_iff.mp hf
  unfold cif at hf
  split at hf
  ·rename_i hl
   cases hf
   refine pi.ok hv.l hd e1 fun items stay G1 E1 D1 hs _=>?_
   have va:=(VA.cap (m:=m) hv.r).up E1
   refine qhq pg pc pe (D:=D) (ρ0:=C9 m ρ) (G0:=G1) (fun G2 E2=>hs G2 (.inr (YN.trans E2))) (fun i hi=>S5 ?_) fs hl (fun G2 ys E2 D2 p hp=>?_) ds items [] [] fs _ G1 D1 va Ex.refl (hd.up E1) .nil e2 (by simp)
   ·have:=List.all_eq_true.mp hm.h i hi
    simpa using this
   ·exact k _ _ ((E1.trans E2).trans (VB hp)) (XB ((hd.up E1).up E2) hp D2) fun _=>(KD hp D2).back (E1.trans E2)
  ·cases hf⟩
def E0 (p:Addr) (G G':Gp):Prop:=∀ b o,b≠p->G b=some o->G' b=some o
theorem E0.refl {p:Addr} {G:Gp}:E0 p G G:=fun _ _ _ e=>e
theorem E0.trans {p:Addr} {G G1 G2:Gp} (a:E0 p G G1) (b:E0 p G1 G2):E0 p G G2:=fun x o n e=>b x o n (a x o n e)
theorem E0.of {p:Addr} {G G1:Gp} (a:Ex G G1):E0 p G G1:=fun x o _ e=>a x o e
theorem E0.wr {p:Addr} {G:Gp} {o:O}:E0 p G (gu G p o):=fun b ob n e=>by rw [QP n];exact e
theorem E0.rs {p:Addr} {D:Addr->Prop} {G G1:Gp} (a:E0 p G G1):Ex (rs (fun b=>D b\/b=p) G) (rs (fun b=>D b\/b=p) G1):=fun b o h=>by
 obtain ⟨n,h⟩:=qX h
 rw [Q5 n]
 exact a b o (fun z=>n (.inr z)) h
theorem qm3 {D:Addr->Prop} {G:Gp} {p:Addr} {o:O} (h:Dom D G):Dom D (gu G p o):=fun b d z=>by
 by_cases e:b=p
 ·subst e;rw [qT] at z;cases z
 ·rw [QP e] at z;exact h b d z
theorem qhp {p:Addr} {stay:Gp->Prop} {g:TG3} {tif:TT3} {te:TE3} {N:St3->Gp->Prop} (pg:PuG g) (pc:PuC tif) (pe:PuE te) {D:Addr->Prop} {ρ0:Rho} {G0:Gp} (hs:∀ G,Ex (rs (fun b=>D b\/b=p) G0) G->stay G) (hm:∀ i∈pg.tg,vw ρ0 i=none) (fin:List PyData) (hfin:fin.length<=sizeLine)
  (k:∀ τ G ys,VA (fun b=>D b\/b=p) G τ ρ0->E0 p G0 G->Dom (fun b=>D b\/b=p) G->G p=some (.lst ys)->Dqs (rs (fun b=>D b\/b=p) G) ys fin->N τ G) :
  ∀ (ds:List PyData) (items ys:List T) (es fs:List PyData) (τ:St3) (G:Gp),Dqs (rs (fun b=>D b\/b=p) G0) items ds->VA (fun b=>D b\/b=p) G τ ρ0->E0 p G0 G->Dom (fun b=>D b\/b=p) G->G p=some (.lst ys)->Dqs (rs (fun b=>D b\/b=p) G) ys es->lcP (lcH pg.f pc.f pe.f ρ0) ds=some fs->es++fs=fin->qit p stay g tif te N items τ G
 | _,_,ys,es,fs,τ,G,.nil,va,E,hd,gp,hy,hf,hl=>by
  cases hf
  rw [List.append_nil] at hl
  subst hl
  exact ⟨hs G (E.rs.trans YN),k τ G ys va E hd gp hy⟩
 | d :: ds,x :: items,ys,es,fs,τ,G,.cons hx hr,va,E,hd,gp,hy,hf,hl=>by
  unfold lcP at hf
  obtain ⟨o,e1,hf⟩:=Option.bind_eq_some_iff.mp hf
  obtain ⟨JJ,e2,hf⟩:=Option.bind_eq_some_iff.mp hf
  unfold lcH at e1
  obtain ⟨bs,e3,e1⟩:=Option.bind_eq_some_iff.mp e1
  obtain ⟨c,e4,e1⟩:=Option.bind_eq_some_iff.mp e1
  obtain ⟨ts,bd,kg⟩:=pg.ok (hx.up E.rs) e3
  refine ⟨hs G (E.rs.trans YN),kg τ G _ ?_⟩
  have va1:=va.sets bd
  have va2:=va.keep (ts:=ts) fun p hp=>by
   obtain ⟨q,hq,e⟩:=qbb bd p hp
   rw [← e];exact hm _ (pg.at' e3 q hq)
  refine pc.ok (va1.view _) hd e4 fun G1 E1=>?_
  cases c with
  | true=>
   rw [if_pos rfl]
   rw [if_pos rfl] at e1
   obtain ⟨y,e5,rfl⟩:=Option.map_eq_some_iff.mp e1
   simp only [Option.some.injEq] at hf
   subst hf
   refine pe.ok ((va1.up E1).view _) (hd.up E1) e5 fun z G2 E2 D2 _=>?_
   simp only [E2 _ _ (E1 _ _ gp)]
   have W:E0 p G2 (gu G2 p (.lst (ys++[z]))):=E0.wr
   refine ⟨?_,?_⟩
   ·rw [hy.length]
    rw [← hl] at hfin
    simp at hfin;omega
   ·refine qhp pg pc pe hs hm fin hfin k ds items (ys++[z]) (es++[y]) JJ _ _ hr (((va2.up E1).up E2).upx W.rs) ((E.trans (E0.of (E1.trans E2))).trans W) (qm3 ((hd.up E1).up E2)) qT ((((hy.up (QK E1)).up (QK E2)).append (.cons D2 .nil)).up W.rs) e2 ?_
    rw [← hl];simp
  | false=>
   rw [if_neg Bool.false_ne_true]
   simp at e1
   subst e1
   simp only [Option.some.injEq] at hf
   subst hf
   exact qhp pg pc pe hs hm fin hfin k ds items ys es JJ _ G1 hr (va2.up E1) (E.trans (E0.of E1)) (hd.up E1) (E1 _ _ gp) (hy.up (QK E1)) e2 hl
def qig (h:PyData->Option (Option (List PyData))):List PyData->Option (List PyData)
 | []=>some []
 | d :: r=>(h d).bind fun o=>(qig h r).bind fun ys=>some (match o with | some y=>y++ys | none=>ys)
def qnq (gf:PyData->Option (List (Nat×PyData))) (cf:Rho->Option Bool) (it:Rho->Option (List PyData)) (h:Rho->PyData->Option (Option PyData)) (ρ:Rho) (d:PyData):Option (Option (List PyData)):=
 (gf d).bind fun bs=>(cf (QS ρ bs)).bind fun k=>if k then ((it (QS ρ bs)).bind fun ds=>lcP (h (QS ρ bs)) ds).map some else some none
theorem R7:∀ {bs:List (Nat×PyData)} {ρ:Rho} {i:Nat},(∀ p∈bs,p.1≠i)->vw (QS ρ bs) i=vw ρ i
 | [],_,_,_=>rfl
 | p :: r,ρ,i,h=>by
  unfold QS
  rw [R7 (fun q hq=>h q (by simp [hq])),qf9,if_neg (h p (by simp))]
theorem N0:∀ (bs:List (Nat×PyData)) (ρ:Rho),(QS ρ bs).length=ρ.length
 | [],τ=>rfl
 | p :: r,τ=>by unfold QS;rw [N0 r];simp
theorem qcd {p:Addr} {stay:Gp->Prop} {g g2:TG3} {tif tif2:TT3} {wi2:TI3} {te:TE3} {q:Q3} (pg:PuG g) (pc:PuC tif) (pi2:PuI wi2) (pg2:PuG g2) (pc2:PuC tif2) (pe:PuE te) {D:Addr->Prop} {ρ0:Rho} {G0:Gp} (hs:∀ G,Ex (rs (fun b=>D b\/b=p) G0) G->stay G) (hm:∀ i∈pg.tg,vw ρ0 i=none) (hm2:∀ i∈pg2.tg,vw ρ0 i=none) (hdj:∀ i∈pg2.tg,i ∉ pg.tg) (fin:List PyData) (hfin:fin.length<=sizeLine)
  (k:∀ G ys,E0 p G0 G->G p=some (.lst ys)->Dqs (rs (fun b=>D b\/b=p) G) ys fin->q (.ref p) G) :
  ∀ (ds:List PyData) (items ys:List T) (es fs:List PyData) (τ:St3) (G:Gp),Dqs (rs (fun b=>D b\/b=p) G0) items ds->VA (fun b=>D b\/b=p) G τ ρ0->E0 p G0 G->Dom (fun b=>D b\/b=p) G->G p=some (.lst ys)->Dqs (rs (fun b=>D b\/b=p) G) ys es->qig (qnq pg.f pc.f pi2.f (lcH pg2.f pc2.f pe.f) ρ0) ds=some fs->es++fs=fin->qbc p stay g tif wi2 g2 tif2 te q items τ G
 | _,_,ys,es,fs,τ,G,.nil,va,E,hd,gp,hy,hf,hl=>by
  cases hf
  rw [List.append_nil] at hl
  subst hl
  exact ⟨hs G (E.rs.trans YN),k G ys E gp hy⟩
 | d :: ds,x :: items,ys,es,fs,τ,G,.cons hx hr,va,E,hd,gp,hy,hf,hl=>by
  unfold qig at hf
  obtain ⟨o,e1,hf⟩:=Option.bind_eq_some_iff.mp hf
  obtain ⟨JJ,e2,hf⟩:=Option.bind_eq_some_iff.mp hf
  unfold qnq at e1
  obtain ⟨bs,e3,e1⟩:=Option.bind_eq_some_iff.mp e1
  obtain ⟨c,e4,e1⟩:=Option.bind_eq_some_iff.mp e1
  obtain ⟨ts,bd,kg⟩:=pg.ok (hx.up E.rs) e3
  refine ⟨hs G (E.rs.trans YN),kg τ G _ ?_⟩
  have va1:=va.sets bd
  have va2:=va.keep (ts:=ts) fun p hp=>by
   obtain ⟨q,hq,e⟩:=qbb bd p hp
   rw [← e];exact hm _ (pg.at' e3 q hq)
  refine pc.ok (va1.view _) hd e4 fun G1 E1=>?_
  cases c with
  | true=>
   rw [if_pos rfl]
   rw [if_pos rfl] at e1
   obtain ⟨y,e5,rfl⟩:=Option.map_eq_some_iff.mp e1
   obtain ⟨ds2,e6,e5⟩:=Option.bind_eq_some_iff.mp e5
   simp only [Option.some.injEq] at hf
   subst hf
   refine pi2.ok ((va1.up E1).view _) (hd.up E1) e6 fun items2 stay2 G2 E2 D2 hs2 _=>?_
   have l2:(es++y).length<=sizeLine:=by
    rw [← hl] at hfin
    simp at hfin ⊢;omega
   refine qhp pg2 pc2 pe (ρ0:=QS ρ0 bs) (G0:=G2) (fun G3 E3=>hs2 G3 (.inr E3)) (fun i hi=>?_) (es++y) l2 (fun τ3 G3 zs va3 E3 hd3 gp3 hz=>?_) ds2 items2 ys es y _ G2 D2 ((va1.up E1).up E2) E0.refl ((hd.up E1).up E2) (E2 _ _ (E1 _ _ gp)) ((hy.up (QK E1)).up (QK E2)) e5 rfl
   ·rw [R7 fun q hq e=>hdj i hi (by rw [← e];exact pg.at' e3 q hq)];exact hm2 i hi
   ·have E4:E0 p G G3:=(E0.of (E1.trans E2)).trans E3
    have va4:VA (fun b=>D b\/b=p) G3 τ3 ρ0:=⟨by rw [← va3.len,N0],fun i d' hd'=>va3.vw i d' (by
     rw [R7 fun q hq e=>?_];exact hd'
     rw [← e,hm _ (pg.at' e3 q hq)] at hd';cases hd')⟩
    exact qcd pg pc pi2 pg2 pc2 pe hs hm hm2 hdj fin hfin k ds items zs (es++y) JJ τ3 G3 hr va4 (E.trans E4) hd3 gp3 hz e2 (by rw [← hl];simp)
  | false=>
   rw [if_neg Bool.false_ne_true]
   simp at e1
   subst e1
   simp only [Option.some.injEq] at hf
   subst hf
   exact qcd pg pc pi2 pg2 pc2 pe hs hm hm2 hdj fin hfin k ds items ys es JJ _ G1 hr (va2.up E1) (E.trans (E0.of E1)) (hd.up E1) (E1 _ _ gp) (hy.up (QK E1)) e2 hl
def qmP (pi:Rho->Option (List PyData)) (h:Rho->PyData->Option (Option (List PyData))) (m:List (Option Nat)) (ρ:Rho):Option PyData:=
 (pi ρ).bind fun ds=>(qig (h (C9 m ρ)) ds).bind fun fs=>cif (fs.length<=sizeLine) (some (.list fs)) none
theorem TB {h:PyData->Option (Option (List PyData))} {α:Type} {g:α->PyData} {k:α->List PyData} {xs:List α} (hh:∀ a∈xs,h (g a)=some (some (k a))):qig h (xs.map g)=some (xs.flatMap k):=by
 induction xs with
 | nil=>rfl
 | cons a r ih=>simp only [List.map_cons,qig,hh a (by simp),Option.bind_some,ih fun b hb=>hh b (by simp [hb]),List.flatMap_cons]
def qk4 {wi wi2:TI3} {g g2:TG3} {tif tif2:TT3} {te:TE3} (pi:PuI wi) (pg:PuG g) (pc:PuC tif) (pi2:PuI wi2) (pg2:PuG g2) (pc2:PuC tif2) (pe:PuE te) (m:List (Option Nat)) (hm:Tru (pg.tg.all fun i=>m[i]? == some none)) (hm2:Tru (pg2.tg.all fun i=>m[i]? == some none)) (hdj:Tru (pg2.tg.all fun i=>!pg.tg.contains i)):PuE (qis wi g tif wi2 g2 tif2 te m):=
 ⟨qmP pi.f (qnq pg.f pc.f pi2.f (lcH pg2.f pc2.f pe.f)) m,pi.fv++m.filterMap id,true,fun {D τ ρ G q d} hv hd hf k=>by
  unfold qmP at hf
  obtain ⟨ds,e1,hf⟩:=Option.bind_eq_some_iff.mp hf
  obtain ⟨fs,e2,hf⟩:=Option.bind_eq_some_iff.mp hf
  unfold cif at hf
  split at hf
  ·rename_i hl
   cases hf
   refine pi.ok hv.l hd e1 fun items stay G1 E1 D1 hs _ p hp=>?_
   have va:=(VA.cap (m:=m) hv.r).up E1
   have np:∀ {b o},G1 b=some o->b≠p:=fun e=>by rintro rfl;rw [hp] at e;cases e
   have X1:Ex (rs D G1) (rs (fun b=>D b\/b=p) (gu G1 p (.lst []))):=fun b o e=>by
    obtain ⟨n,e⟩:=qX e
    rw [Q5 (by rintro (z | z);exact n z;exact np e z),QP (np e)];exact e
   refine qcd pg pc pi2 pg2 pc2 pe (D:=D) (ρ0:=C9 m ρ) (G0:=gu G1 p (.lst [])) (p:=p) (fun G2 E2=>hs G2 (.inr (X1.trans E2))) (fun i hi=>S5 ?_) (fun i hi=>S5 ?_) (fun i hi hj=>?_) fs hl (fun G2 ys E2 gp D2=>?_) ds items [] [] fs _ _ (D1.up X1) ⟨va.len,fun i d hd=>let ⟨t,a,b⟩:=va.vw i d hd;⟨t,a,b.up X1⟩⟩ E0.refl ?_ qT .nil e2 (by simp)
   ·simpa using List.all_eq_true.mp hm.h i hi
   ·simpa using List.all_eq_true.mp hm2.h i hi
   ·have:=List.all_eq_true.mp hdj.h i hi
    simp at this
    exact this hj
   ·have EE:Ex G1 G2:=fun b o e=>E2 b o (np e) (by rw [QP (np e)];exact e)
    have hdp:¬ D p:=fun z=>(hd.up E1) p z hp
    refine k _ _ (E1.trans EE) (.lst (by rw [Q5 hdp];exact gp) (D2.up (jG fun b z=>.inl z))) fun _=>Nw.back (.inr ⟨p,ys,fs,rfl,rfl,hp,gp,D2⟩) E1
   ·intro b hb z
    by_cases e:b=p
    ·subst e;rw [qT] at z;cases z
    ·rw [QP e] at z
     rcases hb with hb | hb
     ·exact (hd.up E1) b hb z
     ·exact e hb
  ·cases hf⟩
end Pu
namespace Pu
open PySem L2 L3
def AD (D:Addr->Prop) (A:Nat->Option Addr) (b:Addr):Prop:=D b\/∃ i,A i=some b
structure RS (D:Addr->Prop) (G0:Gp) (A:Nat->Option Addr) (τ:St3) (ρ:Rho) (G:Gp):Prop where
 ex:Ex G0 G
 dm:Dom D G0
 fr:∀ i p,A i=some p->G0 p=none
 da:∀ i p,A i=some p->G p≠none
 inj:∀ i j p,A i=some p->A j=some p->i=j
 len:ρ.length=τ.length
 sh:∀ (i:Nat) (d:PyData),ρ[i]?=some (Sl.sh d)->∃ t,τ[i]?=some (some t)/\Dq (rs (AD D A) G) t d
 ow:∀ (i:Nat) (ds:List PyData),ρ[i]?=some (Sl.ow ds)->∃ p xs,A i=some p/\τ[i]?=some (some (.ref p))/\G p=some (.lst xs)/\Dqs (rs (AD D A) G) xs ds
section
variable {D:Addr->Prop} {G0 G G':Gp} {A A':Nat->Option Addr} {τ:St3} {ρ:Rho}
theorem RS.nd (h:RS D G0 A τ ρ G) {i:Nat} {p:Addr} (e:A i=some p):¬ D p:=fun z=>h.dm p z (h.fr i p e)
theorem RS.dom (h:RS D G0 A τ ρ G):Dom (AD D A) G:=fun b hb=>by
 rcases hb with hb | ⟨i,hi⟩
 ·exact (h.dm.up h.ex) b hb
 ·exact h.da i b hi
theorem RS.domD (h:RS D G0 A τ ρ G):Dom D G:=h.dm.up h.ex
theorem RS.up (h:RS D G0 A τ ρ G) (e:Ex G G'):RS D G0 A τ ρ G':=
 ⟨h.ex.trans e,h.dm,h.fr,fun i p a z=>(h.da i p a) (by
  cases g:G p with
  | none=>rfl
  | some o=>rw [e _ _ g] at z;cases z),h.inj,h.len,fun i d a=>let ⟨t,b,c⟩:=h.sh i d a;⟨t,b,c.up (QK e)⟩,fun i ds a=>let ⟨p,xs,b,c,d,f⟩:=h.ow i ds a;⟨p,xs,b,c,e _ _ d,f.up (QK e)⟩⟩
theorem RS.viewAll (h:RS D G0 A τ ρ G) (fv:List Nat):CS fv D G τ ρ:=fun i _ d hd=>by
 unfold vw at hd
 obtain ⟨s,e,hd⟩:=Option.bind_eq_some_iff.mp hd
 have less:Ex (rs (AD D A) G) (rs D G):=jG fun b z=>.inl z
 cases s with
 | un=>cases hd
 | sh d'=>
  cases hd
  obtain ⟨t,b,c⟩:=h.sh i _ e
  exact ⟨t,b,c.up less⟩
 | ow ds=>
  cases hd
  obtain ⟨p,xs,b,c,g,f⟩:=h.ow i _ e
  exact ⟨_,c,.lst (by rw [Q5 (h.nd b)];exact g) (f.up less)⟩
theorem RS.view (h:RS D G0 A τ ρ G) {fv:List Nat} (hn:∀ i∈fv,A i=none):CS fv (AD D A) G τ ρ:=fun i hi d hd=>by
 unfold vw at hd
 obtain ⟨s,e,hd⟩:=Option.bind_eq_some_iff.mp hd
 cases s with
 | un=>cases hd
 | sh d'=>
  cases hd
  exact h.sh i _ e
 | ow ds=>
  obtain ⟨p,xs,b,_⟩:=h.ow i _ e
  rw [hn i hi] at b;cases b
def Sl.dem:Sl->Sl
 | .ow ds=>.sh (.list ds)
 | s=>s
def dm:List Bool->Rho->Rho
 | b :: m,s :: r=>(match b with | true=>s.dem | false=>s) :: dm m r
 | _,r=>r
def mkb (m:List Bool) (i:Nat):Bool:=(m[i]?).getD false
theorem qbE:∀ (m:List Bool) (ρ:Rho) (i:Nat),(dm m ρ)[i]?=(ρ[i]?).map fun s=>if mkb m i=true then s.dem else s
 | [],ρ,i=>by simp [dm,mkb]
 | b :: m,[],i=>by simp [dm]
 | b :: m,s :: r,0=>by cases b <;> simp [dm,mkb]
 | b :: m,s :: r,i+1=>by
  have:=qbE m r i
  simp only [dm,List.getElem?_cons_succ,mkb] at this ⊢
  exact this
theorem qot (s:Sl):s.dem.d=s.d:=by cases s <;> rfl
theorem qpf (m:List Bool) (ρ:Rho) (i:Nat):vw (dm m ρ) i=vw ρ i:=by
 unfold vw
 rw [qbE]
 cases ρ[i]? with
 | none=>rfl
 | some s=>
  simp only [Option.map_some,Option.bind_some]
  split
  ·exact qot s
  ·rfl
theorem qeY:∀ (m:List Bool) (ρ:Rho),(dm m ρ).length=ρ.length
 | [],ρ=>rfl
 | b :: m,[]=>rfl
 | b :: m,s :: r=>by simp [dm,qeY m r]
def Ad (m:List Bool) (A:Nat->Option Addr):Nat->Option Addr:=fun i=>if mkb m i=true then none else A i
theorem XR {m:List Bool} {i:Nat} {p:Addr} (h:Ad m A i=some p):A i=some p/\mkb m i=false:=by
 unfold Ad at h
 split at h
 ·cases h
 ·rename_i n;exact ⟨h,by simpa using n⟩
theorem RS.dem (h:RS D G0 A τ ρ G) (m:List Bool):RS D G0 (Ad m A) τ (Pu.dm m ρ) G:=by
 have less:Ex (rs (AD D A) G) (rs (AD D (Ad m A)) G):=jG fun b z=>by
  rcases z with z | ⟨i,z⟩
  ·exact .inl z
  ·exact .inr ⟨i,(XR z).1⟩
 refine ⟨h.ex,h.dm,fun i p e=>h.fr i p (XR e).1,fun i p e=>h.da i p (XR e).1,fun i j p a b=>h.inj i j p (XR a).1 (XR b).1,by rw [qeY];exact h.len,fun i d e=>?_,fun i ds e=>?_⟩
 ·rw [qbE] at e
  obtain ⟨s,e1,e2⟩:=Option.map_eq_some_iff.mp e
  cases s with
  | un=>split at e2 <;> cases e2
  | sh d'=>
   have:d'=d:=by split at e2 <;> (cases e2;rfl)
   subst this
   obtain ⟨t,b,c⟩:=h.sh i _ e1
   exact ⟨t,b,c.up less⟩
  | ow ds=>
   split at e2
   ·rename_i hm
    cases e2
    obtain ⟨p,xs,b,c,g,f⟩:=h.ow i _ e1
    refine ⟨_,c,.lst ?_ (f.up less)⟩
    rw [Q5]
    ·exact g
    ·rintro (z | ⟨j,z⟩)
     ·exact h.nd b z
     ·have:=h.inj i j p b (XR z).1
      subst this
      rw [(XR z).2] at hm;cases hm
   ·cases e2
 ·rw [qbE] at e
  obtain ⟨s,e1,e2⟩:=Option.map_eq_some_iff.mp e
  cases s with
  | un=>split at e2 <;> cases e2
  | sh d'=>split at e2 <;> cases e2
  | ow ds'=>
   split at e2
   ·cases e2
   ·rename_i hm
    cases e2
    obtain ⟨p,xs,b,c,g,f⟩:=h.ow i _ e1
    exact ⟨p,xs,by unfold Ad;rw [if_neg hm];exact b,c,g,f.up less⟩
theorem RS.viewD (h:RS D G0 A τ ρ G) {m:List Bool} {fv:List Nat} (hm:Tru (fv.all (mkb m))):CS fv (AD D (Ad m A)) G τ ρ:=by
 have:=(h.dem m).view (fv:=fv) fun i hi=>by unfold Ad;rw [if_pos (List.all_eq_true.mp hm.h i hi)]
 intro i hi d hd
 exact this i hi d (by rw [qpf];exact hd)
def Er (A:Nat->Option Addr) (i:Nat):Nat->Option Addr:=fun j=>if j=i then none else A j
theorem XY {i j:Nat} {p:Addr} (h:Er A i j=some p):A j=some p/\j≠i:=by
 unfold Er at h
 split at h
 ·cases h
 ·rename_i n;exact ⟨h,n⟩
theorem RS.put (h:RS D G0 A τ ρ G) (i:Nat) {x:T} {d:PyData} (hx:Dq (rs (AD D A) G) x d):RS D G0 (Er A i) (τ.set i (some x)) (ρ.set i (.sh d)) G:=by
 have less:Ex (rs (AD D A) G) (rs (AD D (Er A i)) G):=jG fun b z=>by
  rcases z with z | ⟨j,z⟩
  ·exact .inl z
  ·exact .inr ⟨j,(XY z).1⟩
 refine ⟨h.ex,h.dm,fun j p e=>h.fr j p (XY e).1,fun j p e=>h.da j p (XY e).1,fun j k p a b=>h.inj j k p (XY a).1 (XY b).1,by simp [h.len],fun j e he=>?_,fun j ds e=>?_⟩
 ·rw [List.getElem?_set] at he ⊢
  split at he
  ·rename_i hj
   rw [if_pos hj]
   split at he
   ·rename_i hl
    cases he
    exact ⟨x,by rw [if_pos (by rw [← h.len];exact hl)],hx.up less⟩
   ·cases he
  ·rename_i hj
   rw [if_neg hj]
   obtain ⟨t,b,c⟩:=h.sh j _ he
   exact ⟨t,b,c.up less⟩
 ·rw [List.getElem?_set] at e ⊢
  split at e
  ·split at e <;> cases e
  ·rename_i hj
   rw [if_neg hj]
   obtain ⟨p,xs,b,c,g,f⟩:=h.ow j _ e
   exact ⟨p,xs,by unfold Er;rw [if_neg (fun z=>hj z.symm)];exact b,c,g,f.up less⟩
theorem RS.puts:∀ {ts:List (Nat×T)} {bs:List (Nat×PyData)} {A:Nat->Option Addr} {τ:St3} {ρ:Rho},RS D G0 A τ ρ G->Bd (rs (AD D A) G) ts bs->∃ A',RS D G0 A' (sets τ ts) (QS ρ bs) G
 | _,_,A,_,_,h,.nil=>⟨A,h⟩
 | _,_,A,_,_,h,.cons (i:=i) a b=>by
  unfold sets QS
  exact RS.puts (h.put i a) (b.up (jG fun b z=>by
   rcases z with z | ⟨j,z⟩
   ·exact .inl z
   ·exact .inr ⟨j,(XY z).1⟩))
theorem RS.putN (h:RS D G0 A τ ρ G) (i:Nat) {x:T} {d:PyData} {ds:List PyData} (hd:d=.list ds) (E:Ex G G') (hx:Nw (AD D A) G G' x d):RS D G0 (fun j=>if j=i then (match x with | .ref p=>some p | _=>none) else A j) (τ.set i (some x)) (ρ.set i (.ow ds)) G':=by
 rcases hx with hx | ⟨p,xs,ds',rfl,e',gp,gp',hs⟩
 ·rw [hd] at hx;cases hx
 rw [hd] at e'
 cases e'
 have np:∀ {j q},A j=some q->q≠p:=fun e=>by rintro rfl;exact h.da _ _ e gp
 have X1:Ex (rs (AD D A) G) (rs (AD D (fun j=>if j=i then some p else A j)) G'):=fun b o e=>by
  obtain ⟨n,e⟩:=qX e
  rw [Q5]
  ·exact E _ _ e
  ·rintro (z | ⟨j,z⟩)
   ·exact n (.inl z)
   ·simp only at z
    split at z
    ·cases z;rw [gp] at e;cases e
    ·exact n (.inr ⟨j,z⟩)
 refine ⟨h.ex.trans E,h.dm,fun j q e=>?_,fun j q e=>?_,fun j k q a b=>?_,by simp [h.len],fun j e he=>?_,fun j es e=>?_⟩
 ·simp only at e
  split at e
  ·cases e
   cases z:G0 p with
   | none=>rfl
   | some o=>rw [h.ex _ _ z] at gp;cases gp
  ·exact h.fr j q e
 ·simp only at e
  split at e
  ·cases e;rw [gp'];simp
  ·exact (h.up E).da j q e
 ·simp only at a b
  split at a
  ·cases a
   split at b
   ·rename_i h1 h2;rw [h1,h2]
   ·exact absurd rfl (np b)
  ·split at b
   ·cases b;exact absurd rfl (np a)
   ·exact h.inj j k q a b
 ·rw [List.getElem?_set] at he ⊢
  split at he
  ·split at he <;> cases he
  ·rename_i hj
   rw [if_neg hj]
   obtain ⟨t,b,c⟩:=h.sh j _ he
   exact ⟨t,b,c.up X1⟩
 ·rw [List.getElem?_set] at e ⊢
  split at e
  ·rename_i hj
   subst hj
   split at e
   ·rename_i hl
    cases e
    refine ⟨p,xs,by simp,by rw [if_pos rfl,if_pos (by rw [← h.len];exact hl)],gp',hs.up (jG fun b z=>?_)⟩
    rcases z with z | ⟨j,z⟩
    ·exact .inl (.inl z)
    ·simp only at z
     split at z
     ·cases z;exact .inr rfl
     ·exact .inl (.inr ⟨j,z⟩)
   ·cases e
  ·rename_i hj
   rw [if_neg hj]
   obtain ⟨q,ys,b,c,g,f⟩:=h.ow j _ e
   exact ⟨q,ys,by rw [if_neg (fun z=>hj z.symm)];exact b,c,E _ _ g,f.up X1⟩
theorem RS.wr (h:RS D G0 A τ ρ G) {i:Nat} {p:Addr} {xs:List T} {ds:List PyData} (hi:A i=some p) (ht:τ[i]?=some (some (.ref p))) (hs:Dqs (rs (AD D A) G) xs ds):RS D G0 A τ (ρ.set i (.ow ds)) (gu G p (.lst xs)):=by
 have X1:Ex (rs (AD D A) G) (rs (AD D A) (gu G p (.lst xs))):=fun b o e=>by
  obtain ⟨n,e⟩:=qX e
  rw [Q5 n,QP (by rintro rfl;exact n (.inr ⟨i,hi⟩))];exact e
 refine ⟨fun b o e=>?_,h.dm,h.fr,fun j q e=>?_,h.inj,by simp [h.len],fun j e he=>?_,fun j es e=>?_⟩
 ·rw [QP (by rintro rfl;rw [h.fr i _ hi] at e;cases e)];exact h.ex _ _ e
 ·by_cases z:q=p
  ·subst z;rw [qT];simp
  ·rw [QP z];exact h.da j q e
 ·rw [List.getElem?_set] at he
  split at he
  ·split at he <;> cases he
  ·obtain ⟨t,b,c⟩:=h.sh j _ he
   exact ⟨t,b,c.up X1⟩
 ·rw [List.getElem?_set] at e
  split at e
  ·rename_i hj
   subst hj
   split at e
   ·cases e
    exact ⟨p,xs,hi,ht,qT,hs.up X1⟩
   ·cases e
  ·rename_i hj
   obtain ⟨q,ys,b,c,g,f⟩:=h.ow j _ e
   exact ⟨q,ys,b,c,by rw [QP (by rintro rfl;exact hj (h.inj i j _ hi b))];exact g,f.up X1⟩
theorem RS.base {Gb:Gp} (h:RS D Gb A τ ρ G) (e:Ex G0 Gb) (hd:Dom D G0):RS D G0 A τ ρ G:=
 ⟨e.trans h.ex,hd,(fun i p a=>by
  cases z:G0 p with
  | none=>rfl
  | some o=>have:=h.fr i p a;rw [e _ _ z] at this;cases this),h.da,h.inj,h.len,h.sh,h.ow⟩
end
inductive Ot where
 | nx (ρ:Rho) | bk (ρ:Rho) | ct (ρ:Rho) | rt (d:PyData) (fr:Bool)
def qlU (D:Addr->Prop) (G0:Gp) (e:Ends3):Ot->Prop
 | .nx ρ=>∀ A τ G,RS D G0 A τ ρ G->e.nx τ G
 | .bk ρ=>∀ A τ G,RS D G0 A τ ρ G->e.bk τ G
 | .ct ρ=>∀ A τ G,RS D G0 A τ ρ G->e.ct τ G
 | .rt d fr=>∀ x G,Ex G0 G->Dq (rs D G) x d->(fr=true->Nw D G0 G x d)->e.rt x G
theorem qlU.base {D:Addr->Prop} {G0 Gb:Gp} {e:Ends3} {o:Ot} (h:qlU D G0 e o) (x:Ex G0 Gb) (hd:Dom D G0):qlU D Gb e o:=by
 cases o with
 | nx ρ=>exact fun A τ G r=>h A τ G (r.base x hd)
 | bk ρ=>exact fun A τ G r=>h A τ G (r.base x hd)
 | ct ρ=>exact fun A τ G r=>h A τ G (r.base x hd)
 | rt d fr=>exact fun y G a b c=>h y G (x.trans a) b fun z=>(c z).back x
structure PuS (t:TS3) where
 f:Nat->Rho->Option Ot
 ok:∀ {D G0 A τ ρ G n o} {e:Ends3},RS D G0 A τ ρ G->f n ρ=some o->qlU D G0 e o->t e τ G
def QG:PuS qO:=⟨fun _ ρ=>some (.nx ρ),fun h hf k=>by cases hf;exact k _ _ _ h⟩
def qqB:PuS qnL:=⟨fun _ ρ=>none,fun h hf k=>by cases hf⟩
def qnO (a b:Nat->Rho->Option Ot) (n:Nat) (ρ:Rho):Option Ot:=(a n ρ).bind fun o=>match o with | .nx ρ'=>b n ρ' | o=>some o
def jV {t u:TS3} (a:PuS t) (b:PuS u):PuS (qS t u):=⟨qnO a.f b.f,fun {D G0 A τ ρ G n o e} h hf k=>by
 unfold qnO at hf
 obtain ⟨o1,e1,hf⟩:=Option.bind_eq_some_iff.mp hf
 refine a.ok h e1 ?_
 cases o1 with
 | nx ρ'=>exact fun A' τ' G' h'=>b.ok h' hf k
 | bk ρ'=>cases hf;exact k
 | ct ρ'=>cases hf;exact k
 | rt d fr=>cases hf;exact k⟩
def sIf {c:TT3} {t u:TS3} (pc:PuC c) (a:PuS t) (b:PuS u):PuS (jt c t u):=⟨fun n ρ=>(pc.f ρ).bind fun k=>if k then a.f n ρ else b.f n ρ,fun h hf k=>by
 obtain ⟨o1,e1,hf⟩:=Option.bind_eq_some_iff.mp hf
 refine pc.ok (h.viewAll _) h.domD e1 fun G1 E1=>?_
 cases o1 with
 | true=>exact a.ok (h.up E1) hf k
 | false=>exact b.ok (h.up E1) hf k⟩
def QI {t:TE3} (a:PuE t):PuS (za t):=⟨fun _ ρ=>(a.f ρ).map fun d=>.rt d a.nw,fun h hf k=>by
 obtain ⟨d,e1,rfl⟩:=Option.map_eq_some_iff.mp hf
 exact a.ok (h.viewAll _) h.domD e1 fun x G1 E1 D1 N1=>k x G1 (h.ex.trans E1) D1 fun z=>(N1 z).back h.ex⟩
def qiv (ρ:Rho) (i:Nat):Option Ot:=match ρ[i]? with | some (.ow ds)=>some (.rt (.list ds) true) | some (.sh d)=>some (.rt d false) | _=>none
def qk8 (i:Nat):PuS (za (v3 i)):=⟨fun _ ρ=>qiv ρ i,fun h hf k=>by
 unfold qiv at hf
 split at hf
 ·rename_i ds e
  cases hf
  obtain ⟨p,xs,b,c,g,f⟩:=h.ow i _ e
  simp only [za,v3,c]
  refine k _ _ h.ex (.lst (by rw [Q5 (h.nd b)];exact g) (f.up (jG fun b z=>.inl z))) fun _=>.inr ⟨p,xs,ds,rfl,rfl,h.fr i p b,g,f.up (jG fun q z=>?_)⟩
  rcases z with z | z
  ·exact .inl z
  ·subst z;exact .inr ⟨i,b⟩
 ·rename_i d e
  cases hf
  obtain ⟨t,b,c⟩:=h.sh i _ e
  simp only [za,v3,b]
  exact k _ _ h.ex (c.up (jG fun b z=>.inl z)) (fun z=>by cases z)
 ·cases hf⟩
def qga:PyData->Bool
 | .none=>true | .bool _=>true | .int _=>true | .str _=>true | _=>false
theorem RJ {H H':Gp} {x:T} {d:PyData} (h:Dq H x d) (s:qga d=true):Dq H' x d:=by
 cases h <;> first | (constructor;done) | (simp [qga] at s;done)
def qq1:PyData->Sl
 | .list ds=>.ow ds
 | d=>.sh d
def qaN (m:List Bool) (nw:Bool) (i:Nat) (d:PyData) (ρ:Rho):Rho:=if qga d then ρ.set i (.sh d) else (dm m ρ).set i (if nw then qq1 d else .sh d)
def LH {t:TE3} (a:PuE t) (i:Nat) (m:List Bool) (hm:Tru (a.fv.all (mkb m))):PuS (zN t (gn3 i)):=⟨fun _ ρ=>(a.f ρ).map fun d=>.nx (qaN m a.nw i d ρ),fun {D G0 A τ ρ G n o e} h hf k=>by
 obtain ⟨d,e1,rfl⟩:=Option.map_eq_some_iff.mp hf
 refine a.ok (h.viewD hm) (h.dem m).dom e1 fun x G1 E1 D1 N1=>?_
 unfold qaN at k
 show e.nx (τ.set i (some x)) G1
 split at k
 ·rename_i hs
  exact k _ _ _ ((h.up E1).put i (RJ D1 hs))
 ·split at k
  ·rename_i hn
   have N:=N1 hn
   rcases id N with h2 | ⟨p,xs,ds,h1,h2,_⟩
   ·subst h2;rename_i hs;exact absurd rfl hs
   subst h2
   exact k _ _ _ ((h.dem m).putN i rfl E1 N)
  ·exact k _ _ _ (((h.dem m).up E1).put i D1)⟩
def XC {t:TE3} {g:TG3} (a:PuE t) (pg:PuG g) (m:List Bool) (hm:Tru (a.fv.all (mkb m))):PuS (zN t g):=⟨fun _ ρ=>(a.f ρ).bind fun d=>(pg.f d).map fun bs=>.nx (QS (dm m ρ) bs),fun {D G0 A τ ρ G n o e} h hf k=>by
 obtain ⟨d,e1,hf⟩:=Option.bind_eq_some_iff.mp hf
 obtain ⟨bs,e2,rfl⟩:=Option.map_eq_some_iff.mp hf
 refine a.ok (h.viewD hm) (h.dem m).dom e1 fun x G1 E1 D1 N1=>?_
 obtain ⟨ts,bd,kg⟩:=pg.ok D1 e2
 refine kg _ _ _ ?_
 obtain ⟨A',h'⟩:=((h.dem m).up E1).puts bd
 exact k _ _ _ h'⟩
def qnB (i j:Nat) (m:List Bool) (ds:List PyData) (ρ:Rho):Option Ot:=match ds with
 | [d,e]=>if qga d && qga e then some (.nx ((ρ.set i (.sh d)).set j (.sh e))) else some (.nx (((dm m ρ).set i (.sh d)).set j (.sh e)))
 | _=>none
theorem qiJ {D:Addr->Prop} {A:Nat->Option Addr} {G:Gp} {i:Nat}:Ex (rs (AD D A) G) (rs (AD D (Er A i)) G):=jG fun b z=>by
 rcases z with z | ⟨j,z⟩
 ·exact .inl z
 ·exact .inr ⟨j,(XY z).1⟩
def qqe {t:TA3} (a:PuA t) (i j:Nat) (m:List Bool) (hm:Tru (a.fv.all (mkb m))):PuS (qc3 i j t):=⟨fun _ ρ=>(a.f ρ).bind fun ds=>qnB i j m ds ρ,fun {D G0 A τ ρ G n o e} h hf k=>by
 obtain ⟨ds,e1,hf⟩:=Option.bind_eq_some_iff.mp hf
 refine a.ok (h.viewD hm) (h.dem m).dom e1 fun x G1 E1 D1=>?_
 unfold qnB at hf
 split at hf
 ·cases D1 with
  | cons a b=>cases b with
   | cons b c=>
    cases c
    split at hf
    ·rename_i hs
     cases hf
     rw [Bool.and_eq_true] at hs
     exact k _ _ _ (((h.up E1).put i (RJ a hs.1)).put j (RJ b hs.2))
    ·cases hf
     exact k _ _ _ ((((h.dem m).up E1).put i a).put j (b.up qiJ))
 ·cases hf⟩
def slot (ρ:Rho) (i:Nat):Option (List PyData):=match ρ[i]? with | some (.ow ds)=>some ds | _=>none
theorem qbi {ρ:Rho} {i:Nat} {ds:List PyData} (h:slot ρ i=some ds):ρ[i]?=some (.ow ds):=by
 unfold slot at h
 split at h
 ·rename_i e;cases h;exact e
 ·cases h
def dmS (m:List Bool) (d:PyData) (ρ:Rho):Rho:=if qga d then ρ else dm m ρ
theorem RS.evalS {D:Addr->Prop} {G0 G:Gp} {A:Nat->Option Addr} {τ:St3} {ρ:Rho} (h:RS D G0 A τ ρ G) {t:TE3} (a:PuE t) (m:List Bool) (hm:Tru (a.fv.all (mkb m))) {d:PyData} (hf:a.f ρ=some d):∃ A1,RS D G0 A1 τ (dmS m d ρ) G/\∀ q:Q3,(∀ x G',Ex G G'->Dq (rs (AD D A1) G') x d->q x G')->t τ G q:=by
 unfold dmS
 by_cases hs:qga d=true
 ·rw [if_pos hs]
  exact ⟨A,h,fun q k=>a.ok (h.viewAll _) h.domD hf fun x G1 E1 D1 _=>k x G1 E1 (RJ D1 hs)⟩
 ·rw [if_neg hs]
  exact ⟨Ad m A,h.dem m,fun q k=>a.ok (h.viewD hm) (h.dem m).dom hf fun x G1 E1 D1 _=>k x G1 E1 D1⟩
def qiy (i:Nat) (d:PyData) (ρ:Rho):Option Ot:=(slot ρ i).bind fun ds=>cif (ds.length < sizeLine) (some (.nx (ρ.set i (.ow (ds++[d]))))) none
def qo4 {t:TE3} (a:PuE t) (i:Nat) (m:List Bool) (hm:Tru (a.fv.all (mkb m))):PuS (XV (bm3 qcV (v3 i) (qc t qj))):=⟨fun _ ρ=>(a.f ρ).bind fun d=>qiy i d (dmS m d ρ),fun {D G0 A τ ρ G n o e} h hf k=>by
 obtain ⟨d,e1,hf⟩:=Option.bind_eq_some_iff.mp hf
 obtain ⟨A1,h1,ev⟩:=h.evalS a m hm e1
 unfold qiy at hf
 obtain ⟨ds,e2,hf⟩:=Option.bind_eq_some_iff.mp hf
 unfold cif at hf
 split at hf
 ·rename_i hl
  cases hf
  obtain ⟨p,xs,b,c,g,f⟩:=h1.ow i _ (qbi e2)
  simp only [XV,bm3,v3,c,je g]
  refine ⟨rfl,ev _ fun x G1 E1 D1=>?_⟩
  simp only [qj,qcV,E1 _ _ g]
  exact ⟨by rw [f.length];exact hl,k _ _ _ ((h1.up E1).wr b c ((f.up (QK E1)).append (.cons D1 .nil)))⟩
 ·cases hf⟩
def qmu (i:Nat) (d:PyData) (ρ:Rho):Option Ot:=match d with | .list es=>(slot ρ i).bind fun ds=>cif (ds.length+es.length<=sizeLine) (some (.nx (ρ.set i (.ow (ds++es))))) none | _=>none
def qqv {t:TE3} (a:PuE t) (i:Nat) (m:List Bool) (hm:Tru (a.fv.all (mkb m))):PuS (XV (bm3 qgD (v3 i) (qc t qj))):=⟨fun _ ρ=>(a.f ρ).bind fun d=>qmu i d (dmS m d ρ),fun {D G0 A τ ρ G n o e} h hf k=>by
 obtain ⟨d,e1,hf⟩:=Option.bind_eq_some_iff.mp hf
 obtain ⟨A1,h1,ev⟩:=h.evalS a m hm e1
 unfold qmu at hf
 split at hf
 ·obtain ⟨ds,e2,hf⟩:=Option.bind_eq_some_iff.mp hf
  unfold cif at hf
  split at hf
  ·rename_i hl
   cases hf
   obtain ⟨p,xs,b,c,g,f⟩:=h1.ow i _ (qbi e2)
   simp only [XV,bm3,v3,c,je g]
   refine ⟨rfl,ev _ fun x G1 E1 D1=>?_⟩
   cases D1 with
   | lst g2 hs2=>
    simp only [qj,qgD,E1 _ _ g,(qX g2).2]
    exact ⟨by rw [f.length,hs2.length];exact hl,k _ _ _ ((h1.up E1).wr b c ((f.up (QK E1)).append hs2))⟩
  ·cases hf
 ·cases hf⟩
def D6 (gf:PyData->Option (List (Nat×PyData))) (bf:Rho->Option Ot):List PyData->Rho->Option Ot
 | [],ρ=>some (.nx ρ)
 | d :: r,ρ=>(gf d).bind fun bs=>(bf (QS ρ bs)).bind fun o=>match o with
  | .nx ρ'=>D6 gf bf r ρ'
  | .ct ρ'=>D6 gf bf r ρ'
  | .bk ρ'=>some (.nx ρ')
  | .rt d b=>some (.rt d b)
theorem M3 {stay:Gp->Prop} {g:TG3} {tb:TS3} {e:Ends3} (pg:PuG g) (pb:PuS tb) {D:Addr->Prop} {G0:Gp} {n:Nat} {o:Ot} {items0:List T} (hs:∀ A τ ρ G,RS D G0 A τ ρ G->stay G) (k:qlU D G0 e o) :
  ∀ (ds:List PyData) (items:List T),(∀ A τ ρ G,RS D G0 A τ ρ G->Dqs (rs (AD D A) G) items ds)->∀ A τ ρ G,RS D G0 A τ ρ G->D6 pg.f (pb.f n) ds ρ=some o->SK stay g tb e items τ G
 | [],items,hi,A,τ,ρ,G,h,hf=>by
  cases hf
  have:=hi _ _ _ _ h
  cases this
  exact ⟨hs _ _ _ _ h,k _ _ _ h⟩
 | d :: ds,items,hi,A,τ,ρ,G,h,hf=>by
  have hh:=hi _ _ _ _ h
  cases hh with
  | cons hx hr=>
   rename_i x items
   unfold D6 at hf
   obtain ⟨bs,e1,hf⟩:=Option.bind_eq_some_iff.mp hf
   obtain ⟨o1,e2,hf⟩:=Option.bind_eq_some_iff.mp hf
   obtain ⟨ts,bd,kg⟩:=pg.ok hx e1
   refine ⟨hs _ _ _ _ h,kg _ _ _ ?_⟩
   obtain ⟨A',h'⟩:=h.puts bd
   refine pb.ok h' e2 ?_
   have hi':∀ A τ ρ G,RS D G0 A τ ρ G->Dqs (rs (AD D A) G) items ds:=fun A τ ρ G h=>by
    have:=hi _ _ _ _ h
    cases this with
    | cons a b=>exact b
   cases o1 with
   | nx ρ'=>exact fun A2 τ2 G2 h2=>M3 (items0:=items0) pg pb hs k ds items hi' _ _ _ _ h2 hf
   | ct ρ'=>exact fun A2 τ2 G2 h2=>M3 (items0:=items0) pg pb hs k ds items hi' _ _ _ _ h2 hf
   | bk ρ'=>cases hf;exact k
   | rt d fr=>cases hf;exact k
def qkR (pi:Rho->Option (List PyData)) (nm:Bool) (m:List Bool) (gf:PyData->Option (List (Nat×PyData))) (bf:Nat->Rho->Option Ot) (n:Nat) (ρ:Rho):Option Ot:=(pi ρ).bind fun ds=>D6 gf (bf n) ds (if nm then ρ else dm m ρ)
def qds {wi:TI3} {g:TG3} {tb:TS3} (pi:PuI wi) (pg:PuG g) (pb:PuS tb) (m:List Bool) (hm:Tru (pi.fv.all (mkb m))):PuS (CT wi g tb):=⟨qkR pi.f pi.nm m pg.f pb.f,fun {D G0 A τ ρ G n o e} h hf k=>by
 unfold qkR at hf
 obtain ⟨ds,e1,hf⟩:=Option.bind_eq_some_iff.mp hf
 refine pi.ok (h.viewD hm) (h.dem m).dom e1 fun items stay G1 E1 D1 hs hnm=>?_
 cases hb:pi.nm with
 | true=>
  rw [hb,if_pos rfl] at hf
  obtain ⟨ns,rfl⟩:=hnm hb
  have:=D1.ints
  subst this
  exact M3 (items0:=[]) pg pb (fun _ _ _ _ _=>hs _ (.inl hb)) k _ _ (fun A τ ρ G _=>Dqs.ofInts _) _ _ _ _ (h.up E1) hf
 | false=>
  rw [hb,if_neg Bool.false_ne_true] at hf
  have h1:=(h.dem m).up E1
  have b1:Ex G0 (rs (fun b=>∃ i,Ad m A i=some b) G1):=fun b o e=>by
   rw [Q5]
   ·exact h1.ex _ _ e
   ·rintro ⟨i,z⟩;rw [h1.fr i _ z] at e;cases e
  have h2:RS D (rs (fun b=>∃ i,Ad m A i=some b) G1) (Ad m A) τ (dm m ρ) G1:=⟨YN,h.dm.up b1,fun i p z=>by unfold rs;exact jq ⟨i,z⟩,h1.da,h1.inj,h1.len,h1.sh,h1.ow⟩
  have X:∀ A2 τ2 ρ2 G2,RS D (rs (fun b=>∃ i,Ad m A i=some b) G1) A2 τ2 ρ2 G2->Ex (rs (AD D (Ad m A)) G1) (rs (AD D A2) G2):=fun A2 τ2 ρ2 G2 r b o e=>by
   obtain ⟨n1,e⟩:=qX e
   have eb:rs (fun b=>∃ i,Ad m A i=some b) G1 b=some o:=by rw [Q5 (fun z=>n1 (.inr z))];exact e
   rw [Q5]
   ·exact r.ex _ _ eb
   ·rintro (z | ⟨i,z⟩)
    ·exact n1 (.inl z)
    ·rw [r.fr i _ z] at eb;cases eb
  exact M3 (items0:=[]) pg pb (fun A2 τ2 ρ2 G2 r=>hs _ (.inr ((X _ _ _ _ r).trans YN))) (k.base b1 h.dm) _ _ (fun A2 τ2 ρ2 G2 r=>D1.up (X _ _ _ _ r)) _ _ _ _ h2 hf⟩
def Z5 (fr:Bool):Option Ot->Option PyData
 | some (.rt d b)=>if fr=true/\b=false then (match d with | .none=>some .none | _=>none) else some d
 | some (.nx _)=>if fr then none else some .none
 | _=>none
def st (ds:List PyData) (N:Nat):Rho:=ds.map Sl.sh++List.replicate (N - ds.length) .un
def run (f:Nat->Rho->Option Ot) (k N n:Nat) (fr:Bool) (ds:List PyData):Option PyData:=if ds.length=k then Z5 fr (f n (st ds N)) else none
theorem qP {t:TS3} (b:PuS t) (N:List Str) (k n:Nat) (fr:Bool):∀ ts G q,PSp (run b.f k N.length n fr) fr ts G q->ts.length=k/\t { nx:=fun _ G'=>q .non G',rt:=q } (qE N ts) G:=by
 rintro ts G q ⟨D,ds,d,hs,hd,hf,h⟩
 unfold run at hf
 split at hf
 ·rename_i hk
  refine ⟨by rw [hs.length];exact hk,?_⟩
  have r:RS D G (fun _=>none) (qE N ts) (st ds N.length) G:=by
   refine ⟨Ex.refl,hd,(fun i p e=>by cases e),(fun i p e=>by cases e),(fun i j p e=>by cases e),(by simp [st,qE,hs.length]),fun i d' e=>?_,fun i es e=>?_⟩
   ·unfold st at e
    unfold qE
    by_cases hi:i < ds.length
    ·rw [List.getElem?_append_left (by simpa using hi),List.getElem?_map] at e
     obtain ⟨d2,e3,e4⟩:=Option.map_eq_some_iff.mp e
     cases e4
     obtain ⟨x,e5,hx⟩:=hs.get e3
     refine ⟨x,?_,hx.up (jG fun b z=>?_)⟩
     ·rw [List.getElem?_append_left (by simp [hs.length];exact hi),List.getElem?_map,e5];rfl
     ·rcases z with z | ⟨i,z⟩
      ·exact z
      ·cases z
    ·rw [List.getElem?_append_right (by simpa using hi),List.getElem?_replicate] at e
     split at e <;> cases e
   ·unfold st at e
    by_cases hi:i < ds.length
    ·rw [List.getElem?_append_left (by simpa using hi),List.getElem?_map] at e
     obtain ⟨d2,e3,e4⟩:=Option.map_eq_some_iff.mp e
     cases e4
    ·rw [List.getElem?_append_right (by simpa using hi),List.getElem?_replicate] at e
     split at e <;> cases e
  unfold Z5 at hf
  split at hf
  ·rename_i d' b' e
   split at hf
   ·split at hf
    ·cases hf
     exact b.ok r e fun x G' a c z=>h x G' a c fun _=>.inl rfl
    ·cases hf
   ·rename_i hb
    cases hf
    exact b.ok r e fun x G' a c z=>h x G' a c fun w=>z (by
     cases b' with
     | true=>rfl
     | false=>exact absurd ⟨w,rfl⟩ hb)
  ·rename_i ρ' e
   split at hf
   ·cases hf
   ·rename_i hb
    cases hf
    exact b.ok r e fun A τ G' r'=>h .non G' r'.ex .non fun w=>absurd w hb
  ·cases hf
 ·cases hf
end Pu
namespace Pu
open PySem L2 L3
mutual
def tD:T->Option PyData
 | .non=>some .none | .bl b=>some (.bool b) | .int i=>some (.int i) | .str x=>some (.str x) | .tup xs=>(tDs xs).map .tuple | .ref _=>none
def tDs:List T->Option (List PyData)
 | []=>some []
 | x :: r=>(tD x).bind fun d=>(tDs r).map (d :: ·)
end
mutual
theorem qm1 {G:Gp}:∀ (t:T) {d:PyData},tD t=some d->Dq G t d
 | .non,_,h=>by cases h;exact .non
 | .bl b,_,h=>by cases h;exact .bl b
 | .int b,_,h=>by cases h;exact .int b
 | .str b,_,h=>by cases h;exact .str b
 | .tup xs,_,h=>by
  unfold tD at h
  obtain ⟨ds,e,rfl⟩:=Option.map_eq_some_iff.mp h
  exact .tup (qeC xs e)
 | .ref _,_,h=>by cases h
theorem qeC {G:Gp}:∀ (t:List T) {d:List PyData},tDs t=some d->Dqs G t d
 | [],_,h=>by cases h;exact .nil
 | x :: r,_,h=>by
  unfold tDs at h
  obtain ⟨d,e,h⟩:=Option.bind_eq_some_iff.mp h
  obtain ⟨ds,e2,rfl⟩:=Option.map_eq_some_iff.mp h
  exact .cons (qm1 x e) (qeC r e2)
end
def asS:PyData->Option Str
 | .str s=>some s
 | _=>none
theorem qgj {d:PyData} {b:Str} (h:asS d=some b):d=.str b:=by cases d <;> simp [asS] at h;subst h;rfl
def qme (tab:List (Str×T)) {te:TE3} (a:PuE te):PuE (qc9 tab te):=⟨fun ρ=>((a.f ρ).bind asS).bind fun s=>(jO tab s).bind tD,a.fv,false,fun hv hd hf k=>by
 obtain ⟨s,e1,hf⟩:=Option.bind_eq_some_iff.mp hf
 obtain ⟨d,e1,e2⟩:=Option.bind_eq_some_iff.mp e1
 have:=qgj e2;subst this
 obtain ⟨t,e3,hf⟩:=Option.bind_eq_some_iff.mp hf
 refine a.ok hv hd e1 fun x' G1 E1 D1 _=>?_
 cases D1
 simp only [e3]
 exact k _ _ E1 (qm1 t hf) (fun z=>by cases z)⟩
def qdF:List Str->List PyData->Str->Option PyData
 | k :: ks,x :: xs,s=>if k=s then some x else qdF ks xs s
 | _,_,_=>none
theorem qcR {G:Gp}:∀ (ks:List Str) {xs:List T} {ds:List PyData} {s:Str} {d:PyData},Dqs G xs ds->qdF ks ds s=some d->∃ x,jO (ks.zip xs) s=some x/\Dq G x d
 | [],_,_,_,_,_,h=>by simp [qdF] at h
 | k :: ks,_,_,_,_,.nil,h=>by simp [qdF] at h
 | k :: ks,_,_,s,d,.cons a b,h=>by
  unfold qdF at h
  simp only [List.zip_cons_cons,jO]
  split at h
  ·rename_i e
   cases h
   exact ⟨_,by rw [if_pos e],a⟩
  ·rename_i e
   obtain ⟨x,h1,h2⟩:=qcR ks b h
   exact ⟨x,by rw [if_neg e];exact h1,h2⟩
def qiS (ks:List Str) {t:TA3} {te:TE3} (a:PuA t) (b:PuE te):PuE (qie ks t te):=⟨fun ρ=>(a.f ρ).bind fun ds=>((b.f ρ).bind asS).bind fun s=>qdF ks ds s,a.fv++b.fv,false,fun hv hd hf k=>by
 obtain ⟨ds,e1,hf⟩:=Option.bind_eq_some_iff.mp hf
 obtain ⟨s,e2,hf⟩:=Option.bind_eq_some_iff.mp hf
 obtain ⟨d,e2,e3⟩:=Option.bind_eq_some_iff.mp e2
 have:=qgj e3;subst this
 refine a.ok hv.l hd e1 fun xs G1 E1 D1=>b.ok (hv.r.up E1) (hd.up E1) e2 fun y G2 E2 D2 _=>?_
 cases D2
 obtain ⟨x,h1,h2⟩:=qcR ks (D1.up (QK E2)) hf
 simp only [h1]
 exact k _ _ (E1.trans E2) h2 (fun z=>by cases z)⟩
theorem qdv {fr:Bool}:∀ ts G q,PSp (fun _=>none) fr ts G q->False:=fun ts G q ⟨_,_,_,_,_,h,_⟩=>by cases h
theorem Fn3.pz {P:Program} {w:World} {K:PySem.W.Frag} {mg:Str->Option Value} {base:Heap} {k:Nat} {x:Str} {sp:Sp3} (F:Fn3 P w K mg base k x sp) (fr:Bool):Fn3 P w K mg base k x (PSp (fun _=>none) fr):=F.imp fun ts G q h=>(qdv ts G q h).elim
end Pu
namespace Pu
open PySem L2 L3
theorem qqo {i:Nat}:(bV i).f=fun ρ=>vw ρ i:=id rfl
theorem qeG {i:Int}:(qQ i).f=fun _=>some (.int i):=id rfl
theorem qkx {i:Bool}:(bBl i).f=fun _=>some (.bool i):=id rfl
theorem qfg {i:Str}:(CP i).f=fun _=>some (.str i):=id rfl
theorem qeZ:qaR.f=fun _=>some .none:=id rfl
theorem qqu {r:R3} {ta tb:TE3} {R:OpD r} {a:PuE ta} {b:PuE tb}:(bO R a b).f=fun ρ=>(a.f ρ).bind fun x=>(b.f ρ).bind fun y=>R.f x y:=id rfl
theorem qeH:qB.f=fun _=>some []:=id rfl
theorem qca {ta:TE3} {tr:TA3} {a:PuE ta} {r:PuA tr}:(qf a r).f=fun ρ=>(a.f ρ).bind fun x=>(r.f ρ).bind fun xs=>some (x :: xs):=id rfl
theorem qfX {t:TA3} {a:PuA t} {hn:Tru (Nat.ble a.n 1000)}:(UI a hn).f=fun ρ=>(a.f ρ).map .tuple:=id rfl
theorem qgd {t:TA3} {a:PuA t} {hn:Tru (Nat.ble a.n 1000)}:(qdX a hn).f=fun ρ=>(a.f ρ).map .list:=id rfl
theorem qcv {r:List T->Gp->Q3->Prop} {t:TA3} {R:FnD r} {a:PuA t}:(qx R a).f=fun ρ=>(a.f ρ).bind R.f:=id rfl
theorem qma {t:TE3} {a:PuE t}:(bTb a).f=fun ρ=>(a.f ρ).bind asB:=id rfl
theorem qe9 {t u:TT3} {a:PuC t} {b:PuC u}:(qod a b).f=fun ρ=>(a.f ρ).bind fun k=>if k then b.f ρ else some false:=id rfl
theorem qjH {t u:TT3} {a:PuC t} {b:PuC u}:(bOr a b).f=fun ρ=>(a.f ρ).bind fun k=>if k then some true else b.f ρ:=id rfl
theorem qfa {t:TT3} {a:PuC t}:(qc1 a).f=fun ρ=>(a.f ρ).map (! ·):=id rfl
theorem qmJ:bTt.f=fun _=>some true:=id rfl
theorem qbY {ta tb:TE3} {a:PuE ta} {b:PuE tb}:(CC a b).f=fun ρ=>((a.f ρ).bind asB).bind fun k=>if k then b.f ρ else some (.bool false):=id rfl
theorem qbZ {ta:TE3} {a:PuE ta}:(qiR a).f=fun ρ=>((a.f ρ).bind asB).map fun k=>.bool (!k):=id rfl
theorem qkZ {t:TT3} {ta tb:TE3} {c:PuC t} {a:PuE ta} {b:PuE tb}:(bIf c a b).f=fun ρ=>(c.f ρ).bind fun k=>if k then a.f ρ else b.f ρ:=id rfl
theorem qey {ta:TE3} {a:PuE ta}:(qhe a).f=fun ρ=>((a.f ρ).bind asI).map fun i=>.int (-i):=id rfl
theorem qjl {r r':R3} {ta tb tc:TE3} {R:OpD r} {R':OpD r'} {a:PuE ta} {b:PuE tb} {c:PuE tc}:(bCh R R' a b c).f=fun ρ=>(a.f ρ).bind fun x=>(b.f ρ).bind fun y=>((R.f x y).bind asB).bind fun k=>if k then (c.f ρ).bind fun z=>R'.f y z else some (.bool false):=id rfl
theorem qen {ta:TE3} {g:String->Bool} {a:PuE ta}:(qiu g a).f=fun ρ=>(a.f ρ).bind fun d=>(tyD d).map fun t=>.bool (g t):=id rfl
theorem qkE:bNp.f=fun _=>some none:=id rfl
theorem ql5 {t:TE3} {a:PuE t}:(bSp a).f=fun ρ=>((a.f ρ).bind asI).map some:=id rfl
theorem qlC {te:TE3} {tl th:TO3} {a:PuE te} {l:PuO tl} {h:PuO th}:(bSl a l h).f=fun ρ=>(a.f ρ).bind fun d=>(l.f ρ).bind fun lo=>(h.f ρ).bind fun hi=>slD d lo hi:=id rfl
theorem qbI {te:TE3} {a:PuE te}:(qlz a).f=fun ρ=>(a.f ρ).bind qax:=id rfl
theorem qbz {tab:List (Str×T)} {te:TE3} {a:PuE te}:(qme tab a).f=fun ρ=>((a.f ρ).bind asS).bind fun s=>(jO tab s).bind tD:=id rfl
theorem qb8 {ks:List Str} {t:TA3} {te:TE3} {a:PuA t} {b:PuE te}:(qiS ks a b).f=fun ρ=>(a.f ρ).bind fun ds=>((b.f ρ).bind asS).bind fun s=>qdF ks ds s:=id rfl
theorem qk6 {wi:TI3} {g:TG3} {tif:TT3} {te:TE3} {pi:PuI wi} {pg:PuG g} {pc:PuC tif} {pe:PuE te} {m:List (Option Nat)} {hm:Tru (pg.tg.all fun i=>m[i]? == some none)}:(bLc pi pg pc pe m hm).f=lcF pi.f (lcH pg.f pc.f pe.f) m:=id rfl
theorem qeU {wi wi2:TI3} {g g2:TG3} {tif tif2:TT3} {te:TE3} {pi:PuI wi} {pg:PuG g} {pc:PuC tif} {pi2:PuI wi2} {pg2:PuG g2} {pc2:PuC tif2} {pe:PuE te} {m:List (Option Nat)} {hm:Tru (pg.tg.all fun i=>m[i]? == some none)} {hm2:Tru (pg2.tg.all fun i=>m[i]? == some none)} {hdj:Tru (pg2.tg.all fun i=>!pg.tg.contains i)}:(qk4 pi pg pc pi2 pg2 pc2 pe m hm hm2 hdj).f=qmP pi.f (qnq pg.f pc.f pi2.f (lcH pg2.f pc2.f pe.f)) m:=id rfl
theorem qgm:M5.f=qff:=id rfl
theorem qe6:qpK.f=qnA:=id rfl
theorem qet:qnQ.f=qnI:=id rfl
theorem qfe:qkn.f=qiO:=id rfl
theorem qcg:MR.f=mnD:=id rfl
theorem qbp:qct.f=mxD:=id rfl
theorem qcO {F:List PyData->Option PyData} {fr:Bool}:(qV F fr).f=F:=id rfl
theorem qiL {g:Int->Int->Int} {i j:Int}:(opI g).f (.int i) (.int j)=some (.int (g i j)):=id rfl
theorem qj4 {g:Int->Int->Bool} {i j:Int}:(opB g).f (.int i) (.int j)=some (.bool (g i j)):=id rfl
theorem qiX {C:Int->Int->Prop} {g:Int->Int->Int}:(opC C g).f=cI C g:=id rfl
theorem qfv {n:Bool}:(D7 n).f=eqD n:=id rfl
theorem qcn {n:Bool}:(qaj n).f=qmZ n:=id rfl
theorem qaV {n:Bool}:(qhB n).f=qnN n:=id rfl
theorem qfc:zx.f=ixD:=id rfl
theorem qcF:JM.f=qnw:=id rfl
theorem qeD {t:TE3} {a:PuE t}:(TR a).f=fun ρ=>(a.f ρ).bind qaB:=id rfl
theorem qeJ {t:TA3} {a:PuA t}:(T7 a).f=fun ρ=>(a.f ρ).bind qcZ:=id rfl
theorem qfL {t:TA3} {a:PuA t}:(qqy a).f=fun ρ=>(a.f ρ).bind fun ds=>match ds with | [d,e]=>(qaB d).bind fun us=>(qaB e).bind fun vs=>some (qgb us vs) | _=>none:=id rfl
theorem qb1 {t:TA3} {a:PuA t}:(N7 a).f=fun ρ=>(a.f ρ).bind fun ds=>match ds with | [d]=>(qaB d).map fun us=>enD 0 us | _=>none:=id rfl
theorem qcw {t:TE3} {a:PuE t}:(TR a).nm=false:=id rfl
theorem NM {t:TA3} {a:PuA t}:(N7 a).nm=false:=id rfl
theorem qa2 {t:TA3} {a:PuA t}:(T7 a).nm=true:=id rfl
theorem qpX {i:Nat}:(gN i).f=fun d=>some [(i,d)]:=id rfl
theorem qgq:DU.f []=some []:=id rfl
theorem qaS {t:TG3} {u:LK} {a:PuG t} {b:PuGs u} {d:PyData} {r:List PyData}:(qU a b).f (d :: r)=(a.f d).bind fun x=>(b.f r).map fun y=>x++y:=id rfl
theorem qfp {u:LK} {n:Nat} {b:PuGs u} {ds:List PyData}:(DT n b).f (.tuple ds)=if ds.length=n then b.f ds else none:=id rfl
theorem qbh:QG.f=fun _ ρ=>some (.nx ρ):=id rfl
theorem qf7 {t u:TS3} {a:PuS t} {b:PuS u}:(jV a b).f=qnO a.f b.f:=id rfl
theorem qjW {c:TT3} {t u:TS3} {pc:PuC c} {a:PuS t} {b:PuS u}:(sIf pc a b).f=fun n ρ=>(pc.f ρ).bind fun k=>if k then a.f n ρ else b.f n ρ:=id rfl
theorem qe1 {t:TE3} {a:PuE t}:(QI a).f=fun _ ρ=>(a.f ρ).map fun d=>.rt d a.nw:=id rfl
theorem qbX {i:Nat}:(qk8 i).f=fun _ ρ=>qiv ρ i:=id rfl
theorem qem {t:TE3} {a:PuE t} {i:Nat} {m:List Bool} {hm:Tru (a.fv.all (mkb m))}:(LH a i m hm).f=fun _ ρ=>(a.f ρ).map fun d=>.nx (qaN m a.nw i d ρ):=id rfl
theorem qcs {t:TE3} {g:TG3} {a:PuE t} {pg:PuG g} {m:List Bool} {hm:Tru (a.fv.all (mkb m))}:(XC a pg m hm).f=fun _ ρ=>(a.f ρ).bind fun d=>(pg.f d).map fun bs=>.nx (QS (dm m ρ) bs):=id rfl
theorem qfB {t:TA3} {a:PuA t} {i j:Nat} {m:List Bool} {hm:Tru (a.fv.all (mkb m))}:(qqe a i j m hm).f=fun _ ρ=>(a.f ρ).bind fun ds=>qnB i j m ds ρ:=id rfl
theorem qfD {t:TE3} {a:PuE t} {i:Nat} {m:List Bool} {hm:Tru (a.fv.all (mkb m))}:(qo4 a i m hm).f=fun _ ρ=>(a.f ρ).bind fun d=>qiy i d (dmS m d ρ):=id rfl
theorem qeh {t:TE3} {a:PuE t} {i:Nat} {m:List Bool} {hm:Tru (a.fv.all (mkb m))}:(qqv a i m hm).f=fun _ ρ=>(a.f ρ).bind fun d=>qmu i d (dmS m d ρ):=id rfl
theorem qeb {wi:TI3} {g:TG3} {tb:TS3} {pi:PuI wi} {pg:PuG g} {pb:PuS tb} {m:List Bool} {hm:Tru (pi.fv.all (mkb m))}:(qds pi pg pb m hm).f=qkR pi.f pi.nm m pg.f pb.f:=id rfl
theorem qgr {i:Bool}:(bBl i).nw=false:=id rfl
theorem qcC:qaR.nw=false:=id rfl
theorem qlu {r:R3} {ta tb:TE3} {R:OpD r} {a:PuE ta} {b:PuE tb}:(bO R a b).nw=R.nw:=id rfl
theorem qcc {t:TA3} {a:PuA t} {hn:Tru (Nat.ble a.n 1000)}:(UI a hn).nw=false:=id rfl
theorem qbk {t:TA3} {a:PuA t} {hn:Tru (Nat.ble a.n 1000)}:(qdX a hn).nw=true:=id rfl
theorem NK {r:List T->Gp->Q3->Prop} {t:TA3} {R:FnD r} {a:PuA t}:(qx R a).nw=R.nw:=id rfl
theorem NA {F:List PyData->Option PyData} {fr:Bool}:(qV F fr).nw=fr:=id rfl
theorem NZ {ta tb:TE3} {a:PuE ta} {b:PuE tb}:(CC a b).nw=false:=id rfl
theorem qf3 {wi:TI3} {g:TG3} {tif:TT3} {te:TE3} {pi:PuI wi} {pg:PuG g} {pc:PuC tif} {pe:PuE te} {m:List (Option Nat)} {hm:Tru (pg.tg.all fun i=>m[i]? == some none)}:(bLc pi pg pc pe m hm).nw=true:=id rfl
theorem qbG {wi wi2:TI3} {g g2:TG3} {tif tif2:TT3} {te:TE3} {pi:PuI wi} {pg:PuG g} {pc:PuC tif} {pi2:PuI wi2} {pg2:PuG g2} {pc2:PuC tif2} {pe:PuE te} {m:List (Option Nat)} {hm:Tru (pg.tg.all fun i=>m[i]? == some none)} {hm2:Tru (pg2.tg.all fun i=>m[i]? == some none)} {hdj:Tru (pg2.tg.all fun i=>!pg.tg.contains i)}:(qk4 pi pg pc pi2 pg2 pc2 pe m hm hm2 hdj).nw=true:=id rfl
theorem qbQ:qpK.nw=false:=id rfl
theorem qcL:qkn.nw=false:=id rfl
theorem qa0:qnQ.nw=true:=id rfl
theorem qb7:zx.nw=false:=id rfl
theorem NP:JM.nw=false:=id rfl
theorem qex {C:Int->Int->Prop} {g:Int->Int->Int}:(opC C g).nw=false:=id rfl
theorem qpS {s:Sl} {r:Rho}:vw (s :: r) 0=s.d:=id rfl
theorem qqw {s:Sl} {r:Rho} {i:Nat}:vw (s :: r) (i+1)=vw r i:=id rfl
theorem qlf {d:PyData}:(Sl.sh d).d=some d:=id rfl
theorem qkO {ds:List PyData}:(Sl.ow ds).d=some (.list ds):=id rfl
theorem qkF:Sl.un.d=none:=id rfl
theorem qbv {r:Rho} {ds:List PyData}:qiv (.ow ds :: r) 0=some (.rt (.list ds) true):=id rfl
theorem qei {s:Sl} {r:Rho} {i:Nat}:qiv (s :: r) (i+1)=qiv r i:=id rfl
theorem qlc {xs:List PyData} {i:Int}:ixD (.tuple xs) (.int i)=L2.atI xs i:=id rfl
theorem qmN {xs:List PyData} {i:Int}:ixD (.list xs) (.int i)=L2.atI xs i:=id rfl
theorem at0 {α:Type} {a:α} {r:List α}:L2.atI (a :: r) 0=some a:=by simp [L2.atI,ixN]
theorem at1 {α:Type} {a b:α} {r:List α}:L2.atI (a :: b :: r) 1=some b:=by
 have h:ixN (a :: b :: r).length 1=some 1:=by unfold ixN;rw [if_pos (by omega),if_pos (by simp;omega)];rfl
 unfold L2.atI;rw [h];rfl
theorem at2 {α:Type} {a b c:α} {r:List α}:L2.atI (a :: b :: c :: r) 2=some c:=by
 have h:ixN (a :: b :: c :: r).length 2=some 2:=by unfold ixN;rw [if_pos (by omega),if_pos (by simp;omega)];rfl
 unfold L2.atI;rw [h];rfl
theorem at3 {α:Type} {a b c d:α} {r:List α}:L2.atI (a :: b :: c :: d :: r) 3=some d:=by
 have h:ixN (a :: b :: c :: d :: r).length 3=some 3:=by unfold ixN;rw [if_pos (by omega),if_pos (by simp;omega)];rfl
 unfold L2.atI;rw [h];rfl
theorem at4 {α:Type} {a b c d e:α} {r:List α}:L2.atI (a :: b :: c :: d :: e :: r) 4=some e:=by
 have h:ixN (a :: b :: c :: d :: e :: r).length 4=some 4:=by unfold ixN;rw [if_pos (by omega),if_pos (by simp;omega)];rfl
 unfold L2.atI;rw [h];rfl
theorem at5 {α:Type} {a b c d e f:α} {r:List α}:L2.atI (a :: b :: c :: d :: e :: f :: r) 5=some f:=by
 have h:ixN (a :: b :: c :: d :: e :: f :: r).length 5=some 5:=by unfold ixN;rw [if_pos (by omega),if_pos (by simp;omega)];rfl
 unfold L2.atI;rw [h];rfl
theorem atN {α:Type} {xs:List α} {k:Nat} (h:k < xs.length):L2.atI xs (k:Int)=xs[k]?:=by
 have e:ixN xs.length (k:Int)=some k:=by unfold ixN;rw [if_pos (by omega),if_pos (by omega)];rfl
 unfold L2.atI;rw [e];rfl
theorem eqS {n:Bool} {a b:Str}:eqD n (.str a) (.str b)=some (.bool (if n then !decide (a=b) else decide (a=b))):=id rfl
theorem eqI {n:Bool} {a b:Int}:eqD n (.int a) (.int b)=some (.bool (if n then !decide (a=b) else decide (a=b))):=id rfl
theorem qiA {n:Bool}:qmZ n .none .none=some (.bool !n):=id rfl
theorem qi7 {n:Bool} {xs:List PyData}:qmZ n (.tuple xs) .none=some (.bool n):=id rfl
theorem qcT {C:Int->Int->Prop} {g:Int->Int->Int} {i j:Int} (h:C i j):cI C g (.int i) (.int j)=some (.int (g i j)):=by simp only [cI];exact jq h
theorem qcG {i j:Int} (h:-1000000 < j/\j < 1000000):cI jP (· * ·) (.int i) (.int j)=some (.int (i * j)):=qcT (.inr ⟨by omega,by omega⟩)
theorem YY {i j:Int} (h:-1000000 < i/\i < 1000000):cI jP (· * ·) (.int i) (.int j)=some (.int (i * j)):=qcT (.inl ⟨by omega,by omega⟩)
theorem RM {i j:Int} (h:0 < j):cI (fun _ j=>0 < j) (· % ·) (.int i) (.int j)=some (.int (i % j)):=qcT h
theorem qgp {i j:Int} (h:0 < j/\j < 1073741824):cI qaF (· / ·) (.int i) (.int j)=some (.int (i / j)):=qcT h
theorem qjn {i j:Int} (h:0<=j/\j<=1000000/\i.natAbs < 2 ^ 64):cI LN (fun i j=>i * 2 ^ j.toNat) (.int i) (.int j)=some (.int (i * 2 ^ j.toNat)):=qcT h
theorem qp7 {i j:Int}:qnw (.int i) (.int j)=some (.int (i+j)):=id rfl
theorem qaQ {j:Int} (h:-1000000000<=j/\j < 1000000000):qcZ [.int j]=some ((QQ 0 j.toNat).map PyData.int):=by simp only [qcZ];exact jq ⟨by omega,by omega⟩
theorem qe2 {i j:Int} (h:-1000000000<=i/\i < 1000000000/\-1000000000<=j/\j < 1000000000):qcZ [.int i,.int j]=some ((QQ i (j - i).toNat).map PyData.int):=by simp only [qcZ];exact jq ⟨by omega,by omega,by omega,by omega⟩
theorem jx {pi:Rho->Option (List PyData)} {h:Rho->PyData->Option (Option PyData)} {m:List (Option Nat)} {ρ:Rho} {ds fs:List PyData} (h1:pi ρ=some ds) (h2:lcP (h (C9 m ρ)) ds=some fs) (h3:fs.length<=16777216):lcF pi h m ρ=some (.list fs):=by unfold lcF;rw [h1];simp only [Option.bind_some,h2];exact jq h3
theorem LZ {pi:Rho->Option (List PyData)} {h:Rho->PyData->Option (Option (List PyData))} {m:List (Option Nat)} {ρ:Rho} {ds fs:List PyData} (h1:pi ρ=some ds) (h2:qig (h (C9 m ρ)) ds=some fs) (h3:fs.length<=16777216):qmP pi h m ρ=some (.list fs):=by unfold qmP;rw [h1];simp only [Option.bind_some,h2];exact jq h3
theorem LW {i:Nat} {d:PyData} {ρ:Rho} {ds:List PyData} (h:slot ρ i=some ds) (hl:ds.length < 16777216):qiy i d ρ=some (.nx (ρ.set i (.ow (ds++[d])))):=by unfold qiy;rw [h];simp only [Option.bind_some];exact jq hl
theorem qdj {gf:PyData->Option (List (Nat×PyData))} {bf:Rho->Option Ot} {α:Type} {g:α->PyData} (xs:List α) (I:Nat->Rho->Prop) {ρ:Rho} (h0:I 0 ρ)
  (hs:∀ i x ρ,xs[i]?=some x->I i ρ->∃ bs ρ',gf (g x)=some bs/\(bf (QS ρ bs)=some (.nx ρ')\/bf (QS ρ bs)=some (.ct ρ'))/\I (i+1) ρ'):∃ ρ',D6 gf bf (xs.map g) ρ=some (.nx ρ')/\I xs.length ρ':=by
 have key:∀ (r:List α) (i:Nat) (ρ:Rho),xs.drop i=r->i<=xs.length->I i ρ->∃ ρ',D6 gf bf (r.map g) ρ=some (.nx ρ')/\I xs.length ρ':=by
  intro r
  induction r with
  | nil=>
   intro i ρ e hi h
   have:i=xs.length:=by
    have:=congrArg List.length e
    simp at this;omega
   subst this
   exact ⟨ρ,rfl,h⟩
  | cons x r ih=>
   intro i ρ e hi h
   have hl:i < xs.length:=by
    have:=congrArg List.length e
    simp at this;omega
   have e':=List.drop_eq_getElem_cons hl
   rw [e] at e'
   injection e' with e1 e2
   obtain ⟨bs,ρ',h1,h2,h3⟩:=hs i x ρ (by rw [List.getElem?_eq_getElem hl,e1]) h
   obtain ⟨ρ2,h4,h5⟩:=ih (i+1) ρ' e2.symm hl h3
   refine ⟨ρ2,?_,h5⟩
   simp only [List.map_cons,D6,h1,Option.bind_some]
   rcases h2 with h2 | h2 <;> (rw [h2];exact h4)
 exact key xs 0 ρ (by simp) (Nat.zero_le _) h0
theorem qa5 {gf:PyData->Option (List (Nat×PyData))} {bf:Rho->Option Ot} {α:Type} {g:α->PyData} (xs:List α) (n:Nat) (x:α) (hn:xs[n]?=some x) (I:Nat->Rho->Prop) {ρ:Rho} {o:Ot} (h0:I 0 ρ)
  (hs:∀ i x ρ,i < n->xs[i]?=some x->I i ρ->∃ bs ρ',gf (g x)=some bs/\(bf (QS ρ bs)=some (.nx ρ')\/bf (QS ρ bs)=some (.ct ρ'))/\I (i+1) ρ')
  (he:∀ ρ,I n ρ->∃ bs,gf (g x)=some bs/\((∃ d b,o=.rt d b/\bf (QS ρ bs)=some (.rt d b))\/∃ ρ',o=.nx ρ'/\bf (QS ρ bs)=some (.bk ρ'))):D6 gf bf (xs.map g) ρ=some o:=by
 have hl:=(List.getElem?_eq_some_iff.mp hn).1
 have key:∀ (k i:Nat) (ρ:Rho),i+k=n->I i ρ->D6 gf bf ((xs.drop i).map g) ρ=some o:=by
  intro k
  induction k with
  | zero=>
   intro i ρ e h
   have:i=n:=by omega
   subst this
   obtain ⟨bs,h1,h2⟩:=he ρ h
   rw [List.drop_eq_getElem_cons hl]
   have ex:xs[i]=x:=by
    rw [List.getElem?_eq_getElem hl] at hn
    exact Option.some.inj hn
   rw [ex]
   simp only [List.map_cons,D6,h1,Option.bind_some]
   rcases h2 with ⟨d,b,rfl,h2⟩ | ⟨ρ',rfl,h2⟩ <;> (rw [h2];rfl)
  | succ k ih=>
   intro i ρ e h
   have hi:i < xs.length:=by omega
   obtain ⟨bs,ρ',h1,h2,h3⟩:=hs i xs[i] ρ (by omega) (List.getElem?_eq_getElem hi) h
   rw [List.drop_eq_getElem_cons hi]
   simp only [List.map_cons,D6,h1,Option.bind_some]
   rcases h2 with h2 | h2 <;> (rw [h2];exact ih (i+1) ρ' (by omega) h3)
 exact key n 0 ρ (by omega) h0
def sqk (b:Nat->Rho->Option Ot) (n:Nat) (o:Ot):Option Ot:=match o with | .nx ρ'=>b n ρ' | o=>some o
theorem qf4 {a b:Nat->Rho->Option Ot} {n:Nat} {ρ:Rho}:qnO a b n ρ=(a n ρ).bind (sqk b n):=id rfl
theorem qfW {b:Nat->Rho->Option Ot} {n:Nat} {ρ:Rho}:sqk b n (.nx ρ)=b n ρ:=id rfl
theorem qeg {b:Nat->Rho->Option Ot} {n:Nat} {d:PyData} {f:Bool}:sqk b n (.rt d f)=some (.rt d f):=id rfl
theorem qck {d:PyData}:Z5 true (some (.rt d true))=some d:=id rfl
theorem qf2 {d:PyData} {b:Bool}:Z5 false (some (.rt d b))=some d:=by simp [Z5]
theorem qnd {b:Bool}:asB (.bool b)=some b:=id rfl
theorem qlt {b:Int}:asI (.int b)=some b:=id rfl
theorem qm9 {b:Str}:asS (.str b)=some b:=id rfl
theorem qep {xs:List PyData}:qff [.tuple xs]=some (.int xs.length):=id rfl
theorem qfO {xs:List PyData}:qff [.list xs]=some (.int xs.length):=id rfl
theorem qfb {xs:List PyData}:qnA [.list xs]=some (.tuple xs):=id rfl
theorem qeS {xs:List PyData}:qnI [.tuple xs]=some (.list xs):=id rfl
theorem LG {xs:List Bool}:qiO [.list (xs.map PyData.bool)]=some (.bool (xs.all id)):=by simp only [qiO,qdG,Option.map_some]
theorem qdM {xs:List Int} (h:xs≠[]):mnD [.list (xs.map PyData.int)]=some (.int (mn xs)):=by simp only [mnD,XN,Option.bind_some];exact jq h
theorem qd8 {xs:List Int} (h:xs≠[]):mxD [.list (xs.map PyData.int)]=some (.int (mx xs)):=by simp only [mxD,XN,Option.bind_some];exact jq h
theorem qgW {xs:List Int} (h:xs.length < 4000):qax (.list (xs.map PyData.int))=some (.int (U0 xs)):=by simp only [qax,XN,Option.bind_some];exact jq h
theorem qf6 {xs:List PyData}:qaB (.tuple xs)=some xs:=id rfl
theorem qeX {xs:List PyData}:qaB (.list xs)=some xs:=id rfl
theorem qko {i:Int}:tyD (.int i)=some "int" := id rfl
theorem qnr {i:Bool}:tyD (.bool i)=some "bool" := id rfl
theorem qjd:tyD .none=some "NoneType" := id rfl
theorem qlZ {i:Str}:tyD (.str i)=some "str" := id rfl
theorem qmS {i:List PyData}:tyD (.tuple i)=some "tuple" := id rfl
theorem qjm {i:List PyData}:tyD (.list i)=some "list" := id rfl
theorem qgo {n a b:Bool}:qnN n (.bool a) (.bool b)=some (.bool (if n then a != b else a == b)):=id rfl
theorem qm4 {m:List Bool} {nw:Bool} {i:Nat} {v:Int} {ρ:Rho}:qaN m nw i (.int v) ρ=ρ.set i (.sh (.int v)):=id rfl
theorem qkM {m:List Bool} {nw:Bool} {i:Nat} {v:Str} {ρ:Rho}:qaN m nw i (.str v) ρ=ρ.set i (.sh (.str v)):=id rfl
theorem qm7 {m:List Bool} {nw:Bool} {i:Nat} {ρ:Rho}:qaN m nw i .none ρ=ρ.set i (.sh .none):=id rfl
theorem qhT {m:List Bool} {nw:Bool} {i:Nat} {v:List PyData} {ρ:Rho}:qaN m nw i (.tuple v) ρ=(dm m ρ).set i (.sh (.tuple v)):=by cases nw <;> rfl
theorem qfM {m:List Bool} {i:Nat} {v:List PyData} {ρ:Rho}:qaN m true i (.list v) ρ=(dm m ρ).set i (.ow v):=id rfl
theorem qkt {m:List Bool} {v:List PyData} {ρ:Rho}:dmS m (.tuple v) ρ=dm m ρ:=id rfl
theorem qi6 {m:List Bool} {v:List PyData} {ρ:Rho}:dmS m (.list v) ρ=dm m ρ:=id rfl
theorem qqh {ρ:Rho}:dm [] ρ=ρ:=id rfl
theorem qp2 {m:List Bool} {s:Sl} {ρ:Rho}:dm (true :: m) (s :: ρ)=s.dem :: dm m ρ:=id rfl
theorem qp6 {m:List Bool} {s:Sl} {ρ:Rho}:dm (false :: m) (s :: ρ)=s :: dm m ρ:=id rfl
theorem qje {ds:List PyData}:(Sl.ow ds).dem=.sh (.list ds):=id rfl
theorem qlE {d:PyData}:(Sl.sh d).dem=.sh d:=id rfl
theorem qmf {ρ:Rho}:C9 [] ρ=[]:=id rfl
theorem qmt {m:List (Option Nat)} {ρ:Rho}:C9 (none :: m) ρ=.un :: C9 m ρ:=id rfl
def cp (o:Option PyData):Sl:=match o with | some d=>.sh d | none=>.un
theorem ql8 {m:List (Option Nat)} {j:Nat} {ρ:Rho}:C9 (some j :: m) ρ=cp (vw ρ j) :: C9 m ρ:=id rfl
theorem qp3 {d:PyData}:cp (some d)=.sh d:=id rfl
theorem qer {pi:Rho->Option (List PyData)} {m:List Bool} {gf:PyData->Option (List (Nat×PyData))} {bf:Nat->Rho->Option Ot} {n:Nat} {ρ:Rho}:qkR pi true m gf bf n ρ=(pi ρ).bind fun ds=>D6 gf (bf n) ds ρ:=id rfl
theorem qfo {pi:Rho->Option (List PyData)} {m:List Bool} {gf:PyData->Option (List (Nat×PyData))} {bf:Nat->Rho->Option Ot} {n:Nat} {ρ:Rho}:qkR pi false m gf bf n ρ=(pi ρ).bind fun ds=>D6 gf (bf n) ds (dm m ρ):=id rfl
theorem qf8 {ρ:Rho}:QS ρ []=ρ:=id rfl
theorem qfA {ρ:Rho} {i:Nat} {d:PyData} {r:List (Nat×PyData)}:QS ρ ((i,d) :: r)=QS (ρ.set i (.sh d)) r:=id rfl
theorem QW {gf:PyData->Option (List (Nat×PyData))} {cf:Rho->Option Bool} {ef:Rho->Option PyData} {ρ:Rho} {d:PyData}:lcH gf cf ef ρ d=(gf d).bind fun bs=>(cf (QS ρ bs)).bind fun k=>if k then (ef (QS ρ bs)).map some else some none:=id rfl
theorem qcp {gf:PyData->Option (List (Nat×PyData))} {cf:Rho->Option Bool} {it:Rho->Option (List PyData)} {h:Rho->PyData->Option (Option PyData)} {ρ:Rho} {d:PyData}:qnq gf cf it h ρ d=(gf d).bind fun bs=>(cf (QS ρ bs)).bind fun k=>if k then ((it (QS ρ bs)).bind fun ds=>lcP (h (QS ρ bs)) ds).map some else some none:=id rfl
def Nx (o:Option Ot) (P:Rho->Prop):Prop:=match o with | some (.nx ρ)=>P ρ | some (.ct ρ)=>P ρ | _=>False
theorem qj3 {ρ:Rho} {P:Rho->Prop}:Nx (some (.nx ρ)) P=P ρ:=id rfl
theorem qmM {o:Option Ot} {P:Rho->Prop} (h:Nx o P):∃ ρ,(o=some (.nx ρ)\/o=some (.ct ρ))/\P ρ:=by
 unfold Nx at h
 split at h
 ·exact ⟨_,.inl rfl,h⟩
 ·exact ⟨_,.inr rfl,h⟩
 ·exact h.elim
section
variable {gf:PyData->Option (List (Nat×PyData))} {bf:Rho->Option Ot} {α:Type} {g:α->PyData} {ρ:Rho} {Q:Option Ot->Prop} {F:Ot->Option Ot}
theorem SA (xs:List α) (I:Nat->Rho->Prop) (h0:I 0 ρ) (hs:∀ i x ρ,xs[i]?=some x->I i ρ->Nx ((gf (g x)).bind fun bs=>bf (QS ρ bs)) (I (i+1))) (k:∀ ρ',I xs.length ρ'->Q (some (.nx ρ'))):Q (D6 gf bf (xs.map g) ρ):=by
 obtain ⟨ρ',e,h⟩:=qdj (gf:=gf) (bf:=bf) (g:=g) xs I h0 fun i x ρ hx hi=>by
  obtain ⟨ρ2,e,h⟩:=qmM (hs i x ρ hx hi)
  cases e1:gf (g x) with
  | none=>rw [e1] at e;rcases e with e | e <;> cases e
  | some bs=>rw [e1] at e;exact ⟨bs,ρ2,rfl,e,h⟩
 rw [e]
 exact k ρ' h
theorem XW (xs:List α) (I:Nat->Rho->Prop) (h0:I 0 ρ) (hs:∀ i x ρ,xs[i]?=some x->I i ρ->Nx ((gf (g x)).bind fun bs=>bf (QS ρ bs)) (I (i+1))) (k:∀ ρ',I xs.length ρ'->Q (F (.nx ρ'))):Q ((D6 gf bf (xs.map g) ρ).bind F):=
 SA (Q:=fun o=>Q (o.bind F)) xs I h0 hs k
theorem DW (xs:List α) (n:Nat) (x:α) (d:PyData) (b:Bool) (hn:xs[n]?=some x) (I:Nat->Rho->Prop) (h0:I 0 ρ) (hs:∀ i x ρ,i < n->xs[i]?=some x->I i ρ->Nx ((gf (g x)).bind fun bs=>bf (QS ρ bs)) (I (i+1))) (he:∀ ρ,I n ρ->((gf (g x)).bind fun bs=>bf (QS ρ bs))=some (.rt d b)) (k:Q (some (.rt d b))):Q (D6 gf bf (xs.map g) ρ):=by
 rw [qa5 (gf:=gf) (bf:=bf) (g:=g) xs n x hn I h0 (fun i x ρ hi hx hI=>by
  obtain ⟨ρ2,e,h⟩:=qmM (hs i x ρ hi hx hI)
  cases e1:gf (g x) with
  | none=>rw [e1] at e;rcases e with e | e <;> cases e
  | some bs=>rw [e1] at e;exact ⟨bs,ρ2,rfl,e,h⟩) (o:=.rt d b) fun ρ hI=>by
  have:=he ρ hI
  cases e1:gf (g x) with
  | none=>rw [e1] at this;cases this
  | some bs=>rw [e1] at this;exact ⟨bs,rfl,.inl ⟨d,b,rfl,this⟩⟩]
 exact k
theorem qcU (xs:List α) (n:Nat) (x:α) (d:PyData) (b:Bool) (hn:xs[n]?=some x) (I:Nat->Rho->Prop) (h0:I 0 ρ) (hs:∀ i x ρ,i < n->xs[i]?=some x->I i ρ->Nx ((gf (g x)).bind fun bs=>bf (QS ρ bs)) (I (i+1))) (he:∀ ρ,I n ρ->((gf (g x)).bind fun bs=>bf (QS ρ bs))=some (.rt d b)) (k:Q (F (.rt d b))):Q ((D6 gf bf (xs.map g) ρ).bind F):=
 DW (Q:=fun o=>Q (o.bind F)) xs n x d b hn I h0 hs he k
end
theorem qb3 {α:Type} {us:List α} (h:us.length=1):∃ a0,us=[a0]:=List.length_eq_one_iff.mp h
theorem LM {α:Type} {us:List α} (h:us.length=2):∃ a0 a1,us=[a0,a1]:=by
 obtain ⟨a0,r,rfl⟩:=List.exists_cons_of_length_pos (show 0 < us.length by omega)
 obtain ⟨a1,rfl⟩:=qb3 (show r.length=1 by simpa using h)
 exact ⟨a0,a1,rfl⟩
theorem qaz {α:Type} {us:List α} (h:us.length=3):∃ a0 a1 a2,us=[a0,a1,a2]:=by
 obtain ⟨a0,r,rfl⟩:=List.exists_cons_of_length_pos (show 0 < us.length by omega)
 obtain ⟨a1,a2,rfl⟩:=LM (show r.length=2 by simpa using h)
 exact ⟨a0,a1,a2,rfl⟩
theorem qnC {α:Type} {us:List α} (h:us.length=4):∃ a0 a1 a2 a3,us=[a0,a1,a2,a3]:=by
 obtain ⟨a0,r,rfl⟩:=List.exists_cons_of_length_pos (show 0 < us.length by omega)
 obtain ⟨a1,a2,a3,rfl⟩:=qaz (show r.length=3 by simpa using h)
 exact ⟨a0,a1,a2,a3,rfl⟩
theorem qqU {α:Type} {us:List α} (h:us.length=5):∃ a0 a1 a2 a3 a4,us=[a0,a1,a2,a3,a4]:=by
 obtain ⟨a0,r,rfl⟩:=List.exists_cons_of_length_pos (show 0 < us.length by omega)
 obtain ⟨a1,a2,a3,a4,rfl⟩:=qnC (show r.length=4 by simpa using h)
 exact ⟨a0,a1,a2,a3,a4,rfl⟩
end Pu
namespace Pu
open PySem L2 L3
end Pu
namespace Pu
open PySem L2 L3
end Pu
namespace Pu
open PySem L2 L3
end Pu
namespace Pv
open PySem L2 L3 Pu
def WH:PuS (Bk.WT):=(QI (bLc (T7 (qf (bV 2) qB)) (gN 0) bTt (UI (qf (bO (opC jP (· * ·)) (bV 0) (bV 1)) (qf (bO (opC jP (· * ·)) (bV 0) (bV 2)) qB)) ⟨rfl⟩) [none,some 0,some 1] ⟨rfl⟩))
def zP:List PyData->Option PyData:=run (WH).f 3 3 1000000000 true
theorem qby:∀ ts G q,PSp (zP) true ts G q->ts.length=3/\Bk.WT { nx:=fun _ G'=>q .non G',rt:=q } (qE ["down","along","many"] ts) G:=qP (WH) ["down","along","many"] 3 1000000000 true
theorem qcH {x0 x1 x2:PyData}:zP [x0,x1,x2]=Z5 true ((WH).f 1000000000 [.sh x0,.sh x1,.sh x2]):=id rfl
def jS (zP:List PyData->Option PyData):PuS (Bk.V6 (PSp zP true)):=(jV (LH (bO zx (bV 0) (qQ 0)) 1 [true] ⟨rfl⟩) (jV (sIf (bTb (bO (D7 false) (bV 1) (CP "cells"))) (QI (qx qnQ (qf (bO zx (bV 0) (qQ 1)) qB))) QG) (jV (sIf (bTb (bO (D7 false) (bV 1) (CP "block"))) (QI (qk4 (T7 (qf (bO zx (bV 0) (qQ 1)) qB)) (gN 0) bTt (T7 (qf (bO zx (bV 2) (qQ 2)) qB)) (gN 1) bTt (UI (qf (bV 0) (qf (bV 1) qB)) ⟨rfl⟩) [none,none,some 0] ⟨rfl⟩ ⟨rfl⟩ ⟨rfl⟩)) QG) (jV (sIf (bTb (bO (D7 false) (bV 1) (CP "step"))) (QI (qx (qV zP true) (qf (bO zx (bV 0) (qQ 1)) (qf (bO zx (bV 0) (qQ 2)) (qf (bO zx (bV 0) (qQ 3)) qB))))) QG) (jV (XC (qme EQ (bV 1)) (DT 2 (qU (gN 2) (qU (gN 3) DU))) [false,true] ⟨rfl⟩) (QI (qx (qV zP true) (qf (bV 2) (qf (bV 3) (qf (bO zx (bV 0) (qQ 1)) qB))))))))))
def qs:List PyData->Option PyData:=run (jS zP).f 1 4 1000000000 true
theorem LY:∀ ts G q,PSp (qs) true ts G q->ts.length=1/\Bk.V6 (PSp zP true) { nx:=fun _ G'=>q .non G',rt:=q } (qE ["walk","kind","down","along"] ts) G:=qP (jS zP) ["walk","kind","down","along"] 1 1000000000 true
theorem J7 {x0:PyData}:qs [x0]=Z5 true ((jS zP).f 1000000000 [.sh x0,.un,.un,.un]):=id rfl
def QY:PuS (Bk.QZ):=(jV (qds (T7 (qf (qx M5 (qf (bV 0) qB)) qB)) (gN 1) (qds (T7 (qf (bO JM (bV 1) (qQ 1)) (qf (qx M5 (qf (bV 0) qB)) qB))) (gN 2) (sIf (bTb (bO (D7 false) (bO zx (bV 0) (bV 1)) (bO zx (bV 0) (bV 2)))) (QI (UI (qf (bV 1) (qf (bV 2) qB)) ⟨rfl⟩)) QG) [true,true] ⟨rfl⟩) [true] ⟨rfl⟩) (QI qaR))
def qw:List PyData->Option PyData:=run (QY).f 1 3 1000000000 false
theorem C1:∀ ts G q,PSp (qw) false ts G q->ts.length=1/\Bk.QZ { nx:=fun _ G'=>q .non G',rt:=q } (qE ["things","k","l"] ts) G:=qP (QY) ["things","k","l"] 1 1000000000 false
theorem CQ {x0:PyData}:qw [x0]=Z5 false ((QY).f 1000000000 [.sh x0,.un,.un]):=id rfl
def VR (qs:List PyData->Option PyData):PuS (Bk.V3 (PSp qs true)):=(jV (XC (bV 1) (DT 2 (qU (gN 3) (qU (gN 4) DU))) [false,true] ⟨rfl⟩) (QI (qx qpK (qf (bLc (TR (qx (qV qs true) (qf (bV 2) qB))) (DT 2 (qU (gN 0) (qU (gN 1) DU))) bTt (bO (opC (fun _ j=>0 < j) (· % ·)) (bO JM (bO (opC jP (· * ·)) (bV 3) (bV 0)) (bO (opC jP (· * ·)) (bV 4) (bV 1))) (bV 2)) [none,none,some 0,some 3,some 4] ⟨rfl⟩) qB))))
def zh:List PyData->Option PyData:=run (VR qs).f 3 5 1000000000 false
theorem MS:∀ ts G q,PSp (zh) false ts G q->ts.length=3/\Bk.V3 (PSp qs true) { nx:=fun _ G'=>q .non G',rt:=q } (qE ["banks","factors","walk","a","b"] ts) G:=qP (VR qs) ["banks","factors","walk","a","b"] 3 1000000000 false
theorem MW {x0 x1 x2:PyData}:zh [x0,x1,x2]=Z5 false ((VR qs).f 1000000000 [.sh x0,.sh x1,.sh x2,.un,.un]):=id rfl
def QF (qq:List PyData->Option PyData):PuS (Bk.UU (PSp qq false)):=(jV (LH (bO zx (bV 0) (qQ 0)) 1 [true] ⟨rfl⟩) (jV (sIf (bTb (bO (D7 false) (bV 1) (CP "bits"))) (QI (UI (qf (bO (opC LN (fun i j=>i * 2 ^ j.toNat)) (qQ 1) (bO zx (bV 0) (qQ 1))) (qf (bO (opC LN (fun i j=>i * 2 ^ j.toNat)) (qQ 1) (bO zx (bV 0) (qQ 2))) (qf (bO (opC LN (fun i j=>i * 2 ^ j.toNat)) (qQ 1) (qx M5 (qf (bO zx (bV 0) (qQ 3)) qB))) qB))) ⟨rfl⟩)) QG) (jV (sIf (bTb (bO (D7 false) (bV 1) (CP "table"))) (QI (UI (qf (qx M5 (qf (bO zx (bV 0) (qQ 2)) qB)) (qf (qx M5 (qf (bO zx (bO zx (bV 0) (qQ 2)) (qQ 0)) qB)) (qf (bO zx (bV 0) (qQ 1)) qB))) ⟨rfl⟩)) QG) (jV (sIf (bTb (bO (D7 false) (bV 1) (CP "joined"))) (jV (XC (qx (qV qq false) (qf (bO zx (bV 0) (qQ 1)) qB)) (DT 3 (qU (gN 2) (qU (gN 3) (qU (gN 4) DU)))) [true] ⟨rfl⟩) (jV (XC (qx (qV qq false) (qf (bO zx (bV 0) (qQ 2)) qB)) (DT 3 (qU (gN 5) (qU (gN 6) (qU (gN 7) DU)))) [true] ⟨rfl⟩) (QI (UI (qf (bO (opC jP (· * ·)) (bV 2) (bV 5)) (qf (bO (opC jP (· * ·)) (bV 3) (bV 6)) (qf (bO (opC jP (· * ·)) (bV 4) (bV 7)) qB))) ⟨rfl⟩)))) QG) (QI (UI (qf (bO zx (bV 0) (qQ 1)) (qf (bO zx (bV 0) (qQ 2)) (qf (bO zx (bV 0) (qQ 3)) qB))) ⟨rfl⟩))))))
def qq:Nat->List PyData->Option PyData
 | 0=>fun _=>none
 | j+1=>run (QF (qq j)).f 1 8 1000000000 false
theorem qaf (j:Nat):∀ ts G q,PSp (qq (j+1)) false ts G q->ts.length=1/\Bk.UU (PSp (qq j) false) { nx:=fun _ G'=>q .non G',rt:=q } (qE ["dealing","kind","rows","columns","banks","other_rows","other_columns","other_banks"] ts) G:=qP (QF (qq j)) ["dealing","kind","rows","columns","banks","other_rows","other_columns","other_banks"] 1 1000000000 false
theorem JF {j:Nat} {x0:PyData}:qq (j+1) [x0]=Z5 false ((QF (qq j)).f 1000000000 [.sh x0,.un,.un,.un,.un,.un,.un,.un]):=id rfl
def WO (qq:List PyData->Option PyData) (qs:List PyData->Option PyData):PuS (Bk.WJ (PSp qq false) (PSp qs true)):=(jV (XC (qx (qV qq false) (qf (bV 0) qB)) (DT 3 (qU (gN 2) (qU (gN 3) (qU (gN 4) DU)))) [true] ⟨rfl⟩) (jV (LH (qx (qV qs true) (qf (bV 1) qB)) 5 [false,true] ⟨rfl⟩) (jV (LH (bLc (TR (bV 5)) (DT 2 (qU (gN 0) (qU (gN 1) DU))) bTt (bV 0) [none,none] ⟨rfl⟩) 6 [false,false,false,false,false,true] ⟨rfl⟩) (jV (LH (bLc (TR (bV 5)) (DT 2 (qU (gN 0) (qU (gN 1) DU))) bTt (bV 1) [none,none] ⟨rfl⟩) 7 [false,false,false,false,false,true] ⟨rfl⟩) (QI (qk4 (T7 (qf (qhe (qx MR (qf (bV 6) qB))) (qf (bO (opI (· - ·)) (bV 2) (qx qct (qf (bV 6) qB))) qB))) (gN 0) bTt (T7 (qf (qhe (qx MR (qf (bV 3) qB))) (qf (bO (opI (· - ·)) (bV 2) (qx qct (qf (bV 3) qB))) qB))) (gN 1) bTt (UI (qf (bV 0) (qf (bV 1) qB)) ⟨rfl⟩) [none,none,some 3,some 7] ⟨rfl⟩ ⟨rfl⟩ ⟨rfl⟩))))))
def ZU (j:Nat):List PyData->Option PyData:=run (WO (qq j) qs).f 2 8 1000000000 true
theorem qaX (j:Nat):∀ ts G q,PSp (ZU j) true ts G q->ts.length=2/\Bk.WJ (PSp (qq j) false) (PSp qs true) { nx:=fun _ G'=>q .non G',rt:=q } (qE ["dealing","walk","rows","columns","banks","cells","downs","alongs"] ts) G:=qP (WO (qq j) qs) ["dealing","walk","rows","columns","banks","cells","downs","alongs"] 2 1000000000 true
theorem qcq {j:Nat} {x0 x1:PyData}:ZU j [x0,x1]=Z5 true ((WO (qq j) qs).f 1000000000 [.sh x0,.sh x1,.un,.un,.un,.un,.un,.un]):=id rfl
end Pv
namespace Pv
open PySem L2 L3 Pu
open Bk (Wk Dl zS zi jy lnD lnA)
def pD (p:Int×Int):PyData:=.tuple [.int p.1,.int p.2]
def Wk.d:Wk->PyData
 | .line k m=>.tuple [.str (jy k),.int m]
 | .block h w=>.tuple [.str "block",.int h,.int w]
 | .step d a m=>.tuple [.str "step",.int d,.int a,.int m]
 | .cells ps=>.tuple [.str "cells",.tuple (ps.map pD)]
def qjr (r:List Int):PyData:=.tuple (r.map PyData.int)
def dlD:Dl->PyData
 | .skew r c b x y=>.tuple [.str "skew",.int r,.int c,.int b,.int x,.int y]
 | .rests r c b p=>.tuple [.str "rests",.int r,.int c,.int b,.int p]
 | .bits h l ms=>.tuple [.str "bits",.int h,.int l,.tuple (ms.map PyData.int)]
 | .table b cells=>.tuple [.str "table",.int b,.tuple (cells.map qjr)]
 | .joined d e=>.tuple [.str "joined",dlD d,dlD e]
theorem M8 (G:Gp):∀ (cs:List (Int×Int)),Dqs G (cs.map Bk.pT) (cs.map pD)
 | []=>.nil
 | p :: cs=>.cons (.tup (.cons (.int _) (.cons (.int _) .nil))) (M8 G cs)
theorem qpL (G:Gp):∀ (w:Wk),Dq G w.t (Wk.d w)
 | .line k m=>.tup (.cons (.str _) (.cons (.int _) .nil))
 | .block h v=>.tup (.cons (.str _) (.cons (.int _) (.cons (.int _) .nil)))
 | .step d a m=>.tup (.cons (.str _) (.cons (.int _) (.cons (.int _) (.cons (.int _) .nil))))
 | .cells ps=>.tup (.cons (.str _) (.cons (.tup (M8 G ps)) .nil))
end Pv
namespace Pu
open PySem L2 L3
open Bk (Lf Ext)
section
variable {D:Addr->Prop} {a:Addr} {G G' G0:Gp} {n n':Nat} {fv gv:List Nat} {l:Nat} {τ:St3} {ρ:Rho}
theorem UA (e:Ext a G G') (h:D a):Ex (rs D G) (rs D G'):=fun b o x=>by
 obtain ⟨n,x⟩:=qX x
 rw [Q5 n];exact e b o (by rintro rfl;exact n h) x
theorem W9 {k:Int} (h:Lf G a k):G a≠none:=by
 obtain ⟨o,c,m,e,_⟩:=h
 rw [e];simp
theorem ZL {k:Int} (hd:Dom D G) (e:Ext a G G') (lf:Lf G' a k):Dom D G':=fun b hb z=>by
 by_cases h:b=a
 ·subst h;exact W9 lf z
 ·cases g:G b with
  | none=>exact hd b hb g
  | some o=>rw [e b o h g] at z;cases z
theorem Nw.backx {x:T} {d:PyData} {k:Int} (h:Nw D G G' x d) (e:Ext a G0 G) (lf:Lf G a k):Nw D G0 G' x d:=by
 rcases h with h | ⟨p,xs,ds,h1,h2,c,r⟩
 ·exact .inl h
 refine .inr ⟨p,xs,ds,h1,h2,?_,r⟩
 cases z:G0 p with
 | none=>rfl
 | some o=>
  by_cases hp:p=a
  ·subst hp;exact absurd c (W9 lf)
  ·rw [e p o hp z] at c;cases c
structure Ln (fv:List Nat) (l:Nat) (D:Addr->Prop) (G:Gp) (τ:St3) (ρ:Rho) (a:Addr) (n:Nat):Prop where
 v:CS fv D G τ ρ
 d:Dom D G
 da:D a
 tl:τ[l]?=some (some (.ref a))
 ul:vw ρ l=none
 lf:Lf G a n
theorem Ln.up (h:Ln fv l D G τ ρ a n) (e:Ext a G G') (lf:Lf G' a n'):Ln fv l D G' τ ρ a n':=
 ⟨fun i hi d hd=>let ⟨t,x,y⟩:=h.v i hi d hd;⟨t,x,y.up (UA e h.da)⟩,ZL h.d e lf,h.da,h.tl,h.ul,lf⟩
theorem Ln.fst (h:Ln (fv++gv) l D G τ ρ a n):Ln fv l D G τ ρ a n:=⟨h.v.l,h.d,h.da,h.tl,h.ul,h.lf⟩
theorem Ln.snd (h:Ln (fv++gv) l D G τ ρ a n):Ln gv l D G τ ρ a n:=⟨h.v.r,h.d,h.da,h.tl,h.ul,h.lf⟩
end
abbrev QD:=PyData->Nat->Prop
structure PwE (l:Nat) (t:TE3) where
 w:Rho->Nat->QD->Prop
 fv:List Nat
 nw:Bool
 mono:∀ {ρ n} {Q Q':QD},w ρ n Q->(∀ d m,Q d m->Q' d m)->w ρ n Q'
 ok:∀ {D τ ρ G a n} {q:Q3} {Q:QD},Ln fv l D G τ ρ a n->w ρ n Q->(∀ x d G' n',Q d n'->Ext a G G'->Lf G' a n'->Dq (rs D G') x d->(nw=true->Nw D G G' x d)->q x G')->t τ G q
structure PwC (l:Nat) (t:TT3) where
 w:Rho->Nat->(Bool->Nat->Prop)->Prop
 fv:List Nat
 mono:∀ {ρ n} {Q Q':Bool->Nat->Prop},w ρ n Q->(∀ d m,Q d m->Q' d m)->w ρ n Q'
 ok:∀ {D τ ρ G a n} {q:Bool->Gp->Prop} {Q:Bool->Nat->Prop},Ln fv l D G τ ρ a n->w ρ n Q->(∀ k G' n',Q k n'->Ext a G G'->Lf G' a n'->q k G')->t τ G q
structure PwA (l:Nat) (t:TA3) where
 w:Rho->Nat->(List PyData->Nat->Prop)->Prop
 fv:List Nat
 k:Nat
 mono:∀ {ρ n} {Q Q':List PyData->Nat->Prop},w ρ n Q->(∀ d m,Q d m->Q' d m)->w ρ n Q'
 ok:∀ {D τ ρ G a n} {q:List T->Gp->Prop} {Q:List PyData->Nat->Prop},Ln fv l D G τ ρ a n->w ρ n Q->(∀ x d G' n',Q d n'->d.length=k->Ext a G G'->Lf G' a n'->Dqs (rs D G') x d->q x G')->t τ G q
structure PwI (l:Nat) (t:TI3) where
 w:Rho->Nat->(List PyData->Nat->Prop)->Prop
 fv:List Nat
 nm:Bool
 mono:∀ {ρ n} {Q Q':List PyData->Nat->Prop},w ρ n Q->(∀ d m,Q d m->Q' d m)->w ρ n Q'
 ok:∀ {D τ ρ G a n} {r:List T->(Gp->Prop)->Gp->Prop} {Q:List PyData->Nat->Prop},Ln fv l D G τ ρ a n->w ρ n Q ->
  (∀ items stay ds G' n',Q ds n'->Ext a G G'->Lf G' a n'->Dqs (rs D G') items ds->(∀ G'',(nm=true\/Ex (rs D G') G'')->stay G'')->(nm=true->∃ ns:List Int,ds=ns.map PyData.int)->r items stay G')->t τ G r
structure DrD (r:List T->Gp->Q3->Prop) where
 W:List PyData->Nat->QD->Prop
 nw:Bool
 mono:∀ {ds n} {Q Q':QD},W ds n Q->(∀ d m,Q d m->Q' d m)->W ds n Q'
 ok:∀ {D:Addr->Prop} {G:Gp} {a:Addr} {n:Nat} {ts:List T} {ds:List PyData} {q:Q3} {Q:QD},Lf G a n->D a->Dom D G->Dqs (rs D G) ts ds->W ds n Q->(∀ x d G' n',Q d n'->Ext a G G'->Lf G' a n'->Dq (rs D G') x d->(nw=true->Nw D G G' x d)->q x G')->r (.ref a :: ts) G q
section
variable {l:Nat}
def eOf {t:TE3} (b:PuE t):PwE l t:=⟨fun ρ n Q=>∃ d,b.f ρ=some d/\Q d n,b.fv,b.nw,fun ⟨d,h1,h2⟩ h=>⟨d,h1,h _ _ h2⟩,fun h ⟨d,h1,h2⟩ k=>
 b.ok h.v h.d h1 fun x G1 E1 D1 N1=>k x d G1 _ h2 (Bk.RP E1) (h.lf.ex E1) D1 N1⟩
def cOf {t:TT3} (b:PuC t):PwC l t:=⟨fun ρ n Q=>∃ d,b.f ρ=some d/\Q d n,b.fv,fun ⟨d,h1,h2⟩ h=>⟨d,h1,h _ _ h2⟩,fun h ⟨d,h1,h2⟩ k=>
 b.ok h.v h.d h1 fun G1 E1=>k d G1 _ h2 (Bk.RP E1) (h.lf.ex E1)⟩
def aOf {t:TA3} (b:PuA t):PwA l t:=⟨fun ρ n Q=>∃ d,b.f ρ=some d/\Q d n,b.fv,b.n,fun ⟨d,h1,h2⟩ h=>⟨d,h1,h _ _ h2⟩,fun h ⟨d,h1,h2⟩ k=>
 b.ok h.v h.d h1 fun x G1 E1 D1=>k x d G1 _ h2 (b.ln h1) (Bk.RP E1) (h.lf.ex E1) D1⟩
def iOf {t:TI3} (b:PuI t):PwI l t:=⟨fun ρ n Q=>∃ d,b.f ρ=some d/\Q d n,b.fv,b.nm,fun ⟨d,h1,h2⟩ h=>⟨d,h1,h _ _ h2⟩,fun h ⟨d,h1,h2⟩ k=>
 b.ok h.v h.d h1 fun items stay G1 E1 D1 s nm=>k items stay d G1 _ h2 (Bk.RP E1) (h.lf.ex E1) D1 s nm⟩
def eO {r:R3} {ta tb:TE3} (R:OpD r) (a:PwE l ta) (b:PwE l tb):PwE l (o3 r ta tb):=
 ⟨fun ρ n Q=>a.w ρ n fun x n1=>b.w ρ n1 fun y n2=>∃ v,R.f x y=some v/\Q v n2,a.fv++b.fv,R.nw,fun h k=>a.mono h fun x n1 h=>b.mono h fun y n2 ⟨v,h1,h2⟩=>⟨v,h1,k _ _ h2⟩,fun h hw k=>
  a.ok h.fst hw fun x dx G1 n1 h1 E1 L1 D1 _=>b.ok (h.snd.up E1 L1) h1 fun y dy G2 n2 ⟨v,e,hq⟩ E2 L2 D2 _=>R.ok (D1.up (UA E2 h.da)) D2 (ZL (ZL h.d E1 L1) E2 L2) e fun z G3 E3 D3 N3=>k z v G3 n2 hq ((E1.trans E2).trans (Bk.RP E3)) (L2.ex E3) D3 fun z=>(N3 z).backx (E1.trans E2) L2⟩
def qbl {ta:TE3} {tr:TA3} (a:PwE l ta) (r:PwA l tr):PwA l (qc ta tr):=
 ⟨fun ρ n Q=>a.w ρ n fun x n1=>r.w ρ n1 fun xs n2=>Q (x :: xs) n2,a.fv++r.fv,r.k+1,fun h k=>a.mono h fun x n1 h=>r.mono h fun xs n2 h=>k _ _ h,fun h hw k=>
  a.ok h.fst hw fun x dx G1 n1 h1 E1 L1 D1 _=>r.ok (h.snd.up E1 L1) h1 fun y dy G2 n2 hq hl E2 L2 D2=>k _ _ G2 n2 hq (by simp [hl]) (E1.trans E2) L2 (.cons (D1.up (UA E2 h.da)) D2)⟩
def qnX {t:TA3} (b:PwA l t) (hn:Tru (Nat.ble b.k 1000)):PwE l (QU t):=⟨fun ρ n Q=>b.w ρ n fun xs n1=>Q (.tuple xs) n1,b.fv,false,fun h k=>b.mono h fun xs n1 h=>k _ _ h,fun h hw k=>
 b.ok h hw fun x dx G1 n1 h1 hl E1 L1 D1=>⟨by rw [D1.length,hl];exact few hn,k _ _ _ _ h1 E1 L1 (.tup D1) (fun z=>by cases z)⟩⟩
def eDr {r:List T->Gp->Q3->Prop} {t:TA3} (R:DrD r) (b:PwA l t):PwE l (cb3 r (qc (v3 l) t)):=⟨fun ρ n Q=>b.w ρ n fun xs n1=>R.W xs n1 Q,b.fv,R.nw,fun h k=>b.mono h fun xs n1 h=>R.mono h k,fun {D τ ρ G a n q Q} h hw k=>by
 simp only [cb3,qc,v3,h.tl]
 exact b.ok h hw fun x dx G1 n1 hW hl E1 L1 D1=>R.ok L1 h.da (ZL h.d E1 L1) D1 hW fun z d G3 n3 hq E3 L3 D3 N3=>k z d G3 n3 hq (E1.trans E3) L3 D3 fun z=>(N3 z).backx E1 L1⟩
def cTb {t:TE3} (b:PwE l t):PwC l (tb3 t):=⟨fun ρ n Q=>b.w ρ n fun d n1=>∃ k,asB d=some k/\Q k n1,b.fv,fun h k=>b.mono h fun d m ⟨v,h1,h2⟩=>⟨v,h1,k _ _ h2⟩,fun h hw k=>b.ok h hw fun x d G1 n1 ⟨v,e,hq⟩ E1 L1 D1 _=>by
 have:=KP e;subst this
 cases D1
 exact k _ _ _ hq E1 L1⟩
def qqi {t u:TT3} (a:PwC l t) (b:PwC l u):PwC l (qdE t u):=⟨fun ρ n Q=>a.w ρ n fun k n1=>if k then b.w ρ n1 Q else Q false n1,a.fv++b.fv,fun h k=>a.mono h fun j m h=>by
  cases j with
  | true=>rw [if_pos rfl] at h ⊢;exact b.mono h k
  | false=>exact k _ _ h,fun h hw k=>a.ok h.fst hw fun j G1 n1 hj E1 L1=>by
  cases j with
  | true=>rw [if_pos rfl] at hj ⊢;exact b.ok (h.snd.up E1 L1) hj fun i G2 n2 hq E2 L2=>k _ _ _ hq (E1.trans E2) L2
  | false=>exact k _ _ _ hj E1 L1⟩
def qqd {t:TT3} (a:PwC l t):PwC l (K7 t):=⟨fun ρ n Q=>a.w ρ n fun k n1=>Q (!k) n1,a.fv,fun h k=>a.mono h fun j m h=>k _ _ h,fun h hw k=>a.ok h hw fun j G1 n1 hj E1 L1=>k _ _ _ hj E1 L1⟩
def iR {t:TA3} (b:PwA l t):PwI l (jJ t):=⟨fun ρ n Q=>b.w ρ n fun xs n1=>∃ ds,qcZ xs=some ds/\Q ds n1,b.fv,true,fun h k=>b.mono h fun xs n1 ⟨v,h1,h2⟩=>⟨v,h1,k _ _ h2⟩,fun h hw k=>b.ok h hw fun x dx G1 n1 ⟨ds,e,hq⟩ hl E1 L1 D1=>by
 unfold qcZ at e
 split at e
 ·unfold cif at e
  split at e
  ·rename_i c
   cases e
   cases D1 with
   | cons a b=>cases b;cases a;simp only;rw [NL];exact ⟨c,k _ _ _ _ _ hq E1 L1 (Dqs.ofInts _) (fun _ _=>trivial) fun _=>⟨_,rfl⟩⟩
  ·cases e
 ·unfold cif at e
  split at e
  ·rename_i c
   cases e
   cases D1 with
   | cons a b=>cases b with
    | cons b c'=>cases c';cases a;cases b;simp only;rw [NL];exact ⟨c,k _ _ _ _ _ hq E1 L1 (Dqs.ofInts _) (fun _ _=>trivial) fun _=>⟨_,rfl⟩⟩
  ·cases e
 ·cases e⟩
end
def lcW (gf:PyData->Option (List (Nat×PyData))) (cw:Rho->Nat->(Bool->Nat->Prop)->Prop) (ew:Rho->Nat->QD->Prop) (ρ:Rho):List PyData->Nat->(List PyData->Nat->Prop)->Prop
 | [],n,Q=>Q [] n
 | d :: r,n,Q=>∃ bs,gf d=some bs/\cw (QS ρ bs) n fun k n1=>if k then ew (QS ρ bs) n1 fun y n2=>lcW gf cw ew ρ r n2 fun ys n3=>Q (y :: ys) n3 else lcW gf cw ew ρ r n1 Q
theorem EG {l:Nat} {g:TG3} {tif:TT3} {te:TE3} (pg:PuG g) (pc:PwC l tif) (pe:PwE l te) {ρ:Rho}:∀ {ds:List PyData} {n:Nat} {Q Q':List PyData->Nat->Prop},lcW pg.f pc.w pe.w ρ ds n Q->(∀ d m,Q d m->Q' d m)->lcW pg.f pc.w pe.w ρ ds n Q'
 | [],n,Q,Q',h,k=>k _ _ h
 | d :: r,n,Q,Q',⟨bs,e,h⟩,k=>⟨bs,e,pc.mono h fun j m h=>by
   cases j with
   | true=>rw [if_pos rfl] at h ⊢;exact pe.mono h fun y m2 h=>EG pg pc pe h fun ys m3 h=>k _ _ h
   | false=>exact EG pg pc pe h k⟩
theorem VA.ext {D:Addr->Prop} {a:Addr} {G G':Gp} {τ:St3} {ρ:Rho} (h:VA D G τ ρ) (e:Ext a G G') (da:D a):VA D G' τ ρ:=h.upx (UA e da)
theorem qbS:∀ {ts:List (Nat×T)} {τ:St3} {i:Nat},(∀ p∈ts,p.1≠i)->(sets τ ts)[i]?=τ[i]?
 | [],_,_,_=>rfl
 | p :: r,τ,i,h=>by
  unfold sets
  rw [qbS fun q hq=>h q (by simp [hq]),List.getElem?_set,if_neg (h p (by simp))]
theorem qcK {l:Nat} {stay:Gp->Prop} {g:TG3} {tif:TT3} {te:TE3} {q:Q3} (pg:PuG g) (pc:PwC l tif) (pe:PwE l te) {D:Addr->Prop} {a:Addr} {ρ0:Rho} {G0:Gp} (da:D a) (hs:∀ G,Ext a G0 G->stay G) (hm:∀ i∈pg.tg,vw ρ0 i=none) (hl:∀ i∈pg.tg,i≠l) {Q:List PyData->Nat->Prop}
  (k:∀ G ys fs n,Q fs n->fs.length<=sizeLine->Ext a G0 G->Lf G a n->Dqs (rs D G) ys fs->∀ p,G p=none->q (.ref p) (gu G p (.lst ys))) :
  vw ρ0 l=none->∀ (ds:List PyData) (items ys:List T) (es:List PyData) (τ:St3) (G:Gp) (n:Nat),Dqs (rs D G0) items ds->VA D G τ ρ0->τ[l]?=some (some (.ref a))->Ext a G0 G->Dom D G->Lf G a n->Dqs (rs D G) ys es->lcW pg.f pc.w pe.w ρ0 ds n (fun fs n=>(es++fs).length<=sizeLine/\Q (es++fs) n)->ds.length+es.length<=sizeLine->M4 stay g tif te q items ys τ G
 | _,_,_,ys,es,τ,G,n,.nil,va,tl,E,hd,lf,hy,hw,_=>by
  obtain ⟨h1,h2⟩:=hw
  rw [List.append_nil] at h1 h2
  exact ⟨hs G E,k G ys es n h2 h1 E lf hy⟩
 | ul,d :: ds,x :: items,ys,es,τ,G,n,.cons hx hr,va,tl,E,hd,lf,hy,⟨bs,e3,hw⟩,hz=>by
  obtain ⟨ts,bd,kg⟩:=pg.ok (hx.up (UA E da)) e3
  refine ⟨hs G E,kg τ G _ ?_⟩
  have va1:=va.sets bd
  have at1:∀ p∈ts,p.1∈pg.tg:=fun p hp=>by
   obtain ⟨q,hq,e⟩:=qbb bd p hp
   rw [← e];exact pg.at' e3 q hq
  have va2:=va.keep (ts:=ts) fun p hp=>hm _ (at1 p hp)
  have tl1:(sets τ ts)[l]?=some (some (.ref a)):=by rw [qbS fun p hp=>hl _ (at1 p hp)];exact tl
  have ul1:vw (QS ρ0 bs) l=none:=by rw [R7 fun p hp=>hl _ (pg.at' e3 p hp)];exact ul
  refine pc.ok ⟨va1.view _,hd,da,tl1,ul1,lf⟩ hw fun c G1 n1 hc E1 L1=>?_
  cases c with
  | true=>
   rw [if_pos rfl] at hc ⊢
   refine pe.ok ⟨(va1.ext E1 da).view _,ZL hd E1 L1,da,tl1,ul1,L1⟩ hc fun z y G2 n2 hq E2 L2 D2 _=>⟨?_,?_⟩
   ·rw [hy.length];simp at hz;omega
   ·refine qcK pg pc pe da hs hm hl k ul ds items (ys++[z]) (es++[y]) _ G2 n2 hr ((va2.ext E1 da).ext E2 da) tl1 ((E.trans E1).trans E2) (ZL (ZL hd E1 L1) E2 L2) L2 (((hy.up (UA E1 da)).up (UA E2 da)).append (.cons D2 .nil)) ?_ (by simp at hz ⊢;omega)
    refine EG pg pc pe hq fun fs m h=>?_
    rw [List.append_assoc];exact h
  | false=>
   rw [if_neg Bool.false_ne_true] at hc ⊢
   exact qcK pg pc pe da hs hm hl k ul ds items ys es _ G1 n1 hr (va2.ext E1 da) tl1 (E.trans E1) (ZL hd E1 L1) L1 (hy.up (UA E1 da)) hc (by simp at hz;omega)
def qqI {l:Nat} (it:Rho->Nat->(List PyData->Nat->Prop)->Prop) (h:Rho->List PyData->Nat->(List PyData->Nat->Prop)->Prop) (m:List (Option Nat)) (ρ:Rho) (n:Nat) (Q:QD):Prop:=
 it ρ n fun ds n1=>ds.length<=16777216/\h (C9 m ρ) ds n1 fun fs n2=>fs.length<=16777216/\Q (.list fs) n2
def eLc {l:Nat} {wi:TI3} {g:TG3} {tif:TT3} {te:TE3} (l2:Nat) (pi:PwI l wi) (pg:PuG g) (pc:PwC l2 tif) (pe:PwE l2 te) (m:List (Option Nat)) (hm:Tru (pg.tg.all fun i=>m[i]? == some none)) (hl:Tru (m[l2]? == some (some l))):PwE l (lc3 wi g tif te m):=
 ⟨qqI (l:=l) pi.w (lcW pg.f pc.w pe.w) m,pi.fv++(m.filterMap id).filter (· != l),true,fun h k=>pi.mono h fun ds n1 ⟨h1,h⟩=>⟨h1,EG pg pc pe h fun fs n2 ⟨h2,h⟩=>⟨h2,k _ _ h⟩⟩,fun {D τ ρ G a n q Q} h hw k=>by
  have hl':m[l2]?=some (some l):=by simpa using hl.h
  refine pi.ok h.fst hw fun items stay ds G1 n1 ⟨h1,hw1⟩ E1 L1 D1 hs _=>?_
  have hv:CS (m.filterMap id) D G τ ρ:=fun i hi d hd=>by
   by_cases e:i=l
   ·subst e;rw [h.ul] at hd;cases hd
   ·exact h.snd.v i (List.mem_filter.mpr ⟨hi,by simpa using e⟩) d hd
  have va:=(VA.cap (m:=m) hv).ext E1 h.da
  refine qcK pg pc pe (D:=D) (a:=a) (ρ0:=C9 m ρ) (G0:=G1) h.da (fun G2 E2=>hs G2 (.inr ((UA E2 h.da).trans YN))) (fun i hi=>S5 ?_) (fun i hi e=>?_) (Q:=fun fs n=>Q (.list fs) n) (fun G2 ys fs n2 hq hlen E2 L2 D2 p hp=>?_) ?_ ds items [] [] _ G1 n1 D1 va ?_ Bk.Ext.refl (ZL h.d E1 L1) L1 .nil ?_ ?_
  ·simpa using List.all_eq_true.mp hm.h i hi
  ·subst e
   have:=List.all_eq_true.mp hm.h i hi
   rw [hl'] at this;simp at this
  ·exact k _ _ _ _ hq ((E1.trans E2).trans (Bk.RP (VB hp))) (L2.ex (VB hp)) (XB (ZL (ZL h.d E1 L1) E2 L2) hp D2) fun _=>(KD hp D2).backx (E1.trans E2) L2
  ·unfold vw C9
   rw [List.getElem?_map,hl']
   simp only [Option.map_some,Option.bind_some,h.ul]
   rfl
  ·unfold L3.cap
   rw [List.getElem?_map,hl']
   simp [h.tl]
  ·refine EG pg pc pe hw1 fun fs m ⟨h2,h3⟩=>⟨?_,by simpa using h3⟩
   rw [sizeLine_eq];simpa using h2
  ·rw [sizeLine_eq];simpa using h1⟩
end Pu
namespace Pu
open PySem L2 L3
open Bk (Lf Ext)
structure RL (l:Nat) (a:Addr) (z0:Option (Option T)×Nat) (D:Addr->Prop) (G0:Gp) (A:Nat->Option Addr) (τ:St3) (ρ:Rho) (G:Gp) (n:Nat):Prop where
 r:RS D G0 A τ ρ G
 al:A l=some a
 tl:τ[l]?=some (some (.ref a))
 ul:ρ[l]?=some Sl.un
 lf:Lf G a n
 tz:τ[0]?=z0.1/\τ.length=z0.2
section
variable {l:Nat} {a:Addr} {z0:Option (Option T)×Nat} {D:Addr->Prop} {G0 G G':Gp} {A:Nat->Option Addr} {τ:St3} {ρ:Rho} {n n':Nat}
theorem RL.vl (h:RL l a z0 D G0 A τ ρ G n):vw ρ l=none:=by unfold vw;rw [h.ul];rfl
theorem RL.up (h:RL l a z0 D G0 A τ ρ G n) (e:Ext a G G') (lf:Lf G' a n'):RL l a z0 D G0 A τ ρ G' n':=by
 have X:Ex (rs (AD D A) G) (rs (AD D A) G'):=UA e (.inr ⟨l,h.al⟩)
 refine ⟨⟨fun b o x=>e b o (by rintro rfl;rw [h.r.fr l _ h.al] at x;cases x) (h.r.ex b o x),h.r.dm,h.r.fr,fun i p hp z=>?_,h.r.inj,h.r.len,fun i d x=>let ⟨t,y,z⟩:=h.r.sh i d x;⟨t,y,z.up X⟩,fun i ds x=>?_⟩,h.al,h.tl,h.ul,lf,h.tz⟩
 ·by_cases c:p=a
  ·subst c;exact W9 lf z
  ·cases g:G p with
   | none=>exact h.r.da i p hp g
   | some o=>rw [e p o c g] at z;cases z
 ·obtain ⟨p,xs,y1,y2,y3,y4⟩:=h.r.ow i ds x
  refine ⟨p,xs,y1,y2,e p _ ?_ y3,y4.up X⟩
  rintro rfl
  have:=h.r.inj i l _ y1 h.al
  subst this
  rw [h.ul] at x;cases x
theorem RL.all (h:RL l a z0 D G0 A τ ρ G n) (fv:List Nat):Ln fv l (fun b=>D b\/b=a) G τ ρ a n:=by
 refine ⟨fun i _ d hd=>?_,fun b hb=>?_,.inr rfl,h.tl,h.vl,h.lf⟩
 ·unfold vw at hd
  obtain ⟨s,e,hd⟩:=Option.bind_eq_some_iff.mp hd
  have less:Ex (rs (AD D A) G) (rs (fun b=>D b\/b=a) G):=jG fun b z=>by
   rcases z with z | z
   ·exact .inl z
   ·subst z;exact .inr ⟨l,h.al⟩
  cases s with
  | un=>cases hd
  | sh d'=>
   cases hd
   obtain ⟨t,b,c⟩:=h.r.sh i _ e
   exact ⟨t,b,c.up less⟩
  | ow ds=>
   cases hd
   obtain ⟨p,xs,b,c,g,f⟩:=h.r.ow i _ e
   refine ⟨_,c,.lst ?_ (f.up less)⟩
   rw [Q5]
   ·exact g
   ·rintro (z | z)
    ·exact h.r.nd b z
    ·subst z
     have:=h.r.inj i l _ b h.al
     subst this
     rw [h.ul] at e;cases e
 ·rcases hb with hb | hb
  ·exact h.r.domD b hb
  ·subst hb;exact W9 h.lf
theorem qpT {m:List Bool} (hm:mkb m l=false) (al:A l=some a):Ad m A l=some a:=by unfold Ad;rw [if_neg (by rw [hm];simp)];exact al
theorem RL.dem (h:RL l a z0 D G0 A τ ρ G n) {m:List Bool} (hm:mkb m l=false):RL l a z0 D G0 (Ad m A) τ (Pu.dm m ρ) G n:=
 ⟨h.r.dem m,qpT hm h.al,h.tl,by rw [qbE,h.ul];simp [hm],h.lf,h.tz⟩
theorem RL.ln (h:RL l a z0 D G0 A τ ρ G n) {m:List Bool} {fv:List Nat} (hm:mkb m l=false) (hf:Tru (fv.all (mkb m))):Ln fv l (AD D (Ad m A)) G τ ρ a n:=
 ⟨h.r.viewD hf,(h.r.dem m).dom,.inr ⟨l,qpT hm h.al⟩,h.tl,h.vl,h.lf⟩
theorem RL.put (h:RL l a z0 D G0 A τ ρ G n) {i:Nat} (hi:i≠l) (h0:i≠0) {x:T} {d:PyData} (hx:Dq (rs (AD D A) G) x d):RL l a z0 D G0 (Er A i) (τ.set i (some x)) (ρ.set i (.sh d)) G n:=
 ⟨h.r.put i hx,by unfold Er;rw [if_neg (fun z=>hi z.symm)];exact h.al,by rw [List.getElem?_set,if_neg hi];exact h.tl,by rw [List.getElem?_set,if_neg hi];exact h.ul,h.lf,⟨by rw [List.getElem?_set,if_neg h0];exact h.tz.1,by rw [List.length_set];exact h.tz.2⟩⟩
theorem RL.puts:∀ {ts:List (Nat×T)} {bs:List (Nat×PyData)} {A:Nat->Option Addr} {τ:St3} {ρ:Rho},RL l a z0 D G0 A τ ρ G n->Bd (rs (AD D A) G) ts bs->(∀ p∈bs,p.1≠l/\p.1≠0)->∃ A',RL l a z0 D G0 A' (sets τ ts) (QS ρ bs) G n
 | _,_,A,_,_,h,.nil,_=>⟨A,h⟩
 | _,_,A,_,_,h,.cons x b,hn=>by
  unfold sets QS
  exact RL.puts (h.put (hn _ List.mem_cons_self).1 (hn _ List.mem_cons_self).2 x) (b.up qiJ) (fun p hp=>hn p (List.mem_cons_of_mem _ hp))
theorem RL.putN (h:RL l a z0 D G0 A τ ρ G n) {i:Nat} (hi:i≠l) (h0:i≠0) {x:T} {d:PyData} {ds:List PyData} (hd:d=.list ds) (E:Ext a G G') (lf:Lf G' a n') (hx:Nw (AD D A) G G' x d):∃ A',RL l a z0 D G0 A' (τ.set i (some x)) (ρ.set i (.ow ds)) G' n':=by
 have h1:=h.up E lf
 rcases hx with hx | ⟨p,xs,ds',rfl,e',gp,gp',hs⟩
 ·rw [hd] at hx;cases hx
 rw [hd] at e'
 cases e'
 have np:∀ {j q},A j=some q->q≠p:=fun e=>by rintro rfl;exact h.r.da _ _ e gp
 have X1:Ex (rs (AD D A) G) (rs (AD D (fun j=>if j=i then some p else A j)) G'):=fun b o e=>by
  obtain ⟨n,e⟩:=qX e
  rw [Q5]
  ·exact E b o (by rintro rfl;exact n (.inr ⟨l,h.al⟩)) e
  ·rintro (z | ⟨j,z⟩)
   ·exact n (.inl z)
   ·simp only at z
    split at z
    ·cases z;rw [gp] at e;cases e
    ·exact n (.inr ⟨j,z⟩)
 refine ⟨fun j=>if j=i then some p else A j,⟨h1.r.ex,h.r.dm,fun j q e=>?_,fun j q e=>?_,fun j k q x y=>?_,by simp [h.r.len],fun j e he=>?_,fun j es e=>?_⟩,by rw [if_neg (fun z=>hi z.symm)];exact h.al,by rw [List.getElem?_set,if_neg hi];exact h.tl,by rw [List.getElem?_set,if_neg hi];exact h.ul,lf,⟨by rw [List.getElem?_set,if_neg h0];exact h.tz.1,by rw [List.length_set];exact h.tz.2⟩⟩
 ·split at e
  ·cases e
   cases z:G0 p with
   | none=>rfl
   | some o=>rw [h.r.ex _ _ z] at gp;cases gp
  ·exact h.r.fr j q e
 ·split at e
  ·cases e;rw [gp'];simp
  ·exact h1.r.da j q e
 ·split at x
  ·cases x
   split at y
   ·rename_i h1 h2;rw [h1,h2]
   ·exact absurd rfl (np y)
  ·split at y
   ·cases y;exact absurd rfl (np x)
   ·exact h.r.inj j k q x y
 ·rw [List.getElem?_set] at he ⊢
  split at he
  ·split at he <;> cases he
  ·rename_i hj
   rw [if_neg hj]
   obtain ⟨t,b,c⟩:=h.r.sh j _ he
   exact ⟨t,b,c.up X1⟩
 ·rw [List.getElem?_set] at e ⊢
  split at e
  ·rename_i hj
   subst hj
   split at e
   ·rename_i hl
    cases e
    refine ⟨p,xs,by simp,by rw [if_pos rfl,if_pos (by rw [← h.r.len];exact hl)],gp',hs.up (jG fun b z=>?_)⟩
    rcases z with z | ⟨j,z⟩
    ·exact .inl (.inl z)
    ·simp only at z
     split at z
     ·cases z;exact .inr rfl
     ·exact .inl (.inr ⟨j,z⟩)
   ·cases e
  ·rename_i hj
   rw [if_neg hj]
   obtain ⟨q,ys,b,c,g,f⟩:=h1.r.ow j _ e
   obtain ⟨q',ys',b',c',g',f'⟩:=h.r.ow j _ e
   rw [b] at b';cases b'
   have:G' q=some (.lst ys'):=E q _ (by rintro rfl;have:=h.r.inj j l _ b h.al;subst this;rw [h.ul] at e;cases e) g'
   exact ⟨q,ys',by rw [if_neg (fun z=>hj z.symm)];exact b,c,this,f'.up X1⟩
theorem RL.wr (h:RL l a z0 D G0 A τ ρ G n) {i:Nat} {p:Addr} {xs:List T} {ds ds0:List PyData} (ho:ρ[i]?=some (Sl.ow ds0)) (hi:A i=some p) (ht:τ[i]?=some (some (.ref p))) (hs:Dqs (rs (AD D A) G) xs ds):RL l a z0 D G0 A τ (ρ.set i (.ow ds)) (gu G p (.lst xs)) n:=by
 have il:i≠l:=by rintro rfl;rw [h.ul] at ho;cases ho
 have pa:p≠a:=by rintro rfl;exact il (h.r.inj i l _ hi h.al)
 exact ⟨h.r.wr hi ht hs,h.al,h.tl,by rw [List.getElem?_set,if_neg il];exact h.ul,h.lf.new pa,h.tz⟩
end
abbrev QO:=Ot->Nat->Prop
def qb4 (l:Nat) (a:Addr) (z0:Option (Option T)×Nat) (D:Addr->Prop) (G0:Gp) (e:Ends3):Ot->Nat->Prop
 | .nx ρ,n=>∀ A τ G,RL l a z0 D G0 A τ ρ G n->e.nx τ G
 | .bk ρ,n=>∀ A τ G,RL l a z0 D G0 A τ ρ G n->e.bk τ G
 | .ct ρ,n=>∀ A τ G,RL l a z0 D G0 A τ ρ G n->e.ct τ G
 | .rt d fr,n=>∀ x G,Ex G0 G->Lf G a n->Dq (rs (fun b=>D b\/b=a) G) x d->(fr=true->Nw (fun b=>D b\/b=a) G0 G x d)->e.rt x G
structure PwS (l:Nat) (t:TS3) where
 w:Rho->Nat->QO->Prop
 mono:∀ {ρ n} {Q Q':QO},w ρ n Q->(∀ o m,Q o m->Q' o m)->w ρ n Q'
 ok:∀ {a z0 D G0 A τ ρ G n} {e:Ends3} {Q:QO},RL l a z0 D G0 A τ ρ G n->w ρ n Q->(∀ o m,Q o m->qb4 l a z0 D G0 e o m)->t e τ G
section
variable {l:Nat}
def T6:PwS l qO:=⟨fun ρ n Q=>Q (.nx ρ) n,fun h k=>k _ _ h,fun h hw k=>k _ _ hw _ _ _ h⟩
def sqw (b:Rho->Nat->QO->Prop) (Q:QO):QO:=fun o n=>match o with | .nx ρ'=>b ρ' n Q | o=>Q o n
def TU {t u:TS3} (x:PwS l t) (y:PwS l u):PwS l (qS t u):=⟨fun ρ n Q=>x.w ρ n (sqw y.w Q),fun h k=>x.mono h fun o m h=>by
  cases o with
  | nx ρ=>exact y.mono h k
  | bk ρ=>exact k _ _ h
  | ct ρ=>exact k _ _ h
  | rt d f=>exact k _ _ h,fun h hw k=>x.ok h hw fun o m h=>by
  cases o with
  | nx ρ=>exact fun A τ G r=>y.ok r h k
  | bk ρ=>exact k _ _ h
  | ct ρ=>exact k _ _ h
  | rt d f=>exact k _ _ h⟩
def wIf {c:TT3} {t u:TS3} (pc:PwC l c) (x:PwS l t) (y:PwS l u):PwS l (jt c t u):=⟨fun ρ n Q=>pc.w ρ n fun k n1=>if k then x.w ρ n1 Q else y.w ρ n1 Q,fun h k=>pc.mono h fun j m h=>by
  cases j with
  | true=>rw [if_pos rfl] at h ⊢;exact x.mono h k
  | false=>exact y.mono h k,fun h hw k=>pc.ok (h.all _) hw fun j G1 n1 hj E1 L1=>by
  cases j with
  | true=>rw [if_pos rfl] at hj ⊢;exact x.ok (h.up E1 L1) hj k
  | false=>exact y.ok (h.up E1 L1) hj k⟩
theorem qhu {a:Addr} {z0:Option (Option T)×Nat} {D:Addr->Prop} {G0 G G':Gp} {A:Nat->Option Addr} {τ:St3} {ρ:Rho} {n:Nat} (h:RL l a z0 D G0 A τ ρ G n) (e:Ext a G G'):Ex G0 G':=fun b o x=>e b o (by rintro rfl;rw [h.r.fr l _ h.al] at x;cases x) (h.r.ex b o x)
def qgl {t:TE3} (x:PwE l t):PwS l (za t):=⟨fun ρ n Q=>x.w ρ n fun d n1=>Q (.rt d x.nw) n1,fun h k=>x.mono h fun d m h=>k _ _ h,fun h hw k=>x.ok (h.all _) hw fun y d G1 n1 hq E1 L1 D1 N1=>k _ _ hq y G1 (qhu h E1) L1 D1 fun z=>(N1 z).back h.r.ex⟩
def qaO {t:TE3} (x:PwE l t) (i:Nat) (m:List Bool) (hm:Tru (x.fv.all (mkb m))) (hl:Tru (!mkb m l && (i != l && i != 0))):PwS l (zN t (gn3 i)):=⟨fun ρ n Q=>x.w ρ n fun d n1=>Q (.nx (qaN m x.nw i d ρ)) n1,fun h k=>x.mono h fun d m h=>k _ _ h,fun {a z0 D G0 A τ ρ G n e Q} h hw k=>by
 have hl':mkb m l=false/\i≠l/\i≠0:=by simpa using hl.h
 refine x.ok (h.ln hl'.1 hm) hw fun y d G1 n1 hq E1 L1 D1 N1=>?_
 have k:=k _ _ hq
 unfold qaN at k
 show e.nx (τ.set i (some y)) G1
 split at k
 ·rename_i hs
  exact k _ _ _ ((h.up E1 L1).put hl'.2.1 hl'.2.2 (RJ D1 hs))
 ·split at k
  ·rename_i hn
   have N:=N1 hn
   rcases id N with h2 | ⟨p,xs,ds,h1,h2,_⟩
   ·subst h2;rename_i hs;exact absurd rfl hs
   subst h2
   obtain ⟨A',r⟩:=(h.dem hl'.1).putN hl'.2.1 hl'.2.2 rfl E1 L1 N
   exact k _ _ _ r
  ·exact k _ _ _ (((h.dem hl'.1).up E1 L1).put hl'.2.1 hl'.2.2 D1)⟩
theorem RL.evalS {a:Addr} {z0:Option (Option T)×Nat} {D:Addr->Prop} {G0 G:Gp} {A:Nat->Option Addr} {τ:St3} {ρ:Rho} {n:Nat} (h:RL l a z0 D G0 A τ ρ G n) {t:TE3} (x:PwE l t) (m:List Bool) (hm:Tru (x.fv.all (mkb m))) (hl:mkb m l=false) {Q:QD} (hw:x.w ρ n Q) (q:Q3) (k:∀ y d G' n' A1,Q d n'->RL l a z0 D G0 A1 τ (dmS m d ρ) G' n'->Ext a G G'->Dq (rs (AD D A1) G') y d->q y G'):t τ G q:=by
 refine x.ok (h.ln hl hm) hw fun y d G1 n1 hq E1 L1 D1 _=>?_
 by_cases hs:qga d=true
 ·exact k y d G1 n1 A hq (by unfold dmS;rw [if_pos hs];exact h.up E1 L1) E1 (RJ D1 hs)
 ·exact k y d G1 n1 _ hq (by unfold dmS;rw [if_neg hs];exact (h.dem hl).up E1 L1) E1 D1
def qc8 (gf:PyData->Option (List (Nat×PyData))) (bw:Rho->Nat->QO->Prop):List PyData->Rho->Nat->QO->Prop
 | [],ρ,n,Q=>Q (.nx ρ) n
 | d :: r,ρ,n,Q=>∃ bs,gf d=some bs/\bw (QS ρ bs) n fun o n1=>match o with
  | .nx ρ'=>qc8 gf bw r ρ' n1 Q
  | .ct ρ'=>qc8 gf bw r ρ' n1 Q
  | .bk ρ'=>Q (.nx ρ') n1
  | .rt d b=>Q (.rt d b) n1
theorem XI {g:TG3} {tb:TS3} (pg:PuG g) (pb:PwS l tb):∀ {ds:List PyData} {ρ:Rho} {n:Nat} {Q Q':QO},qc8 pg.f pb.w ds ρ n Q->(∀ o m,Q o m->Q' o m)->qc8 pg.f pb.w ds ρ n Q'
 | [],_,_,_,_,h,k=>k _ _ h
 | d :: r,_,_,_,_,⟨bs,e,h⟩,k=>⟨bs,e,pb.mono h fun o m h=>by
   cases o with
   | nx ρ=>exact XI pg pb h k
   | ct ρ=>exact XI pg pb h k
   | bk ρ=>exact k _ _ h
   | rt d b=>exact k _ _ h⟩
theorem SR {stay:Gp->Prop} {g:TG3} {tb:TS3} {e:Ends3} (pg:PuG g) (pb:PwS l tb) {a:Addr} {z0:Option (Option T)×Nat} {D:Addr->Prop} {G0:Gp} {Q:QO} (hl:∀ i∈pg.tg,i≠l/\i≠0) (hs:∀ A τ ρ G n,RL l a z0 D G0 A τ ρ G n->stay G) (k:∀ o m,Q o m->qb4 l a z0 D G0 e o m) :
  ∀ (ds:List PyData) (items:List T),(∀ A τ ρ G n,RL l a z0 D G0 A τ ρ G n->Dqs (rs (AD D A) G) items ds)->∀ A τ ρ G n,RL l a z0 D G0 A τ ρ G n->qc8 pg.f pb.w ds ρ n Q->SK stay g tb e items τ G
 | [],items,hi,A,τ,ρ,G,n,h,hw=>by
  have:=hi _ _ _ _ _ h
  cases this
  exact ⟨hs _ _ _ _ _ h,k _ _ hw _ _ _ h⟩
 | d :: ds,items,hi,A,τ,ρ,G,n,h,⟨bs,e1,hw⟩=>by
  have hh:=hi _ _ _ _ _ h
  cases hh with
  | cons hx hr=>
   rename_i x items
   obtain ⟨ts,bd,kg⟩:=pg.ok hx e1
   refine ⟨hs _ _ _ _ _ h,kg _ _ _ ?_⟩
   obtain ⟨A',h'⟩:=h.puts bd fun p hp=>hl _ (pg.at' e1 p hp)
   have hi':∀ A τ ρ G n,RL l a z0 D G0 A τ ρ G n->Dqs (rs (AD D A) G) items ds:=fun A τ ρ G n h=>by
    have:=hi _ _ _ _ _ h
    cases this with
    | cons a b=>exact b
   refine pb.ok h' hw fun o m hq=>?_
   cases o with
   | nx ρ'=>exact fun A2 τ2 G2 h2=>SR pg pb hl hs k ds items hi' _ _ _ _ _ h2 hq
   | ct ρ'=>exact fun A2 τ2 G2 h2=>SR pg pb hl hs k ds items hi' _ _ _ _ _ h2 hq
   | bk ρ'=>exact k _ _ hq
   | rt d fr=>exact k _ _ hq
theorem RL.base {a:Addr} {z0:Option (Option T)×Nat} {D:Addr->Prop} {G0 Gb G:Gp} {A:Nat->Option Addr} {τ:St3} {ρ:Rho} {n:Nat} (h:RL l a z0 D Gb A τ ρ G n) (e:Ex G0 Gb) (hd:Dom D G0):RL l a z0 D G0 A τ ρ G n:=⟨h.r.base e hd,h.al,h.tl,h.ul,h.lf,h.tz⟩
theorem qb4.base {a:Addr} {z0:Option (Option T)×Nat} {D:Addr->Prop} {G0 Gb:Gp} {e:Ends3} {o:Ot} {n:Nat} (h:qb4 l a z0 D G0 e o n) (x:Ex G0 Gb) (hd:Dom D G0):qb4 l a z0 D Gb e o n:=by
 cases o with
 | nx ρ=>exact fun A τ G r=>h A τ G (r.base x hd)
 | bk ρ=>exact fun A τ G r=>h A τ G (r.base x hd)
 | ct ρ=>exact fun A τ G r=>h A τ G (r.base x hd)
 | rt d fr=>exact fun y G p q r z=>h y G (x.trans p) q r fun w=>(z w).back x
def qnz {wi:TI3} {g:TG3} {tb:TS3} (pi:PwI l wi) (pg:PuG g) (pb:PwS l tb) (m:List Bool) (hm:Tru (pi.fv.all (mkb m))) (hl:Tru (!mkb m l && pg.tg.all (fun i=>i != l && i != 0))):PwS l (CT wi g tb):=⟨fun ρ n Q=>pi.w ρ n fun ds n1=>qc8 pg.f pb.w ds (if pi.nm then ρ else dm m ρ) n1 Q,fun h k=>pi.mono h fun d m h=>XI pg pb h k,fun {a z0 D G0 A τ ρ G n e Q} h hw k=>by
 have hl':mkb m l=false/\∀ i∈pg.tg,i≠l/\i≠0:=by simpa using hl.h
 refine pi.ok (h.ln hl'.1 hm) hw fun items stay ds G1 n1 hq E1 L1 D1 hs hnm=>?_
 cases hb:pi.nm with
 | true=>
  rw [hb,if_pos rfl] at hq
  obtain ⟨ns,rfl⟩:=hnm hb
  have:=D1.ints
  subst this
  exact SR pg pb hl'.2 (fun _ _ _ _ _ _=>hs _ (.inl hb)) k _ _ (fun A τ ρ G _ _=>Dqs.ofInts _) _ _ _ _ _ (h.up E1 L1) hq
 | false=>
  rw [hb,if_neg Bool.false_ne_true] at hq
  have h1:=(h.dem hl'.1).up E1 L1
  have b1:Ex G0 (rs (fun b=>∃ i,Ad m A i=some b) G1):=fun b o e=>by
   rw [Q5]
   ·exact h1.r.ex _ _ e
   ·rintro ⟨i,z⟩;rw [h1.r.fr i _ z] at e;cases e
  have h2:RL l a z0 D (rs (fun b=>∃ i,Ad m A i=some b) G1) (Ad m A) τ (dm m ρ) G1 n1:=⟨⟨YN,h.r.dm.up b1,fun i p z=>by unfold rs;exact jq ⟨i,z⟩,h1.r.da,h1.r.inj,h1.r.len,h1.r.sh,h1.r.ow⟩,h1.al,h1.tl,h1.ul,h1.lf,h1.tz⟩
  have X:∀ A2 τ2 ρ2 G2,RS D (rs (fun b=>∃ i,Ad m A i=some b) G1) A2 τ2 ρ2 G2->Ex (rs (AD D (Ad m A)) G1) (rs (AD D A2) G2):=fun A2 τ2 ρ2 G2 r b o e=>by
   obtain ⟨n1,e⟩:=qX e
   have eb:rs (fun b=>∃ i,Ad m A i=some b) G1 b=some o:=by rw [Q5 (fun z=>n1 (.inr z))];exact e
   rw [Q5]
   ·exact r.ex _ _ eb
   ·rintro (z | ⟨i,z⟩)
    ·exact n1 (.inl z)
    ·rw [r.fr i _ z] at eb;cases eb
  exact SR pg pb hl'.2 (fun A2 τ2 ρ2 G2 n2 r=>hs _ (.inr ((X _ _ _ _ r.r).trans YN))) (fun o m hq=>(k o m hq).base b1 h.r.dm) _ _ (fun A2 τ2 ρ2 G2 n2 r=>D1.up (X _ _ _ _ r.r)) _ _ _ _ _ h2 hq⟩
end
def DSp (W:List PyData->Nat->QD->Prop) (fr:Bool):Sp3:=fun ts G q=>∃ (D:Addr->Prop) (a:Addr) (n:Nat) (ts':List T) (ds:List PyData) (Q:QD),ts=.ref a :: ts'/\Lf G a n/\D a/\Dom D G/\Dqs (rs D G) ts' ds/\W ds n Q/\∀ x d G' n',Q d n'->Ext a G G'->Lf G' a n'->Dq (rs D G') x d->(fr=true->Nw D G G' x d)->q x G'
structure Wm where
 W:List PyData->Nat->QD->Prop
 mono:∀ {ds n} {Q Q':QD},W ds n Q->(∀ d m,Q d m->Q' d m)->W ds n Q'
def dSp (w:Wm) (fr:Bool):DrD (DSp w.W fr):=⟨w.W,fr,w.mono,fun {D G a n ts ds q Q} lf da hd hs hw k=>⟨D,a,n,ts,ds,Q,rfl,lf,da,hd,hs,hw,k⟩⟩
def qps (fr:Bool) (Q:QD):QO:=fun o n=>match o with
 | .rt d b=>(fr=true->b=true)/\∃ m,n<=m/\Q d m
 | .nx _=>fr=false/\∃ m,n<=m/\Q .none m
 | _=>False
def qqm {t:TS3} (b:PwS 0 t) (k N:Nat) (fr:Bool):Wm:=⟨fun ds n Q=>ds.length+1=k/\b.w (.un :: (ds.map Sl.sh++List.replicate (N - (ds.length+1)) .un)) n (qps fr Q),fun ⟨h1,h2⟩ k=>⟨h1,b.mono h2 fun o m h=>by
 cases o with
 | rt d f=>obtain ⟨h1,m,h2,h3⟩:=h;exact ⟨h1,m,h2,k _ _ h3⟩
 | nx ρ=>obtain ⟨h1,m,h2,h3⟩:=h;exact ⟨h1,m,h2,k _ _ h3⟩
 | bk ρ=>exact h
 | ct ρ=>exact h⟩⟩
theorem qgx {t:TS3} (b:PwS 0 t) (N:List Str) (k:Nat) (fr:Bool):∀ ts G q,DSp (qqm b k N.length fr).W fr ts G q->ts.length=k/\t { nx:=fun _ G'=>q .non G',rt:=q } (qE N ts) G:=by
 rintro ts G q ⟨D,a,n,ts',ds,Q,rfl,lf,da,hd,hs,⟨hk,hw⟩,h⟩
 refine ⟨by simp [hs.length];omega,?_⟩
 have DD:∀ b,(D b/\b≠a)\/b=a ↔ D b:=fun b=>by
  by_cases e:b=a
  ·subst e;simp [da]
  ·simp [e]
 have rr:∀ H,rs (fun b=>(D b/\b≠a)\/b=a) H=rs D H:=fun H=>by
  have:(fun b=>(D b/\b≠a)\/b=a)=D:=funext fun b=>propext (DD b)
  rw [this]
 have ad:AD (fun b=>D b/\b≠a) (fun i=>if i=0 then some a else none)=D:=funext fun b=>propext ⟨(fun z=>by
   rcases z with z | ⟨i,z⟩
   ·exact z.1
   ·simp only at z
    split at z
    ·cases z;exact da
    ·cases z),(fun z=>by
   by_cases e:b=a
   ·subst e;exact .inr ⟨0,rfl⟩
   ·exact .inl ⟨z,e⟩)⟩
 have ga:G a≠none:=W9 lf
 have r:RL 0 a (some (some (.ref a)),(qE N (.ref a :: ts')).length) (fun b=>D b/\b≠a) (rs (fun b=>b=a) G) (fun i=>if i=0 then some a else none) (qE N (.ref a :: ts')) (.un :: (ds.map Sl.sh++List.replicate (N.length - (ds.length+1)) .un)) G n:=by
  refine ⟨⟨YN,fun b hb=>by rw [Q5 (D:=fun b=>b=a) hb.2];exact hd b hb.1,fun i p e=>?_,fun i p e=>?_,fun i j p e e'=>?_,by simp [qE,hs.length],fun i d' e=>?_,fun i es e=>?_⟩,rfl,by simp [qE],rfl,lf,⟨by simp [qE],rfl⟩⟩
  ·split at e
   ·cases e;unfold rs;exact jq rfl
   ·cases e
  ·split at e
   ·cases e;exact ga
   ·cases e
  ·split at e
   ·split at e'
    ·rename_i h1 h2;rw [h1,h2]
    ·cases e'
   ·cases e
  ·rw [ad]
   cases i with
   | zero=>cases e
   | succ i=>
    rw [List.getElem?_cons_succ] at e
    by_cases hi:i < ds.length
    ·rw [List.getElem?_append_left (by simpa using hi),List.getElem?_map] at e
     obtain ⟨d2,e3,e4⟩:=Option.map_eq_some_iff.mp e
     cases e4
     obtain ⟨x,e5,hx⟩:=hs.get e3
     refine ⟨x,?_,hx⟩
     unfold qE
     rw [List.getElem?_append_left (by simp [hs.length];exact hi),List.getElem?_map,List.getElem?_cons_succ,e5];rfl
    ·rw [List.getElem?_append_right (by simpa using hi),List.getElem?_replicate] at e
     split at e <;> cases e
  ·cases i with
   | zero=>cases e
   | succ i=>
    rw [List.getElem?_cons_succ] at e
    by_cases hi:i < ds.length
    ·rw [List.getElem?_append_left (by simpa using hi),List.getElem?_map] at e
     obtain ⟨d2,e3,e4⟩:=Option.map_eq_some_iff.mp e
     cases e4
    ·rw [List.getElem?_append_right (by simpa using hi),List.getElem?_replicate] at e
     split at e <;> cases e
 have xe:∀ {G'},Ex (rs (fun b=>b=a) G) G'->Ext a G G':=fun e b o n x=>e b o (by rw [Q5 (D:=fun b=>b=a) n];exact x)
 refine b.ok r hw fun o m hq=>?_
 cases o with
 | rt d f=>
  intro x G' E L Dx0 N
  have Dx:=Dx0
  rw [rr] at Dx
  obtain ⟨hq1,m2,hm,hq2⟩:=hq
  refine h x d G' m2 hq2 (xe E) (L.mono (by omega)) Dx fun z=>?_
  rcases N (hq1 z) with h2 | ⟨p,xs,ds',h1,h2,c,g,f'⟩
  ·exact .inl h2
  have np:p≠a:=by
   rintro rfl
   rw [h1] at Dx0
   cases Dx0 with
   | lst g0 _=>exact (qX g0).1 (.inr rfl)
  refine .inr ⟨p,xs,ds',h1,h2,by rw [Q5 (D:=fun b=>b=a) np] at c;exact c,g,f'.up (jG fun b z=>?_)⟩
  rcases z with z | z
  ·exact .inl ((DD b).mpr z)
  ·exact .inr z
 | nx ρ=>
  obtain ⟨hq1,m2,hm,hq2⟩:=hq
  exact fun A τ G' r'=>h .non .none G' m2 hq2 (xe r'.r.ex) (r'.lf.mono (by omega)) .non fun z=>by rw [hq1] at z;cases z
 | bk ρ=>exact hq.elim
 | ct ρ=>exact hq.elim
end Pu
namespace Pu
open PySem L2 L3
open Bk (Lf Ext Dl Wk)
def okW:QO:=fun o _=>match o with | .nx _=>True | .ct _=>True | _=>False
def qqz (K:Int):TE3:=o3 jN (c3 (.int 1)) (cb3 qkq (qc (c3 (.int K)) (qc (cb3 DY (qc (v3 0) qj)) qj)))
theorem qlA {i:Nat} {τ:St3} {t:T} {G:Gp} {q:Q3} (h:τ[i]?=some (some t)):v3 i τ G q=q t G:=by unfold v3;rw [h]
def qqf (K:Int) (R:TS3):TS3:=qS (CT (jJ (qc (qqz K) qj)) (gn3 1) (qS (zN (cb3 Bk.J1 (qc (v3 0) (qc (v3 1) qj))) (gn3 2)) R)) (za (c3 (.bl true)))
theorem qd3 {R:TS3} (b:PwS 2 R) (N:List Str) (K:Int) (M:Nat) (hK:0<=K/\K<=60) (hN:N.length=M+3) (h:∀ k:Nat,k<=60->b.w ([.un,.sh (.int k),.un]++List.replicate M .un) 0 okW):∀ ts G q,RK ts G q->ts.length=1/\qqf K R { nx:=fun _ G'=>q .non G',rt:=q } (qE N ts) G:=by
 rintro ts G q ⟨a,ns,rfl,hG,hl,hq⟩
 refine ⟨rfl,?_⟩
 have s0:(qE N [T.ref a])[0]?=some (some (.ref a)):=by simp [qE]
 have gl:getL G a=some (ns.map T.int):=by unfold getL;rw [hG]
 simp only [qqf,qS,CT,jJ,qqz,qc,qj,o3,c3,cb3,v3,s0,DY,gl,qkq,jN,List.length_map]
 have cnt:((1+(if ((ns.length:Nat):Int) < K then ((ns.length:Nat):Int) else K)).toNat)<=61:=by split <;> omega
 refine ⟨⟨by split <;> omega,by split <;> omega⟩,?_⟩
 refine TX _ (fun _ τ G'=>G' a=some (.frz (ns.map T.int))/\τ[0]?=some (some (.ref a))/\τ.length=M+3) ⟨hG,s0,by simp [qE,hN]⟩ (fun _ _ _ _ _=>True.intro) ?_ ?_
 ·rintro i z τ G' nx hz ⟨gA,t0,tl⟩ hn
  obtain ⟨hi,rfl⟩:=qb0 hz
  have hi2:i<=60:=by omega
  have t1:(τ.set 1 (some (T.int (0+(i:Int)))))[0]?=some (some (.ref a)):=by rw [List.getElem?_set,if_neg (by omega)];exact t0
  have t2:(τ.set 1 (some (T.int (0+(i:Int)))))[1]?=some (some (T.int (0+(i:Int)))):=by rw [List.getElem?_set,if_pos rfl,if_pos (by omega)]
  show v3 0 (τ.set 1 (some (T.int (0+(i:Int))))) G' (fun x G1=>v3 1 (τ.set 1 (some (T.int (0+(i:Int))))) G1 fun y G2=>Bk.J1 [x,y] G2 fun z G3=>R _ ((τ.set 1 (some (T.int (0+(i:Int))))).set 2 (some z)) G3)
  rw [qlA t1,qlA t2]
  refine ⟨a,_,ns,rfl,gA,hl,by omega,by omega,fun p o c hp ho=>?_⟩
  have pa:a≠p:=by rintro rfl;rw [gA] at hp;cases hp
  have r:RL 2 p (some (some (.ref a)),M+3) (fun _=>False) G' (fun j=>if j=2 then some p else none) ((τ.set 1 (some (T.int (0+(i:Int))))).set 2 (some (.ref p))) ([.un,.sh (.int i),.un]++List.replicate M .un) (gu G' p (.lst [.int o,.int c,.int 0])) 0:=by
   refine ⟨⟨VB hp,fun b z=>z.elim,fun j q e=>?_,fun j q e=>?_,fun j k q e e'=>?_,by simp [tl],fun j d e=>?_,fun j ds e=>?_⟩,rfl,by rw [List.getElem?_set,if_pos rfl,if_pos (by simp;omega)],rfl,⟨o,c,0,qT,ho,by omega,by omega⟩,⟨by rw [List.getElem?_set,if_neg (by omega)];exact t1,by simp [tl]⟩⟩
   ·split at e
    ·cases e;exact hp
    ·cases e
   ·split at e
    ·cases e;rw [qT];simp
    ·cases e
   ·split at e
    ·split at e'
     ·rename_i h1 h2;rw [h1,h2]
     ·cases e'
    ·cases e
   ·match j,e with
    | 0,e=>cases e
    | 1,e=>
     cases e
     refine ⟨.int (0+(i:Int)),by rw [List.getElem?_set,if_neg (by omega)];exact t2,?_⟩
     rw [Int.zero_add];exact .int _
    | 2,e=>cases e
    | j+3,e=>
     simp only [List.cons_append,List.nil_append,List.getElem?_cons_succ,List.getElem?_replicate] at e
     split at e <;> cases e
   ·match j,e with
    | 0,e=>cases e
    | 1,e=>cases e
    | 2,e=>cases e
    | j+3,e=>
     simp only [List.cons_append,List.nil_append,List.getElem?_cons_succ,List.getElem?_replicate] at e
     split at e <;> cases e
  refine b.ok r (h i hi2) fun o' m ho'=>?_
  cases o' with
  | nx ρ'=>exact fun A τ' G2 r2=>hn _ _ ⟨r2.r.ex _ _ gA,r2.tz.1,r2.tz.2⟩
  | ct ρ'=>exact fun A τ' G2 r2=>hn _ _ ⟨r2.r.ex _ _ gA,r2.tz.1,r2.tz.2⟩
  | bk ρ'=>exact ho'.elim
  | rt d f=>exact ho'.elim
 ·rintro τ G' ⟨gA,t0,tl⟩
  exact hq G'
theorem qik {G:Gp} {ts:List T} (h:Dqs G ts []):ts=[]:=by cases h;rfl
theorem qpl {G:Gp} {ts:List T} {i:Int} (h:Dqs G ts [.int i]):ts=[.int i]:=by
 cases h with
 | cons a b=>cases b;cases a;rfl
theorem lfc {G:Gp} {a:Addr} {n c:Nat} (h:Lf G a ((n:Int)+(c:Int))):Lf G a ((n+c:Nat):Int):=by rw [Int.natCast_add];exact h
def K2:DrD Bk.zw:=⟨fun ds n Q=>∃ m:Int,ds=[.int m]/\(1<=m/\m < 1073741824)/\n < 1000000000/\∀ d:Int,0<=d->d < m->Q (.int d) (n+1),false,
 fun ⟨m,h1,h2,h3,h4⟩ k=>⟨m,h1,h2,h3,fun d x y=>k _ _ (h4 d x y)⟩,fun {D G a n ts ds q Q} lf da hd hs ⟨m,h1,h2,h3,h4⟩ k=>by
 subst h1
 have:=qpl hs;subst this
 exact ⟨a,n,m,rfl,h2.1,h2.2,lf,by omega,fun d G' x y L E=>k _ _ G' (n+1) (h4 d x y) E (lfc (c:=1) L) (.int d) (fun z=>by cases z)⟩⟩
def qld:DrD Bk.J8:=⟨fun ds n Q=>ds=[]/\n < 1000000/\∀ w:Wk,w.Ok->Q (Pv.Wk.d w) (n+60),false,
 fun ⟨h1,h3,h4⟩ k=>⟨h1,h3,fun w x=>k _ _ (h4 w x)⟩,fun {D G a n ts ds q Q} lf da hd hs ⟨h1,h3,h4⟩ k=>by
 subst h1
 have:=qik hs;subst this
 exact ⟨a,n,rfl,lf,by omega,fun w G' x L E=>k _ _ G' (n+60) (h4 w x) E (lfc (c:=60) L) (Pv.qpL _ w) (fun z=>by cases z)⟩⟩
def qgR (n:Nat):FnD (Bk.zV (n+1)):=⟨fun ds=>match ds with | [d,e]=>cif (d=e/\Bk.UM n d) (some (.bool true)) none | _=>none,false,fun {D G xs ds v q} hx hd hf k=>by
 split at hf
 ·unfold cif at hf
  split at hf
  ·rename_i c
   cases hf
   obtain ⟨rfl,c⟩:=c
   cases hx with
   | cons x b=>cases b with
    | cons y b=>
     cases b
     exact ⟨_,_,_,rfl,(x.up YN).dp,(y.up YN).dp,c,fun G' E=>k _ _ E (.bl true) (fun z=>by cases z)⟩
  ·cases hf
 ·cases hf⟩
theorem MJ {n:Nat} {d:PyData} (h:Bk.UM n d):(qgR n).f [d,d]=some (.bool true):=jq ⟨rfl,h⟩
end Pu
namespace Pu
open PySem L2 L3
open Bk (Lf Ext Dl Wk)
theorem qiU {l:Nat} {t:TE3} {b:PuE t}:(eOf (l:=l) b).w=fun ρ n Q=>∃ d,b.f ρ=some d/\Q d n:=id rfl
theorem qj5 {l:Nat} {t:TT3} {b:PuC t}:(cOf (l:=l) b).w=fun ρ n Q=>∃ d,b.f ρ=some d/\Q d n:=id rfl
theorem qmv {l:Nat} {t:TA3} {b:PuA t}:(aOf (l:=l) b).w=fun ρ n Q=>∃ d,b.f ρ=some d/\Q d n:=id rfl
theorem qjD {l:Nat} {t:TI3} {b:PuI t}:(iOf (l:=l) b).w=fun ρ n Q=>∃ d,b.f ρ=some d/\Q d n:=id rfl
theorem qqn {l:Nat} {r:R3} {ta tb:TE3} {R:OpD r} {a:PwE l ta} {b:PwE l tb}:(eO R a b).w=fun ρ n Q=>a.w ρ n fun x n1=>b.w ρ n1 fun y n2=>∃ v,R.f x y=some v/\Q v n2:=id rfl
theorem qbm {l:Nat} {ta:TE3} {tr:TA3} {a:PwE l ta} {r:PwA l tr}:(qbl a r).w=fun ρ n Q=>a.w ρ n fun x n1=>r.w ρ n1 fun xs n2=>Q (x :: xs) n2:=id rfl
theorem qeM {l:Nat} {t:TA3} {b:PwA l t} {hn:Tru (Nat.ble b.k 1000)}:(qnX b hn).w=fun ρ n Q=>b.w ρ n fun xs n1=>Q (.tuple xs) n1:=id rfl
theorem qjB {l:Nat} {r:List T->Gp->Q3->Prop} {t:TA3} {R:DrD r} {b:PwA l t}:(eDr R b).w=fun ρ n Q=>b.w ρ n fun xs n1=>R.W xs n1 Q:=id rfl
theorem qnk {l:Nat} {t:TE3} {b:PwE l t}:(cTb b).w=fun ρ n Q=>b.w ρ n fun d n1=>∃ k,asB d=some k/\Q k n1:=id rfl
theorem qef {l:Nat} {t u:TT3} {a:PwC l t} {b:PwC l u}:(qqi a b).w=fun ρ n Q=>a.w ρ n fun k n1=>if k then b.w ρ n1 Q else Q false n1:=id rfl
theorem qfn {l:Nat} {t:TT3} {a:PwC l t}:(qqd a).w=fun ρ n Q=>a.w ρ n fun k n1=>Q (!k) n1:=id rfl
theorem qp5 {l:Nat} {t:TA3} {b:PwA l t}:(iR b).w=fun ρ n Q=>b.w ρ n fun xs n1=>∃ ds,qcZ xs=some ds/\Q ds n1:=id rfl
theorem qe3 {l:Nat} {t:TI3} {b:PuI t}:(iOf (l:=l) b).nm=b.nm:=id rfl
theorem qfq {l:Nat} {t:TE3} {b:PuE t}:(eOf (l:=l) b).nw=b.nw:=id rfl
theorem qjg {l:Nat} {r:R3} {ta tb:TE3} {R:OpD r} {a:PwE l ta} {b:PwE l tb}:(eO R a b).nw=R.nw:=id rfl
theorem qbn {l:Nat} {t:TA3} {b:PwA l t} {hn:Tru (Nat.ble b.k 1000)}:(qnX b hn).nw=false:=id rfl
theorem qfC {l:Nat} {r:List T->Gp->Q3->Prop} {t:TA3} {R:DrD r} {b:PwA l t}:(eDr R b).nw=R.nw:=id rfl
theorem qlo {l:Nat} {wi:TI3} {g:TG3} {tif:TT3} {te:TE3} {l2:Nat} {pi:PwI l wi} {pg:PuG g} {pc:PwC l2 tif} {pe:PwE l2 te} {m:List (Option Nat)} {hm:Tru (pg.tg.all fun i=>m[i]? == some none)} {hl:Tru (m[l2]? == some (some l))}:(eLc l2 pi pg pc pe m hm hl).w=fun ρ n Q=>pi.w ρ n fun ds n1=>ds.length<=16777216/\lcW pg.f pc.w pe.w (C9 m ρ) ds n1 fun fs n2=>fs.length<=16777216/\Q (.list fs) n2:=id rfl
theorem qgn {l:Nat} {wi:TI3} {g:TG3} {tif:TT3} {te:TE3} {l2:Nat} {pi:PwI l wi} {pg:PuG g} {pc:PwC l2 tif} {pe:PwE l2 te} {m:List (Option Nat)} {hm:Tru (pg.tg.all fun i=>m[i]? == some none)} {hl:Tru (m[l2]? == some (some l))}:(eLc l2 pi pg pc pe m hm hl).nw=true:=id rfl
theorem qcj {l:Nat}:(T6 (l:=l)).w=fun ρ n Q=>Q (.nx ρ) n:=id rfl
theorem qfZ {l:Nat} {t u:TS3} {x:PwS l t} {y:PwS l u}:(TU x y).w=fun ρ n Q=>x.w ρ n (sqw y.w Q):=id rfl
theorem qgg {b:Rho->Nat->QO->Prop} {Q:QO} {ρ:Rho} {n:Nat}:sqw b Q (.nx ρ) n=b ρ n Q:=id rfl
theorem qfi {b:Rho->Nat->QO->Prop} {Q:QO} {d:PyData} {f:Bool} {n:Nat}:sqw b Q (.rt d f) n=Q (.rt d f) n:=id rfl
theorem qk5 {l:Nat} {c:TT3} {t u:TS3} {pc:PwC l c} {x:PwS l t} {y:PwS l u}:(wIf pc x y).w=fun ρ n Q=>pc.w ρ n fun k n1=>if k then x.w ρ n1 Q else y.w ρ n1 Q:=id rfl
theorem qed {l:Nat} {t:TE3} {x:PwE l t}:(qgl x).w=fun ρ n Q=>x.w ρ n fun d n1=>Q (.rt d x.nw) n1:=id rfl
theorem qfN {l:Nat} {t:TE3} {x:PwE l t} {i:Nat} {m:List Bool} {hm:Tru (x.fv.all (mkb m))} {hl:Tru (!mkb m l && (i != l && i != 0))}:(qaO x i m hm hl).w=fun ρ n Q=>x.w ρ n fun d n1=>Q (.nx (qaN m x.nw i d ρ)) n1:=id rfl
theorem qfS {l:Nat} {wi:TI3} {g:TG3} {tb:TS3} {pi:PwI l wi} {pg:PuG g} {pb:PwS l tb} {m:List Bool} {hm:Tru (pi.fv.all (mkb m))} {hl:Tru (!mkb m l && pg.tg.all (fun i=>i != l && i != 0))}:(qnz pi pg pb m hm hl).w=fun ρ n Q=>pi.w ρ n fun ds n1=>qc8 pg.f pb.w ds (if pi.nm then ρ else dm m ρ) n1 Q:=id rfl
theorem qaZ {ds:List PyData} {n:Nat} {Q:QD}:K2.W ds n Q=(∃ m:Int,ds=[.int m]/\(1<=m/\m < 1073741824)/\n < 1000000000/\∀ d:Int,0<=d->d < m->Q (.int d) (n+1)):=id rfl
theorem qbL {ds:List PyData} {n:Nat} {Q:QD}:qld.W ds n Q=(ds=[]/\n < 1000000/\∀ w:Wk,w.Ok->Q (Pv.Wk.d w) (n+60)):=id rfl
theorem NU:K2.nw=false:=id rfl
theorem qlP {w:Wm} {fr:Bool}:(dSp w fr).W=w.W:=id rfl
theorem qbu {Q:QD} {d:PyData} {b:Bool} {n:Nat}:qps false Q (.rt d b) n=∃ m,n<=m/\Q d m:=propext ⟨fun h=>h.2,fun h=>⟨fun z=>(Bool.false_ne_true z).elim,h⟩⟩
theorem qfK {ρ:Rho} {n:Nat}:okW (.nx ρ) n=True:=id rfl
theorem qmF {α:Type} {v:α} {P:α->Prop}:(∃ d,some v=some d/\P d)=P v:=propext ⟨fun ⟨d,h1,h2⟩=>by cases h1;exact h2,fun h=>⟨v,rfl,h⟩⟩
theorem qeP {v:Int} {P:Int->Prop}:(∃ m:Int,[PyData.int v]=[.int m]/\P m)=P v:=propext ⟨fun ⟨d,h1,h2⟩=>by cases h1;exact h2,fun h=>⟨v,rfl,h⟩⟩
theorem qgt {m:List Bool} {nw:Bool} {i:Nat} {w:Wk} {ρ:Rho}:qaN m nw i (Pv.Wk.d w) ρ=(dm m ρ).set i (.sh (Pv.Wk.d w)):=by cases w <;> exact qhT
theorem V7 {l:Nat} {t u:TS3} {x:PwS l t} {y:PwS l u} {ρ:Rho} {n:Nat} {Q:QO} (h:∀ Y:Rho->Nat->QO->Prop,Y=y.w->x.w ρ n (sqw Y Q)):(TU x y).w ρ n Q:=h _ rfl
theorem qgH {ks:List Int} {d:Int} {P:PyData->Prop} (h0:0<=d) (h1:d < (ks.length:Int)) (h:∀ k∈ks,P (.int k)):∃ v,L2.atI (ks.map PyData.int) d=some v/\P v:=by
 obtain ⟨i,rfl⟩:=Int.eq_ofNat_of_zero_le h0
 have hi:i < ks.length:=by omega
 refine ⟨.int ks[i],?_,h _ (List.getElem_mem hi)⟩
 have:=atN (xs:=ks.map PyData.int) (k:=i) (by simpa using hi)
 rw [List.getElem?_map,List.getElem?_eq_getElem hi] at this
 exact this
structure Mn (bw:Rho->Nat->QO->Prop):Prop where
 h:∀ ρ n (Q Q':QO),bw ρ n Q->(∀ o m,Q o m->Q' o m)->bw ρ n Q'
theorem PwS.mn {l:Nat} {t:TS3} (b:PwS l t):Mn b.w:=⟨fun _ _ _ _ h k=>b.mono h k⟩
structure MnE (bw:Rho->Nat->QD->Prop):Prop where
 h:∀ ρ n (Q Q':QD),bw ρ n Q->(∀ o m,Q o m->Q' o m)->bw ρ n Q'
theorem PwE.mn {l:Nat} {t:TE3} (b:PwE l t):MnE b.w:=⟨fun _ _ _ _ h k=>b.mono h k⟩
structure MnC (bw:Rho->Nat->(Bool->Nat->Prop)->Prop):Prop where
 h:∀ ρ n (Q Q':Bool->Nat->Prop),bw ρ n Q->(∀ o m,Q o m->Q' o m)->bw ρ n Q'
theorem mnT:MnC (fun ρ n Q=>Q true n):=⟨fun _ _ _ _ h k=>k _ _ h⟩
section
variable {l:Nat} {g:TG3} {tb:TS3}
theorem WI {gf:PyData->Option (List (Nat×PyData))} {bw:Rho->Nat->QO->Prop} {α:Type} {f:α->PyData} (xs:List α) (mono:Mn bw) (I:Nat->Rho->Nat->Prop) {ρ:Rho} {n:Nat} {Q:QO} (h0:I 0 ρ n)
  (hs:∀ i x ρ n,xs[i]?=some x->I i ρ n->∃ bs,gf (f x)=some bs/\bw (QS ρ bs) n fun o m=>match o with | .nx ρ'=>I (i+1) ρ' m | .ct ρ'=>I (i+1) ρ' m | .bk ρ'=>Q (.nx ρ') m | .rt d b=>Q (.rt d b) m)
  (k:∀ ρ n,I xs.length ρ n->Q (.nx ρ) n):qc8 gf bw (xs.map f) ρ n Q:=by
 have key:∀ (r:List α) (i:Nat) (ρ:Rho) (n:Nat),xs.drop i=r->i<=xs.length->I i ρ n->qc8 gf bw (r.map f) ρ n Q:=by
  intro r
  induction r with
  | nil=>
   intro i ρ n e hi h
   have:i=xs.length:=by
    have:=congrArg List.length e
    simp at this;omega
   subst this
   exact k ρ n h
  | cons x r ih=>
   intro i ρ n e hi h
   have hl:i < xs.length:=by
    have:=congrArg List.length e
    simp at this;omega
   have e':=List.drop_eq_getElem_cons hl
   rw [e] at e'
   injection e' with e1 e2
   obtain ⟨bs,h1,h2⟩:=hs i x ρ n (by rw [List.getElem?_eq_getElem hl,e1]) h
   refine ⟨bs,h1,mono.h _ _ _ _ h2 fun o m h=>?_⟩
   cases o with
   | nx ρ'=>exact ih (i+1) ρ' m e2.symm hl h
   | ct ρ'=>exact ih (i+1) ρ' m e2.symm hl h
   | bk ρ'=>exact h
   | rt d b=>exact h
 exact key xs 0 ρ n (by simp) (Nat.zero_le _) h0
theorem qbK {gf:PyData->Option (List (Nat×PyData))} {cw:Rho->Nat->(Bool->Nat->Prop)->Prop} {ew:Rho->Nat->QD->Prop} {α β:Type} {f:α->PyData} {gd:β->PyData} {ρ:Rho} (R:β->Prop) (c:Nat) (N:Nat):∀ (xs:List α) (n:Nat) (Q:List PyData->Nat->Prop),
  (∀ x∈xs,∀ n Q,n+c<=N->(∀ b,R b->Q (gd b) (n+c))->∃ bs,gf (f x)=some bs/\cw (QS ρ bs) n fun k n1=>if k then ew (QS ρ bs) n1 Q else False) ->
  MnE ew->MnC cw->n+c * xs.length<=N->(∀ bs:List β,bs.length=xs.length->(∀ b∈bs,R b)->Q (bs.map gd) (n+c * xs.length))->lcW gf cw ew ρ (xs.map f) n Q
 | [],n,Q,_,_,_,_,h=>h [] rfl (by simp)
 | x :: xs,n,Q,hx,me,mc,hn,h=>by
  have hc:c * (xs.length+1)=c * xs.length+c:=by rw [Nat.mul_succ]
  simp only [List.length_cons] at hn h
  obtain ⟨bs,h1,h2⟩:=hx x (by simp) n (fun y n2=>lcW gf cw ew ρ (xs.map f) n2 fun ys n3=>Q (y :: ys) n3) (by omega) fun b hb=>by
   refine qbK R c N xs (n+c) _ (fun z hz=>hx z (by simp [hz])) me mc (by omega) fun cs hl hr=>?_
   have:=h (b :: cs) (by simp [hl]) (by intro z hz;rcases List.mem_cons.mp hz with rfl | hz;exact hb;exact hr z hz)
   rw [show n+c * (xs.length+1)=n+c+c * xs.length by omega] at this
   exact this
  refine ⟨bs,h1,mc.h _ _ _ _ h2 fun k m hk=>?_⟩
  cases k with
  | true=>exact hk
  | false=>exact hk.elim
end
theorem qaW {α β:Type} {x:α} {f:α->Option β}:(some x).bind f=f x:=id rfl
theorem qfE {α β:Type} {x:α} {f:α->β}:(some x).map f=some (f x):=id rfl
theorem qlM {α:Type} {x:α} {r:List α}:(x :: r).length=r.length+1:=id rfl
theorem ql3 {α:Type}:([]:List α).length=0:=id rfl
theorem qku {α:Type} {x y:α} {r:List α}:(x :: r).set 0 y=y :: r:=id rfl
theorem qmi {α:Type} {x y:α} {r:List α} {i:Nat}:(x :: r).set (i+1) y=x :: r.set i y:=id rfl
theorem qnv {α:Type} {r:List α}:r++[]=r:=List.append_nil r
theorem qlg {α:Type} {x:α} {r s:List α}:(x :: r)++s=x :: (r++s):=id rfl
theorem qi1 {α:Type} {s:List α}:[]++s=s:=id rfl
theorem qjo {n:Nat}:0+n=n:=Nat.zero_add n
theorem qiH {p:Prop}:(True/\p)=p:=true_and p
theorem qkA {α:Type} {a b:α} {i:Decidable True}:@ite α True i a b=a:=if_pos trivial
theorem qlG {α:Type} {a b:α} {i:Decidable False}:@ite α False i a b=b:=if_neg not_false
theorem qjL:(false=true)=False:=Bool.false_eq_true
theorem qk0:(!true)=false:=id rfl
theorem qjC:(!false)=true:=id rfl
theorem qm5 {i:Decidable True}:@decide True i=true:=decide_true i
theorem qla {i:Decidable False}:@decide False i=false:=decide_false i
theorem qlW {b:Bool}:(b && true)=b:=Bool.and_true b
theorem qkQ {b:Bool}:(true && b)=b:=Bool.true_and b
theorem qkr {b:Bool}:(false && b)=false:=Bool.false_and b
theorem qmV {b:Bool}:(b && false)=false:=Bool.and_false b
theorem pwA:type_of% (And.intro (And.intro (And.intro (And.intro (And.intro (And.intro (And.intro @Pu.qiU (And.intro @Pu.qj5 @Pu.qmv)) (And.intro @Pu.qjD (And.intro @Pu.qqn @Pu.qbm))) (And.intro (And.intro @Pu.qeM (And.intro @Pu.qjB @Pu.qnk)) (And.intro @Pu.qef (And.intro @Pu.qfn @Pu.qp5)))) (And.intro (And.intro (And.intro @Pu.qe3 (And.intro @Pu.qfq @Pu.qjg)) (And.intro @Pu.qbn (And.intro @Pu.qfC @Pu.qlo))) (And.intro (And.intro @Pu.qgn (And.intro @Pu.qcj @Pu.qfZ)) (And.intro (And.intro @Pu.qgg @Pu.qfi) (And.intro @Pu.qk5 @Pu.qed))))) (And.intro (And.intro (And.intro (And.intro @Pu.qfN (And.intro @Pu.qfS @Pu.qaZ)) (And.intro @Pu.qbL (And.intro @Pu.NU @Pu.qlP))) (And.intro (And.intro @Pu.qbu (And.intro @Pu.qfK @Pu.qeP)) (And.intro (And.intro @Pu.qgt @Pu.qj3) (And.intro @Pu.qqo @Pu.qeG)))) (And.intro (And.intro (And.intro @Pu.qkx (And.intro @Pu.qfg @Pu.qeZ)) (And.intro @Pu.qqu (And.intro @Pu.qeH @Pu.qca))) (And.intro (And.intro @Pu.qfX (And.intro @Pu.qgd @Pu.qcv)) (And.intro (And.intro @Pu.qma @Pu.qe9) (And.intro @Pu.qjH @Pu.qfa)))))) (And.intro (And.intro (And.intro (And.intro (And.intro @Pu.qmJ (And.intro @Pu.qbY @Pu.qbZ)) (And.intro @Pu.qkZ (And.intro @Pu.qey @Pu.qjl))) (And.intro (And.intro @Pu.qen (And.intro @Pu.qkE @Pu.ql5)) (And.intro @Pu.qlC (And.intro @Pu.qbI @Pu.qbz)))) (And.intro (And.intro (And.intro @Pu.qb8 (And.intro @Pu.qk6 @Pu.qeU)) (And.intro @Pu.qgm (And.intro @Pu.qe6 @Pu.qet))) (And.intro (And.intro @Pu.qfe (And.intro @Pu.qcg @Pu.qbp)) (And.intro (And.intro @Pu.qcO @Pu.qiL) (And.intro @Pu.qj4 @Pu.qiX))))) (And.intro (And.intro (And.intro (And.intro @Pu.qfv (And.intro @Pu.qcn @Pu.qaV)) (And.intro @Pu.qfc (And.intro @Pu.qcF @Pu.qeD))) (And.intro (And.intro @Pu.qeJ (And.intro @Pu.qfL @Pu.qb1)) (And.intro (And.intro @Pu.qcw @Pu.NM) (And.intro @Pu.qa2 @Pu.qpX)))) (And.intro (And.intro (And.intro @Pu.qgq (And.intro @Pu.qaS @Pu.qfp)) (And.intro @Pu.qbh (And.intro @Pu.qf7 @Pu.qjW))) (And.intro (And.intro @Pu.qe1 (And.intro @Pu.qbX @Pu.qem)) (And.intro (And.intro @Pu.qcs @Pu.qfB) (And.intro @Pu.qfD @Pu.qeh))))))) (And.intro (And.intro (And.intro (And.intro (And.intro (And.intro @Pu.qeb (And.intro @Pu.qgr @Pu.qcC)) (And.intro @Pu.qlu (And.intro @Pu.qcc @Pu.qbk))) (And.intro (And.intro @Pu.NK (And.intro @Pu.NA @Pu.NZ)) (And.intro @Pu.qf3 (And.intro @Pu.qbG @Pu.qbQ)))) (And.intro (And.intro (And.intro @Pu.qcL (And.intro @Pu.qa0 @Pu.qb7)) (And.intro @Pu.NP (And.intro @Pu.qex @Pu.qpS))) (And.intro (And.intro @Pu.qqw (And.intro @Pu.qlf @Pu.qkO)) (And.intro (And.intro @Pu.qkF @Pu.qbv) (And.intro @Pu.qei @Pu.qlc))))) (And.intro (And.intro (And.intro (And.intro @Pu.qmN (And.intro @Pu.at0 @Pu.at1)) (And.intro @Pu.at2 (And.intro @Pu.at3 @Pu.at4))) (And.intro (And.intro @Pu.at5 (And.intro @Pu.eqS @Pu.eqI)) (And.intro (And.intro @Pu.qiA @Pu.qi7) (And.intro @Pu.qp7 @Pu.qf4)))) (And.intro (And.intro (And.intro @Pu.qfW (And.intro @Pu.qeg @Pu.qck)) (And.intro @Pu.qf2 (And.intro @Pu.qnd @Pu.qlt))) (And.intro (And.intro @Pu.qm9 (And.intro @Pu.qep @Pu.qfO)) (And.intro (And.intro @Pu.qfb @Pu.qeS) (And.intro @Pu.LG @Pu.qf6)))))) (And.intro (And.intro (And.intro (And.intro (And.intro @Pu.qeX (And.intro @Pu.qko @Pu.qnr)) (And.intro @Pu.qjd (And.intro @Pu.qlZ @Pu.qmS))) (And.intro (And.intro @Pu.qjm (And.intro @Pu.qgo @Pu.qm4)) (And.intro @Pu.qkM (And.intro @Pu.qm7 @Pu.qhT)))) (And.intro (And.intro (And.intro @Pu.qfM (And.intro @Pu.qkt @Pu.qi6)) (And.intro @Pu.qqh (And.intro @Pu.qp2 @Pu.qp6))) (And.intro (And.intro @Pu.qje (And.intro @Pu.qlE @Pu.qmf)) (And.intro (And.intro @Pu.qmt @Pu.ql8) (And.intro @Pu.qp3 @Pu.qer))))) (And.intro (And.intro (And.intro (And.intro @Pu.qfo (And.intro @Pu.qf8 @Pu.qfA)) (And.intro @Pu.qmF (And.intro @Pu.qaW @Pu.qfE))) (And.intro (And.intro @Pu.qlM (And.intro @Pu.ql3 @Pu.qku)) (And.intro (And.intro @Pu.qmi @Pu.qnv) (And.intro @Pu.qlg @Pu.qi1)))) (And.intro (And.intro (And.intro @Pu.qjo (And.intro @Pu.qiH @Pu.qkA)) (And.intro @Pu.qlG (And.intro @Pu.qjL @Pu.qk0))) (And.intro (And.intro @Pu.qjC (And.intro @Pu.qm5 @Pu.qla)) (And.intro (And.intro @Pu.qlW @Pu.qkQ) (And.intro @Pu.qkr @Pu.qmV)))))))):=(And.intro (And.intro (And.intro (And.intro (And.intro (And.intro (And.intro @Pu.qiU (And.intro @Pu.qj5 @Pu.qmv)) (And.intro @Pu.qjD (And.intro @Pu.qqn @Pu.qbm))) (And.intro (And.intro @Pu.qeM (And.intro @Pu.qjB @Pu.qnk)) (And.intro @Pu.qef (And.intro @Pu.qfn @Pu.qp5)))) (And.intro (And.intro (And.intro @Pu.qe3 (And.intro @Pu.qfq @Pu.qjg)) (And.intro @Pu.qbn (And.intro @Pu.qfC @Pu.qlo))) (And.intro (And.intro @Pu.qgn (And.intro @Pu.qcj @Pu.qfZ)) (And.intro (And.intro @Pu.qgg @Pu.qfi) (And.intro @Pu.qk5 @Pu.qed))))) (And.intro (And.intro (And.intro (And.intro @Pu.qfN (And.intro @Pu.qfS @Pu.qaZ)) (And.intro @Pu.qbL (And.intro @Pu.NU @Pu.qlP))) (And.intro (And.intro @Pu.qbu (And.intro @Pu.qfK @Pu.qeP)) (And.intro (And.intro @Pu.qgt @Pu.qj3) (And.intro @Pu.qqo @Pu.qeG)))) (And.intro (And.intro (And.intro @Pu.qkx (And.intro @Pu.qfg @Pu.qeZ)) (And.intro @Pu.qqu (And.intro @Pu.qeH @Pu.qca))) (And.intro (And.intro @Pu.qfX (And.intro @Pu.qgd @Pu.qcv)) (And.intro (And.intro @Pu.qma @Pu.qe9) (And.intro @Pu.qjH @Pu.qfa)))))) (And.intro (And.intro (And.intro (And.intro (And.intro @Pu.qmJ (And.intro @Pu.qbY @Pu.qbZ)) (And.intro @Pu.qkZ (And.intro @Pu.qey @Pu.qjl))) (And.intro (And.intro @Pu.qen (And.intro @Pu.qkE @Pu.ql5)) (And.intro @Pu.qlC (And.intro @Pu.qbI @Pu.qbz)))) (And.intro (And.intro (And.intro @Pu.qb8 (And.intro @Pu.qk6 @Pu.qeU)) (And.intro @Pu.qgm (And.intro @Pu.qe6 @Pu.qet))) (And.intro (And.intro @Pu.qfe (And.intro @Pu.qcg @Pu.qbp)) (And.intro (And.intro @Pu.qcO @Pu.qiL) (And.intro @Pu.qj4 @Pu.qiX))))) (And.intro (And.intro (And.intro (And.intro @Pu.qfv (And.intro @Pu.qcn @Pu.qaV)) (And.intro @Pu.qfc (And.intro @Pu.qcF @Pu.qeD))) (And.intro (And.intro @Pu.qeJ (And.intro @Pu.qfL @Pu.qb1)) (And.intro (And.intro @Pu.qcw @Pu.NM) (And.intro @Pu.qa2 @Pu.qpX)))) (And.intro (And.intro (And.intro @Pu.qgq (And.intro @Pu.qaS @Pu.qfp)) (And.intro @Pu.qbh (And.intro @Pu.qf7 @Pu.qjW))) (And.intro (And.intro @Pu.qe1 (And.intro @Pu.qbX @Pu.qem)) (And.intro (And.intro @Pu.qcs @Pu.qfB) (And.intro @Pu.qfD @Pu.qeh))))))) (And.intro (And.intro (And.intro (And.intro (And.intro (And.intro @Pu.qeb (And.intro @Pu.qgr @Pu.qcC)) (And.intro @Pu.qlu (And.intro @Pu.qcc @Pu.qbk))) (And.intro (And.intro @Pu.NK (And.intro @Pu.NA @Pu.NZ)) (And.intro @Pu.qf3 (And.intro @Pu.qbG @Pu.qbQ)))) (And.intro (And.intro (And.intro @Pu.qcL (And.intro @Pu.qa0 @Pu.qb7)) (And.intro @Pu.NP (And.intro @Pu.qex @Pu.qpS))) (And.intro (And.intro @Pu.qqw (And.intro @Pu.qlf @Pu.qkO)) (And.intro (And.intro @Pu.qkF @Pu.qbv) (And.intro @Pu.qei @Pu.qlc))))) (And.intro (And.intro (And.intro (And.intro @Pu.qmN (And.intro @Pu.at0 @Pu.at1)) (And.intro @Pu.at2 (And.intro @Pu.at3 @Pu.at4))) (And.intro (And.intro @Pu.at5 (And.intro @Pu.eqS @Pu.eqI)) (And.intro (And.intro @Pu.qiA @Pu.qi7) (And.intro @Pu.qp7 @Pu.qf4)))) (And.intro (And.intro (And.intro @Pu.qfW (And.intro @Pu.qeg @Pu.qck)) (And.intro @Pu.qf2 (And.intro @Pu.qnd @Pu.qlt))) (And.intro (And.intro @Pu.qm9 (And.intro @Pu.qep @Pu.qfO)) (And.intro (And.intro @Pu.qfb @Pu.qeS) (And.intro @Pu.LG @Pu.qf6)))))) (And.intro (And.intro (And.intro (And.intro (And.intro @Pu.qeX (And.intro @Pu.qko @Pu.qnr)) (And.intro @Pu.qjd (And.intro @Pu.qlZ @Pu.qmS))) (And.intro (And.intro @Pu.qjm (And.intro @Pu.qgo @Pu.qm4)) (And.intro @Pu.qkM (And.intro @Pu.qm7 @Pu.qhT)))) (And.intro (And.intro (And.intro @Pu.qfM (And.intro @Pu.qkt @Pu.qi6)) (And.intro @Pu.qqh (And.intro @Pu.qp2 @Pu.qp6))) (And.intro (And.intro @Pu.qje (And.intro @Pu.qlE @Pu.qmf)) (And.intro (And.intro @Pu.qmt @Pu.ql8) (And.intro @Pu.qp3 @Pu.qer))))) (And.intro (And.intro (And.intro (And.intro @Pu.qfo (And.intro @Pu.qf8 @Pu.qfA)) (And.intro @Pu.qmF (And.intro @Pu.qaW @Pu.qfE))) (And.intro (And.intro @Pu.qlM (And.intro @Pu.ql3 @Pu.qku)) (And.intro (And.intro @Pu.qmi @Pu.qnv) (And.intro @Pu.qlg @Pu.qi1)))) (And.intro (And.intro (And.intro @Pu.qjo (And.intro @Pu.qiH @Pu.qkA)) (And.intro @Pu.qlG (And.intro @Pu.qjL @Pu.qk0))) (And.intro (And.intro @Pu.qjC (And.intro @Pu.qm5 @Pu.qla)) (And.intro (And.intro @Pu.qlW @Pu.qkQ) (And.intro @Pu.qkr @Pu.qmV))))))))
end Pu
namespace Pu
open PySem L2 L3
open Bk (Lf Ext Dl Wk)
end Pu
namespace Pu
open PySem L2 L3
open Bk (Lf Ext Dl Wk)
def the (S:PyData->Prop):Option PyData:=@dite _ (∃ v,S v) (Classical.propDecidable _) (fun h=>some (Classical.choose h)) fun _=>none
end Pu
namespace Pu
open PySem L2 L3
open Bk (Lf Ext Dl Wk)
end Pu
namespace Pu
open PySem L2 L3
end Pu
namespace Pu
open PySem L2 L3
def Nr (o:Option Ot) (I:Rho->Prop) (P:PyData->Bool->Prop):Prop:=match o with
 | some (.nx ρ)=>I ρ
 | some (.ct ρ)=>I ρ
 | some (.rt d b)=>P d b
 | _=>False
theorem qoC {ρ:Rho} {I:Rho->Prop} {P:PyData->Bool->Prop}:Nr (some (.nx ρ)) I P=I ρ:=id rfl
theorem qm6 {d:PyData} {b:Bool} {I:Rho->Prop} {P:PyData->Bool->Prop}:Nr (some (.rt d b)) I P=P d b:=id rfl
def Tl (o:Option PyData) (P:PyData->Prop):Prop:=∃ d,o=some d/\P d
theorem LA {gf:PyData->Option (List (Nat×PyData))} {bf:Rho->Option Ot} {α:Type} {g:α->PyData} (I:Nat->Rho->Prop) (P:PyData->Bool->Prop):∀ (xs:List α) (i:Nat) {ρ:Rho},I i ρ ->
  (∀ j x ρ,xs[j]?=some x->I (i+j) ρ->Nr ((gf (g x)).bind fun bs=>bf (QS ρ bs)) (I (i+j+1)) P)->(∃ ρ',D6 gf bf (xs.map g) ρ=some (.nx ρ')/\I (i+xs.length) ρ')\/∃ d b,D6 gf bf (xs.map g) ρ=some (.rt d b)/\P d b
 | [],i,ρ,h0,_=>.inl ⟨ρ,rfl,h0⟩
 | x :: xs,i,ρ,h0,hs=>by
  have h1:=hs 0 x ρ rfl h0
  have go:∀ ρ',I (i+1) ρ'->(∃ ρ2,D6 gf bf (xs.map g) ρ'=some (.nx ρ2)/\I (i+(x :: xs).length) ρ2)\/∃ d b,D6 gf bf (xs.map g) ρ'=some (.rt d b)/\P d b:=fun ρ' h=>by
   have:=LA I P xs (i+1) h fun j y ρ2 hy hI=>by
    have q:=hs (j+1) y ρ2 hy (by rw [show i+(j+1)=i+1+j by omega];exact hI)
    rw [show i+(j+1)+1=i+1+j+1 by omega] at q;exact q
   rw [show i+1+xs.length=i+(x :: xs).length by simp;omega] at this
   exact this
  simp only [List.map_cons,D6]
  cases e:gf (g x) with
  | none=>rw [e] at h1;exact h1.elim
  | some bs=>
   rw [e] at h1
   simp only [Option.bind_some] at h1 ⊢
   cases e2:bf (QS ρ bs) with
   | none=>rw [e2] at h1;exact h1.elim
   | some o=>
    rw [e2] at h1
    cases o with
    | nx ρ'=>exact go ρ' h1
    | ct ρ'=>exact go ρ' h1
    | bk ρ'=>exact h1.elim
    | rt d b=>exact .inr ⟨d,b,rfl,h1⟩
theorem M7 {gf:PyData->Option (List (Nat×PyData))} {bf:Rho->Option Ot} {α:Type} {g:α->PyData} {ρ:Rho} {Q:Option Ot->Prop} {F:Ot->Option Ot} (xs:List α) (I:Nat->Rho->Prop) (P:PyData->Bool->Prop) (h0:I 0 ρ) (hs:∀ i x ρ,xs[i]?=some x->I i ρ->Nr ((gf (g x)).bind fun bs=>bf (QS ρ bs)) (I (i+1)) P) (k:∀ ρ',I xs.length ρ'->Q (F (.nx ρ'))) (kr:∀ d b,P d b->Q (F (.rt d b))):Q ((D6 gf bf (xs.map g) ρ).bind F):=by
 rcases LA (gf:=gf) (bf:=bf) (g:=g) I P xs 0 h0 (fun j x ρ hx hI=>by rw [Nat.zero_add] at hI ⊢;exact hs j x ρ hx hI) with ⟨ρ',e,h⟩ | ⟨d,b,e,h⟩
 ·rw [e];rw [Nat.zero_add] at h;exact k _ h
 ·rw [e];exact kr d b h
theorem qeL:∀ ks:List Int,qfr (ks.map PyData.int)=0
 | []=>rfl
 | k :: ks=>by simp only [List.map_cons,qfr,dpt,qeL ks];rfl
theorem qji:∀ ks js:List Int,YO (ks.map PyData.int) (js.map PyData.int)=some (decide (ks=js))
 | [],[]=>rfl
 | [],_ :: _=>by simp [YO]
 | _ :: _,[]=>by simp [YO]
 | k :: ks,j :: js=>by
  simp only [List.map_cons,YO,JC,qji ks js]
  congr 1
  by_cases h1:k=j <;> by_cases h2:ks=js <;> simp [h1,h2]
theorem qgV (n:Bool) (ks js:List Int):eqD n (.list (ks.map PyData.int)) (.list (js.map PyData.int))=some (.bool (if n then !decide (ks=js) else decide (ks=js))):=by
 have h:qc7 (.list (ks.map PyData.int)) (.list (js.map PyData.int))=none:=rfl
 unfold eqD
 rw [h]
 simp only
 rw [jq (by simp [dpt,qeL])]
 simp only [JC,qji,Option.map_some]
theorem qeo (n:Bool) (ks:List Int):eqD n (.list (ks.map PyData.int)) (.list [])=some (.bool (if n then !decide (ks=[]) else decide (ks=[]))):=qgV n ks []
theorem L0 {α:Type} (g:α->PyData) (xs:List α):∀ k,enD k (xs.map g)=(xs.zipIdx k).map fun p=>PyData.tuple [.int (p.2:Int),g p.1]:=by
 induction xs with
 | nil=>intro k;rfl
 | cons x xs ih=>intro k;simp only [List.map_cons,enD,List.zipIdx_cons,ih (k+1)]
theorem M6 {a m:Int} {n:Nat} (h:m∈QQ a n):a<=m/\m < a+n:=by
 unfold QQ at h
 obtain ⟨i,hi,rfl⟩:=List.mem_map.mp h
 have:=List.mem_range.mp hi
 omega
theorem DO {α:Type} {xs:List α} {i n:Nat} {x:α} (h:(xs.zipIdx 0)[i]?=some (x,n)):xs[i]?=some x/\n=i/\i < xs.length:=by
 rw [List.getElem?_zipIdx] at h
 obtain ⟨c,hc,e⟩:=Option.map_eq_some_iff.mp h
 simp only [Nat.zero_add,Prod.mk.injEq] at e
 obtain ⟨rfl,rfl⟩:=e
 exact ⟨hc,rfl,(List.getElem?_eq_some_iff.mp hc).1⟩
end Pu
namespace Pu
open PySem L2 L3
end Pu
namespace Pu
open PySem L2 L3
end Pu
namespace Pv
open PySem L2 L3 Pu
open Bk (Wk zS zi jy lnD lnA Un2 Fst faO qZ zl jQ)
theorem Q6 {lo:Int} {n i:Nat} {x:Int} (h:(QQ lo n)[i]?=some x):i < n/\x=lo+i:=by
 unfold QQ at h
 rw [List.getElem?_map] at h
 obtain ⟨k,e1,e2⟩:=Option.map_eq_some_iff.mp h
 obtain ⟨hl,hk⟩:=List.getElem?_eq_some_iff.mp e1
 simp at hl hk
 subst hk
 exact ⟨hl,e2.symm⟩
theorem VZ (lo:Int) (n:Nat):(QQ lo n).length=n:=by simp [QQ]
theorem qbW {lo:Int} {n i:Nat} (h:i < n):(QQ lo n)[i]?=some (lo+i):=by simp [QQ,h]
theorem W1 {d a:Int} {m:Nat} (hd:-1000<=d/\d<=1000) (ha:-1000<=a/\a<=1000) (hm:m<=10000):zP [.int d,.int a,.int m]=some (.list ((zS d a m).map pD)):=by
 rw [qcH]
 try simp only [Pu.pwA,WH]
 rw [jx (ds:=(QQ 0 m).map PyData.int) (fs:=(zS d a m).map pD)]
 ·try simp only [Pu.pwA]
 ·try simp (disch:=omega) only [Pu.pwA,qaQ,Int.toNat_natCast]
 ·have:zS d a m=(QQ 0 m).map fun i=>(i * d,i * a):=by simp [zS,QQ,List.map_map,Function.comp_def]
  rw [this,List.map_map]
  refine zu fun i hi=>?_
  try simp (disch:=omega) only [Pu.pwA,QW,qcG,Function.comp_def,pD]
 ·simp [zS];omega
def Big:Wk->Prop
 | .line k m=>k < 4/\m<=1000
 | .block h w=>h<=1000/\w<=1000
 | .step d a m=>(-1000<=d/\d<=1000)/\(-1000<=a/\a<=1000)/\m<=1000
 | .cells ps=>ps.length<=1000
theorem VS {w:Wk} (ok:Big w):qs [Wk.d w]=some (.list (w.pc.map pD)):=by
 cases w with
 | cells ps=>
  rw [J7]
  try simp only [Pu.pwA,jS,Wk.d,eq_self,Wk.pc]
 | block h v=>
  obtain ⟨h1,h2⟩:=ok
  rw [J7]
  try simp only [Pu.pwA,jS,Wk.d,eq_self,L3.UB,Wk.pc]
  rw [LZ (ds:=(QQ 0 h).map PyData.int) (fs:=(zi h v).map pD)]
  ·try simp only [Pu.pwA]
  ·try simp (disch:=omega) only [Pu.pwA,qaQ,Int.toNat_natCast]
  ·have:(zi h v).map pD=(QQ 0 h).flatMap fun p=>(QQ 0 v).map fun q=>pD (p,q):=by
    simp only [zi,QQ,List.map_flatMap,List.map_map,List.flatMap_map,Function.comp_def,Int.zero_add]
   rw [this]
   refine TB fun p hp=>?_
   try simp (disch:=omega) only [Pu.pwA,qcp,qaQ,Int.toNat_natCast]
   rw [zu (k:=fun q=>pD (p,q)) fun q hq=>?_]
   ·try simp only [Pu.pwA]
   ·try simp only [Pu.pwA,QW,pD]
  ·have:=Nat.mul_le_mul h1 h2
   rw [List.length_map,Bk.ji];omega
 | step d a m=>
  obtain ⟨h1,h2,h3⟩:=ok
  rw [J7]
  try simp only [Pu.pwA,jS,Wk.d,eq_self,L3.U5,L3.EN,Wk.pc,W1 h1 h2 (show m<=10000 by omega)]
 | line k m=>
  obtain ⟨h1,h2⟩:=ok
  have key:∀ (s:Str) (d a:Int),¬ s=Str.ofString "cells" -> ¬ s=Str.ofString "block" -> ¬ s=Str.ofString "step" -> (-1000<=d/\d<=1000)->(-1000<=a/\a<=1000)->(jO EQ s).bind tD=some (.tuple [.int d,.int a])->qs [.tuple [.str s,.int (m:Int)]]=some (.list ((zS d a m).map pD)):=by
   intro s d a n1 n2 n3 hd ha e
   rw [J7]
   try simp only [Pu.pwA,jS,n1,n2,n3,e,W1 (d:=d) (a:=a) (m:=m) hd ha (by omega)]
  have:(k=0\/k=1\/k=2\/k=3):=by omega
  rcases this with rfl | rfl | rfl | rfl
  ·exact key "row" 0 1 L3.LC L3.LI L3.MX (by decide) (by decide) rfl
  ·exact key "column" 1 0 L3.XT L3.X0 L3.C2 (by decide) (by decide) rfl
  ·exact key "slant" 1 1 L3.CV L3.CW L3.SC (by decide) (by decide) rfl
  ·exact key "back" 1 (-1) L3.SM L3.RZ L3.LF (by decide) (by decide) rfl
def faD (ns:List Int):PyData:=match faO ns with | some (i,j)=>.tuple [.int i,.int j] | none=>.none
theorem qqb {ns:List Int} {x:PyData} (hl:ns.length<=1000000) (h1:qff [x]=some (.int ns.length)) (h2:∀ i,ixD x (.int i)=L2.atI (ns.map PyData.int) i):qw [x]=some (faD ns):=by
 rw [CQ]
 have at':∀ i:Nat,i < ns.length->ixD x (.int (0+(i:Int)))=some (.int ((ns[i]?).getD 0)):=fun i hi=>by
  rw [h2,Int.zero_add,atN (by simpa using hi),List.getElem?_map,List.getElem?_eq_getElem hi];rfl
 have at2:∀ i j:Nat,i+1+j < ns.length->ixD x (.int (0+(i:Int)+1+(j:Int)))=some (.int ((ns[i+1+j]?).getD 0)):=fun i j hi=>by
  rw [h2,show (0+(i:Int)+1+(j:Int))=((i+1+j:Nat):Int) by omega,atN (by simpa using hi),List.getElem?_map,List.getElem?_eq_getElem hi];rfl
 have ne':∀ {a b:Nat},a < ns.length->b < ns.length->ns[a]?≠ns[b]?->(ns[a]?).getD 0≠(ns[b]?).getD 0:=fun {a b} ha hb hn e=>by
  rw [List.getElem?_eq_getElem ha,List.getElem?_eq_getElem hb] at hn e
  exact hn (congrArg some e)
 try simp (disch:=omega) only [Pu.pwA,QY,h1,qaQ,Int.toNat_natCast]
 have tn:∀ i:Nat,((ns.length:Int) - (0+(i:Int)+1)).toNat=ns.length - (i+1):=fun i=>by omega
 by_cases hu:Un2 ns ns.length
 ·refine XW (Q:=fun o=>Z5 false o=_) (QQ 0 ns.length) (fun _ ρ=>∃ s1 s2,ρ=[.sh x,s1,s2]) ⟨_,_,rfl⟩ ?_ ?_
  ·rintro i z ρ hz ⟨s1,s2,rfl⟩
   obtain ⟨hi,rfl⟩:=Q6 hz
   try simp (disch:=omega) only [Pu.pwA,h1,qe2,tn]
   refine SA (Q:=fun o=>Nx o _) _ (fun _ ρ=>∃ s3,ρ=[.sh x,.sh (.int (0+(i:Int))),s3]) ⟨_,rfl⟩ ?_ ?_
   ·rintro j z ρ hz ⟨s3,rfl⟩
    obtain ⟨hj,rfl⟩:=Q6 hz
    have hj2:i+1+j < ns.length:=by omega
    have:=ne' hi hj2 (hu i _ hi (by omega) hj2)
    try simp only [Pu.pwA,at' i hi,at2 i j hj2,this]
    exact ⟨_,rfl⟩
   ·rintro ρ ⟨s3,rfl⟩
    try simp only [Pu.pwA]
    exact ⟨_,_,rfl⟩
  ·rintro ρ ⟨s1,s2,rfl⟩
   try simp only [Pu.pwA,faD,zl hu]
 ·obtain ⟨i,j,F⟩:=jQ hu
  have hi:i < ns.length:=Nat.lt_trans F.ij F.jl
  have jl:=F.jl
  have ij:=F.ij
  refine qcU (Q:=fun o=>Z5 false o=_) (QQ 0 ns.length) i (0+(i:Int)) (.tuple [.int i,.int j]) false (qbW hi) (fun _ ρ=>∃ s1 s2,ρ=[.sh x,s1,s2]) ⟨_,_,rfl⟩ ?_ ?_ ?_
  ·rintro k z ρ hk hz ⟨s1,s2,rfl⟩
   obtain ⟨hk2,rfl⟩:=Q6 hz
   try simp (disch:=omega) only [Pu.pwA,h1,qe2,tn]
   refine SA (Q:=fun o=>Nx o _) _ (fun _ ρ=>∃ s3,ρ=[.sh x,.sh (.int (0+(k:Int))),s3]) ⟨_,rfl⟩ ?_ ?_
   ·rintro l z ρ hz ⟨s3,rfl⟩
    obtain ⟨hj,rfl⟩:=Q6 hz
    have hj2:k+1+l < ns.length:=by omega
    have:=ne' hk2 hj2 (F.un k _ hk (by omega) hj2)
    try simp only [Pu.pwA,at' k hk2,at2 k l hj2,this]
    exact ⟨_,rfl⟩
   ·rintro ρ ⟨s3,rfl⟩
    try simp only [Pu.pwA]
    exact ⟨_,_,rfl⟩
  ·rintro ρ ⟨s1,s2,rfl⟩
   try simp (disch:=omega) only [Pu.pwA,h1,qe2,tn]
   refine DW (Q:=fun o=>o=_) _ (j - (i+1)) (0+(i:Int)+1+((j - (i+1):Nat):Int)) (.tuple [.int i,.int j]) false (qbW (by omega)) (fun _ ρ=>∃ s3,ρ=[.sh x,.sh (.int (0+(i:Int))),s3]) ⟨_,rfl⟩ ?_ ?_ rfl
   ·rintro l z ρ hl hz ⟨s3,rfl⟩
    obtain ⟨hj,rfl⟩:=Q6 hz
    have hj2:i+1+l < ns.length:=by omega
    have:=ne' hi hj2 (F.nb _ (by omega) (by omega))
    try simp only [Pu.pwA,at' i hi,at2 i l hj2,this]
    exact ⟨_,rfl⟩
   ·rintro ρ ⟨s3,rfl⟩
    have hj2:i+1+(j - (i+1)) < ns.length:=by omega
    have ej:i+1+(j - (i+1))=j:=by omega
    have e2:(ns[i]?).getD 0=(ns[i+1+(j - (i+1))]?).getD 0:=by rw [ej,F.eq]
    try simp only [Pu.pwA,at' i hi,at2 i _ hj2,e2]
    rw [show (0+(i:Int))=i by omega,show ((i:Int)+1+((j - (i+1):Nat):Int))=j by omega]
  ·try simp only [Pu.pwA,faD,qZ F]
theorem qiE {ns:List Int} (hl:ns.length<=1000000):qw [.tuple (ns.map PyData.int)]=some (faD ns):=qqb hl (by simp [qff]) fun _=>rfl
theorem qkW {ns:List Int} (hl:ns.length<=1000000):qw [.list (ns.map PyData.int)]=some (faD ns):=qqb hl (by simp [qff]) fun _=>rfl
end Pv
namespace Pv
open PySem L2 L3 Pu
open Bk (Wk Dl zS zi jy lnD lnA Un2 Fst faO qZ zl jQ)
theorem K5 {w:Wk} (ok:w.Ok):Big w:=by
 cases w with
 | line k m=>obtain ⟨h1,h2,h3⟩:=ok;exact ⟨h1,by omega⟩
 | block h v=>obtain ⟨h1,h2,h3,h4,h5⟩:=ok;exact ⟨by omega,by omega⟩
 | step d a m=>obtain ⟨h1,h2,h3,h4⟩:=ok;exact ⟨by omega,by omega,by omega⟩
 | cells ps=>have h:=ok.2.1;show ps.length<=1000;omega
def Pl:Dl->Prop
 | .skew ..=>True
 | .rests ..=>True
 | _=>False
def fA:Dl->Int
 | .skew _ _ _ x _=>x
 | .rests _ c _ _=>c
 | _=>0
def fB:Dl->Int
 | .skew _ _ _ _ y=>y
 | .rests ..=>1
 | _=>0
theorem qpt {d:Dl} (hp:Pl d) (ok:d.Ok):(0<=fA d/\fA d<=1000)/\(0<=fB d/\fB d<=1000)/\1<=d.B/\d.B<=1000:=by
 cases d <;> simp [Pl] at hp <;> simp [Dl.Ok] at ok <;> simp [fA,fB,Dl.B] <;> omega
def rst (B a b:Int) (cs:List (Int×Int)):List Int:=cs.map fun p=>(a * p.1+b * p.2) % B
theorem SX (B a b:Int) (cs:List (Int×Int)):(rst B a b cs).length=cs.length:=by simp [rst]
theorem RI {w:Wk} (ok:Big w):w.pc.length<=1000000:=by
 cases w with
 | line k m=>simp only [Wk.pc,zS,List.length_map,List.length_range];have:=ok.2;omega
 | block h v=>simp only [Wk.pc,Bk.ji];exact Nat.mul_le_mul ok.1 ok.2
 | step d a m=>simp only [Wk.pc,zS,List.length_map,List.length_range];have:=ok.2.2;omega
 | cells ps=>have:ps.length<=1000:=ok;simp only [Wk.pc];omega
theorem qp0 {B a b:Int} {w:Wk} (hB:1<=B) (ha:0<=a/\a<=1000) (hb:0<=b/\b<=1000) (ok:Big w):zh [.int B,.tuple [.int a,.int b],Wk.d w]=some (.tuple ((rst B a b w.pc).map PyData.int)):=by
 rw [MW]
 have hl:=RI ok
 try simp only [Pu.pwA,VR]
 rw [jx (ds:=w.pc.map pD) (fs:=(rst B a b w.pc).map PyData.int)]
 ·try simp only [Pu.pwA]
 ·try simp only [Pu.pwA,VS ok]
 ·rw [rst,List.map_map]
  refine zu fun p hp=>?_
  try simp (disch:=omega) only [Pu.pwA,QW,pD,YY,RM,Function.comp_def]
 ·simp [rst];omega
def unB (ns:List Int):Bool:=(faO ns).isNone
end Pv
namespace Pv
open PySem L2 L3 Pu
open Bk (Wk Dl zS zi jy lnD lnA Un2 Fst faO qZ zl jQ)
theorem qgB {ns:List Int}:unB ns=true ↔ Un2 ns ns.length:=by
 constructor
 ·intro h
  apply Classical.byContradiction
  intro hn
  obtain ⟨i,j,F⟩:=jQ hn
  unfold unB at h
  rw [qZ F] at h
  cases h
 ·intro h
  unfold unB
  rw [zl h]
  rfl
end Pv
namespace Pv
open PySem L2 L3 Pu
open Bk (Wk Dl zS zi jy lnD lnA Un2 Fst faO qZ zl jQ)
def szD (d:Dl):PyData:=.tuple [.int d.R,.int d.C,.int d.B]
theorem sh1 {n:Nat} (h:n<=1000):cI LN (fun i j=>i * 2 ^ j.toNat) (.int 1) (.int (n:Int))=some (.int (2 ^ n)):=by
 rw [qjn ⟨by omega,by omega,by decide⟩,Int.one_mul,Int.toNat_natCast]
theorem qlk:∀ (d:Dl) (j:Nat),d.dep < j->d.Ok->qq j [dlD d]=some (szD d)
 | .skew r c b x y,j+1,_,_=>by
  rw [JF]
  try simp only [Pu.pwA,QF,dlD,szD,Dl.R,Dl.C,Dl.B,L3.KT,L3.SB,L3.CK]
 | .rests r c b x,j+1,_,_=>by
  rw [JF]
  try simp only [Pu.pwA,QF,dlD,szD,Dl.R,Dl.C,Dl.B,L3.SD,L3.C4,L3.WY]
 | .bits h l ms,j+1,_,ok=>by
  obtain ⟨h1,h2,h3,_⟩:=ok
  rw [JF]
  try simp only [Pu.pwA,QF,dlD,szD,Dl.R,Dl.C,Dl.B,eq_self,List.length_map,sh1 (n:=h) (by omega),sh1 (n:=l) (by omega),sh1 (n:=ms.length) (by omega)]
 | .table b cells,j+1,_,ok=>by
  obtain ⟨h1,h2,h3,h4,c,h5,h6,h7⟩:=ok
  have e0:cells[0]?=some cells[0]:=List.getElem?_eq_getElem (by omega)
  have e1:L2.atI (cells.map qjr) 0=some (qjr cells[0]):=by
   have:=atN (xs:=cells.map qjr) (k:=0) (by simp;omega)
   rw [List.getElem?_map,e0] at this
   exact this
  rw [JF]
  try simp only [Pu.pwA,QF,dlD,szD,Dl.R,Dl.C,Dl.B,eq_self,L3.SU,List.length_map,e1,qjr,e0,Option.getD_some]
 | .joined d e,j+1,hd,ok=>by
  have hh:max d.dep e.dep+1 < j+1:=hd
  have r1:=qlk d j (by omega) ok.1
  have r2:=qlk e j (by omega) ok.2.1
  have l1:=Dl.lims ok.1
  have l2:=Dl.lims ok.2.1
  have a1:=l1.r1;have a2:=l1.r2;have a3:=l1.c1;have a4:=l1.c2;have a5:=l1.b1;have a6:=l1.b2
  rw [JF]
  try simp (disch:=omega) only [Pu.pwA,QF,dlD,szD,Dl.R,Dl.C,Dl.B,eq_self,L3.CN,L3.X3,r1,r2,YY]
def dn (cs:List (Int×Int)):List Int:=cs.map fun p=>p.1
def al (cs:List (Int×Int)):List Int:=cs.map fun p=>p.2
def stI (R C:Int) (cs:List (Int×Int)):List (Int×Int):=(QQ (-(mn (dn cs))) (R - mx (dn cs) - -(mn (dn cs))).toNat).flatMap fun i=>(QQ (-(mn (al cs))) (C - mx (al cs) - -(mn (al cs))).toNat).map fun j=>(i,j)
theorem qdr {α β:Type} (xs:List α) (ys:List β) {γ:Type} (f:α->β->γ):(xs.flatMap fun a=>ys.map fun b=>f a b).length=xs.length * ys.length:=by
 induction xs with
 | nil=>simp
 | cons a r ih=>simp only [List.flatMap_cons,List.length_append,List.length_map,ih,List.length_cons,Nat.succ_mul];omega
structure Cb (cs:List (Int×Int)):Prop where
 ne:cs≠[]
 b:∀ p∈cs,(-1000000<=p.1/\p.1<=1000000)/\(-1000000<=p.2/\p.2<=1000000)
theorem Cb.lim {cs:List (Int×Int)} (h:Cb cs):(-1000000<=mn (dn cs)/\mn (dn cs)<=mx (dn cs)/\mx (dn cs)<=1000000)/\(-1000000<=mn (al cs)/\mn (al cs)<=mx (al cs)/\mx (al cs)<=1000000):=by
 have n1:dn cs≠[]:=by simp [dn,h.ne]
 have n2:al cs≠[]:=by simp [al,h.ne]
 have m1:=M0 n1;have m2:=M9 n1;have m3:=M0 n2;have m4:=M9 n2
 have l1:=qaJ m2;have l2:=qaJ m4
 have b1:∀ x∈dn cs,-1000000<=x/\x<=1000000:=fun x hx=>by
  obtain ⟨p,hp,rfl⟩:=List.mem_map.mp hx
  exact (h.b p hp).1
 have b2:∀ x∈al cs,-1000000<=x/\x<=1000000:=fun x hx=>by
  obtain ⟨p,hp,rfl⟩:=List.mem_map.mp hx
  exact (h.b p hp).2
 have:=b1 _ m1;have:=b1 _ m2;have:=b2 _ m3;have:=b2 _ m4
 omega
theorem qic {R C:Int} {cs:List (Int×Int)} (h:Cb cs) (hR:R<=4096) (hC:C<=4096):(stI R C cs).length<=16777216:=by
 obtain ⟨⟨h1,h2,h3⟩,⟨h4,h5,h6⟩⟩:=h.lim
 unfold stI
 rw [qdr,VZ,VZ]
 have a:(R - mx (dn cs) - -(mn (dn cs))).toNat<=4096:=by omega
 have b:(C - mx (al cs) - -(mn (al cs))).toNat<=4096:=by omega
 exact Nat.le_trans (Nat.mul_le_mul a b) (by decide)
theorem qqO {d:Dl} {w:Wk} {j:Nat} (hd:d.dep < j) (okd:d.Ok) (ok:Big w) (hc:Cb w.pc):ZU j [dlD d,Wk.d w]=some (.list ((stI d.R d.C w.pc).map pD)):=by
 have hl:=RI ok
 have l:=Dl.lims okd
 have:=l.r1;have:=l.r2;have:=l.c1;have:=l.c2
 obtain ⟨⟨h1,h2,h3⟩,⟨h4,h5,h6⟩⟩:=hc.lim
 rw [qcq]
 try simp only [Pu.pwA,WO,qlk d j hd okd,szD,VS ok]
 rw [jx (ds:=w.pc.map pD) (fs:=(dn w.pc).map PyData.int) rfl (by
  rw [dn,List.map_map]
  refine zu fun p hp=>?_
  try simp only [Pu.pwA,QW,pD,Function.comp_def]) (by simp [dn];omega)]
 try simp only [Pu.pwA]
 rw [jx (ds:=w.pc.map pD) (fs:=(al w.pc).map PyData.int) rfl (by
  rw [al,List.map_map]
  refine zu fun p hp=>?_
  try simp only [Pu.pwA,QW,pD,Function.comp_def]) (by simp [al];omega)]
 try simp only [Pu.pwA]
 have n1:dn w.pc≠[]:=by simp [dn,hc.ne]
 have n2:al w.pc≠[]:=by simp [al,hc.ne]
 rw [LZ (ds:=(QQ (-(mn (dn w.pc))) (d.R - mx (dn w.pc) - -(mn (dn w.pc))).toNat).map PyData.int) (fs:=(stI d.R d.C w.pc).map pD)]
 ·try simp only [Pu.pwA]
 ·try simp (disch:=omega) only [Pu.pwA,qdM n1,qd8 n1,qe2]
 ·have:(stI d.R d.C w.pc).map pD=(QQ (-(mn (dn w.pc))) (d.R - mx (dn w.pc) - -(mn (dn w.pc))).toNat).flatMap fun i=>(QQ (-(mn (al w.pc))) (d.C - mx (al w.pc) - -(mn (al w.pc))).toNat).map fun j=>pD (i,j):=by
   simp only [stI,List.map_flatMap,List.map_map,Function.comp_def]
  rw [this]
  refine TB fun i hi=>?_
  try simp (disch:=omega) only [Pu.pwA,qcp,qdM n2,qd8 n2,qe2]
  rw [zu (k:=fun q=>pD (i,q)) fun q hq=>?_]
  ·try simp only [Pu.pwA]
  ·try simp only [Pu.pwA,QW,pD]
 ·rw [List.length_map];exact qic hc l.r2 l.c2
end Pv
namespace Pv
open PySem L2 L3 Pu
end Pv
namespace Pv
open PySem L2 L3 Pu
open Bk (Dl)
end Pv
namespace Pv
open PySem L2 L3 Pu
open Bk (Dl)
end Pv
namespace Pv
open PySem L2 L3 Pu
open Bk (Dl)
end Pv
namespace Hd
open PySem L2 L3 PySem.W
def oF (x:Str) (st:Stmt) (pm cd:Value):Obj:=⟨.type "function",none,.func (PySem.W.fnOf x x (YA st) (jL st) (qi st) .none .none .none pm none cd .none),#[]⟩
def oG (x:Str) (st:Stmt):Obj:=⟨.none,none,.func { name:=x,qualname:=x,params:=YA st,body:=.stmts (jL st),scope:=qi st,globals:=0,closure:=[],defaults:=.none,kwdefaults:=.none },#[]⟩
def oC (vs:List Value):Obj:=⟨.type "code",none,.fields vs.toArray,#[]⟩
def oT (vs:List Value):Obj:=⟨.type "tuple",none,.seq vs.toArray 0,#[]⟩
def eD (P:Params):Value×Value->DictEntry
 | (.str x t,v)=>⟨PyData.keyHash P x,.str x t,v⟩
 | (u,v)=>⟨0,u,v⟩
def oD (P:Params) (n:Nat) (es:List (Value×Value)):Obj:=⟨.type "dict",none,.dict (es.map (eD P)).toArray n,#[]⟩
def oK (x:Str) (t l n m:Nat) (a b:Addr) (u v z:Value) (e y q:Nat):Obj:=oC [.str x t,.str x (t+1),.str "/claim/cut.py" (t+2),.int l 0,.int n 0,.int 0 0,.int 0 0,.int 3 0,.ref a,.bool true,.int m 0,.ref b,u,v,z,.ref e,.int y 0,.int l 0,.str "/claim/cut.py" q]
def nmV:List Str->Nat->List Value
 | [],_=>[]
 | x :: r,t=>.str x t :: nmV r (t+1)
def oN (xs:List Str) (t:Nat):Obj:=oT (nmV xs t)
abbrev nd (o:Obj) (l r:PySem.W.BT):PySem.W.BT:=.node o l r
abbrev lf (o:Obj):PySem.W.BT:=.node o .nil .nil
theorem zG {K:PySem.W.Frag} (x:Str) (st:Stmt) (f:Addr) (pm cd:Value) (l:K.lookup f=some (oF x st pm cd)) (c:PySem.W.codeIn K cd x=true) (k:PySem.W.keepIn K (.ref f)=true) :
  Fun K x x st f (PySem.W.fnOf x x (YA st) (jL st) (qi st) .none .none .none pm none cd .none):=qly l c k
theorem zy {K:PySem.W.Frag} {h:Heap} {mg:Str->Option Value} (X:K.In h) (G:h.Ns mainGlobals mg) (n:Str) (v:Value) (e:PySem.W.nsIn K mainGlobals n=some (some v)):mg n=some v:=PySem.W.mg_of X G e
theorem V8 {K:PySem.W.Frag} {h:Heap} {mg:Str->Option Value} (X:K.In h) (G:h.Ns mainGlobals mg) (n:Str) (e:PySem.W.nsIn K mainGlobals n=some none):mg n=none:=PySem.W.mg_none_of X G e
theorem head {l:OpenLaw} {q:Program} {loose:List Str} {K:Params->Frag} {as:List Addr} {d:DefRec} {N:Nat} {k:Nat} {x:Str} (ha:∀ P,as=(K P).map (·.1))
  (ok:l.wellSaid=true)
  (left:LeftO l.prog q loose (fun s=>xlAt q [] s && recOk [] s) (fun s=>as.map s.heap.get?) (fun w=>(K w.params).map fun p=>some p.2) N)
  (hdef:defOf q l.name=some (d,[])) (hp:l.prog.theDef l.name=some (d.params,d.body,d.scope)) (hk:kwWritten? d.params.kwonlyargs d.params.kw_defaults=some [])
  (hwr:(!l.row.writes || l.row.records.isEmpty)=true) (ok2:(chainsOk q && opensWell l.prog && (frees l.row.toRowW && l.row.within.isEmpty))=true) (hb:l.prog.bare) (hw:l.row.toRowW.promised)
  (hn:l.most=some 63) (hdf:d.params.defaults=[]) (hr:Room k callerA) (hK:∀ w:World,EX (K w.params)=true)
  (F:∀ (w:World) (mg:Str->Option Value) (fa:Addr) (h:Heap),(K w.params).In h->h.Ns mainGlobals mg->mg d.name=some (.ref fa) ->
   ∃ fd:FuncData,(∀ (s:Shared) (u:Value),BindsTo s fd ⟨[u],[]⟩ [(x,u)])/\∀ base:Heap,(K w.params).In base->base.Ns mainGlobals mg->FnOk l.prog w (K w.params) mg base CX0 k fa fd [x] (lSp (K w.params) RK)):l.Holds:=by
 refine holds_law ok fun said=>?_
 exact holds_open (q:=q) (loose:=loose) (Xt:=fun s=>xlAt q [] s && recOk [] s) (XP:=XL q []) (Yf:=Hook.obs (kHook K as ha)) (Ya:=Hook.val (kHook K as ha)) (YP:=Hook.says (kHook K as ha)) (N:=N) left
  (Hook.of (kHook K as ha)) (Hook.keeps (kHook K as ha)) (fun s e=>xl_of s (Bool.and_eq_true_iff.mp e).1) XL.keeps hdef hp hk (fun s e=>recFacts_of (Bool.and_eq_true_iff.mp e).2) hwr said ok2 hb hw
  (L3.qoz (l:=l) (k:=k) (x:=x) hn hdf hr (fun w h Y=>kIn_of Y) hK F)
end Hd
namespace K92
open PySem L2 L3 Bk
def top (i : Nat) : Stmt := PySem.Challenge.pw_bankwalk_k92_whole_skews_or_bars.main.body.getD i (.Pass ⟨0,0,0,0⟩)
variable {P:Program} {w:World} {K:PySem.W.Frag} {mg:Str->Option Value} {base:Heap} {f:Addr} {fd:FuncData} {k:Nat} {sp:Sp3}
abbrev QE:Stmt:=top 1
abbrev J4:List Str:=["thing"]
abbrev UG:List Str:=["thing"]
theorem KN:FnScope J4 UG (qi QE):=⟨rfl,rfl,rfl,by decide +kernel,rfl,by decide +kernel,by decide +kernel⟩
theorem TY (F:Fun K "is_number" "is_number" QE f fd) (bd:zn K fd UG []) (hm:mg "is_number" = some (.ref f))  (m_isinstance:mg "isinstance" = none) (m_bool:mg "bool" = none) (m_int:mg "int" = none)
  (read:Rd sp 1 (Bk.YD) J4):Fn3 P w K mg base (k+1) "is_number" sp:=
 qC (t3:=(Bk.YD)) F KN bd hm (fun cdv A outer s H E hr=>(qk (qo (QT (JO (qb 0) rfl m_isinstance rfl m_int PyProof.Rows.boot_int) (YJ (qes (JO (qb 0) rfl m_isinstance rfl m_bool PyProof.Rows.boot_bool))))))) read
abbrev JQ:Stmt:=top 2
abbrev JG:List Str:=["thing"]
abbrev XH:List Str:=["thing"]
theorem N6:FnScope JG XH (qi JQ):=⟨rfl,rfl,rfl,by decide +kernel,rfl,by decide +kernel,by decide +kernel⟩
theorem qaC {S_is_number:Sp3} (F:Fun K "is_pair" "is_pair" JQ f fd) (bd:zn K fd XH []) (hm:mg "is_pair" = some (.ref f)) (qG:Fn3 P w K mg base k "is_number" S_is_number) (m_len:mg "len" = none) (m_isinstance:mg "isinstance" = none) (m_tuple:mg "tuple" = none)
  (read:Rd sp 1 (Bk.US S_is_number) JG):Fn3 P w K mg base (k+1) "is_pair" sp:=
 qC (t3:=(Bk.US S_is_number)) F N6 bd hm (fun cdv A outer s H E hr=>(qk (qo (QT (JO (qb 0) rfl m_isinstance rfl m_tuple PyProof.Rows.boot_tuple) (QT (QV (zk hr.units) qL (qy zq zW rfl m_len PySem.boot_len (qa (qb 0) qd)) qe (qz _)) (QT (qh qG hr rfl (qa (qu (qb 0) qe) qd)) (YJ (qh qG hr rfl (qa (qu (qb 0) qe) qd))))))))) read
abbrev zo:Stmt:=top 3
abbrev zE:List Str:=["thing","end"]
abbrev jT:List Str:=["thing","end"]
theorem U1:FnScope zE jT (qi zo):=⟨rfl,rfl,rfl,by decide +kernel,rfl,by decide +kernel,by decide +kernel⟩
def jd (S_is_number:Sp3):TS3:=(za (QJ (cb3 S_is_number (qc (v3 0) qj)) (ch3 (iB fun i j=>decide (i<=j)) (iB fun i j=>decide (i < j)) (c3 (.int 0)) (v3 0) (v3 1))))
theorem UX {S_is_number:Sp3} (F:Fun K "is_number_below" "is_number_below" zo f fd) (bd:zn K fd jT []) (hm:mg "is_number_below" = some (.ref f)) (qG:Fn3 P w K mg base k "is_number" S_is_number) 
  (read:Rd sp 2 (jd S_is_number) zE):Fn3 P w K mg base (k+1) "is_number_below" sp:=
 qC (t3:=(jd S_is_number)) F U1 bd hm (fun cdv A outer s H E hr=>(qk (qo (QT (qh qG hr rfl (qa (qb 0) qd)) (YJ (S8 qbq ZC KW ZC qe (qb 0) (qb 1))))))) read
abbrev jj:Stmt:=top 4
abbrev ER:List Str:=["things","k","l"]
abbrev JX:List Str:=["things"]
theorem Z8:FnScope ER JX (qi jj):=⟨rfl,rfl,rfl,by decide +kernel,rfl,by decide +kernel,by decide +kernel⟩
theorem C0 (F:Fun K "first_alike" "first_alike" jj f fd) (bd:zn K fd JX []) (hm:mg "first_alike" = some (.ref f))  (m_len:mg "len" = none) (m_range:mg "range" = none)
  (read:Rd sp 1 (Bk.QZ) ER):Fn3 P w K mg base (k+1) "first_alike" sp:=
 qC (t3:=(Bk.QZ)) F Z8 bd hm (fun cdv A outer s H E hr=>(qg (JN PassesOwn.never rfl (zB rfl m_range (qa (qy zq zW rfl m_len PySem.boot_len (qa (qb 0) qd)) qd) (h1:=by intro _ _ _ h;simpa [qc,qj] using h)) (qv (i:=1) (Z8.nd)) (qk (JN PassesOwn.never rfl (VF rfl m_range (qa (qK (qb 1) qe) (qa (qy zq zW rfl m_len PySem.boot_len (qa (qb 0) qd)) qd)) (h1:=by intro _ _ _ h;simpa [qc,qj] using h)) (qv (i:=2) (Z8.nd)) (qk (zA (qJ (zk hr.units) qL (qu (qb 0) (qb 1)) (qu (qb 0) (qb 2)) (qz _)) (qk (qo (qW (qa (qb 1) (qa (qb 2) qd))))) qM))))) (qk (qo JT)))) read
abbrev j2:Stmt:=top 5
abbrev jR:List Str:=["things","k","l"]
abbrev UK:List Str:=["things","k","l"]
theorem KA:FnScope jR UK (qi j2):=⟨rfl,rfl,rfl,by decide +kernel,rfl,by decide +kernel,by decide +kernel⟩
def YE (S_is_number_below:Sp3):TS3:=(qS (jt (or3 (K7 (tb3 (cb3 S_is_number_below (qc (v3 1) (qc (cb3 DY (qc (v3 0) qj)) qj))))) (K7 (tb3 (cb3 S_is_number_below (qc (v3 2) (qc (cb3 DY (qc (v3 0) qj)) qj)))))) (za (c3 (.bl false))) qO) (za (QJ (o3 (iB fun i j=>decide (i < j)) (v3 1) (v3 2)) (o3 (jM false) (o3 ix3 (v3 0) (v3 1)) (o3 ix3 (v3 0) (v3 2))))))
theorem KU {S_is_number_below:Sp3} (F:Fun K "are_alike" "are_alike" j2 f fd) (bd:zn K fd UK []) (hm:mg "are_alike" = some (.ref f)) (qm:Fn3 P w K mg base k "is_number_below" S_is_number_below) (m_len:mg "len" = none)
  (read:Rd sp 3 (YE S_is_number_below) jR):Fn3 P w K mg base (k+1) "are_alike" sp:=
 qC (t3:=(YE S_is_number_below)) F KA bd hm (fun cdv A outer s H E hr=>(qg (zA (jpt (qag (V9 (JE (qh qm hr rfl (qa (qb 1) (qa (qy zq zW rfl m_len PySem.boot_len (qa (qb 0) qd)) qd))))) (RC (V9 (JE (qh qm hr rfl (qa (qb 2) (qa (qy zq zW rfl m_len PySem.boot_len (qa (qb 0) qd)) qd)))))))) (qk (qo VJ)) qM) (qk (qo (QT (QV KW ZC (qb 1) (qb 2) (qz _)) (YJ (QV (zk hr.units) qL (qu (qb 0) (qb 1)) (qu (qb 0) (qb 2)) (qz _)))))))) read
abbrev JK:Stmt:=top 10
abbrev XZ:List Str:=["dealing","kind","rows","columns","banks","other_rows","other_columns","other_banks"]
abbrev XU:List Str:=["dealing"]
theorem jz:FnScope XZ XU (qi JK):=⟨rfl,rfl,rfl,by decide +kernel,rfl,by decide +kernel,by decide +kernel⟩
theorem qam {S_size_of:Sp3} (F:Fun K "size_of" "size_of" JK f fd) (bd:zn K fd XU []) (hm:mg "size_of" = some (.ref f)) (qq:Fn3 P w K mg base k "size_of" S_size_of) (m_len:mg "len" = none)
  (read:Rd sp 1 (Bk.UU S_size_of) XZ):Fn3 P w K mg base (k+1) "size_of" sp:=
 qC (t3:=(Bk.UU S_size_of)) F jz bd hm (fun cdv A outer s H E hr=>(qg (zj 1 jz.nd (qu (qb 0) qe)) (qg (zA (qJ (zk hr.units) qL (qb 1) zr (qz _)) (qk (qo (qW (qa (qcr qe (qu (qb 0) qe)) (qa (qcr qe (qu (qb 0) qe)) (qa (qcr qe (qy zq zW rfl m_len PySem.boot_len (qa (qu (qb 0) qe) qd))) qd)))))) qM) (qg (zA (qJ (zk hr.units) qL (qb 1) zr (qz _)) (qk (qo (qW (qa (qy zq zW rfl m_len PySem.boot_len (qa (qu (qb 0) qe) qd)) (qa (qy zq zW rfl m_len PySem.boot_len (qa (qu (qu (qb 0) qe) qe) qd)) (qa (qu (qb 0) qe) qd)))))) qM) (qg (zA (qJ (zk hr.units) qL (qb 1) zr (qz _)) (qg (YL (qh qq hr rfl (qa (qu (qb 0) qe) qd)) (zR rfl (qp (qv (i:=2) (jz.nd)) (qp (qv (i:=3) (jz.nd)) (qp (qv (i:=4) (jz.nd)) zQ))))) (qg (YL (qh qq hr rfl (qa (qu (qb 0) qe) qd)) (zR rfl (qp (qv (i:=5) (jz.nd)) (qp (qv (i:=6) (jz.nd)) (qp (qv (i:=7) (jz.nd)) zQ))))) (qk (qo (qW (qa (zD (qb 2) (qb 5)) (qa (zD (qb 3) (qb 6)) (qa (zD (qb 4) (qb 7)) qd)))))))) qM) (qk (qo (qW (qa (qu (qb 0) qe) (qa (qu (qb 0) qe) (qa (qu (qb 0) qe) qd))))))))))) read
abbrev j7:Stmt:=top 11
abbrev ZI:List Str:=["dealing","word","rows","columns","banks"]
abbrev UD:List Str:=["dealing","word"]
theorem Z2:FnScope ZI UD (qi j7):=⟨rfl,rfl,rfl,by decide +kernel,rfl,by decide +kernel,by decide +kernel⟩
theorem K8 {S_size_of:Sp3} (F:Fun K "number_of" "number_of" j7 f fd) (bd:zn K fd UD []) (hm:mg "number_of" = some (.ref f)) (qq:Fn3 P w K mg base k "size_of" S_size_of) 
  (read:Rd sp 2 (Bk.J0 S_size_of) ZI):Fn3 P w K mg base (k+1) "number_of" sp:=
 qC (t3:=(Bk.J0 S_size_of)) F Z2 bd hm (fun cdv A outer s H E hr=>(qg (YL (qh qq hr rfl (qa (qb 0) qd)) (zR rfl (qp (qv (i:=2) (Z2.nd)) (qp (qv (i:=3) (Z2.nd)) (qp (qv (i:=4) (Z2.nd)) zQ))))) (qk (qo (qK (zD (qu (qb 1) qe) (qb 3)) (qu (qb 1) qe)))))) read
abbrev JR:Stmt:=top 12
abbrev VI:List Str:=["dealing","thing","rows","columns","banks"]
abbrev W4:List Str:=["dealing","thing"]
theorem V0:FnScope VI W4 (qi JR):=⟨rfl,rfl,rfl,by decide +kernel,rfl,by decide +kernel,by decide +kernel⟩
theorem qar {S_is_pair:Sp3} {S_size_of:Sp3} (F:Fun K "is_word" "is_word" JR f fd) (bd:zn K fd W4 []) (hm:mg "is_word" = some (.ref f)) (zF:Fn3 P w K mg base k "is_pair" S_is_pair) (qq:Fn3 P w K mg base k "size_of" S_size_of) 
  (read:Rd sp 2 (Bk.UZ S_is_pair S_size_of) VI):Fn3 P w K mg base (k+1) "is_word" sp:=
 qC (t3:=(Bk.UZ S_is_pair S_size_of)) F V0 bd hm (fun cdv A outer s H E hr=>(qg (zA (V9 (JE (qh zF hr rfl (qa (qb 1) qd)))) (qk (qo VJ)) qM) (qg (YL (qh qq hr rfl (qa (qb 0) qd)) (zR rfl (qp (qv (i:=2) (V0.nd)) (qp (qv (i:=3) (V0.nd)) (qp (qv (i:=4) (V0.nd)) zQ))))) (qk (qo (QT (S8 qbq ZC KW ZC qe (qu (qb 1) qe) (qb 2)) (YJ (S8 qbq ZC KW ZC qe (qu (qb 1) qe) (qb 3))))))))) read
abbrev QM:Stmt:=top 13
abbrev CB:List Str:=["number","mask","common","many"]
abbrev XJ:List Str:=["number","mask"]
abbrev YR:Stmt:=top 14
abbrev MG:List Str:=["masks","number"]
abbrev XQ:Stmt:=top 15
abbrev qdB:List Str:=["word","rows","columns","i","j"]
abbrev qd7:List Str:=["word","rows","columns"]
abbrev Z9:Stmt:=top 16
abbrev R6:List Str:=["one","other","word","rows","columns","banks","upper","lower"]
abbrev R4:List Str:=["one","other","word"]
abbrev JP:Stmt:=top 17
abbrev YX:List Str:=["dealing","word","kind"]
abbrev XE:List Str:=["dealing","word"]
theorem RA:FnScope YX XE (qi JP):=⟨rfl,rfl,rfl,by decide +kernel,rfl,by decide +kernel,by decide +kernel⟩
theorem qaa {S_number_of:Sp3} {S_bits_bank:Sp3} {S_joined_bank:Sp3} (F:Fun K "bank_in" "bank_in" JP f fd) (bd:zn K fd XE []) (hm:mg "bank_in" = some (.ref f)) (zv:Fn3 P w K mg base k "number_of" S_number_of) (F_bits_bank:Fn3 P w K mg base k "bits_bank" S_bits_bank) (F_joined_bank:Fn3 P w K mg base k "joined_bank" S_joined_bank) 
  (read:Rd sp 2 (Bk.EB S_number_of S_bits_bank S_joined_bank) YX):Fn3 P w K mg base (k+1) "bank_in" sp:=
 qC (t3:=(Bk.EB S_number_of S_bits_bank S_joined_bank)) F RA bd hm (fun cdv A outer s H E hr=>(qg (zj 2 RA.nd (qu (qb 0) qe)) (qg (zA (qJ (zk hr.units) qL (qb 2) zr (qz _)) (qk (qo (VL (qK (zD (qu (qb 0) qe) (qu (qb 1) qe)) (zD (qu (qb 0) qe) (qu (qb 1) qe))) (qu (qb 0) qe)))) qM) (qg (zA (qJ (zk hr.units) qL (qb 2) zr (qz _)) (qk (qo (VL (qh zv hr rfl (qa (qb 0) (qa (qb 1) qd))) (qu (qb 0) qe)))) qM) (qg (zA (qJ (zk hr.units) qL (qb 2) zr (qz _)) (qk (qo (qh F_bits_bank hr rfl (qa (qu (qb 0) qe) (qa (qh zv hr rfl (qa (qb 0) (qa (qb 1) qd))) qd))))) qM) (qg (zA (qJ (zk hr.units) qL (qb 2) zr (qz _)) (qk (qo (qu (qu (qu (qb 0) qe) (qu (qb 1) qe)) (qu (qb 1) qe)))) qM) (qk (qo (qh F_joined_bank hr rfl (qa (qu (qb 0) qe) (qa (qu (qb 0) qe) (qa (qb 1) qd)))))))))))) read
abbrev YW:Stmt:=top 20
abbrev NN:List Str:=["down","along","many"]
abbrev SI:List Str:=["down","along","many"]
theorem qcM:FnScope NN SI (qi YW):=⟨rfl,rfl,rfl,by decide +kernel,rfl,by decide +kernel,by decide +kernel⟩
theorem qbx (F:Fun K "strung" "strung" YW f fd) (bd:zn K fd SI []) (hm:mg "strung" = some (.ref f))  (m_range:mg "range" = none)
  (read:Rd sp 3 (Bk.WT) NN):Fn3 P w K mg base (k+1) "strung" sp:=
 qC (t3:=(Bk.WT)) F qcM bd hm (fun cdv A outer s H E hr=>(qk (qo (YS ["t","down","along"] [none,some 0,some 1] rfl (zB rfl m_range (qa (qb 2) qd) (h1:=by intro _ _ _ h;simpa [qc,qj] using h)) (fun _ _ _=>(jgn 0)) (fun _ _ _=>zM) (fun _ _ _=>(qW (qa (zD (qb 0) (qb 1)) (qa (zD (qb 0) (qb 2)) qd)))) (by kernel_rfl) (by kernel_rfl))))) read
abbrev ZB:Stmt:=top 21
abbrev C7:List Str:=["walk","kind","down","along"]
abbrev DN:List Str:=["walk"]
theorem J2:FnScope C7 DN (qi ZB):=⟨rfl,rfl,rfl,by decide +kernel,rfl,by decide +kernel,by decide +kernel⟩
theorem MF {S_strung:Sp3} (F:Fun K "cells_of" "cells_of" ZB f fd) (bd:zn K fd DN []) (hm:mg "cells_of" = some (.ref f)) (zP:Fn3 P w K mg base k "strung" S_strung) (m_list:mg "list" = none) (m_range:mg "range" = none) (m_STRIDES:Tb K mg w "STRIDES" EQ)
  (read:Rd sp 1 (Bk.V6 S_strung) C7):Fn3 P w K mg base (k+1) "cells_of" sp:=
 qC (t3:=(Bk.V6 S_strung)) F J2 bd hm (fun cdv A outer s H E hr=>(qg (zj 1 J2.nd (qu (qb 0) qe)) (qg (zA (qJ (zk hr.units) qL (qb 1) zr (qz _)) (qk (qo (ZF DZ NB rfl m_list PyProof.Rows.boot_list (qa (qu (qb 0) qe) qd)))) qM) (qg (zA (qJ (zk hr.units) qL (qb 1) zr (qz _)) (qk (qo (qcl ["p","q","walk"] [none,none,some 0] rfl (zB rfl m_range (qa (qu (qb 0) qe) qd) (h1:=by intro _ _ _ h;simpa [qc,qj] using h)) (fun _ _ _=>(jgn 0)) (fun _ _ _=>zM) (fun _ _ _=>(zB rfl m_range (qa (qu (qb 2) qe) qd) (h1:=by intro _ _ _ h;simpa [qc,qj] using h))) (fun _ _ _=>(jgn 1)) (fun _ _ _=>zM) (fun _ _ _=>(qW (qa (qb 0) (qa (qb 1) qd)))) (by kernel_rfl) (by kernel_rfl)))) qM) (qg (zA (qJ (zk hr.units) qL (qb 1) zr (qz _)) (qk (qo (qh zP hr rfl (qa (qu (qb 0) qe) (qa (qu (qb 0) qe) (qa (qu (qb 0) qe) qd)))))) qM) (qg (YL (qgO m_STRIDES rfl (qb 1) (fun _ _=>rfl)) (zR rfl (qp (qv (i:=2) (J2.nd)) (qp (qv (i:=3) (J2.nd)) zQ)))) (qk (qo (qh zP hr rfl (qa (qb 2) (qa (qb 3) (qa (qu (qb 0) qe) qd)))))))))))) read
abbrev VC:Stmt:=top 22
abbrev NW:List Str:=["dealing","walk","rows","columns","banks","cells","downs","alongs"]
abbrev TC:List Str:=["dealing","walk"]
theorem ZT:FnScope NW TC (qi VC):=⟨rfl,rfl,rfl,by decide +kernel,rfl,by decide +kernel,by decide +kernel⟩
theorem qce {S_size_of:Sp3} {S_cells_of:Sp3} (F:Fun K "starts" "starts" VC f fd) (bd:zn K fd TC []) (hm:mg "starts" = some (.ref f)) (qq:Fn3 P w K mg base k "size_of" S_size_of) (qs:Fn3 P w K mg base k "cells_of" S_cells_of) (m_min:mg "min" = none) (m_max:mg "max" = none) (m_range:mg "range" = none)
  (read:Rd sp 2 (Bk.WJ S_size_of S_cells_of) NW):Fn3 P w K mg base (k+1) "starts" sp:=
 qC (t3:=(Bk.WJ S_size_of S_cells_of)) F ZT bd hm (fun cdv A outer s H E hr=>(qg (YL (qh qq hr rfl (qa (qb 0) qd)) (zR rfl (qp (qv (i:=2) (ZT.nd)) (qp (qv (i:=3) (ZT.nd)) (qp (qv (i:=4) (ZT.nd)) zQ))))) (qg (zj 5 ZT.nd (qh qs hr rfl (qa (qb 1) qd))) (qg (WW 6 ["p","q"] [none,none] rfl ZT.nd (QR (qb 5)) (fun _ _ _=>(zR rfl (qp (jgn 0) (qp (jgn 1) zQ)))) (fun _ _ _=>zM) (fun _ _ _=>(qb 0)) (by kernel_rfl) (by kernel_rfl) rfl rfl) (qg (zj 7 ZT.nd (YS ["p","q"] [none,none] rfl (QR (qb 5)) (fun _ _ _=>(zR rfl (qp (jgn 0) (qp (jgn 1) zQ)))) (fun _ _ _=>zM) (fun _ _ _=>(qb 1)) (by kernel_rfl) (by kernel_rfl))) (qk (qo (qcl ["i","j","columns","alongs"] [none,none,some 3,some 7] rfl (VF rfl m_range (qa (RH (qy (JD rfl) VO rfl m_min PyProof.Rows.boot_min (qa (qb 6) qd))) (qa (D0 (qb 2) (qy (UT rfl) WV rfl m_max PyProof.Rows.boot_max (qa (qb 6) qd))) qd)) (h1:=by intro _ _ _ h;simpa [qc,qj] using h)) (fun _ _ _=>(jgn 0)) (fun _ _ _=>zM) (fun _ _ _=>(VF rfl m_range (qa (RH (qy (JD rfl) VO rfl m_min PyProof.Rows.boot_min (qa (qb 3) qd))) (qa (D0 (qb 2) (qy (UT rfl) WV rfl m_max PyProof.Rows.boot_max (qa (qb 3) qd))) qd)) (h1:=by intro _ _ _ h;simpa [qc,qj] using h))) (fun _ _ _=>(jgn 1)) (fun _ _ _=>zM) (fun _ _ _=>(qW (qa (qb 0) (qa (qb 1) qd)))) (by kernel_rfl) (by kernel_rfl))))))))) read
abbrev JH:Stmt:=top 23
abbrev UR:List Str:=["walk","start"]
abbrev XA:List Str:=["walk","start"]
theorem qaD:FnScope UR XA (qi JH):=⟨rfl,rfl,rfl,by decide +kernel,rfl,by decide +kernel,by decide +kernel⟩
theorem qac {S_cells_of:Sp3} (F:Fun K "shifted" "shifted" JH f fd) (bd:zn K fd XA []) (hm:mg "shifted" = some (.ref f)) (qs:Fn3 P w K mg base k "cells_of" S_cells_of) 
  (read:Rd sp 2 (Bk.ED S_cells_of) UR):Fn3 P w K mg base (k+1) "shifted" sp:=
 qC (t3:=(Bk.ED S_cells_of)) F qaD bd hm (fun cdv A outer s H E hr=>(qk (qo (YS ["p","q","start"] [none,none,some 1] rfl (QR (qh qs hr rfl (qa (qb 0) qd))) (fun _ _ _=>(zR rfl (qp (jgn 0) (qp (jgn 1) zQ)))) (fun _ _ _=>zM) (fun _ _ _=>(qW (qa (qK (qu (qb 2) qe) (qb 0)) (qa (qK (qu (qb 2) qe) (qb 1)) qd)))) (by kernel_rfl) (by kernel_rfl))))) read
abbrev ZK:Stmt:=top 24
abbrev VV:List Str:=["dealing","walk","thing"]
abbrev EV:List Str:=["dealing","walk","thing"]
theorem MO:FnScope VV EV (qi ZK):=⟨rfl,rfl,rfl,by decide +kernel,rfl,by decide +kernel,by decide +kernel⟩
theorem MA {S_shifted:Sp3} {S_is_word:Sp3} {S_is_pair:Sp3} (F:Fun K "is_start" "is_start" ZK f fd) (bd:zn K fd EV []) (hm:mg "is_start" = some (.ref f)) (zH:Fn3 P w K mg base k "shifted" S_shifted) (QA:Fn3 P w K mg base k "is_word" S_is_word) (zF:Fn3 P w K mg base k "is_pair" S_is_pair) (m_all:mg "all" = none)
  (read:Rd sp 3 (Bk.VU S_shifted S_is_word S_is_pair) VV):Fn3 P w K mg base (k+1) "is_start" sp:=
 qC (t3:=(Bk.VU S_shifted S_is_word S_is_pair)) F MO bd hm (fun cdv A outer s H E hr=>(qk (qo (QT (qh zF hr rfl (qa (qb 2) qd)) (YJ (qy (j0 rfl) TF rfl m_all PyProof.Rows.boot_all (qa (YS ["word","dealing"] [none,some 0] rfl (QR (qh zH hr rfl (qa (qb 1) (qa (qb 2) qd)))) (fun _ _ _=>(jgn 0)) (fun _ _ _=>zM) (fun _ _ _=>(qh QA hr rfl (qa (qb 1) (qa (qb 0) qd)))) (by kernel_rfl) (by kernel_rfl)) qd))))))) read
abbrev ZR:Stmt:=top 25
abbrev VP:List Str:=["dealing","walk","start"]
abbrev E9:List Str:=["dealing","walk","start"]
theorem LV:FnScope VP E9 (qi ZR):=⟨rfl,rfl,rfl,by decide +kernel,rfl,by decide +kernel,by decide +kernel⟩
theorem MY {S_is_start:Sp3} {S_shifted:Sp3} (F:Fun K "words_of" "words_of" ZR f fd) (bd:zn K fd E9 []) (hm:mg "words_of" = some (.ref f)) (jw:Fn3 P w K mg base k "is_start" S_is_start) (zH:Fn3 P w K mg base k "shifted" S_shifted) 
  (read:Rd sp 3 (Bk.VW S_is_start S_shifted) VP):Fn3 P w K mg base (k+1) "words_of" sp:=
 qC (t3:=(Bk.VW S_is_start S_shifted)) F LV bd hm (fun cdv A outer s H E hr=>(qg (zA (V9 (JE (qh jw hr rfl (qa (qb 0) (qa (qb 1) (qa (qb 2) qd)))))) qdJ qM) (qk (qo (qh zH hr rfl (qa (qb 1) (qa (qb 2) qd))))))) read
abbrev ZO:Stmt:=top 27
abbrev RR:List Str:=["banks","factors","walk","a","b"]
abbrev EY:List Str:=["banks","factors","walk"]
theorem UH:FnScope RR EY (qi ZO):=⟨rfl,rfl,rfl,by decide +kernel,rfl,by decide +kernel,by decide +kernel⟩
theorem LS {S_cells_of:Sp3} (F:Fun K "rests_by" "rests_by" ZO f fd) (bd:zn K fd EY []) (hm:mg "rests_by" = some (.ref f)) (qs:Fn3 P w K mg base k "cells_of" S_cells_of) (m_tuple:mg "tuple" = none)
  (read:Rd sp 3 (Bk.V3 S_cells_of) RR):Fn3 P w K mg base (k+1) "rests_by" sp:=
 qC (t3:=(Bk.V3 S_cells_of)) F UH bd hm (fun cdv A outer s H E hr=>(qg (YL (qb 1) (zR rfl (qp (qv (i:=3) (UH.nd)) (qp (qv (i:=4) (UH.nd)) zQ)))) (qk (qo (ZF EM KB rfl m_tuple PyProof.Rows.boot_tuple (qa (YS ["p","q","banks","a","b"] [none,none,some 0,some 3,some 4] rfl (QR (qh qs hr rfl (qa (qb 2) qd))) (fun _ _ _=>(zR rfl (qp (jgn 0) (qp (jgn 1) zQ)))) (fun _ _ _=>zM) (fun _ _ _=>(VL (qK (zD (qb 3) (qb 0)) (zD (qb 4) (qb 1))) (qb 2))) (by kernel_rfl) (by kernel_rfl)) qd)))))) read
abbrev jm:Stmt:=top 29
abbrev Q4:List Str:=["banks"]
abbrev JY:List Str:=["banks"]
theorem CL:FnScope Q4 JY (qi jm):=⟨rfl,rfl,rfl,by decide +kernel,rfl,by decide +kernel,by decide +kernel⟩
theorem CZ (F:Fun K "all_factors" "all_factors" jm f fd) (bd:zn K fd JY []) (hm:mg "all_factors" = some (.ref f))  (m_range:mg "range" = none)
  (read:Rd sp 1 (Bk.Q2) Q4):Fn3 P w K mg base (k+1) "all_factors" sp:=
 qC (t3:=(Bk.Q2)) F CL bd hm (fun cdv A outer s H E hr=>(qk (qo (qcl ["a","b","banks"] [none,none,some 0] rfl (zB rfl m_range (qa (qb 0) qd) (h1:=by intro _ _ _ h;simpa [qc,qj] using h)) (fun _ _ _=>(jgn 0)) (fun _ _ _=>zM) (fun _ _ _=>(zB rfl m_range (qa (qb 2) qd) (h1:=by intro _ _ _ h;simpa [qc,qj] using h))) (fun _ _ _=>(jgn 1)) (fun _ _ _=>zM) (fun _ _ _=>(qW (qa (qb 0) (qa (qb 1) qd)))) (by kernel_rfl) (by kernel_rfl))))) read
abbrev j6:Stmt:=top 30
abbrev Q9:List Str:=["banks","factors","walks","n","walk","found"]
abbrev UC:List Str:=["banks","factors","walks"]
theorem Z6:FnScope Q9 UC (qi j6):=⟨rfl,rfl,rfl,by decide +kernel,rfl,by decide +kernel,by decide +kernel⟩
theorem KY {S_rests_by:Sp3} {S_first_alike:Sp3} (F:Fun K "first_bar" "first_bar" j6 f fd) (bd:zn K fd UC []) (hm:mg "first_bar" = some (.ref f)) (zh:Fn3 P w K mg base k "rests_by" S_rests_by) (qw:Fn3 P w K mg base k "first_alike" S_first_alike) (m_enumerate:mg "enumerate" = none)
  (read:Rd sp 3 (Bk.J5 S_rests_by S_first_alike) Q9):Fn3 P w K mg base (k+1) "first_bar" sp:=
 qC (t3:=(Bk.J5 S_rests_by S_first_alike)) F Z6 bd hm (fun cdv A outer s H E hr=>(qg (JN PassesOwn.never rfl (RY rfl m_enumerate (qa (qb 2) qd)) (zR rfl (qp (qv (i:=3) (Z6.nd)) (qp (qv (i:=4) (Z6.nd)) zQ))) (qg (zj 5 Z6.nd (qh qw hr rfl (qa (qh zh hr rfl (qa (qb 0) (qa (qb 1) (qa (qb 4) qd)))) qd))) (qk (zA (qJ R5 WR (qb 5) JT (qz _)) (qk (qo (qW (qa (qb 3) (qa (qu (qb 5) qe) (qa (qu (qb 5) qe) qd)))))) qM)))) (qk (qo JT)))) read
abbrev ZD:Stmt:=top 31
abbrev JL:List Str:=["banks","walks","bars","factors","bar"]
abbrev DP:List Str:=["banks","walks"]
theorem YG:FnScope JL DP (qi ZD):=⟨rfl,rfl,rfl,by decide +kernel,rfl,by decide +kernel,by decide +kernel⟩
theorem LQ {S_all_factors:Sp3} {S_first_bar:Sp3} (F:Fun K "skew_for" "skew_for" ZD f fd) (bd:zn K fd DP []) (hm:mg "skew_for" = some (.ref f)) (qF:Fn3 P w K mg base k "all_factors" S_all_factors) (z3:Fn3 P w K mg base k "first_bar" S_first_bar) 
  (read:Rd sp 2 (Bk.VY S_all_factors S_first_bar) JL):Fn3 P w K mg base (k+1) "skew_for" sp:=
 qC (t3:=(Bk.VY S_all_factors S_first_bar)) F YG bd hm (fun cdv A outer s H E hr=>(qg (zj 2 YG.nd (YK qd)) (qg (JN PassesOwn.never rfl (QR (qh qF hr rfl (qa (qb 0) qd))) (qv (i:=3) (YG.nd)) (qg (zj 4 YG.nd (qh z3 hr rfl (qa (qb 0) (qa (qb 3) (qa (qb 1) qd))))) (qg (zA (qJ NC SS (qb 4) JT (qz _)) (qk (qo (qW (qa zr (qa (qu (qb 3) qe) (qa (qu (qb 3) qe) qd)))))) qM) (qk (TN (W6 (qb 2) (qa (qb 4) qd))))))) (qk (qo (qW (qa zr (qa (qb 2) qd)))))))) read
abbrev VG:Stmt:=top 32
abbrev U9:List Str:=["banks","factors","walks","thing","n","k","l"]
abbrev RV:List Str:=["banks","factors","walks","thing"]
theorem U6:FnScope U9 RV (qi VG):=⟨rfl,rfl,rfl,by decide +kernel,rfl,by decide +kernel,by decide +kernel⟩
def WL (S_rests_by:Sp3) (S_are_alike:Sp3) (S_is_number_below:Sp3):TS3:=(qS (jt (or3 (K7 (tb3 (CH (fun t=>j5 t "tuple") (v3 3)))) (tb3 (o3 (jM true) (cb3 DY (qc (v3 3) qj)) (c3 (.int 3))))) (za (c3 (.bl false))) qO) (qS (zN (v3 3) (jr 3 (qr (gn3 4) (qr (gn3 5) (qr (gn3 6) jp))))) (za (QJ (cb3 S_is_number_below (qc (v3 4) (qc (cb3 DY (qc (v3 2) qj)) qj))) (cb3 S_are_alike (qc (cb3 S_rests_by (qc (v3 0) (qc (v3 1) (qc (o3 ix3 (v3 2) (v3 4)) qj)))) (qc (v3 5) (qc (v3 6) qj))))))))
theorem qcB {S_rests_by:Sp3} {S_are_alike:Sp3} {S_is_number_below:Sp3} (F:Fun K "is_bar" "is_bar" VG f fd) (bd:zn K fd RV []) (hm:mg "is_bar" = some (.ref f)) (zh:Fn3 P w K mg base k "rests_by" S_rests_by) (zX:Fn3 P w K mg base k "are_alike" S_are_alike) (qm:Fn3 P w K mg base k "is_number_below" S_is_number_below) (m_len:mg "len" = none) (m_isinstance:mg "isinstance" = none) (m_tuple:mg "tuple" = none)
  (read:Rd sp 4 (WL S_rests_by S_are_alike S_is_number_below) U9):Fn3 P w K mg base (k+1) "is_bar" sp:=
 qC (t3:=(WL S_rests_by S_are_alike S_is_number_below)) F U6 bd hm (fun cdv A outer s H E hr=>(qg (zA (jpt (qag (V9 (JE (JO (qb 3) rfl m_isinstance rfl m_tuple PyProof.Rows.boot_tuple))) (RC (qJ (WX hr.units) UE (qy zq zW rfl m_len PySem.boot_len (qa (qb 3) qd)) qe (qz _))))) (qk (qo VJ)) qM) (qg (YL (qb 3) (zR rfl (qp (qv (i:=4) (U6.nd)) (qp (qv (i:=5) (U6.nd)) (qp (qv (i:=6) (U6.nd)) zQ))))) (qk (qo (QT (qh qm hr rfl (qa (qb 4) (qa (qy zq zW rfl m_len PySem.boot_len (qa (qb 2) qd)) qd))) (YJ (qh zX hr rfl (qa (qh zh hr rfl (qa (qb 0) (qa (qb 1) (qa (qu (qb 2) (qb 4)) qd)))) (qa (qb 5) (qa (qb 6) qd))))))))))) read
abbrev zJ:Stmt:=top 33
abbrev jC:List Str:=["banks","walks","thing"]
abbrev ZH:List Str:=["banks","walks","thing"]
theorem WC:FnScope jC ZH (qi zJ):=⟨rfl,rfl,rfl,by decide +kernel,rfl,by decide +kernel,by decide +kernel⟩
def jH (S_all_factors:Sp3) (S_is_bar:Sp3):TS3:=(qS (jt (or3 (K7 (tb3 (CH (fun t=>j5 t "list") (v3 2)))) (tb3 (o3 (jM true) (cb3 DY (qc (v3 2) qj)) (o3 (iC jP (· * ·)) (v3 0) (v3 0))))) (za (c3 (.bl false))) qO) (za (cb3 qbt (qc (lc3 (qal (qc (cb3 S_all_factors (qc (v3 0) qj)) (qc (v3 2) qj))) (jr 2 (qr (gn3 0) (qr (gn3 1) jp))) tt3 (cb3 S_is_bar (qc (v3 2) (qc (v3 0) (qc (v3 3) (qc (v3 1) qj))))) [none,none,some 0,some 1]) qj))))
theorem WA {S_all_factors:Sp3} {S_is_bar:Sp3} (F:Fun K "shows_no_skew" "shows_no_skew" zJ f fd) (bd:zn K fd ZH []) (hm:mg "shows_no_skew" = some (.ref f)) (qF:Fn3 P w K mg base k "all_factors" S_all_factors) (Z4:Fn3 P w K mg base k "is_bar" S_is_bar) (m_len:mg "len" = none) (m_isinstance:mg "isinstance" = none) (m_list:mg "list" = none) (m_zip:mg "zip" = none) (m_all:mg "all" = none)
  (read:Rd sp 3 (jH S_all_factors S_is_bar) jC):Fn3 P w K mg base (k+1) "shows_no_skew" sp:=
 qC (t3:=(jH S_all_factors S_is_bar)) F WC bd hm (fun cdv A outer s H E hr=>(qg (zA (jpt (qag (V9 (JE (JO (qb 2) rfl m_isinstance rfl m_list PyProof.Rows.boot_list))) (RC (qJ (WX hr.units) UE (qy zq zW rfl m_len PySem.boot_len (qa (qb 2) qd)) (zD (qb 0) (qb 0)) (qz _))))) (qk (qo VJ)) qM) (qk (qo (qy (j0 rfl) TF rfl m_all PyProof.Rows.boot_all (qa (YS ["factors","bar","banks","walks"] [none,none,some 0,some 1] rfl (qfP rfl m_zip (qa (qh qF hr rfl (qa (qb 0) qd)) (qa (qb 2) qd))) (fun _ _ _=>(zR rfl (qp (jgn 0) (qp (jgn 1) zQ)))) (fun _ _ _=>zM) (fun _ _ _=>(qh Z4 hr rfl (qa (qb 2) (qa (qb 0) (qa (qb 3) (qa (qb 1) qd)))))) (by kernel_rfl) (by kernel_rfl)) qd)))))) read
abbrev jD:Stmt:=top 34
abbrev j4:List Str:=["walks","most","bars","banks","told"]
abbrev VD:List Str:=["walks","most"]
theorem Q7:FnScope j4 VD (qi jD):=⟨rfl,rfl,rfl,by decide +kernel,rfl,by decide +kernel,by decide +kernel⟩
theorem SV {S_skew_for:Sp3} (F:Fun K "least_skew" "least_skew" jD f fd) (bd:zn K fd VD []) (hm:mg "least_skew" = some (.ref f)) (qD:Fn3 P w K mg base k "skew_for" S_skew_for) (m_range:mg "range" = none)
  (read:Rd sp 2 (Bk.ZY S_skew_for) j4):Fn3 P w K mg base (k+1) "least_skew" sp:=
 qC (t3:=(Bk.ZY S_skew_for)) F Q7 bd hm (fun cdv A outer s H E hr=>(qg (zj 2 Q7.nd (YK qd)) (qg (JN PassesOwn.never rfl (VF rfl m_range (qa qe (qa (qK (qb 1) qe) qd)) (h1:=by intro _ _ _ h;simpa [qc,qj] using h)) (qv (i:=3) (Q7.nd)) (qg (zj 4 Q7.nd (qh qD hr rfl (qa (qb 3) (qa (qb 0) qd)))) (qg (zA (qJ (zk hr.units) qL (qu (qb 4) qe) zr (qz _)) (qk (qo (qW (qa (qb 3) (qa (qu (qb 4) qe) (qa (qu (qb 4) qe) (qa (qb 2) qd))))))) qM) (qk (TN (W6 (qb 2) (qa (qu (qb 4) qe) qd))))))) (qk (qo JT))))) read
abbrev jI:Stmt:=top 36
abbrev j3:List Str:=["dealing","walk","start"]
abbrev VE:List Str:=["dealing","walk","start"]
theorem TQ:FnScope j3 VE (qi jI):=⟨rfl,rfl,rfl,by decide +kernel,rfl,by decide +kernel,by decide +kernel⟩
theorem R9 {S_words_of:Sp3} {S_bank_in:Sp3} (F:Fun K "banks_from" "banks_from" jI f fd) (bd:zn K fd VE []) (hm:mg "banks_from" = some (.ref f)) (jv:Fn3 P w K mg base k "words_of" S_words_of) (QC:Fn3 P w K mg base k "bank_in" S_bank_in) 
  (read:Rd sp 3 (Bk.ZZ S_words_of S_bank_in) j3):Fn3 P w K mg base (k+1) "banks_from" sp:=
 qC (t3:=(Bk.ZZ S_words_of S_bank_in)) F TQ bd hm (fun cdv A outer s H E hr=>(qk (qo (YS ["word","dealing"] [none,some 0] rfl (QR (qh jv hr rfl (qa (qb 0) (qa (qb 1) (qa (qb 2) qd))))) (fun _ _ _=>(jgn 0)) (fun _ _ _=>zM) (fun _ _ _=>(qh QC hr rfl (qa (qb 1) (qa (qb 0) qd)))) (by kernel_rfl) (by kernel_rfl))))) read
abbrev EJ:Stmt:=top 37
abbrev XF:List Str:=["dealing","walk","start","found"]
abbrev MI:List Str:=["dealing","walk"]
theorem RX:FnScope XF MI (qi EJ):=⟨rfl,rfl,rfl,by decide +kernel,rfl,by decide +kernel,by decide +kernel⟩
theorem qdC {S_starts:Sp3} {S_banks_from:Sp3} {S_first_alike:Sp3} (F:Fun K "clash" "clash" EJ f fd) (bd:zn K fd MI []) (hm:mg "clash" = some (.ref f)) (ZU:Fn3 P w K mg base k "starts" S_starts) (ze:Fn3 P w K mg base k "banks_from" S_banks_from) (qw:Fn3 P w K mg base k "first_alike" S_first_alike) 
  (read:Rd sp 2 (Bk.TH S_starts S_banks_from S_first_alike) XF):Fn3 P w K mg base (k+1) "clash" sp:=
 qC (t3:=(Bk.TH S_starts S_banks_from S_first_alike)) F RX bd hm (fun cdv A outer s H E hr=>(qg (JN PassesOwn.never rfl (QR (qh ZU hr rfl (qa (qb 0) (qa (qb 1) qd)))) (qv (i:=2) (RX.nd)) (qg (zj 3 RX.nd (qh qw hr rfl (qa (qh ze hr rfl (qa (qb 0) (qa (qb 1) (qa (qb 2) qd)))) qd))) (qk (zA (qJ R5 WR (qb 3) JT (qz _)) (qk (qo (qW (qa (qb 2) (qa (qu (qb 3) qe) (qa (qu (qb 3) qe) qd)))))) qM)))) (qk (qo JT)))) read
abbrev JS:Stmt:=top 39
abbrev XM:List Str:=["_law_cell","_law_k","_law_m"]
abbrev W0:List Str:=["_law_cell","_law_k"]
theorem RO:FnScope XM W0 (qi JS):=⟨rfl,rfl,rfl,by decide +kernel,rfl,by decide +kernel,by decide +kernel⟩
theorem qaw (F:Fun K "_law_mix" "_law_mix" JS f fd) (bd:zn K fd W0 []) (hm:mg "_law_mix" = some (.ref f))  
  (read:Rd sp 2 (Bk.U7) XM):Fn3 P w K mg base (k+1) "_law_mix" sp:=
 qC (t3:=(Bk.U7)) F RO bd hm (fun cdv A outer s H E hr=>(qg (zj 2 RO.nd (VL (zD (qK (qK (VL (qb 0) qe) (zD (zD (qb 1) (qb 1)) qe)) qe) qe) qe)) (qk (qo (VL (zD (qb 2) (qb 2)) qe))))) read
abbrev ZJ:Stmt:=top 40
abbrev DK:List Str:=["_law_script","_law_k","_law_cell","_law_own"]
abbrev DR:List Str:=["_law_script","_law_k"]
theorem UN:FnScope DK DR (qi ZJ):=⟨rfl,rfl,rfl,by decide +kernel,rfl,by decide +kernel,by decide +kernel⟩
theorem L6 (F:Fun K "_law_left" "_law_left" ZJ f fd) (bd:zn K fd DR []) (hm:mg "_law_left" = some (.ref f))  (m_len:mg "len" = none) (m_abs:mg "abs" = none)
  (read:Rd sp 2 (Bk.VQ) DK):Fn3 P w K mg base (k+1) "_law_left" sp:=
 qC (t3:=(Bk.VQ)) F UN bd hm (fun cdv A outer s H E hr=>(qg (zj 2 UN.nd (qii (qJ KW ZC (qb 1) (qy zq zW rfl m_len PySem.boot_len (qa (qb 0) qd)) (qz _)) (qu (qb 0) (qb 1)) qe)) (qg (zj 3 UN.nd (qii (qJ qoc ZC (qy N2 qaU rfl m_abs PyProof.Rows.boot_abs (qa (qb 2) qd)) (qll qe qe) (qz _)) (qy N2 qaU rfl m_abs PyProof.Rows.boot_abs (qa (qb 2) qd)) qe)) (qk (qo (YK (qa (qb 3) (qa (qK (qb 2) (zD qe (qb 1))) (qa qe qd))))))))) read
abbrev ZS:Stmt:=top 41
abbrev E7:List Str:=["_law_left_here","_law_many_here","_law_digit"]
abbrev DL:List Str:=["_law_left_here","_law_many_here"]
theorem CD:FnScope E7 DL (qi ZS):=⟨rfl,rfl,rfl,by decide +kernel,rfl,by decide +kernel,by decide +kernel⟩
theorem LO {S_law_mix:Sp3} (F:Fun K "_law_pick" "_law_pick" ZS f fd) (bd:zn K fd DL []) (hm:mg "_law_pick" = some (.ref f)) (F_law_mix:Fn3 P w K mg base k "_law_mix" S_law_mix) 
  (read:Rd sp 2 (Bk.VT S_law_mix) E7):Fn3 P w K mg base (k+1) "_law_pick" sp:=
 qC (t3:=(Bk.VT S_law_mix)) F CD bd hm (fun cdv A outer s H E hr=>(qg (YL (qK (qu (qb 0) qe) qe) (qfk (qb 0) qe)) (qg (zA (qJ qpq ZC (qu (qb 0) qe) qe (qz _)) (qg (zj 2 CD.nd (VL (qu (qb 0) qe) (qb 1))) (qg (YL (T5 (qu (qb 0) qe) (qb 1)) (qfk (qb 0) qe)) (qk (qo (qb 2))))) qM) (qk (qo (VL (T5 (qh F_law_mix hr rfl (qa (qh F_law_mix hr rfl (qa (qu (qb 0) qe) (qa (qu (qb 0) qe) qd))) (qa (qK (qu (qb 0) qe) qe) qd))) qe) (qb 1))))))) read
abbrev ZQ:Stmt:=top 42
abbrev DH:List Str:=["_law_left_here"]
abbrev ET:List Str:=["_law_left_here"]
theorem MH:FnScope DH ET (qi ZQ):=⟨rfl,rfl,rfl,by decide +kernel,rfl,by decide +kernel,by decide +kernel⟩
theorem LX {S_law_pick:Sp3} (F:Fun K "_law_many" "_law_many" ZQ f fd) (bd:zn K fd ET []) (hm:mg "_law_many" = some (.ref f)) (F_law_pick:Fn3 P w K mg base k "_law_pick" S_law_pick) 
  (read:Rd sp 1 (Bk.V2 S_law_pick) DH):Fn3 P w K mg base (k+1) "_law_many" sp:=
 qC (t3:=(Bk.V2 S_law_pick)) F MH bd hm (fun cdv A outer s H E hr=>(qk (qo (qK qe (qh F_law_pick hr rfl (qa (qb 0) (qa (qu (YK (qa qe (qa qe (qa qe (qa qe (qa qe (qa qe (qa qe (qa qe qd))))))))) (qh F_law_pick hr rfl (qa (qb 0) (qa qe qd)))) qd))))))) read
abbrev ZM:Stmt:=top 43
abbrev EZ:List Str:=["_law_left_here","_law_way","_law_lying","_law_high","_law_wide","_law_down","_law_along","_law_pairs","_law_far","_law_turn","_law_pair"]
abbrev DJ:List Str:=["_law_left_here"]
theorem zY:FnScope EZ DJ (qi ZM):=⟨rfl,rfl,rfl,by decide +kernel,rfl,by decide +kernel,by decide +kernel⟩
theorem ME {S_law_pick:Sp3} {S_law_many:Sp3} (F:Fun K "_law_walk" "_law_walk" ZM f fd) (bd:zn K fd DJ []) (hm:mg "_law_walk" = some (.ref f)) (F_law_pick:Fn3 P w K mg base k "_law_pick" S_law_pick) (F_law_many:Fn3 P w K mg base k "_law_many" S_law_many) (m_int:mg "int" = none) (m_range:mg "range" = none) (m_tuple:mg "tuple" = none)
  (read:Rd sp 1 (Bk.VN S_law_pick S_law_many) EZ):Fn3 P w K mg base (k+1) "_law_walk" sp:=
 qC (t3:=(Bk.VN S_law_pick S_law_many)) F zY bd hm (fun cdv A outer s H E hr=>(qg (zj 1 zY.nd (qh F_law_pick hr rfl (qa (qb 0) (qa qe qd)))) (qg (zA (qJ KW ZC (qb 1) qe (qz _)) (qk (qo (qW (qa (qu (YK (qa zr (qa zr (qa zr (qa zr qd))))) (qb 1)) (qa (qh F_law_many hr rfl (qa (qb 0) qd)) qd))))) qM) (qg (zA (qJ KW ZC (qb 1) qe (qz _)) (qg (NI (i:=2) (j:=3) rfl zY.nd rfl rfl (by decide) rfl rfl (qa (qh F_law_pick hr rfl (qa (qb 0) (qa qe qd))) (qa (qK qe (qh F_law_pick hr rfl (qa (qb 0) (qa qe qd)))) qd))) (qg (zj 4 zY.nd (qK qe (qh F_law_pick hr rfl (qa (qb 0) (qa (T5 qe (qb 3)) qd))))) (qk (qo (qu (YK (qa (qW (qa zr (qa (qb 3) (qa (qb 4) qd)))) (qa (qW (qa zr (qa (qb 4) (qa (qb 3) qd)))) qd))) (qb 2)))))) qM) (qg (zA (qJ KW ZC (qb 1) qe (qz _)) (qg (NI (i:=5) (j:=6) rfl zY.nd rfl rfl (by decide) rfl rfl (qa (D0 (qh F_law_pick hr rfl (qa (qb 0) (qa qe qd))) qe) (qa (D0 (qh F_law_pick hr rfl (qa (qb 0) (qa qe qd))) qe) qd))) (qg (zA (qJ (zk hr.units) qL (qh F_law_pick hr rfl (qa (qb 0) (qa qe qd))) qe (qz _)) (qk (qo (qW (qa zr (qa (zD qe (qb 5)) (qa (qK (zD qe (qb 6)) (ZF XG LU rfl m_int PyProof.Rows.boot_int (qa (QT (QV (zk hr.units) qL (qb 5) qe (qz _)) (YJ (QV (zk hr.units) qL (qb 6) qe (qz _)))) qd))) (qa (qK qe (qh F_law_pick hr rfl (qa (qb 0) (qa qe qd)))) qd))))))) qM) (qk (qo (qW (qa zr (qa (qb 5) (qa (qK (qb 6) (ZF XG LU rfl m_int PyProof.Rows.boot_int (qa (QT (QV (zk hr.units) qL (qb 5) qe (qz _)) (YJ (QV (zk hr.units) qL (qb 6) qe (qz _)))) qd))) (qa (qh F_law_many hr rfl (qa (qb 0) qd)) qd))))))))) qM) (qg (NI (i:=7) (j:=8) rfl zY.nd rfl rfl (by decide) rfl rfl (qa (YK qd) (qa (qK qe (zD qe (ZF XG LU rfl m_int PyProof.Rows.boot_int (qa (QV (zk hr.units) qL (qh F_law_pick hr rfl (qa (qb 0) (qa qe qd))) qe (qz _)) qd)))) qd))) (qg (JN PassesOwn.never rfl (zB rfl m_range (qa (qh F_law_many hr rfl (qa (qb 0) qd)) qd) (h1:=by intro _ _ _ h;simpa [qc,qj] using h)) (qv (i:=9) (zY.nd)) (qg (zj 10 zY.nd (qW (qa (zD (qb 8) (D0 (qh F_law_pick hr rfl (qa (qb 0) (qa qe qd))) qe)) (qa (zD (qb 8) (D0 (qh F_law_pick hr rfl (qa (qb 0) (qa qe qd))) qe)) qd)))) (qk (zA (qJ (qcA hr.units) qgy (qb 10) (qb 7) (by with_unfolding_all rfl)) (qk (TN (W6 (qb 7) (qa (qb 10) qd)))) qM)))) (qk (qo (qW (qa zr (qa (ZF EM KB rfl m_tuple PyProof.Rows.boot_tuple (qa (qb 7) qd)) qd)))))))))))) read
abbrev j1:Stmt:=top 44
abbrev J9:List Str:=["_law_walk_here","_law_found","_law_p","_law_down","_law_along"]
abbrev UF:List Str:=["_law_walk_here"]
theorem j9:FnScope J9 UF (qi j1):=⟨rfl,rfl,rfl,by decide +kernel,rfl,by decide +kernel,by decide +kernel⟩
theorem TV (F:Fun K "_law_cells" "_law_cells" j1 f fd) (bd:zn K fd UF []) (hm:mg "_law_cells" = some (.ref f))  (m_list:mg "list" = none) (m_range:mg "range" = none)
  (read:Rd sp 1 (Bk.JZ) J9):Fn3 P w K mg base (k+1) "_law_cells" sp:=
 qC (t3:=(Bk.JZ)) F j9 bd hm (fun cdv A outer s H E hr=>(qg (zA (qJ (zk hr.units) qL (qu (qb 0) qe) zr (qz _)) (qk (qo (ZF DZ NB rfl m_list PyProof.Rows.boot_list (qa (qu (qb 0) qe) qd)))) qM) (qg (zA (qJ (zk hr.units) qL (qu (qb 0) qe) zr (qz _)) (qg (zj 1 j9.nd (YK qd)) (qg (JN PassesOwn.never rfl (zB rfl m_range (qa (qu (qb 0) qe) qd) (h1:=by intro _ _ _ h;simpa [qc,qj] using h)) (qv (i:=2) (j9.nd)) (qk (TN (qcI (qb 1) (qa (YS ["_law_q","_law_p"] [none,some 2] rfl (zB rfl m_range (qa (qu (qb 0) qe) qd) (h1:=by intro _ _ _ h;simpa [qc,qj] using h)) (fun _ _ _=>(jgn 0)) (fun _ _ _=>zM) (fun _ _ _=>(qW (qa (qb 1) (qa (qb 0) qd)))) (by kernel_rfl) (by kernel_rfl)) qd))))) (qk (qo (qb 1))))) qM) (qg (YL (qgF (X8 (qW (qa qe (qa qe qd))) (X8 (qW (qa qe (qa qe qd))) (X8 (qW (qa qe (qa qe qd))) (X8 (qW (qa qe (qa (RH qe) qd))) (X8 (NH (qb 0) (MQ qe) (MQ qe)) qjj))))) (qu (qb 0) qe)) (zR rfl (qp (qv (i:=3) (j9.nd)) (qp (qv (i:=4) (j9.nd)) zQ)))) (qk (qo (YS ["_law_t","_law_down","_law_along"] [none,some 3,some 4] rfl (zB rfl m_range (qa (qu (qb 0) (RH qe)) qd) (h1:=by intro _ _ _ h;simpa [qc,qj] using h)) (fun _ _ _=>(jgn 0)) (fun _ _ _=>zM) (fun _ _ _=>(qW (qa (zD (qb 0) (qb 1)) (qa (zD (qb 0) (qb 2)) qd)))) (by kernel_rfl) (by kernel_rfl)))))))) read
abbrev Q8:Stmt:=top 45
abbrev RG:List Str:=["_law_found","_law_due"]
abbrev DB:List Str:=["_law_found","_law_due"]
theorem MV:FnScope RG DB (qi Q8):=⟨rfl,rfl,rfl,by decide +kernel,rfl,by decide +kernel,by decide +kernel⟩
theorem ZP {S_law_same:Sp3} (F:Fun K "_law_same" "_law_same" Q8 f fd) (bd:zn K fd DB []) (hm:mg "_law_same" = some (.ref f)) (F_law_same:Fn3 P w K mg base k "_law_same" S_law_same) (m_isinstance:mg "isinstance" = none) (m_list:mg "list" = none) (m_tuple:mg "tuple" = none) (m_zip:mg "zip" = none) (m_all:mg "all" = none) (m_len:mg "len" = none) (m_str:mg "str" = none) (m_bool:mg "bool" = none) (m_int:mg "int" = none)
  (read:Rd sp 2 (Bk.DG S_law_same) RG):Fn3 P w K mg base (k+1) "_law_same" sp:=
 qC (t3:=(Bk.DG S_law_same)) F MV bd hm (fun cdv A outer s H E hr=>(qg (zA (JE (qa7 (qb 1) rfl m_isinstance rfl m_list PyProof.Rows.boot_list rfl m_tuple PyProof.Rows.boot_tuple)) (qg (zA (jpt (qag (qJ (WX hr.units) UE (JO (qb 0) rfl m_isinstance rfl m_list PyProof.Rows.boot_list) (JO (qb 1) rfl m_isinstance rfl m_list PyProof.Rows.boot_list) (qz _)) (RC (qJ (WX hr.units) UE (JO (qb 0) rfl m_isinstance rfl m_tuple PyProof.Rows.boot_tuple) (JO (qb 1) rfl m_isinstance rfl m_tuple PyProof.Rows.boot_tuple) (qz _))))) (qk (qo VJ)) qM) (qk (qo (QT (QV (zk hr.units) qL (qy zq zW rfl m_len PySem.boot_len (qa (qb 0) qd)) (qy zq zW rfl m_len PySem.boot_len (qa (qb 1) qd)) (qz _)) (YJ (qy (j0 rfl) TF rfl m_all PyProof.Rows.boot_all (qa (YS ["_law_one","_law_other"] [none,none] rfl (qfP rfl m_zip (qa (qb 0) (qa (qb 1) qd))) (fun _ _ _=>(zR rfl (qp (jgn 0) (qp (jgn 1) zQ)))) (fun _ _ _=>zM) (fun _ _ _=>(qh F_law_same hr rfl (qa (qb 0) (qa (qb 1) qd)))) (by kernel_rfl) (by kernel_rfl)) qd))))))) qM) (qg (zA (jpt (qag (qJ NC SS (qb 1) JT (qz _)) (RC (JE (qa7 (qb 1) rfl m_isinstance rfl m_str PyProof.Rows.boot_str rfl m_bool PyProof.Rows.boot_bool))))) (qk (qo (QT (QV (zk hr.units) qL (qb 0) (qb 1) (qz _)) (QT (QV (zk hr.units) qL (JO (qb 0) rfl m_isinstance rfl m_bool PyProof.Rows.boot_bool) (JO (qb 1) rfl m_isinstance rfl m_bool PyProof.Rows.boot_bool) (qz _)) (YJ (QV (zk hr.units) qL (QV NC SS (qb 0) JT (qz _)) (QV NC SS (qb 1) JT (qz _)) (qz _))))))) qM) (qk (qo (QT (JO (qb 0) rfl m_isinstance rfl m_int PyProof.Rows.boot_int) (QT (qes (JO (qb 0) rfl m_isinstance rfl m_bool PyProof.Rows.boot_bool)) (YJ (QV (zk hr.units) qL (qb 0) (qb 1) (qz _)))))))))) read
abbrev zZ:Stmt:=top 46
abbrev jX:List Str:=["_law_cells_here","_law_banks","_law_a","_law_b"]
abbrev JA:List Str:=["_law_cells_here","_law_banks","_law_a","_law_b"]
theorem XD:FnScope jX JA (qi zZ):=⟨rfl,rfl,rfl,by decide +kernel,rfl,by decide +kernel,by decide +kernel⟩
theorem W5 (F:Fun K "_law_rests_at" "_law_rests_at" zZ f fd) (bd:zn K fd JA []) (hm:mg "_law_rests_at" = some (.ref f))  
  (read:Rd sp 4 (Bk.jY) jX):Fn3 P w K mg base (k+1) "_law_rests_at" sp:=
 qC (t3:=(Bk.jY)) F XD bd hm (fun cdv A outer s H E hr=>(qk (qo (YS ["_law_p","_law_q","_law_banks","_law_a","_law_b"] [none,none,some 1,some 2,some 3] rfl (QR (qb 0)) (fun _ _ _=>(zR rfl (qp (jgn 0) (qp (jgn 1) zQ)))) (fun _ _ _=>zM) (fun _ _ _=>(VL (qK (zD (qb 3) (qb 0)) (zD (qb 4) (qb 1))) (qb 2))) (by kernel_rfl) (by kernel_rfl))))) read
abbrev jF:Stmt:=top 47
abbrev Z3:List Str:=["_law_banks","_law_walks","_law_a","_law_b","_law_some"]
abbrev VM:List Str:=["_law_banks","_law_walks","_law_a","_law_b"]
theorem EH:FnScope Z3 VM (qi jF):=⟨rfl,rfl,rfl,by decide +kernel,rfl,by decide +kernel,by decide +kernel⟩
def ZW (S_law_cells:Sp3) (S_law_rests_at:Sp3):TS3:=(qS (zN (lc3 (JV (v3 1)) (gn3 0) tt3 (cb3 S_law_rests_at (qc (cb3 S_law_cells (qc (v3 0) qj)) (qc (v3 1) (qc (v3 2) (qc (v3 3) qj))))) [none,some 0,some 2,some 3]) (gn3 4)) (za (cb3 qbt (qc (lc3 (JV (v3 4)) (gn3 0) tt3 (o3 (jM false) (qg5 (v3 0)) (cb3 DY (qc (v3 0) qj))) [none]) qj))))
theorem RW {S_law_cells:Sp3} {S_law_rests_at:Sp3} (F:Fun K "_law_unlike" "_law_unlike" jF f fd) (bd:zn K fd VM []) (hm:mg "_law_unlike" = some (.ref f)) (qY:Fn3 P w K mg base k "_law_cells" S_law_cells) (zf:Fn3 P w K mg base k "_law_rests_at" S_law_rests_at) (m_len:mg "len" = none) (m_set:mg "set" = none) (m_all:mg "all" = none)
  (read:Rd sp 4 (ZW S_law_cells S_law_rests_at) Z3):Fn3 P w K mg base (k+1) "_law_unlike" sp:=
 qC (t3:=(ZW S_law_cells S_law_rests_at)) F EH bd hm (fun cdv A outer s H E hr=>(qg (WW 4 ["_law_walk_here","_law_banks","_law_a","_law_b"] [none,some 0,some 2,some 3] rfl EH.nd (QR (qb 1)) (fun _ _ _=>(jgn 0)) (fun _ _ _=>zM) (fun _ _ _=>(qh zf hr rfl (qa (qh qY hr rfl (qa (qb 0) qd)) (qa (qb 1) (qa (qb 2) (qa (qb 3) qd)))))) (by kernel_rfl) (by kernel_rfl) rfl rfl) (qk (qo (qy (j0 rfl) TF rfl m_all PyProof.Rows.boot_all (qa (YS ["_law_one"] [none] rfl (QR (qb 4)) (fun _ _ _=>(jgn 0)) (fun _ _ _=>zM) (fun _ _ _=>(QV (zk hr.units) qL (qbe rfl rfl m_len rfl m_set (qb 0)) (qy zq zW rfl m_len PySem.boot_len (qa (qb 0) qd)) (qz _))) (by kernel_rfl) (by kernel_rfl)) qd)))))) read
abbrev JU:Stmt:=top 48
abbrev EO:List Str:=["_law_cells_here","_law_downs","_law_alongs"]
abbrev X9:List Str:=["_law_cells_here"]
theorem RE:FnScope EO X9 (qi JU):=⟨rfl,rfl,rfl,by decide +kernel,rfl,by decide +kernel,by decide +kernel⟩
def UV:TS3:=(qS (qc3 1 2 (qc (lc3 (JV (v3 0)) (jr 2 (qr (gn3 0) (qr (gn3 1) jp))) tt3 (v3 0) [none,none]) (qc (lc3 (JV (v3 0)) (jr 2 (qr (gn3 0) (qr (gn3 1) jp))) tt3 (v3 1) [none,none]) qj))) (za (QU (qc (o3 jN (o3 (iI (· - ·)) (cb3 KI (qc (v3 1) qj)) (cb3 CO (qc (v3 1) qj))) (c3 (.int 1))) (qc (o3 jN (o3 (iI (· - ·)) (cb3 KI (qc (v3 2) qj)) (cb3 CO (qc (v3 2) qj))) (c3 (.int 1))) (qc (QU (qc (u3 qcY (cb3 CO (qc (v3 1) qj))) (qc (u3 qcY (cb3 CO (qc (v3 2) qj))) qj))) qj))))))
theorem qak (F:Fun K "_law_box" "_law_box" JU f fd) (bd:zn K fd X9 []) (hm:mg "_law_box" = some (.ref f))  (m_max:mg "max" = none) (m_min:mg "min" = none)
  (read:Rd sp 1 (UV) EO):Fn3 P w K mg base (k+1) "_law_box" sp:=
 qC (t3:=(UV)) F RE bd hm (fun cdv A outer s H E hr=>(qg (NI (i:=1) (j:=2) rfl RE.nd rfl rfl (by decide) rfl rfl (qa (YS ["_law_p","_law_q"] [none,none] rfl (QR (qb 0)) (fun _ _ _=>(zR rfl (qp (jgn 0) (qp (jgn 1) zQ)))) (fun _ _ _=>zM) (fun _ _ _=>(qb 0)) (by kernel_rfl) (by kernel_rfl)) (qa (YS ["_law_p","_law_q"] [none,none] rfl (QR (qb 0)) (fun _ _ _=>(zR rfl (qp (jgn 0) (qp (jgn 1) zQ)))) (fun _ _ _=>zM) (fun _ _ _=>(qb 1)) (by kernel_rfl) (by kernel_rfl)) qd))) (qk (qo (qW (qa (qK (D0 (qy (UT rfl) WV rfl m_max PyProof.Rows.boot_max (qa (qb 1) qd)) (qy (JD rfl) VO rfl m_min PyProof.Rows.boot_min (qa (qb 1) qd))) qe) (qa (qK (D0 (qy (UT rfl) WV rfl m_max PyProof.Rows.boot_max (qa (qb 2) qd)) (qy (JD rfl) VO rfl m_min PyProof.Rows.boot_min (qa (qb 2) qd))) qe) (qa (qW (qa (RH (qy (JD rfl) VO rfl m_min PyProof.Rows.boot_min (qa (qb 1) qd))) (qa (RH (qy (JD rfl) VO rfl m_min PyProof.Rows.boot_min (qa (qb 2) qd))) qd))) qd)))))))) read
abbrev zp:Stmt:=top 49
abbrev jb:List Str:=["_law_left_here","_law_banks","_law_walks","_law_a","_law_b","_law_pair","_law_sides","_law_rows","_law_columns","_law_dealing"]
abbrev jU:List Str:=["_law_left_here","_law_banks","_law_walks","_law_a","_law_b"]
theorem q0:FnScope jb jU (qi zp):=⟨rfl,rfl,rfl,by decide +kernel,rfl,by decide +kernel,by decide +kernel⟩
def ja (S_law_unlike:Sp3) (S_law_pick:Sp3) (S_clash:Sp3):TS3:=(qS (CT (jJ (qc (o3 jN (o3 (iC jP (· * ·)) (v3 3) (v3 1)) (v3 4)) qj)) (gn3 5) (jt (tb3 (cb3 S_law_unlike (qc (v3 1) (qc (v3 2) (qc (o3 (iC qaF (· / ·)) (v3 5) (v3 1)) (qc (o3 (iC (fun _ j=>0 < j) (· % ·)) (v3 5) (v3 1)) qj)))))) (za (c3 (.bl false))) qO)) (qS (zN (QU (qc (o3 jN (c3 (.int 1)) (cb3 S_law_pick (qc (v3 0) (qc (c3 (.int 9)) qj)))) (qc (o3 jN (c3 (.int 1)) (cb3 S_law_pick (qc (v3 0) (qc (c3 (.int 9)) qj)))) qj))) (gn3 6)) (qS (CT (JV (QU (qc (v3 6) (qc (QU (qc (c3 (.int 16)) (qc (c3 (.int 16)) qj))) qj)))) (jr 2 (qr (gn3 7) (qr (gn3 8) jp))) (qS (zN (QU (qc (c3 (.str "skew")) (qc (v3 7) (qc (v3 8) (qc (v3 1) (qc (v3 3) (qc (v3 4) qj))))))) (gn3 9)) (jt (tb3 (o3 (jM true) (lc3 (JV (v3 2)) (gn3 0) (tb3 (o3 (qah true) (cb3 S_clash (qc (v3 1) (qc (v3 0) qj))) (c3 .non))) (v3 0) [none,some 9]) (XS qj))) (za (c3 (.bl false))) qO))) (za (cb3 S_law_unlike (qc (v3 1) (qc (v3 2) (qc (v3 3) (qc (v3 4) qj)))))))))
theorem EK {S_law_unlike:Sp3} {S_law_pick:Sp3} {S_clash:Sp3} (F:Fun K "_law_found_right" "_law_found_right" zp f fd) (bd:zn K fd jU []) (hm:mg "_law_found_right" = some (.ref f)) (zd:Fn3 P w K mg base k "_law_unlike" S_law_unlike) (F_law_pick:Fn3 P w K mg base k "_law_pick" S_law_pick) (jW:Fn3 P w K mg base k "clash" S_clash) (m_range:mg "range" = none)
  (read:Rd sp 5 (ja S_law_unlike S_law_pick S_clash) jb):Fn3 P w K mg base (k+1) "_law_found_right" sp:=
 qC (t3:=(ja S_law_unlike S_law_pick S_clash)) F q0 bd hm (fun cdv A outer s H E hr=>(qg (JN PassesOwn.never rfl (zB rfl m_range (qa (qK (zD (qb 3) (qb 1)) (qb 4)) qd) (h1:=by intro _ _ _ h;simpa [qc,qj] using h)) (qv (i:=5) (q0.nd)) (qk (zA (JE (qh zd hr rfl (qa (qb 1) (qa (qb 2) (qa (T5 (qb 5) (qb 1)) (qa (VL (qb 5) (qb 1)) qd)))))) (qk (qo VJ)) qM))) (qg (zj 6 q0.nd (qW (qa (qK qe (qh F_law_pick hr rfl (qa (qb 0) (qa qe qd)))) (qa (qK qe (qh F_law_pick hr rfl (qa (qb 0) (qa qe qd)))) qd)))) (qg (JN PassesOwn.never rfl (QR (qW (qa (qb 6) (qa (qW (qa qe (qa qe qd))) qd)))) (zR rfl (qp (qv (i:=7) (q0.nd)) (qp (qv (i:=8) (q0.nd)) zQ))) (qg (zj 9 q0.nd (qW (qa zr (qa (qb 7) (qa (qb 8) (qa (qb 1) (qa (qb 3) (qa (qb 4) qd)))))))) (qk (zA (qJ (WX hr.units) UE (YS ["_law_walk_here","_law_dealing"] [none,some 9] rfl (QR (qb 2)) (fun _ _ _=>(jgn 0)) (fun _ _ _=>qgh (qJ R5 WR (qh jW hr rfl (qa (qb 1) (qa (qb 0) qd))) JT (qz _))) (fun _ _ _=>(qb 0)) (by kernel_rfl) (by kernel_rfl)) (YK qd) (qz _)) (qk (qo VJ)) qM)))) (qk (qo (qh zd hr rfl (qa (qb 1) (qa (qb 2) (qa (qb 3) (qa (qb 4) qd))))))))))) read
abbrev zz:Stmt:=top 50
abbrev zL:List Str:=["_law_banks","_law_walks","_law_blocked","_law_pair","_law_bar","_law_walk_here","_law_rows","_law_columns","_law_start","_law_found"]
abbrev QN:List Str:=["_law_banks","_law_walks","_law_blocked"]
theorem qN:FnScope zL QN (qi zz):=⟨rfl,rfl,rfl,by decide +kernel,rfl,by decide +kernel,by decide +kernel⟩
def jo (S_shows_no_skew:Sp3) (S_law_cells:Sp3) (S_law_box:Sp3) (S_clash:Sp3) (S_law_same:Sp3):TS3:=(qS (jt (or3 (tb3 (o3 (qjy true) (cb3 S_shows_no_skew (qc (v3 0) (qc (v3 1) (qc (v3 2) qj)))) (c3 (.bl true)))) (tb3 (o3 (jM true) (cb3 DY (qc (v3 2) qj)) (o3 (iC jP (· * ·)) (v3 0) (v3 0))))) (za (c3 (.bl false))) qO) (qS (CT (EF (qc (v3 2) qj)) (jr 2 (qr (gn3 3) (qr (gn3 4) jp))) (qS (zN (o3 ix3 (v3 1) (o3 ix3 (v3 4) (c3 (.int 0)))) (gn3 5)) (qS (zN (cb3 S_law_box (qc (cb3 S_law_cells (qc (v3 5) qj)) qj)) (jr 3 (qr (gn3 6) (qr (gn3 7) (qr (gn3 8) jp))))) (jt (qdE (tb3 (o3 (iB fun i j=>decide (i<=j)) (v3 6) (c3 (.int 16)))) (tb3 (o3 (iB fun i j=>decide (i<=j)) (v3 7) (c3 (.int 16))))) (qS (zN (cb3 S_clash (qc (QU (qc (c3 (.str "skew")) (qc (v3 6) (qc (v3 7) (qc (v3 0) (qc (o3 (iC qaF (· / ·)) (v3 3) (v3 0)) (qc (o3 (iC (fun _ j=>0 < j) (· % ·)) (v3 3) (v3 0)) qj))))))) (qc (v3 5) qj))) (gn3 9)) (jt (K7 (tb3 (cb3 S_law_same (qc (v3 9) (qc (QU (qc (v3 8) (qc (o3 ix3 (v3 4) (c3 (.int 1))) (qc (o3 ix3 (v3 4) (c3 (.int 2))) qj)))) qj))))) (za (c3 (.bl false))) qO)) qO)))) (za (c3 (.bl true)))))
theorem DE {S_shows_no_skew:Sp3} {S_law_cells:Sp3} {S_law_box:Sp3} {S_clash:Sp3} {S_law_same:Sp3} (F:Fun K "_law_bars_right" "_law_bars_right" zz f fd) (bd:zn K fd QN []) (hm:mg "_law_bars_right" = some (.ref f)) (qt:Fn3 P w K mg base k "shows_no_skew" S_shows_no_skew) (qY:Fn3 P w K mg base k "_law_cells" S_law_cells) (QB:Fn3 P w K mg base k "_law_box" S_law_box) (jW:Fn3 P w K mg base k "clash" S_clash) (F_law_same:Fn3 P w K mg base k "_law_same" S_law_same) (m_len:mg "len" = none) (m_enumerate:mg "enumerate" = none)
  (read:Rd sp 3 (jo S_shows_no_skew S_law_cells S_law_box S_clash S_law_same) zL):Fn3 P w K mg base (k+1) "_law_bars_right" sp:=
 qC (t3:=(jo S_shows_no_skew S_law_cells S_law_box S_clash S_law_same)) F qN bd hm (fun cdv A outer s H E hr=>(qg (zA (jpt (qag (qJ qbo NQ (qh qt hr rfl (qa (qb 0) (qa (qb 1) (qa (qb 2) qd)))) VJ (qz _)) (RC (qJ (WX hr.units) UE (qy zq zW rfl m_len PySem.boot_len (qa (qb 2) qd)) (zD (qb 0) (qb 0)) (qz _))))) (qk (qo VJ)) qM) (qg (JN PassesOwn.never rfl (RY rfl m_enumerate (qa (qb 2) qd)) (zR rfl (qp (qv (i:=3) (qN.nd)) (qp (qv (i:=4) (qN.nd)) zQ))) (qg (zj 5 qN.nd (qu (qb 1) (qu (qb 4) qe))) (qg (YL (qh QB hr rfl (qa (qh qY hr rfl (qa (qb 5) qd)) qd)) (zR rfl (qp (qv (i:=6) (qN.nd)) (qp (qv (i:=7) (qN.nd)) (qp (qv (i:=8) (qN.nd)) zQ))))) (qk (zA (jpt (qcx (qJ qbq ZC (qb 6) qe (qz _)) (LP (qJ qbq ZC (qb 7) qe (qz _))))) (qg (zj 9 qN.nd (qh jW hr rfl (qa (qW (qa zr (qa (qb 6) (qa (qb 7) (qa (qb 0) (qa (T5 (qb 3) (qb 0)) (qa (VL (qb 3) (qb 0)) qd))))))) (qa (qb 5) qd)))) (qk (zA (V9 (JE (qh F_law_same hr rfl (qa (qb 9) (qa (qW (qa (qb 8) (qa (qu (qb 4) qe) (qa (qu (qb 4) qe) qd)))) qd))))) (qk (qo VJ)) qM))) qM))))) (qk (qo VJ))))) read
abbrev YT:Stmt:=top 51
abbrev qdV:List Str:=["_law_script","_law_k","_law_left_here","_law_banks","_law_most","_law_walks","_law_found","_law_told","_law_served","_law_due","_law_at","_law_n","_law_blocked"]
abbrev qiP:List Str:=["_law_script"]
theorem ZV:FnScope qdV qiP (qi YT):=⟨rfl,rfl,rfl,by decide +kernel,rfl,by decide +kernel,by decide +kernel⟩
def qg1 (S_law_left:Sp3) (S_law_pick:Sp3) (S_law_walk:Sp3) (S_skew_for:Sp3) (S_law_found_right:Sp3) (S_law_bars_right:Sp3) (S_least_skew:Sp3) (S_law_same:Sp3) (S_shows_no_skew:Sp3):TS3:=(qS (CT (jJ (qc (o3 jN (c3 (.int 1)) (cb3 qkq (qc (c3 (.int 4)) (qc (cb3 DY (qc (v3 0) qj)) qj)))) qj)) (gn3 1) (qS (zN (cb3 S_law_left (qc (v3 0) (qc (v3 1) qj))) (gn3 2)) (qS (zN (o3 jN (c3 (.int 1)) (cb3 S_law_pick (qc (v3 2) (qc (o3 ix3 (XS (qc (c3 (.int 9)) (qc (c3 (.int 9)) (qc (c3 (.int 9)) (qc (c3 (.int 16)) qj))))) (cb3 S_law_pick (qc (v3 2) (qc (c3 (.int 4)) qj)))) qj)))) (gn3 3)) (qS (zN (cb3 S_law_pick (qc (v3 2) (qc (c3 (.int 10)) qj))) (gn3 4)) (qS (zN (lc3 (jJ (qc (o3 jN (c3 (.int 1)) (cb3 S_law_pick (qc (v3 2) (qc (c3 (.int 4)) qj)))) qj)) (gn3 0) tt3 (cb3 S_law_walk (qc (v3 1) qj)) [none,some 2]) (gn3 5)) (qS (zN (cb3 S_skew_for (qc (v3 3) (qc (v3 5) qj))) (gn3 6)) (qS (jt (qdE (tb3 (o3 (jM false) (o3 ix3 (v3 6) (c3 (.int 0))) (c3 (.str "skew")))) (K7 (tb3 (cb3 S_law_found_right (qc (v3 2) (qc (v3 3) (qc (v3 5) (qc (o3 ix3 (v3 6) (c3 (.int 1))) (qc (o3 ix3 (v3 6) (c3 (.int 2))) qj))))))))) (za (c3 (.bl false))) qO) (qS (jt (qdE (tb3 (o3 (jM false) (o3 ix3 (v3 6) (c3 (.int 0))) (c3 (.str "none")))) (K7 (tb3 (cb3 S_law_bars_right (qc (v3 3) (qc (v3 5) (qc (o3 ix3 (v3 6) (c3 (.int 1))) qj))))))) (za (c3 (.bl false))) qO) (qS (zN (lc3 (jJ (qc (c3 (.int 1)) (qc (o3 jN (v3 4) (c3 (.int 1))) qj))) (gn3 0) tt3 (cb3 S_skew_for (qc (v3 0) (qc (v3 1) qj))) [none,some 5]) (gn3 7)) (qS (zN (lc3 (EF (qc (v3 7) qj)) (jr 2 (qr (gn3 0) (qr (gn3 1) jp))) (tb3 (o3 (jM false) (o3 ix3 (v3 1) (c3 (.int 0))) (c3 (.str "skew")))) (v3 0) [none,none]) (gn3 8)) (qS (zN (c3 .non) (gn3 9)) (qS (jt (tb3 (o3 (jM true) (v3 8) (XS qj))) (qS (zN (o3 ix3 (v3 8) (c3 (.int 0))) (gn3 10)) (zN (QU (qc (o3 jN (v3 10) (c3 (.int 1))) (qc (o3 ix3 (o3 ix3 (v3 7) (v3 10)) (c3 (.int 1))) (qc (o3 ix3 (o3 ix3 (v3 7) (v3 10)) (c3 (.int 2))) (qc (lc3 (JV (qiw (v3 7) np3 (sp3 (v3 10)))) (gn3 0) tt3 (o3 ix3 (v3 0) (c3 (.int 1))) [none]) qj))))) (gn3 9))) qO) (qS (jt (K7 (tb3 (cb3 S_law_same (qc (cb3 S_least_skew (qc (v3 5) (qc (v3 4) qj))) (qc (v3 9) qj))))) (za (c3 (.bl false))) qO) (CT (EF (qc (if3 (tb3 (o3 (qah true) (v3 9) (c3 .non))) (o3 ix3 (v3 9) (c3 (.int 3))) (XS qj)) qj)) (jr 2 (qr (gn3 11) (qr (gn3 12) jp))) (jt (tb3 (o3 (qjy true) (cb3 S_shows_no_skew (qc (o3 jN (v3 11) (c3 (.int 1))) (qc (v3 5) (qc (v3 12) qj)))) (c3 (.bl true)))) (za (c3 (.bl false))) qO))))))))))))))) (za (c3 (.bl true))))
theorem qjI {S_law_left:Sp3} {S_law_pick:Sp3} {S_law_walk:Sp3} {S_skew_for:Sp3} {S_law_found_right:Sp3} {S_law_bars_right:Sp3} {S_least_skew:Sp3} {S_law_same:Sp3} {S_shows_no_skew:Sp3} (F:Fun K "law" "law" YT f fd) (F_law_left:Fn3 P w K mg base k "_law_left" S_law_left) (F_law_pick:Fn3 P w K mg base k "_law_pick" S_law_pick) (F_law_walk:Fn3 P w K mg base k "_law_walk" S_law_walk) (qD:Fn3 P w K mg base k "skew_for" S_skew_for) (F_law_found_right:Fn3 P w K mg base k "_law_found_right" S_law_found_right) (qR:Fn3 P w K mg base k "_law_bars_right" S_law_bars_right) (zt:Fn3 P w K mg base k "least_skew" S_least_skew) (F_law_same:Fn3 P w K mg base k "_law_same" S_law_same) (qt:Fn3 P w K mg base k "shows_no_skew" S_shows_no_skew) (m_len:mg "len" = none) (m_min:mg "min" = none) (m_range:mg "range" = none) (m_enumerate:mg "enumerate" = none)
  (read:Rd sp 1 (qg1 S_law_left S_law_pick S_law_walk S_skew_for S_law_found_right S_law_bars_right S_least_skew S_law_same S_shows_no_skew) qdV):FnOk P w K mg base CX0 (k+1) f fd qiP (lSp K sp):=
 qdQ (t3:=(qg1 S_law_left S_law_pick S_law_walk S_skew_for S_law_found_right S_law_bars_right S_least_skew S_law_same S_shows_no_skew)) F ZV (fun cdv A outer s H E hr=>(qg (JN PassesOwn.never rfl (zB rfl m_range (qa (qK qe (qy (qa6 rfl) qgA rfl m_min PyProof.Rows.boot_min (qa qe (qa (qy zq zW rfl m_len PySem.boot_len (qa (qb 0) qd)) qd)))) qd) (h1:=by intro _ _ _ h;simpa [qc,qj] using h)) (qv (i:=1) (ZV.nd)) (qg (zj 2 ZV.nd (qh F_law_left hr rfl (qa (qb 0) (qa (qb 1) qd)))) (qg (zj 3 ZV.nd (qK qe (qh F_law_pick hr rfl (qa (qb 2) (qa (qu (YK (qa qe (qa qe (qa qe (qa qe qd))))) (qh F_law_pick hr rfl (qa (qb 2) (qa qe qd)))) qd))))) (qg (zj 4 ZV.nd (qh F_law_pick hr rfl (qa (qb 2) (qa qe qd)))) (qg (zj 5 ZV.nd (YS ["_law_turn","_law_left_here"] [none,some 2] rfl (zB rfl m_range (qa (qK qe (qh F_law_pick hr rfl (qa (qb 2) (qa qe qd)))) qd) (h1:=by intro _ _ _ h;simpa [qc,qj] using h)) (fun _ _ _=>(jgn 0)) (fun _ _ _=>zM) (fun _ _ _=>(qh F_law_walk hr rfl (qa (qb 1) qd))) (by kernel_rfl) (by kernel_rfl))) (qg (zj 6 ZV.nd (qh qD hr rfl (qa (qb 3) (qa (qb 5) qd)))) (qg (zA (jpt (qcx (qJ (zk hr.units) qL (qu (qb 6) qe) zr (qz _)) (LP (V9 (JE (qh F_law_found_right hr rfl (qa (qb 2) (qa (qb 3) (qa (qb 5) (qa (qu (qb 6) qe) (qa (qu (qb 6) qe) qd))))))))))) (qk (qo VJ)) qM) (qg (zA (jpt (qcx (qJ (zk hr.units) qL (qu (qb 6) qe) zr (qz _)) (LP (V9 (JE (qh qR hr rfl (qa (qb 3) (qa (qb 5) (qa (qu (qb 6) qe) qd))))))))) (qk (qo VJ)) qM) (qg (WW 7 ["_law_size","_law_walks"] [none,some 5] rfl ZV.nd (VF rfl m_range (qa qe (qa (qK (qb 4) qe) qd)) (h1:=by intro _ _ _ h;simpa [qc,qj] using h)) (fun _ _ _=>(jgn 0)) (fun _ _ _=>zM) (fun _ _ _=>(qh qD hr rfl (qa (qb 0) (qa (qb 1) qd)))) (by kernel_rfl) (by kernel_rfl) rfl rfl) (qg (WW 8 ["_law_n","_law_one"] [none,none] rfl ZV.nd (RY rfl m_enumerate (qa (qb 7) qd)) (fun _ _ _=>(zR rfl (qp (jgn 0) (qp (jgn 1) zQ)))) (fun _ _ _=>qgh (qJ (zk hr.units) qL (qu (qb 1) qe) zr (qz _))) (fun _ _ _=>(qb 0)) (by kernel_rfl) (by kernel_rfl) rfl rfl) (qg (zj 9 ZV.nd JT) (qg (zA (qJ (WX hr.units) UE (qb 8) (YK qd) (qz _)) (qg (zj 10 ZV.nd (qu (qb 8) qe)) (qk (zj 9 ZV.nd (qW (qa (qK (qb 10) qe) (qa (qu (qu (qb 7) (qb 10)) qe) (qa (qu (qu (qb 7) (qb 10)) qe) (qa (YS ["_law_one"] [none] rfl (QR (NH (qb 7) qhH (MQ (qb 10)))) (fun _ _ _=>(jgn 0)) (fun _ _ _=>zM) (fun _ _ _=>(qu (qb 0) qe)) (by kernel_rfl) (by kernel_rfl)) qd)))))))) qM) (qg (zA (V9 (JE (qh F_law_same hr rfl (qa (qh zt hr rfl (qa (qb 5) (qa (qb 4) qd))) (qa (qb 9) qd))))) (qk (qo VJ)) qM) (qk (JN PassesOwn.never rfl (RY rfl m_enumerate (qa (qii (qJ R5 WR (qb 9) JT (qz _)) (qu (qb 9) qe) (YK qd)) qd)) (zR rfl (qp (qv (i:=11) (ZV.nd)) (qp (qv (i:=12) (ZV.nd)) zQ))) (qk (zA (qJ qbo NQ (qh qt hr rfl (qa (qK (qb 11) qe) (qa (qb 5) (qa (qb 12) qd)))) VJ (qz _)) (qk (qo VJ)) qM))))))))))))))))) (qk (qo VJ)))) read
end K92
namespace K92
open PySem L2 L3 Pu
def ZN:PuS (Bk.YD):=(QI (CC (qiu (fun t=>j5 t "int") (bV 0)) (qiR (qiu (fun t=>j5 t "bool") (bV 0)))))
def qG:List PyData->Option PyData:=Pu.run ZN.f 1 1 1000000000 false
theorem T3:Rd (PSp qG false) 1 (Bk.YD) J4:=qP ZN J4 1 1000000000 false
theorem D9 {x0:PyData}:qG [x0]=Z5 false (ZN.f 1000000000 [.sh x0]):=id rfl
def EL:PuS (Bk.US (PSp qG false)):=(QI (CC (qiu (fun t=>j5 t "tuple") (bV 0)) (CC (bO (D7 false) (qx M5 (qf (bV 0) qB)) (qQ 2)) (CC (qx (qV qG false) (qf (bO zx (bV 0) (qQ 0)) qB)) (qx (qV qG false) (qf (bO zx (bV 0) (qQ 1)) qB))))))
def zF:List PyData->Option PyData:=Pu.run EL.f 1 1 1000000000 false
theorem qaI:Rd (PSp zF false) 1 (Bk.US (PSp qG false)) JG:=qP EL JG 1 1000000000 false
theorem qav {x0:PyData}:zF [x0]=Z5 false (EL.f 1000000000 [.sh x0]):=id rfl
def zC:PuS (K92.jd (PSp qG false)):=(QI (CC (qx (qV qG false) (qf (bV 0) qB)) (bCh (opB fun i j=>decide (i<=j)) (opB fun i j=>decide (i < j)) (qQ 0) (bV 0) (bV 1))))
def qm:List PyData->Option PyData:=Pu.run zC.f 2 2 1000000000 false
theorem U2:Rd (PSp qm false) 2 (K92.jd (PSp qG false)) zE:=qP zC zE 2 1000000000 false
theorem U3 {x0 x1:PyData}:qm [x0,x1]=Z5 false (zC.f 1000000000 [.sh x0,.sh x1]):=id rfl
def ju:PuS (K92.YE (PSp qm false)):=(jV (sIf (bOr (qc1 (bTb (qx (qV qm false) (qf (bV 1) (qf (qx M5 (qf (bV 0) qB)) qB))))) (qc1 (bTb (qx (qV qm false) (qf (bV 2) (qf (qx M5 (qf (bV 0) qB)) qB)))))) (QI (bBl false)) QG) (QI (CC (bO (opB fun i j=>decide (i < j)) (bV 1) (bV 2)) (bO (D7 false) (bO zx (bV 0) (bV 1)) (bO zx (bV 0) (bV 2))))))
def zX:List PyData->Option PyData:=Pu.run ju.f 3 3 1000000000 false
theorem KZ:Rd (PSp zX false) 3 (K92.YE (PSp qm false)) jR:=qP ju jR 3 1000000000 false
theorem KO {x0 x1 x2:PyData}:zX [x0,x1,x2]=Z5 false (ju.f 1000000000 [.sh x0,.sh x1,.sh x2]):=id rfl
def YI:PuS (Bk.J0 (PSp (Pv.qq 1) false)):=(jV (XC (qx (qV (Pv.qq 1) false) (qf (bV 0) qB)) (DT 3 (qU (gN 2) (qU (gN 3) (qU (gN 4) DU)))) [true] ⟨rfl⟩) (QI (bO JM (bO (opC jP (· * ·)) (bO zx (bV 1) (qQ 0)) (bV 3)) (bO zx (bV 1) (qQ 1)))))
def zv:List PyData->Option PyData:=Pu.run YI.f 2 5 1000000000 false
theorem LJ:Rd (PSp zv false) 2 (Bk.J0 (PSp (Pv.qq 1) false)) ZI:=qP YI ZI 2 1000000000 false
theorem KL {x0 x1:PyData}:zv [x0,x1]=Z5 false (YI.f 1000000000 [.sh x0,.sh x1,.un,.un,.un]):=id rfl
def ES:PuS (Bk.UZ (PSp zF false) (PSp (Pv.qq 1) false)):=(jV (sIf (qc1 (bTb (qx (qV zF false) (qf (bV 1) qB)))) (QI (bBl false)) QG) (jV (XC (qx (qV (Pv.qq 1) false) (qf (bV 0) qB)) (DT 3 (qU (gN 2) (qU (gN 3) (qU (gN 4) DU)))) [true] ⟨rfl⟩) (QI (CC (bCh (opB fun i j=>decide (i<=j)) (opB fun i j=>decide (i < j)) (qQ 0) (bO zx (bV 1) (qQ 0)) (bV 2)) (bCh (opB fun i j=>decide (i<=j)) (opB fun i j=>decide (i < j)) (qQ 0) (bO zx (bV 1) (qQ 1)) (bV 3))))))
def QA:List PyData->Option PyData:=Pu.run ES.f 2 5 1000000000 false
theorem qaH:Rd (PSp QA false) 2 (Bk.UZ (PSp zF false) (PSp (Pv.qq 1) false)) VI:=qP ES VI 2 1000000000 false
theorem qao {x0 x1:PyData}:QA [x0,x1]=Z5 false (ES.f 1000000000 [.sh x0,.sh x1,.un,.un,.un]):=id rfl
def YU:PuS (Bk.EB (PSp zv false) (PSp (fun _=>none) false) (PSp (fun _=>none) false)):=(jV (LH (bO zx (bV 0) (qQ 0)) 2 [true] ⟨rfl⟩) (jV (sIf (bTb (bO (D7 false) (bV 2) (CP "skew"))) (QI (bO (opC (fun _ j=>0 < j) (· % ·)) (bO JM (bO (opC jP (· * ·)) (bO zx (bV 0) (qQ 4)) (bO zx (bV 1) (qQ 0))) (bO (opC jP (· * ·)) (bO zx (bV 0) (qQ 5)) (bO zx (bV 1) (qQ 1)))) (bO zx (bV 0) (qQ 3)))) QG) (jV (sIf (bTb (bO (D7 false) (bV 2) (CP "rests"))) (QI (bO (opC (fun _ j=>0 < j) (· % ·)) (qx (qV zv false) (qf (bV 0) (qf (bV 1) qB))) (bO zx (bV 0) (qQ 3)))) QG) (jV (sIf (bTb (bO (D7 false) (bV 2) (CP "bits"))) (QI (qx (qV (fun _=>none) false) (qf (bO zx (bV 0) (qQ 3)) (qf (qx (qV zv false) (qf (bV 0) (qf (bV 1) qB))) qB)))) QG) (jV (sIf (bTb (bO (D7 false) (bV 2) (CP "table"))) (QI (bO zx (bO zx (bO zx (bV 0) (qQ 2)) (bO zx (bV 1) (qQ 0))) (bO zx (bV 1) (qQ 1)))) QG) (QI (qx (qV (fun _=>none) false) (qf (bO zx (bV 0) (qQ 1)) (qf (bO zx (bV 0) (qQ 2)) (qf (bV 1) qB))))))))))
def QC:List PyData->Option PyData:=Pu.run YU.f 2 3 1000000000 false
theorem qay:Rd (PSp QC false) 2 (Bk.EB (PSp zv false) (PSp (fun _=>none) false) (PSp (fun _=>none) false)) YX:=qP YU YX 2 1000000000 false
theorem qaE {x0 x1:PyData}:QC [x0,x1]=Z5 false (YU.f 1000000000 [.sh x0,.sh x1,.un]):=id rfl
def EC:PuS (Bk.ED (PSp Pv.qs true)):=(QI (bLc (TR (qx (qV Pv.qs true) (qf (bV 0) qB))) (DT 2 (qU (gN 0) (qU (gN 1) DU))) bTt (UI (qf (bO JM (bO zx (bV 2) (qQ 0)) (bV 0)) (qf (bO JM (bO zx (bV 2) (qQ 1)) (bV 1)) qB)) ⟨rfl⟩) [none,none,some 1] ⟨rfl⟩))
def zH:List PyData->Option PyData:=Pu.run EC.f 2 2 1000000000 true
theorem qaA:Rd (PSp zH true) 2 (Bk.ED (PSp Pv.qs true)) UR:=qP EC UR 2 1000000000 true
theorem qai {x0 x1:PyData}:zH [x0,x1]=Z5 true (EC.f 1000000000 [.sh x0,.sh x1]):=id rfl
def V4:PuS (Bk.VU (PSp zH true) (PSp QA false) (PSp zF false)):=(QI (CC (qx (qV zF false) (qf (bV 2) qB)) (qx qkn (qf (bLc (TR (qx (qV zH true) (qf (bV 1) (qf (bV 2) qB)))) (gN 0) bTt (qx (qV QA false) (qf (bV 1) (qf (bV 0) qB))) [none,some 0] ⟨rfl⟩) qB))))
def jw:List PyData->Option PyData:=Pu.run V4.f 3 3 1000000000 false
theorem MK:Rd (PSp jw false) 3 (Bk.VU (PSp zH true) (PSp QA false) (PSp zF false)) VV:=qP V4 VV 3 1000000000 false
theorem L8 {x0 x1 x2:PyData}:jw [x0,x1,x2]=Z5 false (V4.f 1000000000 [.sh x0,.sh x1,.sh x2]):=id rfl
def VX:PuS (Bk.VW (PSp jw false) (PSp zH true)):=(jV (sIf (qc1 (bTb (qx (qV jw false) (qf (bV 0) (qf (bV 1) (qf (bV 2) qB)))))) qqB QG) (QI (qx (qV zH true) (qf (bV 1) (qf (bV 2) qB)))))
def jv:List PyData->Option PyData:=Pu.run VX.f 3 3 1000000000 true
theorem L7:Rd (PSp jv true) 3 (Bk.VW (PSp jw false) (PSp zH true)) VP:=qP VX VP 3 1000000000 true
theorem MT {x0 x1 x2:PyData}:jv [x0,x1,x2]=Z5 true (VX.f 1000000000 [.sh x0,.sh x1,.sh x2]):=id rfl
def Q1:PuS (Bk.Q2):=(QI (qk4 (T7 (qf (bV 0) qB)) (gN 0) bTt (T7 (qf (bV 2) qB)) (gN 1) bTt (UI (qf (bV 0) (qf (bV 1) qB)) ⟨rfl⟩) [none,none,some 0] ⟨rfl⟩ ⟨rfl⟩ ⟨rfl⟩))
def qF:List PyData->Option PyData:=Pu.run Q1.f 1 1 1000000000 true
theorem CM:Rd (PSp qF true) 1 (Bk.Q2) Q4:=qP Q1 Q4 1 1000000000 true
theorem CJ {x0:PyData}:qF [x0]=Z5 true (Q1.f 1000000000 [.sh x0]):=id rfl
def J6:PuS (Bk.J5 (PSp Pv.zh false) (PSp Pv.qw false)):=(jV (qds (N7 (qf (bV 2) qB)) (DT 2 (qU (gN 3) (qU (gN 4) DU))) (jV (LH (qx (qV Pv.qw false) (qf (qx (qV Pv.zh false) (qf (bV 0) (qf (bV 1) (qf (bV 4) qB)))) qB)) 5 [true,true,false,false,true] ⟨rfl⟩) (sIf (bTb (bO (qaj true) (bV 5) qaR)) (QI (UI (qf (bV 3) (qf (bO zx (bV 5) (qQ 0)) (qf (bO zx (bV 5) (qQ 1)) qB))) ⟨rfl⟩)) QG)) [false,false,true] ⟨rfl⟩) (QI qaR))
def z3:List PyData->Option PyData:=Pu.run J6.f 3 6 1000000000 false
theorem T9:Rd (PSp z3 false) 3 (Bk.J5 (PSp Pv.zh false) (PSp Pv.qw false)) Q9:=qP J6 Q9 3 1000000000 false
theorem K0 {x0 x1 x2:PyData}:z3 [x0,x1,x2]=Z5 false (J6.f 1000000000 [.sh x0,.sh x1,.sh x2,.un,.un,.un]):=id rfl
def V5:PuS (Bk.VY (PSp qF true) (PSp z3 false)):=(jV (LH (qdX qB ⟨rfl⟩) 2 [] ⟨rfl⟩) (jV (qds (TR (qx (qV qF true) (qf (bV 0) qB))) (gN 3) (jV (LH (qx (qV z3 false) (qf (bV 0) (qf (bV 3) (qf (bV 1) qB)))) 4 [true,true,false,true] ⟨rfl⟩) (jV (sIf (bTb (bO (qaj false) (bV 4) qaR)) (QI (UI (qf (CP "skew") (qf (bO zx (bV 3) (qQ 0)) (qf (bO zx (bV 3) (qQ 1)) qB))) ⟨rfl⟩)) QG) (qo4 (bV 4) 2 [false,false,false,false,true] ⟨rfl⟩))) [true] ⟨rfl⟩) (QI (UI (qf (CP "none") (qf (bV 2) qB)) ⟨rfl⟩))))
def qD:List PyData->Option PyData:=Pu.run V5.f 2 5 1000000000 false
theorem MP:Rd (PSp qD false) 2 (Bk.VY (PSp qF true) (PSp z3 false)) JL:=qP V5 JL 2 1000000000 false
theorem MN {x0 x1:PyData}:qD [x0,x1]=Z5 false (V5.f 1000000000 [.sh x0,.sh x1,.un,.un,.un]):=id rfl
def jB:PuS (K92.WL (PSp Pv.zh false) (PSp zX false) (PSp qm false)):=(jV (sIf (bOr (qc1 (bTb (qiu (fun t=>j5 t "tuple") (bV 3)))) (bTb (bO (D7 true) (qx M5 (qf (bV 3) qB)) (qQ 3)))) (QI (bBl false)) QG) (jV (XC (bV 3) (DT 3 (qU (gN 4) (qU (gN 5) (qU (gN 6) DU)))) [false,false,false,true] ⟨rfl⟩) (QI (CC (qx (qV qm false) (qf (bV 4) (qf (qx M5 (qf (bV 2) qB)) qB))) (qx (qV zX false) (qf (qx (qV Pv.zh false) (qf (bV 0) (qf (bV 1) (qf (bO zx (bV 2) (bV 4)) qB)))) (qf (bV 5) (qf (bV 6) qB))))))))
def Z4:List PyData->Option PyData:=Pu.run jB.f 4 7 1000000000 false
theorem qcf:Rd (PSp Z4 false) 4 (K92.WL (PSp Pv.zh false) (PSp zX false) (PSp qm false)) U9:=qP jB U9 4 1000000000 false
theorem qbj {x0 x1 x2 x3:PyData}:Z4 [x0,x1,x2,x3]=Z5 false (jB.f 1000000000 [.sh x0,.sh x1,.sh x2,.sh x3,.un,.un,.un]):=id rfl
def qI:PuS (K92.jH (PSp qF true) (PSp Z4 false)):=(jV (sIf (bOr (qc1 (bTb (qiu (fun t=>j5 t "list") (bV 2)))) (bTb (bO (D7 true) (qx M5 (qf (bV 2) qB)) (bO (opC jP (· * ·)) (bV 0) (bV 0))))) (QI (bBl false)) QG) (QI (qx qkn (qf (bLc (qqy (qf (qx (qV qF true) (qf (bV 0) qB)) (qf (bV 2) qB))) (DT 2 (qU (gN 0) (qU (gN 1) DU))) bTt (qx (qV Z4 false) (qf (bV 2) (qf (bV 0) (qf (bV 3) (qf (bV 1) qB))))) [none,none,some 0,some 1] ⟨rfl⟩) qB))))
def qt:List PyData->Option PyData:=Pu.run qI.f 3 3 1000000000 false
theorem WD:Rd (PSp qt false) 3 (K92.jH (PSp qF true) (PSp Z4 false)) jC:=qP qI jC 3 1000000000 false
theorem WB {x0 x1 x2:PyData}:qt [x0,x1,x2]=Z5 false (qI.f 1000000000 [.sh x0,.sh x1,.sh x2]):=id rfl
def QH:PuS (Bk.ZY (PSp qD false)):=(jV (LH (qdX qB ⟨rfl⟩) 2 [] ⟨rfl⟩) (jV (qds (T7 (qf (qQ 1) (qf (bO JM (bV 1) (qQ 1)) qB))) (gN 3) (jV (LH (qx (qV qD false) (qf (bV 3) (qf (bV 0) qB))) 4 [true,false,false,true] ⟨rfl⟩) (jV (sIf (bTb (bO (D7 false) (bO zx (bV 4) (qQ 0)) (CP "skew"))) (QI (UI (qf (bV 3) (qf (bO zx (bV 4) (qQ 1)) (qf (bO zx (bV 4) (qQ 2)) (qf (bV 2) qB)))) ⟨rfl⟩)) QG) (qo4 (bO zx (bV 4) (qQ 1)) 2 [false,false,false,false,true] ⟨rfl⟩))) [false,true] ⟨rfl⟩) (QI qaR)))
def zt:List PyData->Option PyData:=Pu.run QH.f 2 5 1000000000 false
theorem TM:Rd (PSp zt false) 2 (Bk.ZY (PSp qD false)) j4:=qP QH j4 2 1000000000 false
theorem EI {x0 x1:PyData}:zt [x0,x1]=Z5 false (QH.f 1000000000 [.sh x0,.sh x1,.un,.un,.un]):=id rfl
def Z7:PuS (Bk.ZZ (PSp jv true) (PSp QC false)):=(QI (bLc (TR (qx (qV jv true) (qf (bV 0) (qf (bV 1) (qf (bV 2) qB))))) (gN 0) bTt (qx (qV QC false) (qf (bV 1) (qf (bV 0) qB))) [none,some 0] ⟨rfl⟩))
def ze:List PyData->Option PyData:=Pu.run Z7.f 3 3 1000000000 true
theorem SZ:Rd (PSp ze true) 3 (Bk.ZZ (PSp jv true) (PSp QC false)) j3:=qP Z7 j3 3 1000000000 true
theorem SH {x0 x1 x2:PyData}:ze [x0,x1,x2]=Z5 true (Z7.f 1000000000 [.sh x0,.sh x1,.sh x2]):=id rfl
def R8:PuS (Bk.TH (PSp (Pv.ZU 1) true) (PSp ze true) (PSp Pv.qw false)):=(jV (qds (TR (qx (qV (Pv.ZU 1) true) (qf (bV 0) (qf (bV 1) qB)))) (gN 2) (jV (LH (qx (qV Pv.qw false) (qf (qx (qV ze true) (qf (bV 0) (qf (bV 1) (qf (bV 2) qB)))) qB)) 3 [true,true,true] ⟨rfl⟩) (sIf (bTb (bO (qaj true) (bV 3) qaR)) (QI (UI (qf (bV 2) (qf (bO zx (bV 3) (qQ 0)) (qf (bO zx (bV 3) (qQ 1)) qB))) ⟨rfl⟩)) QG)) [true,true] ⟨rfl⟩) (QI qaR))
def jW:List PyData->Option PyData:=Pu.run R8.f 2 4 1000000000 false
theorem qdi:Rd (PSp jW false) 2 (Bk.TH (PSp (Pv.ZU 1) true) (PSp ze true) (PSp Pv.qw false)) XF:=qP R8 XF 2 1000000000 false
theorem qdb {x0 x1:PyData}:jW [x0,x1]=Z5 false (R8.f 1000000000 [.sh x0,.sh x1,.un,.un]):=id rfl
def z9:PuS (Bk.JZ):=(jV (sIf (bTb (bO (D7 false) (bO zx (bV 0) (qQ 0)) (CP "cells"))) (QI (qx qnQ (qf (bO zx (bV 0) (qQ 1)) qB))) QG) (jV (sIf (bTb (bO (D7 false) (bO zx (bV 0) (qQ 0)) (CP "block"))) (jV (LH (qdX qB ⟨rfl⟩) 1 [] ⟨rfl⟩) (jV (qds (T7 (qf (bO zx (bV 0) (qQ 1)) qB)) (gN 2) (qqv (bLc (T7 (qf (bO zx (bV 0) (qQ 2)) qB)) (gN 0) bTt (UI (qf (bV 1) (qf (bV 0) qB)) ⟨rfl⟩) [none,some 2] ⟨rfl⟩) 1 [true,false,true] ⟨rfl⟩) [true] ⟨rfl⟩) (qk8 1))) QG) (jV (XC (qiS ["row","column","slant","back","step"] (qf (UI (qf (qQ 0) (qf (qQ 1) qB)) ⟨rfl⟩) (qf (UI (qf (qQ 1) (qf (qQ 0) qB)) ⟨rfl⟩) (qf (UI (qf (qQ 1) (qf (qQ 1) qB)) ⟨rfl⟩) (qf (UI (qf (qQ 1) (qf (qhe (qQ 1)) qB)) ⟨rfl⟩) (qf (bSl (bV 0) (bSp (qQ 1)) (bSp (qQ 3))) qB))))) (bO zx (bV 0) (qQ 0))) (DT 2 (qU (gN 3) (qU (gN 4) DU))) [true] ⟨rfl⟩) (QI (bLc (T7 (qf (bO zx (bV 0) (qhe (qQ 1))) qB)) (gN 0) bTt (UI (qf (bO (opC jP (· * ·)) (bV 0) (bV 1)) (qf (bO (opC jP (· * ·)) (bV 0) (bV 2)) qB)) ⟨rfl⟩) [none,some 3,some 4] ⟨rfl⟩)))))
def qY:List PyData->Option PyData:=Pu.run z9.f 1 5 1000000000 true
theorem T8:Rd (PSp qY true) 1 (Bk.JZ) J9:=qP z9 J9 1 1000000000 true
theorem KS {x0:PyData}:qY [x0]=Z5 true (z9.f 1000000000 [.sh x0,.un,.un,.un,.un]):=id rfl
def jZ:PuS (Bk.jY):=(QI (bLc (TR (bV 0)) (DT 2 (qU (gN 0) (qU (gN 1) DU))) bTt (bO (opC (fun _ j=>0 < j) (· % ·)) (bO JM (bO (opC jP (· * ·)) (bV 3) (bV 0)) (bO (opC jP (· * ·)) (bV 4) (bV 1))) (bV 2)) [none,none,some 1,some 2,some 3] ⟨rfl⟩))
def zf:List PyData->Option PyData:=Pu.run jZ.f 4 4 1000000000 true
theorem CG:Rd (PSp zf true) 4 (Bk.jY) jX:=qP jZ jX 4 1000000000 true
theorem W7 {x0 x1 x2 x3:PyData}:zf [x0,x1,x2,x3]=Z5 true (jZ.f 1000000000 [.sh x0,.sh x1,.sh x2,.sh x3]):=id rfl
def Z0:PuS (K92.ZW (PSp qY true) (PSp zf true)):=(jV (LH (bLc (TR (bV 1)) (gN 0) bTt (qx (qV zf true) (qf (qx (qV qY true) (qf (bV 0) qB)) (qf (bV 1) (qf (bV 2) (qf (bV 3) qB))))) [none,some 0,some 2,some 3] ⟨rfl⟩) 4 [true,true,true,true] ⟨rfl⟩) (QI (qx qkn (qf (bLc (TR (bV 4)) (gN 0) bTt (bO (D7 false) (qlz (bV 0)) (qx M5 (qf (bV 0) qB))) [none] ⟨rfl⟩) qB))))
def zd:List PyData->Option PyData:=Pu.run Z0.f 4 5 1000000000 false
theorem R0:Rd (PSp zd false) 4 (K92.ZW (PSp qY true) (PSp zf true)) Z3:=qP Z0 Z3 4 1000000000 false
theorem TJ {x0 x1 x2 x3:PyData}:zd [x0,x1,x2,x3]=Z5 false (Z0.f 1000000000 [.sh x0,.sh x1,.sh x2,.sh x3,.un]):=id rfl
def EA:PuS (K92.UV):=(jV (qqe (qf (bLc (TR (bV 0)) (DT 2 (qU (gN 0) (qU (gN 1) DU))) bTt (bV 0) [none,none] ⟨rfl⟩) (qf (bLc (TR (bV 0)) (DT 2 (qU (gN 0) (qU (gN 1) DU))) bTt (bV 1) [none,none] ⟨rfl⟩) qB)) 1 2 [true] ⟨rfl⟩) (QI (UI (qf (bO JM (bO (opI (· - ·)) (qx qct (qf (bV 1) qB)) (qx MR (qf (bV 1) qB))) (qQ 1)) (qf (bO JM (bO (opI (· - ·)) (qx qct (qf (bV 2) qB)) (qx MR (qf (bV 2) qB))) (qQ 1)) (qf (UI (qf (qhe (qx MR (qf (bV 1) qB))) (qf (qhe (qx MR (qf (bV 2) qB))) qB)) ⟨rfl⟩) qB))) ⟨rfl⟩)))
def QB:List PyData->Option PyData:=Pu.run EA.f 1 3 1000000000 false
theorem qaM:Rd (PSp QB false) 1 (K92.UV) EO:=qP EA EO 1 1000000000 false
theorem qad {x0:PyData}:QB [x0]=Z5 false (EA.f 1000000000 [.sh x0,.un,.un]):=id rfl
def jf:=((wIf (cOf (bTb (qx (qV zd false) (qf (bV 1) (qf (bV 2) (qf (bO (opC qaF (· / ·)) (bV 5) (bV 1)) (qf (bO (opC (fun _ j=>0 < j) (· % ·)) (bV 5) (bV 1)) qB))))))) (qgl (eOf (bBl false))) T6):PwS 0 _)
def jg:=((TU (qaO (eOf (UI (qf (CP "skew") (qf (bV 7) (qf (bV 8) (qf (bV 1) (qf (bV 3) (qf (bV 4) qB)))))) ⟨rfl⟩)) 9 [false,true,false,true,true,false,false,true,true] ⟨rfl⟩ ⟨rfl⟩) (wIf (cOf (bTb (bO (D7 true) (bLc (TR (bV 2)) (gN 0) (bTb (bO (qaj true) (qx (qV jW false) (qf (bV 1) (qf (bV 0) qB))) qaR)) (bV 0) [none,some 9] ⟨rfl⟩) (qdX qB ⟨rfl⟩)))) (qgl (eOf (bBl false))) T6)):PwS 0 _)
def jc:PwS 0 (K92.ja (PSp zd false) Bk.zw (PSp jW false)):=(TU (qnz (iOf (T7 (qf (bO JM (bO (opC jP (· * ·)) (bV 3) (bV 1)) (bV 4)) qB))) (gN 5) jf [false,true,false,true,true] ⟨rfl⟩ ⟨rfl⟩) (TU (qaO (qnX (qbl (eO JM (eOf (qQ 1)) (eDr K2 (aOf (qf (qQ 9) qB)))) (qbl (eO JM (eOf (qQ 1)) (eDr K2 (aOf (qf (qQ 9) qB)))) (aOf qB))) ⟨rfl⟩) 6 [] ⟨rfl⟩ ⟨rfl⟩) (TU (qnz (iOf (TR (UI (qf (bV 6) (qf (UI (qf (qQ 16) (qf (qQ 16) qB)) ⟨rfl⟩) qB)) ⟨rfl⟩))) (DT 2 (qU (gN 7) (qU (gN 8) DU))) jg [false,false,false,false,false,false,true] ⟨rfl⟩ ⟨rfl⟩) (qgl (eOf (qx (qV zd false) (qf (bV 1) (qf (bV 2) (qf (bV 3) (qf (bV 4) qB))))))))))
def zg:Wm:=qqm jc 5 10 false
theorem UY:Rd (DSp zg.W false) 5 (K92.ja (PSp zd false) Bk.zw (PSp jW false)) jb:=qgx jc jb 5 false
theorem U4 {x0 x1 x2 x3:PyData} {n:Nat} {Q:QD}:zg.W [x0,x1,x2,x3] n Q=(5=5/\jc.w [.un,.sh x0,.sh x1,.sh x2,.sh x3,.un,.un,.un,.un,.un] n (qps false Q)):=id rfl
def jn:PuS (K92.jo (PSp qt false) (PSp qY true) (PSp QB false) (PSp jW false) (Bk.zV 5)):=(jV (sIf (bOr (bTb (bO (qhB true) (qx (qV qt false) (qf (bV 0) (qf (bV 1) (qf (bV 2) qB)))) (bBl true))) (bTb (bO (D7 true) (qx M5 (qf (bV 2) qB)) (bO (opC jP (· * ·)) (bV 0) (bV 0))))) (QI (bBl false)) QG) (jV (qds (N7 (qf (bV 2) qB)) (DT 2 (qU (gN 3) (qU (gN 4) DU))) (jV (LH (bO zx (bV 1) (bO zx (bV 4) (qQ 0))) 5 [false,true,false,false,true] ⟨rfl⟩) (jV (XC (qx (qV QB false) (qf (qx (qV qY true) (qf (bV 5) qB)) qB)) (DT 3 (qU (gN 6) (qU (gN 7) (qU (gN 8) DU)))) [false,false,false,false,false,true] ⟨rfl⟩) (sIf (qod (bTb (bO (opB fun i j=>decide (i<=j)) (bV 6) (qQ 16))) (bTb (bO (opB fun i j=>decide (i<=j)) (bV 7) (qQ 16)))) (jV (LH (qx (qV jW false) (qf (UI (qf (CP "skew") (qf (bV 6) (qf (bV 7) (qf (bV 0) (qf (bO (opC qaF (· / ·)) (bV 3) (bV 0)) (qf (bO (opC (fun _ j=>0 < j) (· % ·)) (bV 3) (bV 0)) qB)))))) ⟨rfl⟩) (qf (bV 5) qB))) 9 [true,false,false,true,false,true,true,true] ⟨rfl⟩) (sIf (qc1 (bTb (qx (qgR 4) (qf (bV 9) (qf (UI (qf (bV 8) (qf (bO zx (bV 4) (qQ 1)) (qf (bO zx (bV 4) (qQ 2)) qB))) ⟨rfl⟩) qB))))) (QI (bBl false)) QG)) QG))) [false,false,true] ⟨rfl⟩) (QI (bBl true))))
def qR:List PyData->Option PyData:=Pu.run jn.f 3 10 1000000000 false
theorem DQ:Rd (PSp qR false) 3 (K92.jo (PSp qt false) (PSp qY true) (PSp QB false) (PSp jW false) (Bk.zV 5)) zL:=qP jn zL 3 1000000000 false
theorem EW {x0 x1 x2:PyData}:qR [x0,x1,x2]=Z5 false (jn.f 1000000000 [.sh x0,.sh x1,.sh x2,.un,.un,.un,.un,.un,.un,.un]):=id rfl
def qon (S_law_pick:Sp3) (S_law_walk:Sp3) (S_skew_for:Sp3) (S_law_found_right:Sp3) (S_law_bars_right:Sp3) (S_least_skew:Sp3) (S_law_same:Sp3) (S_shows_no_skew:Sp3):TS3:=(qS (zN (o3 jN (c3 (.int 1)) (cb3 S_law_pick (qc (v3 2) (qc (o3 ix3 (XS (qc (c3 (.int 9)) (qc (c3 (.int 9)) (qc (c3 (.int 9)) (qc (c3 (.int 16)) qj))))) (cb3 S_law_pick (qc (v3 2) (qc (c3 (.int 4)) qj)))) qj)))) (gn3 3)) (qS (zN (cb3 S_law_pick (qc (v3 2) (qc (c3 (.int 10)) qj))) (gn3 4)) (qS (zN (lc3 (jJ (qc (o3 jN (c3 (.int 1)) (cb3 S_law_pick (qc (v3 2) (qc (c3 (.int 4)) qj)))) qj)) (gn3 0) tt3 (cb3 S_law_walk (qc (v3 1) qj)) [none,some 2]) (gn3 5)) (qS (zN (cb3 S_skew_for (qc (v3 3) (qc (v3 5) qj))) (gn3 6)) (qS (jt (qdE (tb3 (o3 (jM false) (o3 ix3 (v3 6) (c3 (.int 0))) (c3 (.str "skew")))) (K7 (tb3 (cb3 S_law_found_right (qc (v3 2) (qc (v3 3) (qc (v3 5) (qc (o3 ix3 (v3 6) (c3 (.int 1))) (qc (o3 ix3 (v3 6) (c3 (.int 2))) qj))))))))) (za (c3 (.bl false))) qO) (qS (jt (qdE (tb3 (o3 (jM false) (o3 ix3 (v3 6) (c3 (.int 0))) (c3 (.str "none")))) (K7 (tb3 (cb3 S_law_bars_right (qc (v3 3) (qc (v3 5) (qc (o3 ix3 (v3 6) (c3 (.int 1))) qj))))))) (za (c3 (.bl false))) qO) (qS (zN (lc3 (jJ (qc (c3 (.int 1)) (qc (o3 jN (v3 4) (c3 (.int 1))) qj))) (gn3 0) tt3 (cb3 S_skew_for (qc (v3 0) (qc (v3 1) qj))) [none,some 5]) (gn3 7)) (qS (zN (lc3 (EF (qc (v3 7) qj)) (jr 2 (qr (gn3 0) (qr (gn3 1) jp))) (tb3 (o3 (jM false) (o3 ix3 (v3 1) (c3 (.int 0))) (c3 (.str "skew")))) (v3 0) [none,none]) (gn3 8)) (qS (zN (c3 .non) (gn3 9)) (qS (jt (tb3 (o3 (jM true) (v3 8) (XS qj))) (qS (zN (o3 ix3 (v3 8) (c3 (.int 0))) (gn3 10)) (zN (QU (qc (o3 jN (v3 10) (c3 (.int 1))) (qc (o3 ix3 (o3 ix3 (v3 7) (v3 10)) (c3 (.int 1))) (qc (o3 ix3 (o3 ix3 (v3 7) (v3 10)) (c3 (.int 2))) (qc (lc3 (JV (qiw (v3 7) np3 (sp3 (v3 10)))) (gn3 0) tt3 (o3 ix3 (v3 0) (c3 (.int 1))) [none]) qj))))) (gn3 9))) qO) (qS (jt (K7 (tb3 (cb3 S_law_same (qc (cb3 S_least_skew (qc (v3 5) (qc (v3 4) qj))) (qc (v3 9) qj))))) (za (c3 (.bl false))) qO) (CT (EF (qc (if3 (tb3 (o3 (qah true) (v3 9) (c3 .non))) (o3 ix3 (v3 9) (c3 (.int 3))) (XS qj)) qj)) (jr 2 (qr (gn3 11) (qr (gn3 12) jp))) (jt (tb3 (o3 (qjy true) (cb3 S_shows_no_skew (qc (o3 jN (v3 11) (c3 (.int 1))) (qc (v3 5) (qc (v3 12) qj)))) (c3 (.bl true)))) (za (c3 (.bl false))) qO)))))))))))))
def SW:=((eDr qld (aOf qB)):PwE 1 _)
def WM:=((wIf (cOf (bTb (bO (qhB true) (qx (qV qt false) (qf (bO JM (bV 11) (qQ 1)) (qf (bV 5) (qf (bV 12) qB)))) (bBl true)))) (qgl (eOf (bBl false))) T6):PwS 2 _)
def qdW:PwS 2 (qon Bk.zw Bk.J8 (PSp qD false) (DSp zg.W false) (PSp qR false) (PSp zt false) (Bk.zV 5) (PSp qt false)):=(TU (qaO (eO JM (eOf (qQ 1)) (eDr K2 (qbl (eO zx (eOf (qdX (qf (qQ 9) (qf (qQ 9) (qf (qQ 9) (qf (qQ 16) qB)))) ⟨rfl⟩)) (eDr K2 (aOf (qf (qQ 4) qB)))) (aOf qB)))) 3 [] ⟨rfl⟩ ⟨rfl⟩) (TU (qaO (eDr K2 (aOf (qf (qQ 10) qB))) 4 [] ⟨rfl⟩ ⟨rfl⟩) (TU (qaO (eLc 1 (iR (qbl (eO JM (eOf (qQ 1)) (eDr K2 (aOf (qf (qQ 4) qB)))) (aOf qB))) (gN 0) (cOf bTt) SW [none,some 2] ⟨rfl⟩ ⟨rfl⟩) 5 [] ⟨rfl⟩ ⟨rfl⟩) (TU (qaO (eOf (qx (qV qD false) (qf (bV 3) (qf (bV 5) qB)))) 6 [false,false,false,true,false,true] ⟨rfl⟩ ⟨rfl⟩) (TU (wIf (qqi (cOf (bTb (bO (D7 false) (bO zx (bV 6) (qQ 0)) (CP "skew")))) (qqd (cTb (eDr (dSp zg false) (aOf (qf (bV 3) (qf (bV 5) (qf (bO zx (bV 6) (qQ 1)) (qf (bO zx (bV 6) (qQ 2)) qB))))))))) (qgl (eOf (bBl false))) T6) (TU (wIf (cOf (qod (bTb (bO (D7 false) (bO zx (bV 6) (qQ 0)) (CP "none"))) (qc1 (bTb (qx (qV qR false) (qf (bV 3) (qf (bV 5) (qf (bO zx (bV 6) (qQ 1)) qB)))))))) (qgl (eOf (bBl false))) T6) (TU (qaO (eOf (bLc (T7 (qf (qQ 1) (qf (bO JM (bV 4) (qQ 1)) qB))) (gN 0) bTt (qx (qV qD false) (qf (bV 0) (qf (bV 1) qB))) [none,some 5] ⟨rfl⟩)) 7 [false,false,false,false,true,true] ⟨rfl⟩ ⟨rfl⟩) (TU (qaO (eOf (bLc (N7 (qf (bV 7) qB)) (DT 2 (qU (gN 0) (qU (gN 1) DU))) (bTb (bO (D7 false) (bO zx (bV 1) (qQ 0)) (CP "skew"))) (bV 0) [none,none] ⟨rfl⟩)) 8 [false,false,false,false,false,false,false,true] ⟨rfl⟩ ⟨rfl⟩) (TU (qaO (eOf qaR) 9 [] ⟨rfl⟩ ⟨rfl⟩) (TU (wIf (cOf (bTb (bO (D7 true) (bV 8) (qdX qB ⟨rfl⟩)))) (TU (qaO (eOf (bO zx (bV 8) (qQ 0))) 10 [false,false,false,false,false,false,false,false,true] ⟨rfl⟩ ⟨rfl⟩) (qaO (eOf (UI (qf (bO JM (bV 10) (qQ 1)) (qf (bO zx (bO zx (bV 7) (bV 10)) (qQ 1)) (qf (bO zx (bO zx (bV 7) (bV 10)) (qQ 2)) (qf (bLc (TR (bSl (bV 7) bNp (bSp (bV 10)))) (gN 0) bTt (bO zx (bV 0) (qQ 1)) [none] ⟨rfl⟩) qB)))) ⟨rfl⟩)) 9 [false,false,false,false,false,false,false,true,false,false,true] ⟨rfl⟩ ⟨rfl⟩)) T6) (TU (wIf (cOf (qc1 (bTb (qx (qgR 4) (qf (qx (qV zt false) (qf (bV 5) (qf (bV 4) qB))) (qf (bV 9) qB)))))) (qgl (eOf (bBl false))) T6) (qnz (iOf (N7 (qf (bIf (bTb (bO (qaj true) (bV 9) qaR)) (bO zx (bV 9) (qQ 3)) (qdX qB ⟨rfl⟩)) qB))) (DT 2 (qU (gN 11) (qU (gN 12) DU))) WM [false,false,false,false,false,false,false,false,false,true] ⟨rfl⟩ ⟨rfl⟩))))))))))))
theorem qiT (h:∀ k:Nat,k<=60->qdW.w [.un,.sh (.int k),.un,.un,.un,.un,.un,.un,.un,.un,.un,.un,.un] 0 okW):Rd RK 1 (K92.qg1 Bk.J1 Bk.zw Bk.J8 (PSp qD false) (DSp zg.W false) (PSp qR false) (PSp zt false) (Bk.zV 5) (PSp qt false)) qdV:=qd3 qdW qdV 4 10 ⟨by decide,by decide⟩ rfl h
end K92
namespace K92
open PySem L2 L3 Pu Pv
open Bk (Wk Dl zS zi jy lnD lnA faO Fst Un2 qZ zl jQ)
theorem s1:j5 "int" "int" = true:=rfl
theorem s2:j5 "int" "bool" = false:=rfl
theorem s3:j5 "tuple" "tuple" = true:=rfl
theorem t2:((1+1:Nat):Int)=2:=rfl
theorem qo1 {i:Int}:qG [.int i]=some (.bool true):=by
 rw [D9]
 try simp only [Pu.pwA,ZN,s1,s2]
theorem qmm {p:Int×Int}:zF [pD p]=some (.bool true):=by
 rw [qav]
 try simp only [Pu.pwA,EL,pD,s3,t2,qo1]
def inT (d:Dl) (p:Int×Int):Prop:=(0<=p.1/\p.1 < d.R)/\(0<=p.2/\p.2 < d.C)
theorem qoZ {d:Dl} (hp:Pl d):d.dep < 1:=by cases d <;> simp [Pl] at hp <;> simp [Dl.dep]
theorem qoa {d:Dl} {p:Int×Int} (hp:Pl d) (ok:d.Ok) (h:inT d p):QA [dlD d,pD p]=some (.bool true):=by
 obtain ⟨⟨h1,h2⟩,h3,h4⟩:=h
 have e:=qmm (p:=p)
 rw [qao]
 simp only [pD] at e
 try simp only [Pu.pwA,ES,pD,e,qlk d 1 (qoZ hp) ok,szD,h1,h2,h3,h4]
theorem qqD {d:Dl} {p:Int×Int} (hp:Pl d) (ok:d.Ok) (h:inT d p):zv [dlD d,pD p]=some (.int (p.1 * d.C+p.2)):=by
 obtain ⟨⟨h1,h2⟩,h3,h4⟩:=h
 have l:=Dl.lims ok
 have:=l.r1;have:=l.r2;have:=l.c1;have:=l.c2
 rw [KL]
 try simp (disch:=omega) only [Pu.pwA,YI,pD,qlk d 1 (qoZ hp) ok,szD,YY]
def bk (d:Dl) (p:Int×Int):Int:=(fA d * p.1+fB d * p.2) % d.B
theorem qqN {d:Dl} {p:Int×Int} (hp:Pl d) (ok:d.Ok) (h:inT d p):QC [dlD d,pD p]=some (.int (bk d p)):=by
 have no:=qqD hp ok h
 obtain ⟨⟨h1,h2⟩,h3,h4⟩:=h
 have l:=Dl.lims ok
 have:=l.r1;have:=l.r2;have:=l.c1;have:=l.c2
 have f:=qpt hp ok
 rw [qaE]
 cases d with
 | skew r c b x y=>
  simp only [fA,fB,Dl.B,Dl.R,Dl.C,bk] at *
  try simp (disch:=omega) only [Pu.pwA,YU,dlD,pD,eq_self,YY,RM]
 | rests r c b q=>
  simp only [fA,fB,Dl.B,Dl.R,Dl.C,bk] at *
  simp only [dlD,pD] at no
  try simp (disch:=omega) only [Pu.pwA,YU,dlD,pD,eq_self,L3.SE,no,RM]
  rw [Int.one_mul,Int.mul_comm]
 | _=>simp [Pl] at hp
def sh (s:Int×Int) (cs:List (Int×Int)):List (Int×Int):=cs.map fun p=>(s.1+p.1,s.2+p.2)
theorem qpW {w:Wk} {s:Int×Int} (ok:Big w):zH [Wk.d w,pD s]=some (.list ((sh s w.pc).map pD)):=by
 have hl:=RI ok
 rw [qai]
 try simp only [Pu.pwA,EC,VS ok]
 rw [jx (ds:=w.pc.map pD) (fs:=(sh s w.pc).map pD)]
 ·try simp only [Pu.pwA]
 ·try simp only [Pu.pwA,VS ok]
 ·rw [sh,List.map_map]
  refine zu fun p hp=>?_
  try simp only [Pu.pwA,QW,pD,Function.comp_def]
 ·simp [sh];omega
theorem qnR {d:Dl} {w:Wk} {s:Int×Int} (hp:Pl d) (okd:d.Ok) (ok:Big w) (h:∀ q∈sh s w.pc,inT d q):jw [dlD d,Wk.d w,pD s]=some (.bool true):=by
 have hl:=RI ok
 rw [L8]
 try simp only [Pu.pwA,V4,qmm]
 rw [jx (ds:=(sh s w.pc).map pD) (fs:=((sh s w.pc).map fun _=>true).map PyData.bool)]
 ·try simp only [Pu.pwA,LG]
  simp
 ·try simp only [Pu.pwA,qpW ok]
 ·rw [List.map_map]
  refine zu fun q hq=>?_
  try simp only [Pu.pwA,QW,qoa hp okd (h q hq),Function.comp_def]
 ·simp [sh];omega
theorem qq7 {d:Dl} {w:Wk} {s:Int×Int} (hp:Pl d) (okd:d.Ok) (ok:Big w) (h:∀ q∈sh s w.pc,inT d q):jv [dlD d,Wk.d w,pD s]=some (.list ((sh s w.pc).map pD)):=by
 rw [MT]
 try simp only [Pu.pwA,VX,qnR hp okd ok h,qpW ok]
def bks (d:Dl) (s:Int×Int) (cs:List (Int×Int)):List Int:=(sh s cs).map (bk d)
theorem qrc {d:Dl} {w:Wk} {s:Int×Int} (hp:Pl d) (okd:d.Ok) (ok:Big w) (h:∀ q∈sh s w.pc,inT d q):ze [dlD d,Wk.d w,pD s]=some (.list ((bks d s w.pc).map PyData.int)):=by
 have hl:=RI ok
 rw [SH]
 try simp only [Pu.pwA,Z7]
 rw [jx (ds:=(sh s w.pc).map pD) (fs:=(bks d s w.pc).map PyData.int)]
 ·try simp only [Pu.pwA]
 ·try simp only [Pu.pwA,qq7 hp okd ok h]
 ·rw [bks,List.map_map]
  refine zu fun q hq=>?_
  try simp only [Pu.pwA,QW,qqN hp okd (h q hq),Function.comp_def]
 ·simp [bks,sh];omega
end K92
namespace K92
open PySem L2 L3 Pu Pv
open Bk (Wk Dl zS zi jy lnD lnA faO Fst Un2 qZ zl jQ)
theorem LB {ns ms:List Int} (hl:ns.length=ms.length) (h:∀ i j,i < ns.length->j < ns.length->(ns[i]?=ns[j]? ↔ ms[i]?=ms[j]?)) {i j:Nat} (F:Fst ns i j):Fst ms i j:=by
 obtain ⟨a,b,c,d,e⟩:=F
 refine ⟨a,by omega,fun x y hx hxy hy=>?_,fun y hy hyj=>?_,?_⟩
 ·rw [← hl] at hy
  exact fun z=>c x y hx hxy hy ((h x y (by omega) hy).mpr z)
 ·exact fun z=>d y hy hyj ((h i y (by omega) (by omega)).mpr z)
 ·exact (h i j (by omega) b).mp e
theorem qb2 {ns ms:List Int} (hl:ns.length=ms.length) (h:∀ i j,i < ns.length->j < ns.length->(ns[i]?=ns[j]? ↔ ms[i]?=ms[j]?)):faO ns=faO ms:=by
 by_cases c:∃ ij:Nat×Nat,Fst ns ij.1 ij.2
 ·obtain ⟨⟨i,j⟩,F⟩:=c
  rw [qZ F,qZ (LB hl h F)]
 ·have c':¬ ∃ ij:Nat×Nat,Fst ms ij.1 ij.2:=fun ⟨ij,F⟩=>c ⟨ij,LB hl.symm (fun i j hi hj=>(h i j (by omega) (by omega)).symm) F⟩
  unfold Bk.faO
  rw [dif_neg c,dif_neg c']
theorem T0 {B c x y:Int} (hB:0 < B):((c+x) % B=(c+y) % B) ↔ (x % B=y % B):=by
 constructor
 ·intro h
  have:=Int.emod_eq_emod_iff_emod_sub_eq_zero.mp h
  rw [show c+x - (c+y)=x - y by omega] at this
  exact Int.emod_eq_emod_iff_emod_sub_eq_zero.mpr this
 ·intro h
  rw [Int.add_emod,h,← Int.add_emod]
theorem qiK {d:Dl} {s:Int×Int} {cs:List (Int×Int)} (hB:0 < d.B):faO (bks d s cs)=faO (rst d.B (fA d) (fB d) cs):=by
 have g:∀ i (hi:i < cs.length),(bks d s cs)[i]?=some ((fA d * s.1+fB d * s.2+(fA d * cs[i].1+fB d * cs[i].2)) % d.B)/\(rst d.B (fA d) (fB d) cs)[i]?=some ((fA d * cs[i].1+fB d * cs[i].2) % d.B):=fun i hi=>by
  constructor
  ·rw [bks,sh,List.map_map,List.getElem?_map,List.getElem?_eq_getElem hi,Option.map_some]
   simp only [bk,Function.comp_def]
   congr 2
   rw [Int.mul_add,Int.mul_add];omega
  ·rw [rst,List.getElem?_map,List.getElem?_eq_getElem hi,Option.map_some]
 refine qb2 (by simp [bks,sh,rst]) fun i j hi hj=>?_
 have hi':i < cs.length:=by simpa [bks,sh] using hi
 have hj':j < cs.length:=by simpa [bks,sh] using hj
 rw [(g i hi').1,(g j hj').1,(g i hi').2,(g j hj').2,Option.some.injEq,Option.some.injEq]
 exact T0 hB
theorem qn4 {R C:Int} {cs:List (Int×Int)} {s:Int×Int} (h:s∈stI R C cs) {p:Int×Int} (hp:p∈cs):(0<=s.1+p.1/\s.1+p.1 < R)/\(0<=s.2+p.2/\s.2+p.2 < C):=by
 obtain ⟨i,hi,h⟩:=List.mem_flatMap.mp h
 obtain ⟨j,hj,rfl⟩:=List.mem_map.mp h
 have a:=M6 hi
 have b:=M6 hj
 have m1:=qaJ (show p.1∈dn cs from List.mem_map.mpr ⟨p,hp,rfl⟩)
 have m2:=qdc (show p.1∈dn cs from List.mem_map.mpr ⟨p,hp,rfl⟩)
 have m3:=qaJ (show p.2∈al cs from List.mem_map.mpr ⟨p,hp,rfl⟩)
 have m4:=qdc (show p.2∈al cs from List.mem_map.mpr ⟨p,hp,rfl⟩)
 simp only
 omega
theorem qop {d:Dl} {cs:List (Int×Int)} {s:Int×Int} (h:s∈stI d.R d.C cs):∀ q∈sh s cs,inT d q:=fun q hq=>by
 obtain ⟨p,hp,rfl⟩:=List.mem_map.mp hq
 exact qn4 h hp
theorem qoo {d:Dl} {w:Wk} {s:Int×Int} (hp:Pl d) (okd:d.Ok) (ok:Big w) (h:s∈stI d.R d.C w.pc):(ze [dlD d,Wk.d w,pD s]).bind (fun x=>qw [x])=some (faD (rst d.B (fA d) (fB d) w.pc)):=by
 have hl:=RI ok
 rw [qrc hp okd ok (qop h),Option.bind_some,qkW (by simp [bks,sh];omega)]
 have:=qiK (d:=d) (s:=s) (cs:=w.pc) (by have:=(Dl.lims okd).b1;omega)
 unfold faD
 rw [this]
def clD (d:Dl) (w:Wk):PyData:=match faO (rst d.B (fA d) (fB d) w.pc),stI d.R d.C w.pc with
 | some (i,j),s :: _=>.tuple [pD s,.int i,.int j]
 | _,_=>.none
theorem qpZ {d:Dl} {w:Wk} (hp:Pl d) (okd:d.Ok) (ok:Big w) (hc:Cb w.pc):jW [dlD d,Wk.d w]=some (clD d w):=by
 have l:=Dl.lims okd
 rw [qdb]
 try simp only [Pu.pwA,R8,qqO (qoZ hp) okd ok hc]
 have tn:∀ s∈stI d.R d.C w.pc,∃ bs,ze [dlD d,Wk.d w,pD s]=some bs/\qw [bs]=some (faD (rst d.B (fA d) (fB d) w.pc)):=fun s hs=>Option.bind_eq_some_iff.mp (qoo hp okd ok hs)
 cases e:faO (rst d.B (fA d) (fB d) w.pc) with
 | none=>
  have ed:clD d w=.none:=by unfold clD;rw [e]
  have ef:faD (rst d.B (fA d) (fB d) w.pc)=.none:=by unfold faD;rw [e]
  rw [ed]
  refine XW (Q:=fun o=>Z5 false o=_) (stI d.R d.C w.pc) (fun _ ρ=>∃ s2 s3,ρ=[.sh (dlD d),.sh (Wk.d w),s2,s3]) ⟨_,_,rfl⟩ ?_ ?_
  ·rintro i s ρ hx ⟨s2,s3,rfl⟩
   obtain ⟨bs,e1,e2⟩:=tn s (List.mem_of_getElem? hx)
   rw [ef] at e2
   try simp only [Pu.pwA,e1,e2]
   exact ⟨_,_,rfl⟩
  ·rintro ρ ⟨s2,s3,rfl⟩
   try simp only [Pu.pwA]
 | some ij=>
  obtain ⟨i,j⟩:=ij
  have ef:faD (rst d.B (fA d) (fB d) w.pc)=.tuple [.int i,.int j]:=by unfold faD;rw [e]
  cases est:stI d.R d.C w.pc with
  | nil=>
   have ed:clD d w=.none:=by unfold clD;rw [e,est]
   rw [ed]
   try simp only [Pu.pwA,List.map_nil,D6]
  | cons s ss=>
   have ed:clD d w=.tuple [pD s,.int i,.int j]:=by unfold clD;rw [e,est]
   rw [ed]
   obtain ⟨bs,e1,e2⟩:=tn s (by rw [est];simp)
   rw [ef] at e2
   try simp only [Pu.pwA,List.map_cons,D6,e1,e2]
end K92
namespace K92
open PySem L2 L3 Pu Pv
open Bk (Wk Dl zS zi jy lnD lnA faO Fst Un2 qZ zl jQ)
def qc4:PyData->Bool
 | .int _=>true
 | _=>false
theorem qri {d:PyData} (h:(tyD d).isSome=true):qG [d]=some (.bool (qc4 d)):=by
 rw [D9]
 cases d <;> simp only [tyD,Option.isSome_none,Bool.false_eq_true] at h <;> try simp only [Pu.pwA,ZN,qc4] <;> rfl
theorem qrk {d:PyData} {e:Int} (h:(tyD d).isSome=true):qm [d,.int e]=some (.bool (match d with | .int i=>decide (0<=i) && decide (i < e) | _=>false)):=by
 have na:=qri h
 rw [U3]
 cases d with
 | int i=>
  try simp only [Pu.pwA,zC,na,qc4]
  by_cases z:0<=i
  ·try simp only [Pu.pwA,z]
  ·try simp only [Pu.pwA,z]
 | _=>try simp only [Pu.pwA,zC,na,qc4]
def inB (d:PyData) (n:Nat):Bool:=match d with | .int i=>decide (0<=i) && decide (i < (n:Int)) | _=>false
theorem qgP {d:PyData} {n:Nat} (h:(tyD d).isSome=true):qm [d,.int (n:Int)]=some (.bool (inB d n)):=by
 rw [qrk h];cases d <;> rfl
def alk (ns:List Int) (dk dl:PyData):Bool:=match dk,dl with
 | .int k,.int l=>decide (k < l) && decide (ns.getD k.toNat 0=ns.getD l.toNat 0)
 | _,_=>false
theorem qjw {ns:List Int} {k:Int} (h0:0<=k) (h1:k < (ns.length:Int)):L2.atI (ns.map PyData.int) k=some (.int (ns.getD k.toNat 0)):=by
 obtain ⟨i,rfl⟩:=Int.eq_ofNat_of_zero_le h0
 have hi:i < ns.length:=by omega
 rw [atN (by simpa using hi),List.getElem?_map,List.getElem?_eq_getElem hi,Int.toNat_natCast,List.getD_eq_getElem?_getD,List.getElem?_eq_getElem hi]
 rfl
theorem qqQ {ns:List Int} {dk dl:PyData} (hk:(tyD dk).isSome=true) (hl:(tyD dl).isSome=true):zX [.tuple (ns.map PyData.int),dk,dl]=some (.bool (inB dk ns.length && inB dl ns.length && alk ns dk dl)):=by
 have nk:=qgP (n:=ns.length) hk
 have nl:=qgP (n:=ns.length) hl
 rw [KO]
 cases a:inB dk ns.length with
 | false=>
  rw [a] at nk
  try simp only [Pu.pwA,ju,nk,List.length_map,Bool.false_and]
 | true=>
  rw [a] at nk
  cases b:inB dl ns.length with
  | false=>
   rw [b] at nl
   try simp only [Pu.pwA,ju,nk,nl,List.length_map,Bool.and_false,Bool.false_and]
  | true=>
   rw [b] at nl
   cases dk with
   | int k=>cases dl with
    | int l=>
     simp only [inB,Bool.and_eq_true,decide_eq_true_eq] at a b
     have e1:=qjw a.1 a.2
     have e2:=qjw b.1 b.2
     by_cases c:k < l
     ·try simp only [Pu.pwA,ju,nk,nl,List.length_map,c,e1,e2,alk,decide_true,Bool.true_and]
     ·try simp only [Pu.pwA,ju,nk,nl,List.length_map,c,alk,decide_false,Bool.false_and,Bool.and_false]
    | _=>simp [inB] at b
   | _=>simp [inB] at a
def wAt (ws:List Wk) (i:Nat):Wk:=ws.getD i (.line 0 1)
def qnD (B a b:Int) (ws:List Wk) (n k l:PyData):Bool:=match n with
 | .int i=>decide (0<=i) && decide (i < (ws.length:Int)) && (inB k (rst B a b (wAt ws i.toNat).pc).length && inB l (rst B a b (wAt ws i.toNat).pc).length && alk (rst B a b (wAt ws i.toNat).pc) k l)
 | _=>false
def TZ (B a b:Int) (ws:List Wk):PyData->Bool
 | .tuple [n,k,l]=>qnD B a b ws n k l
 | _=>false
theorem t3:((1+1+1:Nat):Int)=3:=rfl
theorem qgS:j5 "tuple" "tuple" = true:=rfl
theorem qpd:j5 "int" "tuple" = false:=rfl
theorem qoL:j5 "bool" "tuple" = false:=rfl
theorem qoe:j5 "NoneType" "tuple" = false:=rfl
theorem qoJ:j5 "str" "tuple" = false:=rfl
theorem qpn:j5 "list" "tuple" = false:=rfl
def kn (t:PyData):Prop:=(tyD t).isSome=true/\∀ ds,t=.tuple ds->∀ d∈ds,(tyD d).isSome=true
theorem qqH {B a b:Int} {ws:List Wk} {t:PyData} (hB:1<=B) (ha:0<=a/\a<=1000) (hb:0<=b/\b<=1000) (ok:∀ w∈ws,Big w) (ht:kn t):Z4 [.int B,.tuple [.int a,.int b],.list (ws.map Wk.d),t]=some (.bool (TZ B a b ws t)):=by
 obtain ⟨h0,h1⟩:=ht
 rw [qbj]
 cases t with
 | tuple ds=>
  by_cases e:ds.length=3
  ·obtain ⟨n,k,l,rfl⟩:=qaz e
   have hn:=h1 _ rfl n (by simp)
   have hk:=h1 _ rfl k (by simp)
   have hl:=h1 _ rfl l (by simp)
   have nb:=qgP (n:=ws.length) hn
   cases c:inB n ws.length with
   | false=>
    rw [c] at nb
    have e0:TZ B a b ws (.tuple [n,k,l])=false:=by
     unfold TZ qnD
     cases n <;> simp [inB] at c ⊢
     rename_i i
     intro z1 z2
     exact absurd z2 (by have:=c z1;omega)
    rw [e0]
    try simp only [Pu.pwA,jB,qgS,t3,nb,List.length_map]
   | true=>
    rw [c] at nb
    cases n with
    | int i=>
     simp only [inB,Bool.and_eq_true,decide_eq_true_eq] at c
     obtain ⟨j,rfl⟩:=Int.eq_ofNat_of_zero_le c.1
     have hj:j < ws.length:=by omega
     have ew:wAt ws j=ws[j]:=by unfold wAt;rw [List.getD_eq_getElem?_getD,List.getElem?_eq_getElem hj];rfl
     have ai:L2.atI (ws.map Wk.d) (j:Int)=some (Wk.d ws[j]):=by
      rw [atN (by simpa using hj),List.getElem?_map,List.getElem?_eq_getElem hj];rfl
     have rb:=qp0 (B:=B) (a:=a) (b:=b) hB ha hb (ok _ (List.getElem_mem hj))
     have aa:=qqQ (ns:=rst B a b ws[j].pc) hk hl
     try simp only [Pu.pwA,jB,qgS,t3,nb,ai,rb,aa,TZ,qnD,Int.toNat_natCast,ew,c,List.length_map,decide_true,Bool.true_and,Bool.and_self]
    | _=>simp [inB] at c
  ·have e1:¬ (ds.length:Int)=3:=by omega
   have e0:TZ B a b ws (.tuple ds)=false:=by
    unfold TZ
    split
    ·rename_i x;injection x with x;subst x;exact absurd rfl e
    ·rfl
   rw [e0]
   try simp only [Pu.pwA,jB,qgS,e1]
 | int i=>try simp only [Pu.pwA,jB,qpd,TZ]
 | bool i=>try simp only [Pu.pwA,jB,qoL,TZ]
 | none=>try simp only [Pu.pwA,jB,qoe,TZ]
 | str i=>try simp only [Pu.pwA,jB,qoJ,TZ]
 | list i=>try simp only [Pu.pwA,jB,qpn,TZ]
 | _=>simp [tyD] at h0
end K92
namespace K92
open PySem L2 L3 Pu Pv
open Bk (Wk Dl zS zi jy lnD lnA faO Fst Un2 qZ zl jQ)
def fac (B:Nat):List (Int×Int):=Bk.zi B B
theorem qp9 {B:Nat} (h:B<=100):qF [.int (B:Int)]=some (.list ((fac B).map pD)):=by
 rw [CJ]
 try simp only [Pu.pwA,Q1]
 rw [LZ (ds:=(QQ 0 B).map PyData.int) (fs:=(fac B).map pD)]
 ·try simp only [Pu.pwA]
 ·try simp (disch:=omega) only [Pu.pwA,qaQ,Int.toNat_natCast]
 ·have:(fac B).map pD=(QQ 0 B).flatMap fun p=>(QQ 0 B).map fun q=>pD (p,q):=by
   simp only [fac,Bk.zi,QQ,List.map_flatMap,List.map_map,List.flatMap_map,Function.comp_def,Int.zero_add]
  rw [this]
  refine TB fun p hp=>?_
  try simp (disch:=omega) only [Pu.pwA,qcp,qaQ,Int.toNat_natCast]
  rw [zu (k:=fun q=>pD (p,q)) fun q hq=>?_]
  ·try simp only [Pu.pwA]
  ·try simp only [Pu.pwA,QW,pD]
 ·have:=Nat.mul_le_mul h h
  rw [List.length_map,fac,Bk.ji];omega
theorem qjs {B:Nat} {p:Int×Int} (h:p∈fac B):(0<=p.1/\p.1 < B)/\(0<=p.2/\p.2 < B):=by
 obtain ⟨i,hi,h⟩:=List.mem_flatMap.mp h
 obtain ⟨j,hj,rfl⟩:=List.mem_map.mp h
 have:=List.mem_range.mp hi
 have:=List.mem_range.mp hj
 simp;omega
def CU (B:Nat) (ws:List Wk):PyData->Bool
 | .list ds=>decide (ds.length=B * B) && ((fac B).zip ds).all fun p=>TZ B p.1.1 p.1.2 ws p.2
 | _=>false
theorem qnh (a:List (Int×Int)) (ds:List PyData):qgb (a.map pD) ds=(a.zip ds).map fun p=>.tuple [pD p.1,p.2]:=by
 unfold qgb
 rw [List.zip_map_left,List.map_map]
 rfl
theorem qlx:j5 "list" "list" = true:=rfl
theorem qoy:j5 "int" "list" = false:=rfl
theorem qpi:j5 "bool" "list" = false:=rfl
theorem qjE:j5 "NoneType" "list" = false:=rfl
theorem qlO:j5 "str" "list" = false:=rfl
theorem qjR:j5 "tuple" "list" = false:=rfl
theorem qqP {B:Nat} {ws:List Wk} {t:PyData} (b1:1<=B) (b2:B<=100) (ok:∀ w∈ws,Big w) (ht:(tyD t).isSome=true) (hk:∀ ds,t=.list ds->∀ d∈ds,kn d):qt [.int (B:Int),.list (ws.map Wk.d),t]=some (.bool (CU B ws t)):=by
 rw [WB]
 cases t with
 | list ds=>
  have af:=qp9 b2
  have mm:cI jP (· * ·) (.int (B:Int)) (.int (B:Int))=some (.int ((B * B:Nat):Int)):=by
   rw [qcG (by omega)];simp
  by_cases e:ds.length=B * B
  ·have e1:(ds.length:Int)=((B * B:Nat):Int):=by rw [e]
   try simp only [Pu.pwA,qI,qlx,mm,e1,CU,e,decide_true,Bool.true_and]
   rw [jx (ds:=qgb ((fac B).map pD) ds) (fs:=(((fac B).zip ds).map fun p=>TZ B p.1.1 p.1.2 ws p.2).map PyData.bool)]
   ·try simp only [Pu.pwA,LG,List.all_map]
    rfl
   ·try simp only [Pu.pwA,af]
   ·rw [qnh,List.map_map]
    refine zu fun p hp=>?_
    have m:=List.of_mem_zip hp
    have f:=qjs m.1
    have ib:=qqH (B:=(B:Int)) (a:=p.1.1) (b:=p.1.2) (ws:=ws) (t:=p.2) (by omega) (by omega) (by omega) ok (hk ds rfl _ m.2)
    try simp only [Pu.pwA,QW,pD,ib,Function.comp_def]
   ·have:=Nat.mul_le_mul b2 b2
    simp;omega
  ·have e1:¬ (ds.length:Int)=((B * B:Nat):Int):=by omega
   try simp only [Pu.pwA,qI,qlx,mm,e1,CU,e,decide_false,Bool.false_and]
 | int i=>try simp only [Pu.pwA,qI,qoy,CU]
 | bool i=>try simp only [Pu.pwA,qI,qpi,CU]
 | none=>try simp only [Pu.pwA,qI,qjE,CU]
 | str i=>try simp only [Pu.pwA,qI,qlO,CU]
 | tuple i=>try simp only [Pu.pwA,qI,qjR,CU]
 | _=>simp [tyD] at ht
end K92
namespace K92
open PySem L2 L3 Pu Pv
open Bk (Wk Dl zS zi jy lnD lnA faO Fst Un2 qZ zl jQ)
theorem qhz {i:Nat} {es ds:List PyData} {ρ:Rho} (h:slot ρ i=some ds) (hl:ds.length+es.length<=16777216):qmu i (.list es) ρ=some (.nx (ρ.set i (.ow (ds++es)))):=by unfold qmu;rw [h];simp only [Option.bind_some];exact jq hl
theorem qg6 {s:Str} {m:Int}:slD (.tuple [.str s,.int m]) (some 1) (some 3)=some (.tuple [.int m]):=MZ (by simp [HT.sIx])
theorem qhN {s:Str} {u v m:Int}:slD (.tuple [.str s,.int u,.int v,.int m]) (some 1) (some 3)=some (.tuple [.int u,.int v]):=MZ (by simp [HT.sIx])
theorem qnV {x y:PyData}:L2.atI [x,y] (-1)=some y:=rfl
theorem qoP {x y z w:PyData}:L2.atI [x,y,z,w] (-1)=some w:=rfl
theorem qnF {w:Wk} (ok:Big w):qY [Wk.d w]=some (.list (w.pc.map pD)):=by
 rw [KS]
 cases w with
 | cells ps=>
  try simp only [Pu.pwA,z9,Wk.d,eq_self,Wk.pc]
 | block h v=>
  obtain ⟨h1,h2⟩:=ok
  try simp (disch:=omega) only [Pu.pwA,z9,Wk.d,eq_self,L3.UB,Wk.pc,qaQ,Int.toNat_natCast]
  rw [Option.bind_assoc]
  refine XW (Q:=fun o=>Z5 true o=_) (QQ 0 h) (fun i ρ=>∃ s2 s3 s4,ρ=[.sh (Wk.d (.block h v)),.ow ((zi i v).map pD),s2,s3,s4]) ⟨_,_,_,rfl⟩ ?_ ?_
  ·rintro i x ρ hx ⟨s2,s3,s4,rfl⟩
   obtain ⟨hi,rfl⟩:=Q6 hx
   try simp only [Pu.pwA,Wk.d]
   rw [jx (ds:=(QQ 0 v).map PyData.int) (fs:=((List.range v).map fun (q:Nat)=>((i:Int),(q:Int))).map pD)]
   rotate_left
   ·try simp (disch:=omega) only [Pu.pwA,qaQ,Int.toNat_natCast]
   ·unfold QQ
    rw [List.map_map,List.map_map]
    refine zu fun q hq=>?_
    try simp only [Pu.pwA,QW,pD,Int.zero_add,Function.comp_def]
   ·simp;omega
   try simp only [Pu.pwA]
   rw [qhz (ds:=(zi i v).map pD) rfl (by
    have:=Nat.mul_le_mul (show i<=1000 by omega) h2
    rw [List.length_map,Bk.ji,List.length_map,List.length_map,List.length_range];omega)]
   try simp only [Pu.pwA]
   rw [Bk.DF,List.map_append]
   exact ⟨_,_,_,rfl⟩
  ·rintro ρ ⟨s2,s3,s4,rfl⟩
   rw [VZ]
   try simp only [Pu.pwA]
 | step d a m=>
  obtain ⟨h1,h2,h3⟩:=ok
  have e5:qdF ["row","column","slant","back","step"] [.tuple [.int 0,.int 1],.tuple [.int 1,.int 0],.tuple [.int 1,.int 1],.tuple [.int 1,.int (-1)],.tuple [.int d,.int a]] "step" = some (.tuple [.int d,.int a]):=rfl
  try simp only [Pu.pwA,z9,Wk.d,L3.U5,L3.EN,Wk.pc,qhN,e5]
  rw [jx (ds:=(QQ 0 m).map PyData.int) (fs:=(zS d a m).map pD)]
  ·try simp only [Pu.pwA]
  ·try simp (disch:=omega) only [Pu.pwA,qoP,qaQ,Int.toNat_natCast]
  ·unfold zS QQ
   rw [List.map_map,List.map_map]
   refine zu fun t ht=>?_
   have:=List.mem_range.mp ht
   try simp (disch:=omega) only [Pu.pwA,QW,pD,YY,Int.zero_add,Function.comp_def]
  ·simp [zS];omega
 | line k m=>
  obtain ⟨h1,h2⟩:=ok
  have key:∀ (d a:Int),(-1000<=d/\d<=1000)->(-1000<=a/\a<=1000)->∀ s:Str,Str.ofString "cells" ≠ s->Str.ofString "block" ≠ s->qdF ["row","column","slant","back","step"] [.tuple [.int 0,.int 1],.tuple [.int 1,.int 0],.tuple [.int 1,.int 1],.tuple [.int 1,.int (-1)],.tuple [.int (m:Int)]] s=some (.tuple [.int d,.int a])->Z5 true (z9.f 1000000000 [.sh (.tuple [.str s,.int (m:Int)]),.un,.un,.un,.un])=some (.list ((zS d a m).map pD)):=by
   intro d a hd ha s n1 n2 e5
   have n1':¬ s=Str.ofString "cells" := fun z=>n1 z.symm
   have n2':¬ s=Str.ofString "block" := fun z=>n2 z.symm
   try simp only [Pu.pwA,z9,n1',n2',qg6,e5]
   rw [jx (ds:=(QQ 0 m).map PyData.int) (fs:=(zS d a m).map pD)]
   ·try simp only [Pu.pwA]
   ·try simp (disch:=omega) only [Pu.pwA,qnV,qaQ,Int.toNat_natCast]
   ·unfold zS QQ
    rw [List.map_map,List.map_map]
    refine zu fun t ht=>?_
    have:=List.mem_range.mp ht
    try simp (disch:=omega) only [Pu.pwA,QW,pD,YY,Int.zero_add,Function.comp_def]
   ·simp [zS];omega
  have:(k=0\/k=1\/k=2\/k=3):=by omega
  rcases this with rfl | rfl | rfl | rfl
  ·exact key 0 1 (by omega) (by omega) "row" (by decide) (by decide) rfl
  ·exact key 1 0 (by omega) (by omega) "column" (by decide) (by decide) rfl
  ·exact key 1 1 (by omega) (by omega) "slant" (by decide) (by decide) rfl
  ·exact key 1 (-1) (by omega) (by omega) "back" (by decide) (by decide) rfl
theorem qqK {B a b:Int} {cs:List (Int×Int)} (hB:1<=B) (ha:0<=a/\a<=1000) (hb:0<=b/\b<=1000) (hl:cs.length<=1000000):zf [.list (cs.map pD),.int B,.int a,.int b]=some (.list ((rst B a b cs).map PyData.int)):=by
 rw [W7]
 try simp only [Pu.pwA,jZ]
 rw [jx (ds:=cs.map pD) (fs:=(rst B a b cs).map PyData.int)]
 ·try simp only [Pu.pwA]
 ·try simp only [Pu.pwA]
 ·rw [rst,List.map_map]
  refine zu fun p hp=>?_
  try simp (disch:=omega) only [Pu.pwA,QW,pD,YY,RM,Function.comp_def]
 ·simp [rst];omega
theorem X7 (w:Nat):∀ (h i:Nat),i < h * w->(zi h w)[i]?=some (((i / w:Nat):Int),((i % w:Nat):Int))
 | 0,i,hi=>by omega
 | h+1,i,hi=>by
  rw [Bk.DF]
  by_cases c:i < h * w
  ·rw [List.getElem?_append_left (by rw [Bk.ji];exact c)];exact X7 w h i c
  ·obtain ⟨r,rfl⟩:=Nat.exists_eq_add_of_le (Nat.le_of_not_lt c)
   have hr:r < w:=by rw [Nat.succ_mul] at hi;omega
   rw [List.getElem?_append_right (by rw [Bk.ji];omega),Bk.ji,Nat.add_sub_cancel_left,List.getElem?_map,List.getElem?_range hr]
   have e1:(h * w+r) / w=h:=by rw [Nat.mul_comm,Nat.mul_add_div (by omega),Nat.div_eq_of_lt hr];rfl
   have e2:(h * w+r) % w=r:=by rw [Nat.mul_comm,Nat.mul_add_mod,Nat.mod_eq_of_lt hr]
   rw [e1,e2];rfl
theorem NG {f:(Int×Int)×PyData->Bool} {g:PyData×Nat->Bool}:∀ (ds:List PyData) (k:Nat) (fs:List (Int×Int)),fs.length=ds.length->(∀ i p d,fs[i]?=some p->ds[i]?=some d->f (p,d)=g (d,k+i))->(fs.zip ds).all f=(ds.zipIdx k).all g
 | [],k,fs,h,_=>by simp at h ⊢
 | d :: ds,k,[],h,_=>by simp at h
 | d :: ds,k,p :: fs,h,hs=>by
  rw [List.zip_cons_cons,List.all_cons,List.zipIdx_cons,List.all_cons,NG ds (k+1) fs (by simpa using h) fun i p' d' h1 h2=>?_,hs 0 p d rfl rfl]
  ·rfl
  ·rw [show k+1+i=k+(i+1) by omega];exact hs (i+1) p' d' h1 h2
theorem qha {B:Nat} {ws:List Wk} {ds:List PyData} (h:ds.length=B * B):CU B ws (.list ds)=(ds.zipIdx 0).all fun q=>TZ B ((q.2 / B:Nat):Int) ((q.2 % B:Nat):Int) ws q.1:=by
 show (decide (ds.length=B * B) && _)=_
 rw [decide_eq_true h,Bool.true_and]
 refine NG ds 0 _ (by rw [fac,Bk.ji,h]) fun i p d h1 h2=>?_
 have hi:i < B * B:=by rw [← h];exact (List.getElem?_eq_some_iff.mp h2).1
 rw [fac,X7 B B i hi] at h1
 cases h1
 rw [Nat.zero_add]
theorem qgu {B a b:Int} {ws:List Wk} {n k l:Int}:TZ B a b ws (.tuple [.int n,.int k,.int l])=decide ((0<=n/\n < (ws.length:Int))/\(0<=k/\k < l)/\l < ((wAt ws n.toNat).pc.length:Int)/\(rst B a b (wAt ws n.toNat).pc).getD k.toNat 0=(rst B a b (wAt ws n.toNat).pc).getD l.toNat 0):=by
 rw [Bool.eq_iff_iff]
 simp only [TZ,qnD,inB,alk,SX,Bool.and_eq_true,decide_eq_true_eq]
 constructor
 ·rintro ⟨h1,⟨⟨h2,h3⟩,h4⟩,h5,h6⟩;exact ⟨h1,⟨h2,h5⟩,h4.2,h6⟩
 ·rintro ⟨h1,⟨h2,h5⟩,h4,h6⟩;exact ⟨h1,⟨⟨h2,by omega⟩,by omega,h4⟩,h5,h6⟩
end K92
namespace K92
open PySem L2 L3 Pu Pv
open Bk (Wk Dl zS zi jy lnD lnA faO Fst Un2 qZ zl jQ)
theorem qqJ (ws:List Wk):enD 0 (ws.map Wk.d)=(ws.zipIdx 0).map fun p=>PyData.tuple [.int (p.2:Int),Wk.d p.1]:=L0 _ ws 0
def tri (p:Nat×Nat×Nat):PyData:=.tuple [.int (p.1:Int),.int (p.2.1:Int),.int (p.2.2:Int)]
def unA (B a b:Int) (ws:List Wk):Prop:=∀ w∈ws,faO (rst B a b w.pc)=none
def isb (B a b:Int) (ws:List Wk) (p:Nat×Nat×Nat):Prop:=∃ w,ws[p.1]?=some w/\faO (rst B a b w.pc)=some (p.2.1,p.2.2)
theorem qnu {B a b:Int} {ws:List Wk} {p:Nat×Nat×Nat} (h:isb B a b ws p):¬ unA B a b ws:=fun u=>by
 obtain ⟨w,h1,h2⟩:=h
 have:=u w (List.mem_of_getElem? h1)
 rw [this] at h2;cases h2
def fbP (B a b:Int) (ws:List Wk) (r:PyData):Prop:=(r=.none/\unA B a b ws)\/∃ p,isb B a b ws p/\r=tri p
theorem qqC {B a b:Int} {ws:List Wk} (hB:1<=B) (ha:0<=a/\a<=1000) (hb:0<=b/\b<=1000) (ok:∀ w∈ws,w.Ok) (lw:ws.length<=1000):Tl (z3 [.int B,.tuple [.int a,.int b],.list (ws.map Wk.d)]) (fbP B a b ws):=by
 rw [K0]
 try simp only [Pu.pwA,J6,qqJ]
 refine M7 (Q:=fun o=>Tl (Z5 false o) (fbP B a b ws)) (ws.zipIdx 0) (fun i ρ=>(∃ s3 s4 s5,ρ=[.sh (.int B),.sh (.tuple [.int a,.int b]),.sh (.list (ws.map Wk.d)),s3,s4,s5])/\∀ w∈ws.take i,faO (rst B a b w.pc)=none) (fun d _=>∃ p,isb B a b ws p/\d=tri p) ⟨⟨_,_,_,rfl⟩,by simp⟩ ?_ ?_ ?_
 ·rintro i ⟨w,n⟩ ρ hx ⟨⟨s3,s4,s5,rfl⟩,hu⟩
  obtain ⟨hc,rfl,hi⟩:=DO hx
  have hw:=List.mem_of_getElem? hc
  have l:=(Bk.K4 (ok _ hw)).2
  have rb:=qp0 hB ha hb (K5 (ok _ hw))
  have fa:=qiE (ns:=rst B a b w.pc) (by rw [SX];omega)
  cases e:faO (rst B a b w.pc) with
  | none=>
   have:faD (rst B a b w.pc)=.none:=by unfold faD;rw [e]
   rw [this] at fa
   try simp only [Pu.pwA,rb,fa,qoC]
   refine ⟨⟨_,_,_,rfl⟩,fun v hv=>?_⟩
   rw [List.take_add_one,hc,Option.toList_some] at hv
   rcases List.mem_append.mp hv with h | h
   ·exact hu v h
   ·simp at h;subst h;exact e
  | some q=>
   obtain ⟨x,y⟩:=q
   have:faD (rst B a b w.pc)=.tuple [.int x,.int y]:=by unfold faD;rw [e]
   rw [this] at fa
   try simp only [Pu.pwA,rb,fa,qm6]
   exact ⟨(n,x,y),⟨w,hc,e⟩,rfl⟩
 ·rintro ρ ⟨⟨s3,s4,s5,rfl⟩,hu⟩
  try simp only [Pu.pwA]
  rw [List.length_zipIdx,List.take_length] at hu
  exact ⟨_,rfl,.inl ⟨rfl,hu⟩⟩
 ·rintro d b h
  try simp only [Pu.pwA]
  exact ⟨_,rfl,.inr h⟩
def brs (B:Nat) (ws:List Wk) (bs:List (Nat×Nat×Nat)):Prop:=∀ i p,bs[i]?=some p->isb B ((i / B:Nat):Int) ((i % B:Nat):Int) ws p
def sfP (B:Nat) (ws:List Wk) (r:PyData):Prop:=(∃ i:Nat,i < B * B/\r=.tuple [.str "skew",.int ((i / B:Nat):Int),.int ((i % B:Nat):Int)]/\unA B ((i / B:Nat):Int) ((i % B:Nat):Int) ws/\∀ j:Nat,j < i->¬ unA B ((j / B:Nat):Int) ((j % B:Nat):Int) ws)\/∃ bs,r=.tuple [.str "none",.list (bs.map tri)]/\bs.length=B * B/\brs B ws bs
theorem qra {B:Nat} {ws:List Wk} (b1:1<=B) (b2:B<=100) (ok:∀ w∈ws,w.Ok) (lw:ws.length<=1000):Tl (qD [.int (B:Int),.list (ws.map Wk.d)]) (sfP B ws):=by
 rw [MN]
 have bb:=Nat.mul_le_mul b2 b2
 have fl:(fac B).length=B * B:=by rw [fac,Bk.ji]
 try simp only [Pu.pwA,V5,qp9 b2]
 refine M7 (Q:=fun o=>Tl (Z5 false o) (sfP B ws)) (fac B) (fun i ρ=>∃ bs s3 s4,ρ=[.sh (.int (B:Int)),.sh (.list (ws.map Wk.d)),.ow (bs.map tri),s3,s4]/\bs.length=i/\brs B ws bs) (fun d _=>sfP B ws d) ⟨[],_,_,rfl,rfl,fun i p h=>by simp at h⟩ ?_ ?_ ?_
 ·rintro i ⟨x,y⟩ ρ hx ⟨bs,s3,s4,rfl,hl,hb⟩
  have hi:=(List.getElem?_eq_some_iff.mp hx).1
  rw [fl] at hi
  have bg:=X7 B B i hi
  rw [fac,bg,Option.some.injEq,Prod.mk.injEq] at hx
  obtain ⟨rfl,rfl⟩:=hx
  have dv:i / B < B:=Nat.div_lt_of_lt_mul hi
  have md:i % B < B:=Nat.mod_lt _ (by omega)
  obtain ⟨r,fb,hr⟩:=qqC (B:=(B:Int)) (a:=((i / B:Nat):Int)) (b:=((i % B:Nat):Int)) (ws:=ws) (by omega) ⟨Int.natCast_nonneg _,Int.ofNat_le.mpr (Nat.le_trans (Nat.le_of_lt dv) (Nat.le_trans b2 (by decide)))⟩ ⟨Int.natCast_nonneg _,Int.ofNat_le.mpr (Nat.le_trans (Nat.le_of_lt md) (Nat.le_trans b2 (by decide)))⟩ ok lw
  rcases hr with ⟨rfl,hu⟩ | ⟨p,hp,rfl⟩
  ·try simp only [Pu.pwA,pD,fb,qm6]
   refine .inl ⟨i,hi,rfl,hu,fun j hj=>?_⟩
   exact qnu (hb j bs[j] (List.getElem?_eq_getElem (by omega)))
  ·try simp only [Pu.pwA,pD,fb,tri]
   rw [LW (ds:=bs.map tri) rfl (by simp;omega)]
   refine ⟨bs++[p],.sh (pD (((i / B:Nat):Int),((i % B:Nat):Int))),.sh (tri p),?_,by simp [hl],fun j q hq=>?_⟩
   ·rw [List.map_append];rfl
   ·by_cases c:j < bs.length
    ·rw [List.getElem?_append_left c] at hq;exact hb j q hq
    ·rw [List.getElem?_append_right (by omega)] at hq
     obtain ⟨h1,h2⟩:=List.getElem?_eq_some_iff.mp hq
     simp at h1
     have:j=i:=by omega
     subst this
     simp at h2;subst h2;exact hp
 ·rintro ρ ⟨bs,s3,s4,rfl,hl,hb⟩
  try simp only [Pu.pwA]
  exact ⟨_,rfl,.inr ⟨bs,rfl,by rw [hl,fl],hb⟩⟩
 ·rintro d b h
  try simp only [Pu.pwA]
  exact ⟨_,rfl,h⟩
end K92
namespace K92
open PySem L2 L3 Pu Pv
open Bk (Wk Dl zS zi jy lnD lnA faO Fst Un2 qZ zl jQ)
theorem qg7 {ns:List Int} {i j:Nat} (h:faO ns=some (i,j)):Fst ns i j:=by
 unfold Bk.faO at h
 split at h
 ·rename_i c
  have:=c.choose_spec
  rw [Option.some.inj h] at this
  exact this
 ·cases h
theorem qmX {ws:List Wk} {n:Nat} {w:Wk} (h:ws[n]?=some w):wAt ws n=w:=by
 unfold wAt;rw [List.getD_eq_getElem?_getD,h];rfl
theorem qhI {B a b:Int} {ws:List Wk} {p:Nat×Nat×Nat} (h:isb B a b ws p):TZ B a b ws (tri p)=true:=by
 obtain ⟨w,h1,h2⟩:=h
 have F:=qg7 h2
 have ij:=F.ij
 have jl:=F.jl
 have hn:=(List.getElem?_eq_some_iff.mp h1).1
 unfold tri
 rw [qgu,decide_eq_true_eq,Int.toNat_natCast,Int.toNat_natCast,Int.toNat_natCast,qmX h1]
 rw [SX] at jl
 refine ⟨by omega,by omega,by omega,?_⟩
 rw [List.getD_eq_getElem?_getD,List.getD_eq_getElem?_getD,F.eq]
theorem qdz {B:Nat} {ws:List Wk} {bs:List (Nat×Nat×Nat)} (hl:bs.length=B * B) (h:brs B ws bs):CU B ws (.list (bs.map tri))=true:=by
 rw [qha (by simpa using hl),List.all_eq_true]
 rintro ⟨d,i⟩ hm
 obtain ⟨j,hj⟩:=List.mem_iff_getElem?.mp hm
 obtain ⟨h1,rfl,h3⟩:=DO hj
 rw [List.getElem?_map] at h1
 obtain ⟨p,hp,rfl⟩:=Option.map_eq_some_iff.mp h1
 exact qhI (h i p hp)
theorem qi8 (p:Nat×Nat×Nat):kn (tri p):=⟨rfl,fun ds e d hd=>by
 unfold tri at e
 cases e
 simp at hd
 rcases hd with rfl | rfl | rfl <;> rfl⟩
theorem qkX {B:Nat} {ws:List Wk} {bs:List (Nat×Nat×Nat)} (b1:1<=B) (b2:B<=100) (ok:∀ w∈ws,w.Ok) (hl:bs.length=B * B) (h:brs B ws bs):qt [.int (B:Int),.list (ws.map Wk.d),.list (bs.map tri)]=some (.bool true):=by
 rw [qqP b1 b2 (fun w hw=>K5 (ok w hw)) rfl fun ds e d hd=>by
  cases e
  obtain ⟨p,_,rfl⟩:=List.mem_map.mp hd
  exact qi8 p]
 rw [qdz hl h]
theorem qpu {ns:List Int}:decide ((U0 ns:Int)=(ns.length:Int))=unB ns:=by
 rw [Bool.eq_iff_iff,decide_eq_true_eq,qgB,← Bk.qaL]
 omega
def unL (B a b:Int) (ws:List Wk):Bool:=ws.all fun w=>unB (rst B a b w.pc)
theorem qbB {B a b:Int} {ws:List Wk}:unL B a b ws=true ↔ unA B a b ws:=by
 unfold unL unA unB
 rw [List.all_eq_true]
 simp only [Option.isNone_iff_eq_none]
theorem qjF {B a b:Int} {ws:List Wk} (hB:1<=B) (ha:0<=a/\a<=1000) (hb:0<=b/\b<=1000) (ok:∀ w∈ws,w.Ok) (lw:ws.length<=1000):zd [.int B,.list (ws.map Wk.d),.int a,.int b]=some (.bool (unL B a b ws)):=by
 rw [TJ]
 try simp only [Pu.pwA,Z0]
 rw [jx (ds:=ws.map Wk.d) (fs:=ws.map fun w=>.list ((rst B a b w.pc).map PyData.int))]
 rotate_left
 ·try simp only [Pu.pwA]
 ·refine zu fun w hw=>?_
  have l:=(Bk.K4 (ok _ hw)).2
  try simp only [Pu.pwA,QW,qnF (K5 (ok w hw)),qqK (cs:=w.pc) hB ha hb (by omega)]
 ·simp;omega
 try simp only [Pu.pwA]
 rw [jx (ds:=ws.map fun w=>.list ((rst B a b w.pc).map PyData.int)) (fs:=(ws.map fun w=>unB (rst B a b w.pc)).map PyData.bool)]
 rotate_left
 ·try simp only [Pu.pwA]
 ·rw [List.map_map]
  refine zu fun w hw=>?_
  have l:=(Bk.K4 (ok _ hw)).2
  have e:qax (.list ((rst B a b w.pc).map PyData.int))=some (.int (U0 (rst B a b w.pc))):=qgW (by rw [SX];omega)
  try simp only [Pu.pwA,QW,e,List.length_map,Function.comp_def,← qpu]
 ·simp;omega
 try simp only [Pu.pwA,LG,List.all_map]
 rfl
theorem qms {i j:Nat} {m:List Bool} {x y:List PyData} {ρ:Rho}:qnB i j m [.list x,.list y] ρ=some (.nx (((dm m ρ).set i (.sh (.list x))).set j (.sh (.list y)))):=id rfl
def qo6 (cs:List (Int×Int)):PyData:=.tuple [.int (mx (dn cs) - mn (dn cs)+1),.int (mx (al cs) - mn (al cs)+1),.tuple [.int (-(mn (dn cs))),.int (-(mn (al cs)))]]
theorem qoh {cs:List (Int×Int)} (hc:Cb cs) (hl:cs.length<=1000):QB [.list (cs.map pD)]=some (qo6 cs):=by
 obtain ⟨⟨h1,h2,h3⟩,⟨h4,h5,h6⟩⟩:=hc.lim
 rw [qad]
 try simp only [Pu.pwA,EA]
 rw [jx (ds:=cs.map pD) (fs:=(dn cs).map PyData.int) rfl (by
  rw [dn,List.map_map]
  refine zu fun p hp=>?_
  try simp only [Pu.pwA,QW,pD,Function.comp_def]) (by simp [dn];omega)]
 try simp only [Pu.pwA]
 rw [jx (ds:=cs.map pD) (fs:=(al cs).map PyData.int) rfl (by
  rw [al,List.map_map]
  refine zu fun p hp=>?_
  try simp only [Pu.pwA,QW,pD,Function.comp_def]) (by simp [al];omega)]
 try simp only [Pu.pwA]
 have n1:dn cs≠[]:=by simp [dn,hc.ne]
 have n2:al cs≠[]:=by simp [al,hc.ne]
 try simp only [Pu.pwA,qms,qdM n1,qd8 n1,qdM n2,qd8 n2,qo6]
theorem qkJ {cs:List (Int×Int)}:stI (mx (dn cs) - mn (dn cs)+1) (mx (al cs) - mn (al cs)+1) cs=[(-(mn (dn cs)),-(mn (al cs)))]:=by
 unfold Pv.stI
 rw [show (mx (dn cs) - mn (dn cs)+1 - mx (dn cs) - -(mn (dn cs))).toNat=1 by omega,show (mx (al cs) - mn (al cs)+1 - mx (al cs) - -(mn (al cs))).toNat=1 by omega]
 simp [QQ]
theorem qlp {B a b:Int} {w:Wk} {x y:Nat} (e:faO (rst B a b w.pc)=some (x,y)):clD (.skew (mx (dn w.pc) - mn (dn w.pc)+1) (mx (al w.pc) - mn (al w.pc)+1) B a b) w=.tuple [.tuple [.int (-(mn (dn w.pc))),.int (-(mn (al w.pc)))],.int (x:Int),.int (y:Int)]:=by
 unfold clD
 simp only [fA,fB,Dl.B,Dl.R,Dl.C,e,qkJ]
 rfl
theorem qif {R C B a b:Int} {w:Wk} (e:faO (rst B a b w.pc)=none):clD (.skew R C B a b) w=.none:=by
 unfold clD
 simp only [fA,fB,Dl.B,e]
end K92
namespace K92
open PySem L2 L3 Pu Pv
open Bk (Wk Dl zS zi jy lnD lnA faO Fst Un2 qZ zl jQ)
theorem SF {t:Nat} {u:Int} (h:t<=16) (hu:-16<=u/\u<=16):-256<=(t:Int) * u/\(t:Int) * u<=256:=by
 have a:(t:Int) * u<=(t:Int) * 16:=Int.mul_le_mul_of_nonneg_left hu.2 (Int.natCast_nonneg _)
 have b:(t:Int) * (-16)<=(t:Int) * u:=Int.mul_le_mul_of_nonneg_left hu.1 (Int.natCast_nonneg _)
 omega
theorem qns {w:Wk} (ok:w.Ok):Cb w.pc:=by
 have h:=Bk.K4 ok
 refine ⟨fun e=>by rw [e] at h;simp at h,fun p hp=>?_⟩
 cases w with
 | cells ps=>have:=ok.2.2.2 p hp;omega
 | block h v=>
  obtain ⟨i,hi,hq⟩:=List.mem_flatMap.mp hp
  obtain ⟨j,hj,rfl⟩:=List.mem_map.mp hq
  have:=List.mem_range.mp hi
  have:=List.mem_range.mp hj
  obtain ⟨_,_,h3,h4,_⟩:=ok
  simp only;omega
 | step u v m=>
  obtain ⟨t,ht,rfl⟩:=List.mem_map.mp hp
  have:=List.mem_range.mp ht
  obtain ⟨h1,h2,h3,h4⟩:=ok
  have b1:=SF (t:=t) (u:=u) (by omega) h1
  have b2:=SF (t:=t) (u:=v) (by omega) h2
  simp only;omega
 | line k m=>
  obtain ⟨t,ht,rfl⟩:=List.mem_map.mp hp
  have:=List.mem_range.mp ht
  obtain ⟨h1,h2,h3⟩:=ok
  have b0:(-16<=Bk.lnD k/\Bk.lnD k<=16)/\(-16<=Bk.lnA k/\Bk.lnA k<=16):=by
   match k,h1 with
   | 0,_=>decide
   | 1,_=>decide
   | 2,_=>decide
   | 3,_=>decide
  have b1:=SF (t:=t) (u:=Bk.lnD k) (by omega) b0.1
  have b2:=SF (t:=t) (u:=Bk.lnA k) (by omega) b0.2
  simp only;omega
theorem qrb (bs:List (Nat×Nat×Nat)):enD 0 (bs.map tri)=(bs.zipIdx 0).map fun p=>PyData.tuple [.int (p.2:Int),tri p.1]:=L0 _ bs 0
theorem qqV {B:Nat} {ws:List Wk} {bs:List (Nat×Nat×Nat)} (b1:1<=B) (b2:B<=16) (ok:∀ w∈ws,w.Ok) (hl:bs.length=B * B) (h:brs B ws bs):qR [.int (B:Int),.list (ws.map Wk.d),.list (bs.map tri)]=some (.bool true):=by
 rw [EW]
 have bb:=Nat.mul_le_mul b2 b2
 have mm:cI jP (· * ·) (.int (B:Int)) (.int (B:Int))=some (.int ((B * B:Nat):Int)):=by
  rw [qcG (by omega)];simp
 have e1:(((bs.map tri).length:Nat):Int)=((B * B:Nat):Int):=by rw [List.length_map,hl]
 try simp only [Pu.pwA,jn,qkX b1 (by omega) ok hl h,mm,e1,qrb,bne_self_eq_false]
 refine XW (Q:=fun o=>Z5 false o=_) (bs.zipIdx 0) (fun _ ρ=>∃ s3 s4 s5 s6 s7 s8 s9,ρ=[.sh (.int (B:Int)),.sh (.list (ws.map Wk.d)),.sh (.list (bs.map tri)),s3,s4,s5,s6,s7,s8,s9]) ⟨_,_,_,_,_,_,_,rfl⟩ ?_ ?_
 ·rintro i ⟨p,n⟩ ρ hx ⟨s3,s4,s5,s6,s7,s8,s9,rfl⟩
  obtain ⟨hc,rfl,hi⟩:=DO hx
  obtain ⟨w,hw,fa⟩:=h n p hc
  have hn:=(List.getElem?_eq_some_iff.mp hw).1
  have wok:=ok w (List.mem_of_getElem? hw)
  have big:=K5 wok
  have cb:=qns wok
  have l:=(Bk.K4 wok).2
  have lim:=cb.lim
  have ai:L2.atI (ws.map Wk.d) (p.1:Int)=some (Wk.d w):=by
   rw [atN (by simpa using hn),List.getElem?_map,hw];rfl
  have bx:=qoh cb (by omega)
  unfold qo6 at bx
  have di:cI qaF (· / ·) (.int (n:Int)) (.int (B:Int))=some (.int ((n / B:Nat):Int)):=by rw [qgp (by omega)];simp
  have mo:cI (fun _ j=>0 < j) (· % ·) (.int (n:Int)) (.int (B:Int))=some (.int ((n % B:Nat):Int)):=by rw [RM (by omega)];simp
  have dv:n / B < B:=Nat.div_lt_of_lt_mul (by omega)
  have md:n % B < B:=Nat.mod_lt _ (by omega)
  have cl:=qlp fa
  generalize hR:mx (dn w.pc) - mn (dn w.pc)+1=R at bx cl
  generalize hC:mx (al w.pc) - mn (al w.pc)+1=C at bx cl
  have a0:0<=((n / B:Nat):Int)/\((n / B:Nat):Int) < (B:Int):=⟨Int.natCast_nonneg _,Int.ofNat_lt.mpr dv⟩
  have b0:0<=((n % B:Nat):Int)/\((n % B:Nat):Int) < (B:Int):=⟨Int.natCast_nonneg _,Int.ofNat_lt.mpr md⟩
  clear dv md
  generalize ((n / B:Nat):Int)=a at *
  generalize ((n % B:Nat):Int)=b at *
  by_cases c1:R<=16
  ·by_cases c2:C<=16
   ·have okd:(Dl.skew R C (B:Int) a b).Ok:=by simp only [Dl.Ok];omega
    have cf:=qpZ (d:=.skew R C (B:Int) a b) (w:=w) trivial okd big cb
    rw [cl] at cf
    simp only [dlD] at cf
    have sm:=MJ (n:=4) (d:=.tuple [.tuple [.int (-(mn (dn w.pc))),.int (-(mn (al w.pc)))],.int (p.2.1:Int),.int (p.2.2:Int)]) (by simp [Bk.UM])
    try simp only [Pu.pwA,tri,ai,qnF big,bx,c1,c2,di,mo,cf,sm]
    exact ⟨_,_,_,_,_,_,_,rfl⟩
   ·try simp only [Pu.pwA,tri,ai,qnF big,bx,c1,c2]
    exact ⟨_,_,_,_,_,_,_,rfl⟩
  ·try simp only [Pu.pwA,tri,ai,qnF big,bx,c1]
   exact ⟨_,_,_,_,_,_,_,rfl⟩
 ·rintro ρ ⟨s3,s4,s5,s6,s7,s8,s9,rfl⟩
  try simp only [Pu.pwA]
end K92
namespace K92
open PySem L2 L3 Pu Pv
open Bk (Wk Dl zS zi jy lnD lnA faO Fst Un2 qZ zl jQ)
def sfD (ws:List Wk) (B:Nat):PyData:=(qD [.int (B:Int),.list (ws.map Wk.d)]).getD .none
theorem qj6 {B:Nat} {ws:List Wk} (b1:1<=B) (b2:B<=100) (ok:∀ w∈ws,w.Ok) (lw:ws.length<=1000):qD [.int (B:Int),.list (ws.map Wk.d)]=some (sfD ws B)/\sfP B ws (sfD ws B):=by
 obtain ⟨d,e,h⟩:=qra b1 b2 ok lw
 have:sfD ws B=d:=by unfold sfD;rw [e];rfl
 rw [this]
 exact ⟨e,h⟩
def bD (ws:List Wk) (i:Nat):PyData:=match sfD ws (i+1) with
 | .tuple [_,d]=>d
 | _=>.none
def skB (ws:List Wk) (i:Nat):Bool:=match sfD ws (i+1) with
 | .tuple [_,_,_]=>true
 | _=>false
def nn (ws:List Wk) (i:Nat):Prop:=∃ bs,sfD ws (i+1)=.tuple [.str "none",.list (bs.map tri)]/\bD ws i=.list (bs.map tri)/\bs.length=(i+1) * (i+1)/\brs (i+1) ws bs
def sk (ws:List Wk) (i:Nat) (a b:Int):Prop:=sfD ws (i+1)=.tuple [.str "skew",.int a,.int b]
theorem qnH {ws:List Wk} {i:Nat} (h:nn ws i):skB ws i=false/\sfD ws (i+1)=.tuple [.str "none",bD ws i]:=by
 obtain ⟨bs,e,e2,_⟩:=h
 rw [e2]
 unfold skB
 rw [e]
 exact ⟨rfl,rfl⟩
theorem qpY {ws:List Wk} {i:Nat} {a b:Int} (h:sk ws i a b):skB ws i=true:=by
 unfold sk at h
 unfold skB
 rw [h]
theorem qqg {ws:List Wk} (ok:∀ w∈ws,w.Ok) (lw:ws.length<=1000) {i:Nat} (hi:i < 100):nn ws i\/∃ a b,sk ws i a b:=by
 rcases (qj6 (B:=i+1) (ws:=ws) (by omega) (by omega) ok lw).2 with ⟨j,_,e,_⟩ | ⟨bs,e,hl,hb⟩
 ·exact .inr ⟨_,_,e⟩
 ·exact .inl ⟨bs,e,by unfold bD;rw [e],hl,hb⟩
theorem qcz {ws:List Wk} (ok:∀ w∈ws,w.Ok) (lw:ws.length<=1000):∀ m:Nat,m<=100->(∀ i,i < m->nn ws i)\/∃ t a b,t < m/\(∀ i,i < t->nn ws i)/\sk ws t a b
 | 0,_=>.inl fun i h=>by omega
 | m+1,hm=>by
  rcases qcz ok lw m (by omega) with h | ⟨t,a,b,h1,h2,h3⟩
  ·rcases qqg ok lw (i:=m) (by omega) with h' | ⟨a,b,h'⟩
   ·refine .inl fun i hi=>?_
    by_cases c:i=m
    ·subst c;exact h'
    ·exact h i (by omega)
   ·exact .inr ⟨m,a,b,by omega,h,h'⟩
  ·exact .inr ⟨t,a,b,by omega,h2,h3⟩
theorem RF {α:Type} (f:Nat->α) (i:Nat):(List.range (i+1)).map f=(List.range i).map f++[f i]:=by
 rw [List.range_succ,List.map_append];rfl
theorem ZX:¬ Str.ofString "none" = Str.ofString "skew" := by decide
theorem qcu {ws:List Wk} {m:Int} {i:Nat} {s3 s4:Sl} (ok:∀ w∈ws,w.Ok) (lw:ws.length<=1000) (hi:i < 100) (h:nn ws i):qD [.int (1+(i:Int)),.list (ws.map Wk.d)]=some (.tuple [.str "none",bD ws i]):=by
 have:=(qj6 (B:=i+1) (ws:=ws) (by omega) (by omega) ok lw).1
 rw [(qnH h).2] at this
 rw [Int.add_comm]
 exact this
theorem qpN {ws:List Wk} {m:Nat} (ok:∀ w∈ws,w.Ok) (lw:ws.length<=1000) (hm:m<=100) (h:∀ i,i < m->nn ws i):zt [.list (ws.map Wk.d),.int (m:Int)]=some .none:=by
 rw [EI]
 try simp (disch:=omega) only [Pu.pwA,QH,qe2]
 rw [show ((m:Int)+1 - 1).toNat=m by omega]
 refine XW (Q:=fun o=>Z5 false o=_) (QQ 1 m) (fun i ρ=>∃ s3 s4,ρ=[.sh (.list (ws.map Wk.d)),.sh (.int (m:Int)),.ow ((List.range i).map (bD ws)),s3,s4]) ⟨_,_,rfl⟩ ?_ ?_
 ·rintro i x ρ hx ⟨s3,s4,rfl⟩
  obtain ⟨hi,rfl⟩:=Q6 hx
  have sf:=qcu (m:=0) (s3:=.un) (s4:=.un) ok lw (by omega) (h i hi)
  obtain ⟨bs,_,e2,_⟩:=h i hi
  rw [e2] at sf
  try simp only [Pu.pwA,sf,ZX]
  rw [LW (ds:=(List.range i).map (bD ws)) rfl (by simp;omega)]
  rw [RF,e2]
  exact ⟨_,_,rfl⟩
 ·rintro ρ ⟨s3,s4,rfl⟩
  try simp only [Pu.pwA]
theorem qoQ {ws:List Wk} {m t:Nat} {a b:Int} (ok:∀ w∈ws,w.Ok) (lw:ws.length<=1000) (hm:m<=100) (ht:t < m) (h:∀ i,i < t->nn ws i) (e:sk ws t a b):zt [.list (ws.map Wk.d),.int (m:Int)]=some (.tuple [.int (1+(t:Int)),.int a,.int b,.list ((List.range t).map (bD ws))]):=by
 rw [EI]
 try simp (disch:=omega) only [Pu.pwA,QH,qe2]
 rw [show ((m:Int)+1 - 1).toNat=m by omega]
 refine qcU (Q:=fun o=>Z5 false o=_) (QQ 1 m) t (1+(t:Int)) (.tuple [.int (1+(t:Int)),.int a,.int b,.list ((List.range t).map (bD ws))]) false (by rw [QQ,List.getElem?_map,List.getElem?_range ht];rfl) (fun i ρ=>∃ s3 s4,ρ=[.sh (.list (ws.map Wk.d)),.sh (.int (m:Int)),.ow ((List.range i).map (bD ws)),s3,s4]) ⟨_,_,rfl⟩ ?_ ?_ ?_
 ·rintro i x ρ hit hx ⟨s3,s4,rfl⟩
  obtain ⟨hi,rfl⟩:=Q6 hx
  have sf:=qcu (m:=0) (s3:=.un) (s4:=.un) ok lw (by omega) (h i hit)
  obtain ⟨bs,_,e2,_⟩:=h i hit
  rw [e2] at sf
  try simp only [Pu.pwA,sf,ZX]
  rw [LW (ds:=(List.range i).map (bD ws)) rfl (by simp;omega)]
  rw [RF,e2]
  exact ⟨_,_,rfl⟩
 ·rintro ρ ⟨s3,s4,rfl⟩
  have sf:=(qj6 (B:=t+1) (ws:=ws) (by omega) (by omega) ok lw).1
  unfold sk at e
  rw [e,Int.natCast_add,Int.add_comm] at sf
  have sf':qD [.int (1+(t:Int)),.list (ws.map Wk.d)]=some (.tuple [.str "skew",.int a,.int b]):=sf
  try simp only [Pu.pwA,sf']
 ·try simp only [Pu.pwA]
end K92
namespace K92
open PySem L2 L3 Pu Pv
open Bk (Wk Dl zS zi jy lnD lnA faO Fst Un2 qZ zl jQ)
theorem qlL:eqD true (.list []) (.list [])=some (.bool false):=qeo true []
theorem qqS {B i n:Nat} {ws:List Wk} {Q:QD} (b1:1<=B) (b2:B<=16) (ok:∀ w∈ws,w.Ok) (lw:ws.length<=1000) (hi:i < B * B) (hu:unA B ((i / B:Nat):Int) ((i % B:Nat):Int) ws) (hj:∀ j:Nat,j < i->¬ unA B ((j / B:Nat):Int) ((j % B:Nat):Int) ws) (hn:n < 900000) (h:Q (.bool true) (n+2)):zg.W [.int (B:Int),.list (ws.map Wk.d),.int ((i / B:Nat):Int),.int ((i % B:Nat):Int)] n Q:=by
 rw [U4]
 refine ⟨rfl,?_⟩
 have bb:=Nat.mul_le_mul b2 b2
 have dv:i / B < B:=Nat.div_lt_of_lt_mul hi
 have md:i % B < B:=Nat.mod_lt _ (by omega)
 have mm:cI jP (· * ·) (.int ((i / B:Nat):Int)) (.int (B:Int))=some (.int ((i / B * B:Nat):Int)):=by
  rw [YY ⟨Int.natCast_nonneg _,by omega⟩];simp
 have su:((i / B * B:Nat):Int)+((i % B:Nat):Int)=(i:Int):=by
  have:=Nat.div_add_mod' i B
  rw [← Int.natCast_add,this]
 have a0:0<=((i / B:Nat):Int)/\((i / B:Nat):Int) < (B:Int):=⟨Int.natCast_nonneg _,Int.ofNat_lt.mpr dv⟩
 have b0:0<=((i % B:Nat):Int)/\((i % B:Nat):Int) < (B:Int):=⟨Int.natCast_nonneg _,Int.ofNat_lt.mpr md⟩
 clear dv md
 generalize ((i / B:Nat):Int)=a at *
 generalize ((i % B:Nat):Int)=b at *
 unfold jc
 refine V7 fun Y1 h1=>?_
 try simp (disch:=omega) only [Pu.pwA,mm,su,qaQ,Int.toNat_natCast]
 refine WI (QQ 0 i) jf.mn (fun _ ρ m=>m=n/\∃ s5,ρ=[.un,.sh (.int (B:Int)),.sh (.list (ws.map Wk.d)),.sh (.int a),.sh (.int b),s5,.un,.un,.un,.un]) ⟨rfl,_,rfl⟩ ?_ ?_
 ·rintro j x ρ m hx ⟨rfl,s5,rfl⟩
  obtain ⟨hji,rfl⟩:=Q6 hx
  have dv:j / B < B:=Nat.div_lt_of_lt_mul (by omega)
  have md:j % B < B:=Nat.mod_lt _ (by omega)
  have c0:0<=((j / B:Nat):Int)/\((j / B:Nat):Int) < (B:Int):=⟨Int.natCast_nonneg _,Int.ofNat_lt.mpr dv⟩
  have d0:0<=((j % B:Nat):Int)/\((j % B:Nat):Int) < (B:Int):=⟨Int.natCast_nonneg _,Int.ofNat_lt.mpr md⟩
  have di:cI qaF (· / ·) (.int (j:Int)) (.int (B:Int))=some (.int ((j / B:Nat):Int)):=by rw [qgp (by omega)];simp
  have mo:cI (fun _ j=>0 < j) (· % ·) (.int (j:Int)) (.int (B:Int))=some (.int ((j % B:Nat):Int)):=by rw [RM (by omega)];simp
  have nu:=hj j hji
  clear dv md
  generalize ((j / B:Nat):Int)=c at *
  generalize ((j % B:Nat):Int)=d at *
  have fu:=qjF (B:=(B:Int)) (a:=c) (b:=d) (ws:=ws) (by omega) (by omega) (by omega) ok lw
  have e:unL B c d ws=false:=by
   cases z:unL B c d ws with
   | false=>rfl
   | true=>exact absurd (qbB.mp z) nu
  rw [e] at fu
  refine ⟨_,rfl,?_⟩
  try simp only [Pu.pwA,jf,Int.zero_add,di,mo,fu]
  exact ⟨_,rfl⟩
 rintro ρ m ⟨rfl,s5,rfl⟩
 try simp only [Pu.pwA]
 rw [h1]
 refine V7 fun Y2 h2=>?_
 try simp only [Pu.pwA]
 refine ⟨by omega,by omega,fun r r0 r1=>?_⟩
 try simp only [Pu.pwA]
 refine ⟨by omega,by omega,fun c c0 c1=>?_⟩
 try simp only [Pu.pwA]
 rw [h2]
 refine V7 fun Y3 h3=>?_
 try simp only [Pu.pwA]
 refine WI (f:=pD) [(1+r,1+c),(16,16)] jg.mn (fun _ ρ k=>k=m+2/\∃ s5 s6 s7 s8 s9,ρ=[.un,.sh (.int (B:Int)),.sh (.list (ws.map Wk.d)),.sh (.int a),.sh (.int b),s5,s6,s7,s8,s9]) ⟨rfl,_,_,_,_,_,rfl⟩ ?_ ?_
 ·rintro t ⟨R,C⟩ ρ k hx ⟨rfl,s5,s6,s7,s8,s9,rfl⟩
  have hm:=List.mem_of_getElem? hx
  have hR:(1<=R/\R<=16)/\(1<=C/\C<=16):=by
   simp at hm
   omega
  have okd:(Dl.skew R C (B:Int) a b).Ok:=by simp only [Dl.Ok];omega
  refine ⟨_,rfl,?_⟩
  unfold jg
  refine V7 fun Z1 g1=>?_
  try simp only [Pu.pwA]
  rw [g1]
  try simp only [Pu.pwA]
  have ef:(ws.filter fun _=>false).map Wk.d=[]:=by simp
  rw [jx (ds:=ws.map Wk.d) (fs:=(ws.filter fun _=>false).map Wk.d)]
  rotate_left
  ·try simp only [Pu.pwA]
  ·refine C5 fun w hw=>?_
   have cf:=qpZ (d:=.skew R C (B:Int) a b) (w:=w) trivial okd (K5 (ok w hw)) (qns (ok w hw))
   rw [qif (hu w hw)] at cf
   simp only [dlD] at cf
   try simp only [Pu.pwA,QW,cf]
  ·rw [ef];exact Nat.zero_le _
  try simp only [Pu.pwA,ef,qlL]
  exact ⟨_,_,_,_,_,rfl⟩
 ·rintro ρ k ⟨rfl,s5,s6,s7,s8,s9,rfl⟩
  try simp only [Pu.pwA]
  rw [h3]
  have fu:=qjF (B:=(B:Int)) (a:=a) (b:=b) (ws:=ws) (by omega) (by omega) (by omega) ok lw
  rw [qbB.mpr hu] at fu
  try simp only [Pu.pwA,fu]
  exact ⟨_,by omega,h⟩
end K92
namespace K92
open PySem L2 L3 Pu Pv
open Bk (Wk Dl zS zi jy lnD lnA faO Fst Un2 qZ zl jQ)
theorem NT (f:Nat->PyData) (m:Nat):enD 0 ((List.range m).map f)=(List.range m).map fun (i:Nat)=>PyData.tuple [.int (i:Int),f i]:=by
 rw [L0]
 apply List.ext_getElem?
 intro i
 rw [List.getElem?_map,List.getElem?_map,List.getElem?_zipIdx]
 by_cases h:i < m
 ·rw [List.getElem?_range h];simp
 ·rw [List.getElem?_eq_none (by simpa using h)];rfl
theorem qdt {α:Type} (xs:List α) (k:Nat):qas xs none (some (k:Int))=xs.take k:=by
 unfold qas
 rw [HT.qin,HT.qdw,List.drop_zero,Nat.sub_zero,List.take_eq_take_iff]
 omega
theorem qnT {xs:List PyData} {lo hi:Option Int}:slD (.list xs) lo hi=some (.list (qas xs lo hi)):=id rfl
theorem qbP (f:Nat->PyData) {t m:Nat} (h:t<=m):qas ((List.range m).map f) none (some (t:Int))=(List.range t).map f:=by
 rw [qdt,← List.map_take,List.take_range,Nat.min_eq_left h]
theorem qd5 (f:Nat->PyData) {t m:Nat} (h:t < m):L2.atI ((List.range m).map f) (t:Int)=some (f t):=by
 rw [atN (by simpa using h),List.getElem?_map,List.getElem?_range h];rfl
theorem NF {ws:List Wk} {m:Nat} (h:∀ i,i < m->nn ws i):(List.range m).filter (skB ws)=[]:=by
 rw [List.filter_eq_nil_iff]
 intro i hi
 rw [(qnH (h i (List.mem_range.mp hi))).1]
 exact Bool.false_ne_true
theorem qdx {ws:List Wk} {m t:Nat} {a b:Int} (ht:t < m) (h:∀ i,i < t->nn ws i) (e:sk ws t a b):∃ r,(List.range m).filter (skB ws)=t :: r:=by
 obtain ⟨u,rfl⟩:=Nat.exists_eq_add_of_lt ht
 rw [show t+u+1=t+(1+u) by omega,List.range_add,List.filter_append,NF h,List.nil_append,Nat.add_comm 1 u,List.range_succ_eq_map,List.map_cons,Nat.add_zero,List.filter_cons,qpY e]
 exact ⟨_,rfl⟩
theorem qna {ws:List Wk} (ok:∀ w∈ws,w.Ok) (lw:ws.length<=1000) {i:Nat} (hi:i < 100):qD [.int (1+(i:Int)),.list (ws.map Wk.d)]=some (sfD ws (i+1)):=by
 have:=(qj6 (B:=i+1) (ws:=ws) (by omega) (by omega) ok lw).1
 rw [Int.add_comm]
 exact this
theorem qni {ws:List Wk} {i:Nat} (hi:i < 100) (h:nn ws i):Bk.UM 2 (bD ws i):=by
 obtain ⟨bs,_,e,hl,_⟩:=h
 rw [e]
 have:=Nat.mul_le_mul (show i+1<=100 by omega) (show i+1<=100 by omega)
 refine ⟨by rw [List.length_map,hl];omega,fun d hd=>?_⟩
 obtain ⟨p,_,rfl⟩:=List.mem_map.mp hd
 simp [tri,Bk.UM]
theorem qhY {ws:List Wk} {t:Nat} {a b:Int} (ht:t < 100) (h:∀ i,i < t->nn ws i):Bk.UM 4 (.tuple [.int (1+(t:Int)),.int a,.int b,.list ((List.range t).map (bD ws))]):=by
 refine ⟨by simp,fun d hd=>?_⟩
 simp only [List.mem_cons,List.not_mem_nil,or_false] at hd
 rcases hd with rfl | rfl | rfl | rfl
 ·trivial
 ·trivial
 ·trivial
 ·refine ⟨by simp;omega,fun e he=>?_⟩
  obtain ⟨i,hi,rfl⟩:=List.mem_map.mp he
  have:=List.mem_range.mp hi
  exact qni (by omega) (h i this)
theorem qkC {B:Nat} {ws:List Wk} {d:PyData} (h:sfP B ws d):∃ ts,d=.tuple ts:=by
 rcases h with ⟨_,_,e,_⟩ | ⟨_,e,_⟩ <;> exact ⟨_,e⟩
end K92
namespace K92
open PySem L2 L3 Pu Pv
open Bk (Wk Dl zS zi jy lnD lnA faO Fst Un2 qZ zl jQ)
theorem KK:¬ Str.ofString "skew" = Str.ofString "none" := by decide
theorem qkw:∀ k:Nat,k<=60->qdW.w [.un,.sh (.int k),.un,.un,.un,.un,.un,.un,.un,.un,.un,.un,.un] 0 okW:=by
 intro k hk
 unfold qdW
 refine V7 fun Y1 h1=>?_
 try simp only [Pu.pwA]
 refine ⟨by omega,by omega,fun d d0 d1=>?_⟩
 refine qgH (ks:=[9,9,9,16]) d0 (by simpa using d1) fun kk hkk=>?_
 have hk2:9<=kk/\kk<=16:=by simp at hkk;omega
 try simp only [Pu.pwA]
 refine ⟨by omega,by omega,fun b b0 b1=>?_⟩
 obtain ⟨B,hB,hB1,hB2⟩:∃ B:Nat,1+b=(B:Int)/\1<=B/\B<=16:=⟨(1+b).toNat,by omega,by omega,by omega⟩
 try simp only [Pu.pwA]
 rw [hB,h1]
 refine V7 fun Y2 h2=>?_
 try simp only [Pu.pwA]
 refine ⟨by omega,by omega,fun m0 m1 m2=>?_⟩
 obtain ⟨M,rfl⟩:=Int.eq_ofNat_of_zero_le m1
 have hM:M<=9:=by omega
 try simp only [Pu.pwA]
 rw [h2]
 refine V7 fun Y3 h3=>?_
 try simp only [Pu.pwA]
 refine ⟨by omega,by omega,fun c c0 c1=>?_⟩
 try simp only [Pu.pwA]
 refine ⟨_,qaQ (by omega),by simp [QQ];omega,?_⟩
 refine qbK (R:=fun w:Wk=>w.Ok) (gd:=Wk.d) (c:=60) (N:=1000) (QQ 0 (1+c).toNat) _ _ (fun x _ n' Q' hn' h'=>?_) SW.mn mnT (by rw [VZ];omega) fun ws lw ok=>?_
 ·refine ⟨_,rfl,?_⟩
  try simp only [Pu.pwA,SW]
  exact ⟨by omega,fun w hw=>h' w hw⟩
 rw [VZ] at lw
 have lw:ws.length<=1000:=by omega
 refine ⟨by simp;omega,?_⟩
 try simp only [Pu.pwA]
 rw [h3]
 obtain ⟨sf,sp⟩:=qj6 hB1 (by omega) ok lw
 obtain ⟨ts,et⟩:=qkC sp
 rw [et] at sf sp
 refine V7 fun Y4 h4=>?_
 try simp only [Pu.pwA,sf]
 rw [h4]
 have hn:0+1+1+1+1+60 * (QQ 0 (1+c).toNat).length<=1000:=by rw [VZ];omega
 generalize 0+1+1+1+1+60 * (QQ 0 (1+c).toNat).length=n at *
 refine V7 fun Y5 h5=>?_
 have key5:∀ n:Nat,n<=5000->Y5 [.un,.sh (.int k),.un,.sh (.int (B:Int)),.sh (.int (M:Int)),.sh (.list (ws.map Wk.d)),.sh (.tuple ts),.un,.un,.un,.un,.un,.un] n okW:=by
  intro n hn
  rw [h5]
  refine V7 fun Y6 h6=>?_
  have key6:Y6 [.un,.sh (.int k),.un,.sh (.int (B:Int)),.sh (.int (M:Int)),.sh (.list (ws.map Wk.d)),.sh (.tuple ts),.un,.un,.un,.un,.un,.un] n okW:=by
   rw [h6]
   refine V7 fun Y7 h7=>?_
   try simp only [Pu.pwA]
   rw [jx (ds:=(QQ 1 M).map PyData.int) (fs:=(List.range M).map fun i=>sfD ws (i+1))]
   rotate_left
   ·try simp (disch:=omega) only [Pu.pwA,qe2]
    rw [show ((M:Int)+1 - 1).toNat=M by omega]
   ·unfold QQ
    rw [List.map_map]
    refine zu fun i hi=>?_
    have:=List.mem_range.mp hi
    try simp only [Pu.pwA,QW,qna ok lw (show i < 100 by omega),Function.comp_def]
   ·simp;omega
   try simp only [Pu.pwA]
   rw [h7]
   refine V7 fun Y8 h8=>?_
   try simp only [Pu.pwA]
   rw [jx (ds:=(List.range M).map fun (i:Nat)=>PyData.tuple [.int (i:Int),sfD ws (i+1)]) (fs:=(((List.range M).filter (skB ws)).map fun i:Nat=>(i:Int)).map PyData.int)]
   rotate_left
   ·try simp only [Pu.pwA,NT]
   ·rw [List.map_map]
    refine C5 fun i hi=>?_
    have:=List.mem_range.mp hi
    rcases qqg ok lw (show i < 100 by omega) with h | ⟨x,y,h⟩
    ·obtain ⟨e1,e2⟩:=qnH h
     try simp only [Pu.pwA,QW,e1,e2,ZX,Function.comp_def]
    ·have e1:=qpY h
     unfold sk at h
     try simp only [Pu.pwA,QW,e1,h,Function.comp_def]
   ·have:=List.length_filter_le (skB ws) (List.range M)
    simp at this ⊢;omega
   try simp only [Pu.pwA]
   rw [h8]
   refine V7 fun Y9 h9=>?_
   try simp only [Pu.pwA]
   rw [h9]
   refine V7 fun Y10 h10=>?_
   rcases qcz ok lw M (by omega) with hA | ⟨t,x,y,ht,hA,hs⟩
   ·rw [NF hA]
    try simp only [Pu.pwA,List.map_nil,qlL]
    rw [h10]
    refine V7 fun Y11 h11=>?_
    try simp only [Pu.pwA,qpN ok lw (by omega) hA,MJ (n:=4) (d:=.none) (by simp [Bk.UM])]
    rw [h11]
    try simp only [Pu.pwA,enD]
    refine WI (f:=fun x:PyData=>x) [] WM.mn (fun _ _ _=>True) trivial (fun i x ρ n h=>by simp at h) fun ρ n _=>?_
    try simp only [Pu.pwA]
   ·obtain ⟨r,er⟩:=qdx ht hA hs
    have ne:¬ ((t :: r).map fun i:Nat=>(i:Int))=[]:=by simp
    have s1:L2.atI ((List.range M).map fun i=>sfD ws (i+1)) (t:Int)=some (.tuple [.str "skew",.int x,.int y]):=by rw [qd5 _ ht];exact congrArg some hs
    rw [er]
    have e0:L2.atI (((t :: r).map fun i:Nat=>(i:Int)).map PyData.int) 0=some (.int (t:Int)):=by rw [show (0:Int)=((0:Nat):Int) from rfl,atN (by simp)];rfl
    try simp only [Pu.pwA,qeo,ne,decide_false,Bool.not_false,e0,s1]
    rw [jx (ds:=(List.range t).map fun i=>sfD ws (i+1)) (fs:=(List.range t).map (bD ws))]
    rotate_left
    ·try simp only [Pu.pwA,qnT,qbP (fun i=>sfD ws (i+1)) (Nat.le_of_lt ht)]
    ·refine zu fun i hi=>?_
     have:=(qnH (hA i (List.mem_range.mp hi))).2
     try simp only [Pu.pwA,QW,this]
    ·simp;omega
    have dep:=qhY (ws:=ws) (t:=t) (a:=x) (b:=y) (by omega) hA
    rw [Int.add_comm] at dep
    have ls:=qoQ ok lw (show M<=100 by omega) ht hA hs
    rw [Int.add_comm] at ls
    try simp only [Pu.pwA]
    rw [h10]
    refine V7 fun Y11 h11=>?_
    try simp only [Pu.pwA,ls,MJ (n:=4) dep]
    rw [h11]
    try simp only [Pu.pwA,NT]
    refine WI (f:=fun (i:Nat)=>PyData.tuple [.int (i:Int),bD ws i]) (List.range t) WM.mn (fun _ ρ _=>∃ s6 s7 s8 s9 s10 s11 s12,ρ=[.un,.sh (.int k),.un,.sh (.int (B:Int)),.sh (.int (M:Int)),.sh (.list (ws.map Wk.d)),s6,s7,s8,s9,s10,s11,s12]) ⟨_,_,_,_,_,_,_,rfl⟩ ?_ ?_
    ·rintro i j ρ n' hx ⟨s6,s7,s8,s9,s10,s11,s12,rfl⟩
     have hj:=List.mem_range.mp (List.mem_of_getElem? hx)
     obtain ⟨bs,_,e2,hl,hb⟩:=hA j hj
     have sn:=qkX (B:=j+1) (by omega) (by omega) ok hl hb
     rw [Int.natCast_add] at sn
     have sn':qt [.int ((j:Int)+1),.list (ws.map Wk.d),.list (bs.map tri)]=some (.bool true):=sn
     refine ⟨_,rfl,?_⟩
     try simp only [Pu.pwA,WM,e2,sn',bne_self_eq_false]
     exact ⟨_,_,_,_,_,_,_,rfl⟩
    ·rintro ρ n' ⟨s6,s7,s8,s9,s10,s11,s12,rfl⟩
     try simp only [Pu.pwA]
  rcases sp with ⟨i,hi,e,hu,hj⟩ | ⟨bs,e,hl,hb⟩
  ·injection e with e
   subst e
   try simp only [Pu.pwA,KK]
   exact key6
  ·injection e with e
   subst e
   try simp only [Pu.pwA,qqV hB1 hB2 ok hl hb]
   exact key6
 rcases sp with ⟨i,hi,e,hu,hj⟩ | ⟨bs,e,hl,hb⟩
 ·injection e with e
  subst e
  try simp only [Pu.pwA]
  refine qqS hB1 hB2 ok lw hi hu hj (by omega) ?_
  try simp only [Pu.pwA]
  exact key5 _ (by omega)
 ·injection e with e
  subst e
  try simp only [Pu.pwA,ZX]
  exact key5 _ (by omega)
end K92
namespace K92
open PySem L2 L3 Bk
abbrev qmb : Env := { scope := PySem.Challenge.pw_bankwalk_k92_whole_skews_or_bars.main.scope,locals := mainNs,globals := mainNs,cells := [],code := .ref 13,frame := some 14 }
abbrev qb9 : List Stmt := PySem.W.behindTheImports PySem.Challenge.pw_bankwalk_k92_whole_skews_or_bars
abbrev TK:Code:=.body qb9 qmb
abbrev qjA:List Frame:=[PySem.W.topFrame ⟨0,0,0,0⟩]
def zb:Obj:=Hd.oT []
def jA:Obj:=⟨.none,none,.fields #[],#[]⟩
def qnJ:Obj:=Hd.oC [.str "<module>" 182,.str "<module>" 183,.str "/claim/cut.py" 184,.int (1) 0,.int (0) 0,.int (0) 0,.int (0) 0,.int (0) 0,.ref 11,.bool false,.int (181) 0,.ref 12,.none,.none,.none,.none,.int (185) 0,.int (1) 0,.str "/claim/cut.py" 186]
def qnK:Obj:=⟨.type "frame",none,.plain,#[some (.ref 13),some (.ref 3),some (.ref 3),none,some (.str "__main__" 164),none,some (.ref 0)]⟩
def qjG (P:Params):Heap:=⟨Array.mk [PySem.W.boot_o_0 P,PySem.W.boot_o_1 P,PySem.W.boot_o_2 P,PySem.W.boot_o_3 P,PySem.W.boot_o_4 P,PySem.W.boot_o_5 P,PySem.W.boot_o_6 P,PySem.W.boot_o_7 P,PySem.W.boot_o_8 P,PySem.W.boot_o_9 P,PySem.W.boot_o_10 P,zb,jA,qnJ,qnK],{ }⟩
def qlF (P:Params):PySem.W.BT:=(Hd.nd (PySem.W.boot_o_0 P) (Hd.nd (PySem.W.boot_o_1 P) (Hd.nd (PySem.W.boot_o_3 P) (Hd.lf (PySem.W.boot_o_7 P)) (Hd.lf zb)) (Hd.nd (PySem.W.boot_o_5 P) (Hd.lf (PySem.W.boot_o_9 P)) (Hd.lf qnJ))) (Hd.nd (PySem.W.boot_o_2 P) (Hd.nd (PySem.W.boot_o_4 P) (Hd.lf (PySem.W.boot_o_8 P)) (Hd.lf jA)) (Hd.nd (PySem.W.boot_o_6 P) (Hd.lf (PySem.W.boot_o_10 P)) (Hd.lf qnK))))
set_option maxRecDepth 100000 in
set_option maxHeartbeats 0 in
theorem qlR (w : World) (os : OsState) : PySem.W.topGo treeTable PySem.Challenge.pw_bankwalk_k92_whole_skews_or_bars w 11 (some (Value.ref 6)) 12 ⟨PySem.W.boot_heap w.params,Array.mk [],PySem.W.boot_drawn,PySem.W.boot_toks,os⟩ (PySem.W.topStub PySem.Challenge.pw_bankwalk_k92_whole_skews_or_bars) = some (⟨qjG w.params,#[],{ },187,os⟩,⟨denote treeTable TK,TK,⟨0,0,0,0⟩,qjA⟩) := by kernel_rfl
set_option maxRecDepth 100000 in
set_option maxHeartbeats 0 in
theorem qkS (w : World) (os : OsState) : PySem.W.segRun treeTable PySem.Challenge.pw_bankwalk_k92_whole_skews_or_bars w 11 (some (Value.ref 6)) 1 1 ⟨qjG w.params,#[],{ },187,os⟩ (PySem.W.blockOf qb9 qmb TK ⟨0,0,0,0⟩ qjA) = some (.next,(⟨qlF w.params,15,{ },#[],{ },187,os⟩ : PySem.W.SharedT).abs,TK,⟨0,0,0,0⟩) := by kernel_rfl
def qrh (P:Params):Obj:=Hd.oD P 25 [(.str "__name__" 165,.str "bankwalk.walks" 353),(.str "__doc__" 166,.none),(.str "__package__" 167,.none),(.str "__loader__" 168,.builtin "__main__.__loader__#opaque"),(.str "__spec__" 169,.none),(.str "__annotations__" 170,.ref 6),(.str "__builtins__" 171,.ref 4),(.str "__file__" 173,.str "/claim/cut.py" 172),(.str "__cached__" 174,.none),(.str "is_number" 195,.ref 21),(.str "is_pair" 202,.ref 28),(.str "is_number_below" 210,.ref 35),(.str "first_alike" 219,.ref 42),(.str "are_alike" 228,.ref 49),(.str "BankError" 248,.ref 59),(.str "NoStart" 264,.ref 72),(.str "size_of" 280,.ref 81),(.str "number_of" 291,.ref 88),(.str "is_word" 302,.ref 95),(.str "odd_in_common" 312,.ref 102),(.str "bits_bank" 318,.ref 107),(.str "parted" 329,.ref 114),(.str "joined_bank" 343,.ref 121),(.str "bank_in" 352,.ref 128),(.str "STRIDES" 372,.ref 129)]
def qrj:Obj:=⟨.none,none,.fields #[.int (2) 0,.int (0) 0,.ref 20,.int (4) 0,.int (0) 0,.ref 27,.int (6) 0,.int (0) 0,.ref 34,.int (8) 0,.int (0) 0,.ref 41,.int (14) 0,.int (0) 0,.ref 48,.int (19) 0,.int (0) 0,.ref 55,.int (21) 0,.int (0) 0,.ref 68,.int (24) 0,.int (0) 0,.ref 80,.int (35) 0,.int (0) 0,.ref 87,.int (38) 0,.int (0) 0,.ref 94,.int (43) 0,.int (0) 0,.ref 101,.int (50) 0,.int (0) 0,.ref 106,.int (52) 0,.int (0) 0,.ref 113,.int (55) 0,.int (0) 0,.ref 120,.int (59) 0,.int (0) 0,.ref 127],#[]⟩
def qqq:Obj:=Hd.oN JG 192
def qpV:Obj:=Hd.oG "is_number" QE
def qo5:Obj:=Hd.oK "is_number" 189 2 1 181 15 16 .none (.ref 17) (.ref 18) 19 193 194
def qh6:Obj:=Hd.oF "is_number" QE (.str "bankwalk.basics" 187) (.ref 20)
def qmk:Obj:=Hd.oN JG 199
def qkl:Obj:=Hd.oG "is_pair" JQ
def qh9:Obj:=Hd.oK "is_pair" 196 4 1 181 22 23 .none (.ref 24) (.ref 25) 26 200 201
def qid:Obj:=Hd.oF "is_pair" JQ (.str "bankwalk.basics" 187) (.ref 27)
def ql7:Obj:=Hd.oN zE 206
def qkK:Obj:=Hd.oG "is_number_below" zo
def qhy:Obj:=Hd.oK "is_number_below" 203 6 2 181 29 30 .none (.ref 31) (.ref 32) 33 208 209
def qh1:Obj:=Hd.oF "is_number_below" zo (.str "bankwalk.basics" 187) (.ref 34)
def qmo:Obj:=Hd.oN jR 214
def qne:Obj:=Hd.oG "first_alike" jj
def qhJ:Obj:=Hd.oK "first_alike" 211 8 1 181 36 37 .none (.ref 38) (.ref 39) 40 217 218
def qh2:Obj:=Hd.oF "first_alike" jj (.str "bankwalk.basics" 187) (.ref 41)
def qnm:Obj:=Hd.oN jR 223
def qiI:Obj:=Hd.oG "are_alike" j2
def qih:Obj:=Hd.oK "are_alike" 220 14 3 181 43 44 .none (.ref 45) (.ref 46) 47 226 227
def qil:Obj:=Hd.oF "are_alike" j2 (.str "bankwalk.basics" 187) (.ref 48)
def qkU:Obj:=Hd.oT [.type "ValueError"]
def qdf:Obj:=⟨.type "builtin_function_or_method",none,.fields #[.builtin "type.__prepare__",.type "type"],#[]⟩
def qlv (P:Params):Obj:=Hd.oD P 4 [(.str "__module__" 238,.str "bankwalk.errors" 229),(.str "__qualname__" 240,.str "BankError" 239),(.str "__firstlineno__" 242,.int (19) 241),(.str "__static_attributes__" 243,.ref 57)]
def qjV:Obj:=Hd.oC [.str "BankError" 233,.str "BankError" 234,.str "/claim/cut.py" 235,.int (19) 0,.int (0) 0,.int (0) 0,.int (0) 0,.int (0) 0,.ref 53,.bool false,.int (181) 0,.ref 54,.none,.none,.none,.none,.int (236) 0,.int (19) 0,.str "/claim/cut.py" 237]
def qj8:Obj:=⟨.type "frame",none,.plain,#[some (.ref 55),some (.ref 3),some (.ref 52),none,some (.str "bankwalk.errors" 229),none,some (.ref 0)]⟩
def qkI (P:Params):Obj:=Hd.oD P 3 [(.str "__module__" 238,.str "bankwalk.errors" 229),(.str "__firstlineno__" 242,.int (19) 241),(.str "__static_attributes__" 243,.ref 57),(.str "__weakref__" 245,.ref 60),(.str "__doc__" 246,.none)]
def qkm:Obj:=⟨.type "type",none,.cls ({ name:=Str.ofString "BankError",bases:=[Value.type "ValueError"],  mro:=    [Value.ref 59,Value.type "ValueError",Value.type "Exception",Value.type "BaseException",Value.type "object"],  ns:=58,qualname:=Str.ofString "BankError",subclasses:=[Value.ref 72] }),#[some (.ref 50),none,some (.str "BankError" 231),some (.str "BankError" 239),some (.builtin "ValueError.__new__"),some (.bool true)]⟩
def qki:Obj:=⟨.type "getset_descriptor",none,.fields #[.str "__weakref__" 244,.ref 59,.builtin "ExceptionGroup.__weakref__",.none],#[]⟩
def qk9:Obj:=⟨.type "super",none,.fields #[.ref 59,.ref 59,.ref 59],#[]⟩
def qm0:Obj:=⟨.type "builtin_function_or_method",none,.fields #[.builtin "object.__init_subclass__",.ref 59],#[]⟩
def qmG:Obj:=Hd.oT [.ref 59]
def qk2 (P:Params):Obj:=Hd.oD P 4 [(.str "__module__" 256,.str "bankwalk.errors" 229),(.str "__qualname__" 258,.str "NoStart" 257),(.str "__firstlineno__" 260,.int (21) 259),(.str "__static_attributes__" 261,.ref 70)]
def qka:Obj:=Hd.oC [.str "NoStart" 251,.str "NoStart" 252,.str "/claim/cut.py" 253,.int (21) 0,.int (0) 0,.int (0) 0,.int (0) 0,.int (0) 0,.ref 66,.bool false,.int (181) 0,.ref 67,.none,.none,.none,.none,.int (254) 0,.int (21) 0,.str "/claim/cut.py" 255]
def ql2:Obj:=⟨.type "frame",none,.plain,#[some (.ref 68),some (.ref 3),some (.ref 65),none,some (.str "bankwalk.errors" 229),none,some (.ref 0)]⟩
def qlr (P:Params):Obj:=Hd.oD P 2 [(.str "__module__" 256,.str "bankwalk.errors" 229),(.str "__firstlineno__" 260,.int (21) 259),(.str "__static_attributes__" 261,.ref 70),(.str "__doc__" 262,.none)]
def qiF:Obj:=⟨.type "type",none,.cls ({ name:=Str.ofString "NoStart",bases:=[Value.ref 59],  mro:=    [Value.ref 72,Value.ref 59,Value.type "ValueError",Value.type "Exception",Value.type "BaseException",      Value.type "object"],  ns:=71,qualname:=Str.ofString "NoStart" }),#[some (.ref 63),none,some (.str "NoStart" 249),some (.str "NoStart" 257),some (.builtin "ValueError.__new__"),some (.bool true)]⟩
def qlH:Obj:=⟨.type "super",none,.fields #[.ref 72,.ref 72,.ref 72],#[]⟩
def qmE:Obj:=⟨.type "builtin_function_or_method",none,.fields #[.builtin "object.__init_subclass__",.ref 72],#[]⟩
def qmw:Obj:=Hd.oN XZ 270
def qmh:Obj:=Hd.oG "size_of" JK
def qhx:Obj:=Hd.oK "size_of" 267 24 1 181 75 76 .none (.ref 77) (.ref 78) 79 278 279
def qgE:Obj:=Hd.oF "size_of" JK (.str "bankwalk.dealings" 265) (.ref 80)
def qmy:Obj:=Hd.oN ZI 284
def qmj:Obj:=Hd.oG "number_of" j7
def qgv:Obj:=Hd.oK "number_of" 281 35 2 181 82 83 .none (.ref 84) (.ref 85) 86 289 290
def qgG:Obj:=Hd.oF "number_of" j7 (.str "bankwalk.dealings" 265) (.ref 87)
def qiN:Obj:=Hd.oN VI 295
def qjY:Obj:=Hd.oG "is_word" JR
def qhm:Obj:=Hd.oK "is_word" 292 38 2 181 89 90 .none (.ref 91) (.ref 92) 93 300 301
def qht:Obj:=Hd.oF "is_word" JR (.str "bankwalk.dealings" 265) (.ref 94)
def qjx:Obj:=Hd.oN CB 306
def qjS:Obj:=Hd.oG "odd_in_common" QM
def qhd:Obj:=Hd.oK "odd_in_common" 303 43 2 181 96 97 .none (.ref 98) (.ref 99) 100 310 311
def qgX:Obj:=Hd.oF "odd_in_common" QM (.str "bankwalk.dealings" 265) (.ref 101)
def qjf:Obj:=Hd.oG "bits_bank" YR
def qhn:Obj:=Hd.oK "bits_bank" 313 50 2 181 103 104 .none .none .none 105 316 317
def qh7:Obj:=Hd.oF "bits_bank" YR (.str "bankwalk.dealings" 265) (.ref 106)
def qks:Obj:=Hd.oN qdB 322
def qmL:Obj:=Hd.oG "parted" XQ
def qhw:Obj:=Hd.oK "parted" 319 52 3 181 108 109 .none (.ref 110) (.ref 111) 112 327 328
def qh5:Obj:=Hd.oF "parted" XQ (.str "bankwalk.dealings" 265) (.ref 113)
def qkP:Obj:=Hd.oN R6 333
def qlq:Obj:=Hd.oG "joined_bank" Z9
def qgz:Obj:=Hd.oK "joined_bank" 330 55 3 181 115 116 .none (.ref 117) (.ref 118) 119 341 342
def qhK:Obj:=Hd.oF "joined_bank" Z9 (.str "bankwalk.dealings" 265) (.ref 120)
def qnt:Obj:=Hd.oN YX 347
def qkf:Obj:=Hd.oG "bank_in" JP
def qhk:Obj:=Hd.oK "bank_in" 344 59 2 181 122 123 .none (.ref 124) (.ref 125) 126 350 351
def qgK:Obj:=Hd.oF "bank_in" JP (.str "bankwalk.dealings" 265) (.ref 127)
def qhM (P:Params):Obj:=Hd.oD P 4 [(.str "row" 355,.ref 130),(.str "column" 358,.ref 131),(.str "slant" 361,.ref 132),(.str "back" 364,.ref 133)]
def qhO:Obj:=Hd.oT [.int (0) 356,.int (1) 357]
def qgN:Obj:=Hd.oT [.int (1) 359,.int (0) 360]
def qio:Obj:=Hd.oT [.int (1) 362,.int (1) 363]
def qgT:Obj:=Hd.oT [.int (1) 365,.int (-1) 367]
def qjZ (P:Params):PySem.W.BT:=(Hd.nd (PySem.W.boot_o_0 P) (Hd.nd (PySem.W.boot_o_1 P) (Hd.nd (qrh P) (Hd.nd (PySem.W.boot_o_7 P) (Hd.nd zb (Hd.nd ql7 (Hd.nd qmG (Hd.lf qhk) .nil) (Hd.lf qht)) (Hd.nd qiI (Hd.lf qmh) (Hd.lf zb))) (Hd.nd jA (Hd.nd zb (Hd.lf (qlr P)) (Hd.lf zb)) (Hd.nd qjV (Hd.lf qgv) (Hd.lf qlq)))) (Hd.nd zb (Hd.nd qpV (Hd.nd qh1 (Hd.nd jA (Hd.lf qgN) .nil) (Hd.lf zb)) (Hd.nd qdf (Hd.lf jA) (Hd.lf zb))) (Hd.nd qh9 (Hd.nd zb (Hd.lf zb) (Hd.lf qh7)) (Hd.nd qkm (Hd.lf qiN) (Hd.lf jA))))) (Hd.nd (PySem.W.boot_o_5 P) (Hd.nd (PySem.W.boot_o_9 P) (Hd.nd qqq (Hd.nd qkK (Hd.nd (qk2 P) (Hd.lf (qhM P)) .nil) (Hd.lf jA)) (Hd.nd qil (Hd.lf qgE) (Hd.lf qhw))) (Hd.nd zb (Hd.nd qhJ (Hd.lf qlH) (Hd.lf qjf)) (Hd.nd zb (Hd.lf zb) (Hd.lf qhK)))) (Hd.nd qnJ (Hd.nd qh6 (Hd.nd jA (Hd.nd ql2 (Hd.lf qgT) .nil) (Hd.lf qhd)) (Hd.nd zb (Hd.lf zb) (Hd.lf qkP))) (Hd.nd zb (Hd.nd qnm (Hd.lf qmw) (Hd.lf jA)) (Hd.nd qk9 (Hd.lf qjY) (Hd.lf zb)))))) (Hd.nd (PySem.W.boot_o_2 P) (Hd.nd (PySem.W.boot_o_4 P) (Hd.nd (PySem.W.boot_o_8 P) (Hd.nd jA (Hd.nd zb (Hd.nd qdf (Hd.lf qgK) .nil) (Hd.lf zb)) (Hd.nd qih (Hd.lf qhx) (Hd.lf qmL))) (Hd.nd qmk (Hd.nd qne (Hd.lf qiF) (Hd.lf jA)) (Hd.nd qj8 (Hd.lf qgG) (Hd.lf qgz)))) (Hd.nd qrj (Hd.nd qo5 (Hd.nd zb (Hd.nd qka (Hd.lf qio) .nil) (Hd.lf qjS)) (Hd.nd (qlv P) (Hd.lf qmy) (Hd.lf jA))) (Hd.nd qid (Hd.nd jA (Hd.lf jA) (Hd.lf zb)) (Hd.nd qki (Hd.lf zb) (Hd.lf qnt))))) (Hd.nd (PySem.W.boot_o_6 P) (Hd.nd (PySem.W.boot_o_10 P) (Hd.nd zb (Hd.nd qhy (Hd.nd zb (Hd.lf qhO) .nil) (Hd.lf qjx)) (Hd.nd qkU (Hd.lf zb) (Hd.lf qh5))) (Hd.nd qkl (Hd.nd qh2 (Hd.lf qmE) (Hd.lf qhn)) (Hd.nd (qkI P) (Hd.lf jA) (Hd.lf zb)))) (Hd.nd qnK (Hd.nd zb (Hd.nd qmo (Hd.lf zb) (Hd.lf qgX)) (Hd.nd jA (Hd.lf qmj) (Hd.lf zb))) (Hd.nd jA (Hd.nd zb (Hd.lf zb) (Hd.lf qks)) (Hd.nd qm0 (Hd.lf qhm) (Hd.lf qkf)))))))
abbrev qgf:List Stmt:=(qb9.drop 0).take 20
def qfx (os : OsState) (w : World) : Prop := PySem.W.segRunT treeTable PySem.Challenge.pw_bankwalk_k92_whole_skews_or_bars w 11 (some (Value.ref 6)) 1 933 (⟨qlF w.params,15,{ },#[],{ },187,os⟩ : PySem.W.SharedT) (PySem.W.piecesOf qgf qmb TK ⟨0,0,0,0⟩ qjA) = some (.next,(⟨qjZ w.params,134,{ },#[],{ },373,os⟩ : PySem.W.SharedT),TK,⟨71,0,71,7⟩)
set_option maxRecDepth 100000 in
set_option maxHeartbeats 0 in
theorem qmU (w:World) (os:OsState):qfx os w:=
 PySem.W.byRow2 "special-get-raises" (P:=qfx os) (fun w=>show _=_ by kernel_rfl) (fun w=>show _=_ by kernel_rfl) w
def qkd (P:Params):Obj:=Hd.oD P 53 [(.str "__name__" 165,.str "law_bankwalk_k92_whole_skews_or_bars" 499),(.str "__doc__" 166,.none),(.str "__package__" 167,.none),(.str "__loader__" 168,.builtin "__main__.__loader__#opaque"),(.str "__spec__" 169,.none),(.str "__annotations__" 170,.ref 6),(.str "__builtins__" 171,.ref 4),(.str "__file__" 173,.str "/claim/cut.py" 172),(.str "__cached__" 174,.none),(.str "is_number" 195,.ref 21),(.str "is_pair" 202,.ref 28),(.str "is_number_below" 210,.ref 35),(.str "first_alike" 219,.ref 42),(.str "are_alike" 228,.ref 49),(.str "BankError" 248,.ref 59),(.str "NoStart" 264,.ref 72),(.str "size_of" 280,.ref 81),(.str "number_of" 291,.ref 88),(.str "is_word" 302,.ref 95),(.str "odd_in_common" 312,.ref 102),(.str "bits_bank" 318,.ref 107),(.str "parted" 329,.ref 114),(.str "joined_bank" 343,.ref 121),(.str "bank_in" 352,.ref 128),(.str "STRIDES" 372,.ref 129),(.str "strung" 378,.ref 138),(.str "cells_of" 384,.ref 143),(.str "starts" 390,.ref 148),(.str "shifted" 396,.ref 153),(.str "is_start" 402,.ref 158),(.str "words_of" 411,.ref 165),(.str "rests_by" 419,.ref 170),(.str "all_factors" 427,.ref 175),(.str "first_bar" 439,.ref 182),(.str "skew_for" 450,.ref 189),(.str "is_bar" 463,.ref 196),(.str "shows_no_skew" 469,.ref 201),(.str "least_skew" 480,.ref 208),(.str "banks_from" 488,.ref 213),(.str "clash" 498,.ref 220),(.str "_law_mix" 509,.ref 227),(.str "_law_left" 519,.ref 234),(.str "_law_pick" 528,.ref 241),(.str "_law_many" 535,.ref 248),(.str "_law_walk" 552,.ref 255),(.str "_law_cells" 558,.ref 260),(.str "_law_same" 564,.ref 265),(.str "_law_rests_at" 570,.ref 270),(.str "_law_unlike" 576,.ref 275),(.str "_law_box" 582,.ref 280),(.str "_law_found_right" 588,.ref 285),(.str "_law_bars_right" 604,.ref 292),(.str "law" 610,.ref 297)]
def qog:Obj:=⟨.none,none,.fields #[.int (2) 0,.int (0) 0,.ref 20,.int (4) 0,.int (0) 0,.ref 27,.int (6) 0,.int (0) 0,.ref 34,.int (8) 0,.int (0) 0,.ref 41,.int (14) 0,.int (0) 0,.ref 48,.int (19) 0,.int (0) 0,.ref 55,.int (21) 0,.int (0) 0,.ref 68,.int (24) 0,.int (0) 0,.ref 80,.int (35) 0,.int (0) 0,.ref 87,.int (38) 0,.int (0) 0,.ref 94,.int (43) 0,.int (0) 0,.ref 101,.int (50) 0,.int (0) 0,.ref 106,.int (52) 0,.int (0) 0,.ref 113,.int (55) 0,.int (0) 0,.ref 120,.int (59) 0,.int (0) 0,.ref 127,.int (72) 0,.int (0) 0,.ref 137,.int (74) 0,.int (0) 0,.ref 142,.int (84) 0,.int (0) 0,.ref 147,.int (90) 0,.int (0) 0,.ref 152,.int (92) 0,.int (0) 0,.ref 157,.int (94) 0,.int (0) 0,.ref 164,.int (99) 0,.int (0) 0,.ref 169,.int (103) 0,.int (0) 0,.ref 174,.int (105) 0,.int (0) 0,.ref 181,.int (111) 0,.int (0) 0,.ref 188,.int (119) 0,.int (0) 0,.ref 195,.int (124) 0,.int (0) 0,.ref 200,.int (128) 0,.int (0) 0,.ref 207,.int (137) 0,.int (0) 0,.ref 212,.int (139) 0,.int (0) 0,.ref 219,.int (146) 0,.int (0) 0,.ref 226,.int (149) 0,.int (0) 0,.ref 233,.int (153) 0,.int (0) 0,.ref 240,.int (160) 0,.int (0) 0,.ref 247,.int (162) 0,.int (0) 0,.ref 254,.int (181) 0,.int (0) 0,.ref 259,.int (191) 0,.int (0) 0,.ref 264,.int (199) 0,.int (0) 0,.ref 269,.int (201) 0,.int (0) 0,.ref 274,.int (204) 0,.int (0) 0,.ref 279,.int (207) 0,.int (0) 0,.ref 284,.int (217) 0,.int (0) 0,.ref 291,.int (228) 0,.int (0) 0,.ref 296],#[]⟩
def qpb:Obj:=Hd.oG "strung" YW
def qkV:Obj:=Hd.oK "strung" 373 72 3 181 134 135 .none .none .none 136 376 377
def qml:Obj:=Hd.oF "strung" YW (.str "bankwalk.walks" 353) (.ref 137)
def qpc:Obj:=Hd.oG "cells_of" ZB
def qmT:Obj:=Hd.oK "cells_of" 379 74 1 181 139 140 .none .none .none 141 382 383
def qjX:Obj:=Hd.oF "cells_of" ZB (.str "bankwalk.walks" 353) (.ref 142)
def qoK:Obj:=Hd.oG "starts" VC
def qmg:Obj:=Hd.oK "starts" 385 84 2 181 144 145 .none .none .none 146 388 389
def qlJ:Obj:=Hd.oF "starts" VC (.str "bankwalk.walks" 353) (.ref 147)
def qnW:Obj:=Hd.oG "shifted" JH
def qjq:Obj:=Hd.oK "shifted" 391 90 2 181 149 150 .none .none .none 151 394 395
def qi5:Obj:=Hd.oF "shifted" JH (.str "bankwalk.walks" 353) (.ref 152)
def qo8:Obj:=Hd.oG "is_start" ZK
def qlD:Obj:=Hd.oK "is_start" 397 92 3 181 154 155 .none .none .none 156 400 401
def qiC:Obj:=Hd.oF "is_start" ZK (.str "bankwalk.walks" 353) (.ref 157)
def qn6:Obj:=Hd.oN j3 406
def qo0:Obj:=Hd.oG "words_of" ZR
def qeV:Obj:=Hd.oK "words_of" 403 94 3 181 159 160 .none (.ref 161) (.ref 162) 163 409 410
def qfH:Obj:=Hd.oF "words_of" ZR (.str "bankwalk.walks" 353) (.ref 164)
def qln:Obj:=Hd.oG "rests_by" ZO
def qfj:Obj:=Hd.oK "rests_by" 414 99 3 181 166 167 .none .none .none 168 417 418
def qe5:Obj:=Hd.oF "rests_by" ZO (.str "bankwalk.rests" 412) (.ref 169)
def qnf:Obj:=Hd.oG "all_factors" jm
def qe7:Obj:=Hd.oK "all_factors" 422 103 1 181 171 172 .none .none .none 173 425 426
def qfw:Obj:=Hd.oF "all_factors" jm (.str "bankwalk.skews" 420) (.ref 174)
def qno:Obj:=Hd.oN Q9 431
def qiM:Obj:=Hd.oG "first_bar" j6
def qgc:Obj:=Hd.oK "first_bar" 428 105 3 181 176 177 .none (.ref 178) (.ref 179) 180 437 438
def qeA:Obj:=Hd.oF "first_bar" j6 (.str "bankwalk.skews" 420) (.ref 181)
def qjt:Obj:=Hd.oN JL 443
def qmA:Obj:=Hd.oG "skew_for" ZD
def qfz:Obj:=Hd.oK "skew_for" 440 111 2 181 183 184 .none (.ref 185) (.ref 186) 187 448 449
def qeR:Obj:=Hd.oF "skew_for" ZD (.str "bankwalk.skews" 420) (.ref 188)
def qjN:Obj:=Hd.oN U9 454
def qi9:Obj:=Hd.oG "is_bar" VG
def qfF:Obj:=Hd.oK "is_bar" 451 119 4 181 190 191 .none (.ref 192) (.ref 193) 194 461 462
def qeT:Obj:=Hd.oF "is_bar" VG (.str "bankwalk.skews" 420) (.ref 195)
def qmK:Obj:=Hd.oG "shows_no_skew" zJ
def qf0:Obj:=Hd.oK "shows_no_skew" 464 124 3 181 197 198 .none .none .none 199 467 468
def qf1:Obj:=Hd.oF "shows_no_skew" zJ (.str "bankwalk.skews" 420) (.ref 200)
def qnb:Obj:=Hd.oN j4 473
def qlh:Obj:=Hd.oG "least_skew" jD
def qfT:Obj:=Hd.oK "least_skew" 470 128 2 181 202 203 .none (.ref 204) (.ref 205) 206 478 479
def qee:Obj:=Hd.oF "least_skew" jD (.str "bankwalk.skews" 420) (.ref 207)
def qlw:Obj:=Hd.oG "banks_from" jI
def qfI:Obj:=Hd.oK "banks_from" 483 137 3 181 209 210 .none .none .none 211 486 487
def qfJ:Obj:=Hd.oF "banks_from" jI (.str "bankwalk.clashes" 481) (.ref 212)
def qmx:Obj:=Hd.oN XF 492
def qkN:Obj:=Hd.oG "clash" EJ
def qfh:Obj:=Hd.oK "clash" 489 139 2 181 214 215 .none (.ref 216) (.ref 217) 218 496 497
def qgk:Obj:=Hd.oF "clash" EJ (.str "bankwalk.clashes" 481) (.ref 219)
def qmR:Obj:=Hd.oN XM 504
def qky:Obj:=Hd.oG "_law_mix" JS
def qeE:Obj:=Hd.oK "_law_mix" 501 146 2 181 221 222 .none (.ref 223) (.ref 224) 225 507 508
def qeO:Obj:=Hd.oF "_law_mix" JS (.str "law_bankwalk_k92_whole_skews_or_bars" 499) (.ref 226)
def qm8:Obj:=Hd.oN DK 513
def qnj:Obj:=Hd.oG "_law_left" ZJ
def qek:Obj:=Hd.oK "_law_left" 510 149 2 181 228 229 .none (.ref 230) (.ref 231) 232 517 518
def qeq:Obj:=Hd.oF "_law_left" ZJ (.str "law_bankwalk_k92_whole_skews_or_bars" 499) (.ref 233)
def qj7:Obj:=Hd.oN E7 523
def qja:Obj:=Hd.oG "_law_pick" ZS
def qeF:Obj:=Hd.oK "_law_pick" 520 153 2 181 235 236 .none (.ref 237) (.ref 238) 239 526 527
def qfm:Obj:=Hd.oF "_law_pick" ZS (.str "law_bankwalk_k92_whole_skews_or_bars" 499) (.ref 240)
def qkD:Obj:=Hd.oN DH 532
def qmd:Obj:=Hd.oG "_law_many" ZQ
def qfV:Obj:=Hd.oK "_law_many" 529 160 1 181 242 243 .none (.ref 244) (.ref 245) 246 533 534
def qfd:Obj:=Hd.oF "_law_many" ZQ (.str "law_bankwalk_k92_whole_skews_or_bars" 499) (.ref 247)
def qiG:Obj:=Hd.oN EZ 539
def qjh:Obj:=Hd.oG "_law_walk" ZM
def qe8:Obj:=Hd.oK "_law_walk" 536 162 1 181 249 250 .none (.ref 251) (.ref 252) 253 550 551
def qgs:Obj:=Hd.oF "_law_walk" ZM (.str "law_bankwalk_k92_whole_skews_or_bars" 499) (.ref 254)
def ql9:Obj:=Hd.oG "_law_cells" j1
def qd9:Obj:=Hd.oK "_law_cells" 553 181 1 181 256 257 .none .none .none 258 556 557
def qgi:Obj:=Hd.oF "_law_cells" j1 (.str "law_bankwalk_k92_whole_skews_or_bars" 499) (.ref 259)
def qkh:Obj:=Hd.oG "_law_same" Q8
def qfu:Obj:=Hd.oK "_law_same" 559 191 2 181 261 262 .none .none .none 263 562 563
def qf5:Obj:=Hd.oF "_law_same" Q8 (.str "law_bankwalk_k92_whole_skews_or_bars" 499) (.ref 264)
def qkT:Obj:=Hd.oG "_law_rests_at" zZ
def qeu:Obj:=Hd.oK "_law_rests_at" 565 199 4 181 266 267 .none .none .none 268 568 569
def qe0:Obj:=Hd.oF "_law_rests_at" zZ (.str "law_bankwalk_k92_whole_skews_or_bars" 499) (.ref 269)
def qke:Obj:=Hd.oG "_law_unlike" jF
def qe4:Obj:=Hd.oK "_law_unlike" 571 201 4 181 271 272 .none .none .none 273 574 575
def qeN:Obj:=Hd.oF "_law_unlike" jF (.str "law_bankwalk_k92_whole_skews_or_bars" 499) (.ref 274)
def qk3:Obj:=Hd.oG "_law_box" JU
def qev:Obj:=Hd.oK "_law_box" 577 204 1 181 276 277 .none .none .none 278 580 581
def qfy:Obj:=Hd.oF "_law_box" JU (.str "law_bankwalk_k92_whole_skews_or_bars" 499) (.ref 279)
def qmq:Obj:=Hd.oG "_law_found_right" zp
def qfl:Obj:=Hd.oK "_law_found_right" 583 207 5 181 281 282 .none .none .none 283 586 587
def qge:Obj:=Hd.oF "_law_found_right" zp (.str "law_bankwalk_k92_whole_skews_or_bars" 499) (.ref 284)
def ql0:Obj:=Hd.oN zL 592
def qkc:Obj:=Hd.oG "_law_bars_right" zz
def qeW:Obj:=Hd.oK "_law_bars_right" 589 217 3 181 286 287 .none (.ref 288) (.ref 289) 290 602 603
def qfG:Obj:=Hd.oF "_law_bars_right" zz (.str "law_bankwalk_k92_whole_skews_or_bars" 499) (.ref 291)
def qiV:Obj:=Hd.oG "law" YT
def qej:Obj:=Hd.oK "law" 605 228 1 181 293 294 .none .none .none 295 608 609
def qec:Obj:=Hd.oF "law" YT (.str "law_bankwalk_k92_whole_skews_or_bars" 499) (.ref 296)
def qhF (P:Params):PySem.W.BT:=(Hd.nd (PySem.W.boot_o_0 P) (Hd.nd (PySem.W.boot_o_1 P) (Hd.nd (qkd P) (Hd.nd (PySem.W.boot_o_7 P) (Hd.nd zb (Hd.nd ql7 (Hd.nd qmG (Hd.nd qhk (Hd.lf qgs) .nil) (Hd.lf jA)) (Hd.nd qht (Hd.nd zb (Hd.lf jA) .nil) (Hd.lf qmR))) (Hd.nd qiI (Hd.nd qmh (Hd.nd qjX (Hd.lf zb) .nil) (Hd.lf qfT)) (Hd.nd zb (Hd.lf qfw) (Hd.lf qja)))) (Hd.nd jA (Hd.nd zb (Hd.nd (qlr P) (Hd.nd jA (Hd.lf qkh) .nil) (Hd.lf qmK)) (Hd.nd zb (Hd.nd jA (Hd.lf qiV) .nil) (Hd.lf zb))) (Hd.nd qjV (Hd.nd qgv (Hd.nd qnW (Hd.lf qev) .nil) (Hd.lf jA)) (Hd.nd qlq (Hd.lf zb) (Hd.lf qfV))))) (Hd.nd zb (Hd.nd qpV (Hd.nd qh1 (Hd.nd jA (Hd.nd qgN (Hd.lf qd9) .nil) (Hd.lf qfF)) (Hd.nd zb (Hd.nd qo0 (Hd.lf qeW) .nil) (Hd.lf qeO))) (Hd.nd qdf (Hd.nd jA (Hd.nd qmg (Hd.lf qeN) .nil) (Hd.lf qlw)) (Hd.nd zb (Hd.lf zb) (Hd.lf jA)))) (Hd.nd qh9 (Hd.nd zb (Hd.nd zb (Hd.nd zb (Hd.lf jA) .nil) (Hd.lf jA)) (Hd.nd qh7 (Hd.lf zb) (Hd.lf zb))) (Hd.nd qkm (Hd.nd qiN (Hd.nd jA (Hd.lf qmq) .nil) (Hd.lf qfh)) (Hd.nd jA (Hd.lf qmA) (Hd.lf qiG)))))) (Hd.nd (PySem.W.boot_o_5 P) (Hd.nd (PySem.W.boot_o_9 P) (Hd.nd qqq (Hd.nd qkK (Hd.nd (qk2 P) (Hd.nd (qhM P) (Hd.lf jA) .nil) (Hd.lf zb)) (Hd.nd jA (Hd.nd qn6 (Hd.lf zb) .nil) (Hd.lf qky))) (Hd.nd qil (Hd.nd qgE (Hd.nd jA (Hd.lf qke) .nil) (Hd.lf zb)) (Hd.nd qhw (Hd.lf jA) (Hd.lf qfm)))) (Hd.nd zb (Hd.nd qhJ (Hd.nd qlH (Hd.nd qkV (Hd.lf qf5) .nil) (Hd.lf qf1)) (Hd.nd qjf (Hd.nd qfj (Hd.lf qec) .nil) (Hd.lf qek))) (Hd.nd zb (Hd.nd zb (Hd.nd qi5 (Hd.lf zb) .nil) (Hd.lf zb)) (Hd.nd qhK (Hd.lf qjt) (Hd.lf zb))))) (Hd.nd qnJ (Hd.nd qh6 (Hd.nd jA (Hd.nd ql2 (Hd.nd qgT (Hd.lf zb) .nil) (Hd.lf zb)) (Hd.nd qhd (Hd.nd qfH (Hd.lf zb) .nil) (Hd.lf jA))) (Hd.nd zb (Hd.nd zb (Hd.nd zb (Hd.lf jA) .nil) (Hd.lf qfJ)) (Hd.nd qkP (Hd.lf qgc) (Hd.lf zb)))) (Hd.nd zb (Hd.nd qnm (Hd.nd qmw (Hd.nd qpc (Hd.lf qeu) .nil) (Hd.lf zb)) (Hd.nd jA (Hd.lf qnf) (Hd.lf qj7))) (Hd.nd qk9 (Hd.nd qjY (Hd.nd qlD (Hd.lf qge) .nil) (Hd.lf zb)) (Hd.nd zb (Hd.lf qeR) (Hd.lf qjh))))))) (Hd.nd (PySem.W.boot_o_2 P) (Hd.nd (PySem.W.boot_o_4 P) (Hd.nd (PySem.W.boot_o_8 P) (Hd.nd jA (Hd.nd zb (Hd.nd qdf (Hd.nd qgK (Hd.lf zb) .nil) (Hd.lf qjN)) (Hd.nd zb (Hd.nd jA (Hd.lf ql0) .nil) (Hd.lf zb))) (Hd.nd qih (Hd.nd qhx (Hd.nd zb (Hd.lf jA) .nil) (Hd.lf qee)) (Hd.nd qmL (Hd.lf zb) (Hd.lf qeF)))) (Hd.nd qmk (Hd.nd qne (Hd.nd qiF (Hd.nd qpb (Hd.lf qfu) .nil) (Hd.lf qf0)) (Hd.nd jA (Hd.nd qln (Hd.lf qej) .nil) (Hd.lf qnj))) (Hd.nd qj8 (Hd.nd qgG (Hd.nd qjq (Hd.lf qfy) .nil) (Hd.lf qmx)) (Hd.nd qgz (Hd.lf jA) (Hd.lf qfd))))) (Hd.nd qog (Hd.nd qo5 (Hd.nd zb (Hd.nd qka (Hd.nd qio (Hd.lf qgi) .nil) (Hd.lf qeT)) (Hd.nd qjS (Hd.nd qeV (Hd.lf qfG) .nil) (Hd.lf zb))) (Hd.nd (qlv P) (Hd.nd qmy (Hd.nd qlJ (Hd.lf zb) .nil) (Hd.lf qfI)) (Hd.nd jA (Hd.lf qiM) (Hd.lf qkD)))) (Hd.nd qid (Hd.nd jA (Hd.nd jA (Hd.nd jA (Hd.lf qkT) .nil) (Hd.lf qnb)) (Hd.nd zb (Hd.lf jA) (Hd.lf jA))) (Hd.nd qki (Hd.nd zb (Hd.nd qo8 (Hd.lf qfl) .nil) (Hd.lf qgk)) (Hd.nd qnt (Hd.lf qfz) (Hd.lf zb)))))) (Hd.nd (PySem.W.boot_o_6 P) (Hd.nd (PySem.W.boot_o_10 P) (Hd.nd zb (Hd.nd qhy (Hd.nd zb (Hd.nd qhO (Hd.lf ql9) .nil) (Hd.lf qi9)) (Hd.nd qjx (Hd.nd zb (Hd.lf qkc) .nil) (Hd.lf qeE))) (Hd.nd qkU (Hd.nd zb (Hd.nd qoK (Hd.lf qe4) .nil) (Hd.lf jA)) (Hd.nd qh5 (Hd.lf qno) (Hd.lf zb)))) (Hd.nd qkl (Hd.nd qh2 (Hd.nd qmE (Hd.nd qml (Hd.lf zb) .nil) (Hd.lf zb)) (Hd.nd qhn (Hd.lf qe5) (Hd.lf qeq))) (Hd.nd (qkI P) (Hd.nd jA (Hd.nd zb (Hd.lf jA) .nil) (Hd.lf qkN)) (Hd.nd zb (Hd.lf zb) (Hd.lf jA))))) (Hd.nd qnK (Hd.nd zb (Hd.nd qmo (Hd.nd zb (Hd.nd zb (Hd.lf jA) .nil) (Hd.lf jA)) (Hd.nd qgX (Hd.nd zb (Hd.lf jA) .nil) (Hd.lf qm8))) (Hd.nd jA (Hd.nd qmj (Hd.nd jA (Hd.lf qk3) .nil) (Hd.lf zb)) (Hd.nd zb (Hd.lf qeA) (Hd.lf qmd)))) (Hd.nd jA (Hd.nd zb (Hd.nd zb (Hd.nd qmT (Hd.lf qe0) .nil) (Hd.lf qlh)) (Hd.nd qks (Hd.lf qe7) (Hd.lf zb))) (Hd.nd qm0 (Hd.nd qhm (Hd.nd qiC (Hd.lf zb) .nil) (Hd.lf jA)) (Hd.nd qkf (Hd.lf zb) (Hd.lf qe8))))))))
abbrev qez:List Stmt:=(qb9.drop 20).take 32
set_option maxRecDepth 100000 in
set_option maxHeartbeats 0 in
theorem qkg (w : World) (os : OsState) : PySem.W.segRunT treeTable PySem.Challenge.pw_bankwalk_k92_whole_skews_or_bars w 11 (some (Value.ref 6)) 1 851 (⟨qjZ w.params,134,{ },#[],{ },373,os⟩ : PySem.W.SharedT) (PySem.W.piecesOf qez qmb TK ⟨71,0,71,7⟩ qjA) = some (.next,(⟨qhF w.params,298,{ },#[],{ },611,os⟩ : PySem.W.SharedT),TK,⟨228,0,250,15⟩) := by kernel_rfl
abbrev qh8 (P:Params):Heap:=PySem.W.absHeap (qhF P) 298 { }
def Kf (P:Params):PySem.W.Frag:=[(3,qkd P),(20,qo5),(21,qh6),(27,qh9),(28,qid),(34,qhy),(35,qh1),(41,qhJ),(42,qh2),(48,qih),(49,qil),(80,qhx),(81,qgE),(87,qgv),(88,qgG),(94,qhm),(95,qht),(101,qhd),(102,qgX),(106,qhn),(107,qh7),(113,qhw),(114,qh5),(120,qgz),(121,qhK),(127,qhk),(128,qgK),(129,qhM P),(130,qhO),(131,qgN),(132,qio),(133,qgT),(137,qkV),(138,qml),(142,qmT),(143,qjX),(147,qmg),(148,qlJ),(152,qjq),(153,qi5),(157,qlD),(158,qiC),(164,qeV),(165,qfH),(169,qfj),(170,qe5),(174,qe7),(175,qfw),(181,qgc),(182,qeA),(188,qfz),(189,qeR),(195,qfF),(196,qeT),(200,qf0),(201,qf1),(207,qfT),(208,qee),(212,qfI),(213,qfJ),(219,qfh),(220,qgk),(226,qeE),(227,qeO),(233,qek),(234,qeq),(240,qeF),(241,qfm),(247,qfV),(248,qfd),(254,qe8),(255,qgs),(259,qd9),(260,qgi),(264,qfu),(265,qf5),(269,qeu),(270,qe0),(274,qe4),(275,qeN),(279,qev),(280,qfy),(284,qfl),(285,qge),(291,qeW),(292,qfG),(296,qej),(297,qec)]
theorem qmC {l:PySem.W.OpenLaw} {w:World} {h:Heap} {mg:Str->Option Value} {fa:Addr} (X:(Kf w.params).In h) (G:h.Ns mainGlobals mg) (hfa:mg "law" = some (.ref fa)) :
  ∃ fd:FuncData,(∀ (s:Shared) (v:Value),BindsTo s fd ⟨[v],[]⟩ [("_law_script",v)])/\∀ base:Heap,(Kf w.params).In base->base.Ns mainGlobals mg->FnOk l.prog w (Kf w.params) mg base CX0 9 fa fd ["_law_script"] (lSp (Kf w.params) RK):=by
 have e:=hfa.symm.trans (Hd.zy X G "law" (.ref 297) (by kernel_rfl))
 cases e
 have F0:=Hd.zG (K:=Kf w.params) "is_number" QE 21 (.str "bankwalk.basics" 187) (.ref 20) (by kernel_rfl) (by kernel_rfl) (by kernel_rfl)
 have b0:=F0.binds (ps:=UG) fun _ _ _ _ _ _ us hl=>by obtain ⟨_,rfl⟩:=Pu.qb3 hl;rfl
 have m0:=Hd.zy X G "is_number" (.ref 21) (by kernel_rfl)
 have F1:=Hd.zG (K:=Kf w.params) "is_pair" JQ 28 (.str "bankwalk.basics" 187) (.ref 27) (by kernel_rfl) (by kernel_rfl) (by kernel_rfl)
 have b1:=F1.binds (ps:=XH) fun _ _ _ _ _ _ us hl=>by obtain ⟨_,rfl⟩:=Pu.qb3 hl;rfl
 have m1:=Hd.zy X G "is_pair" (.ref 28) (by kernel_rfl)
 have F2:=Hd.zG (K:=Kf w.params) "is_number_below" zo 35 (.str "bankwalk.basics" 187) (.ref 34) (by kernel_rfl) (by kernel_rfl) (by kernel_rfl)
 have b2:=F2.binds (ps:=jT) fun _ _ _ _ _ _ us hl=>by obtain ⟨_,_,rfl⟩:=Pu.LM hl;rfl
 have m2:=Hd.zy X G "is_number_below" (.ref 35) (by kernel_rfl)
 have F3:=Hd.zG (K:=Kf w.params) "first_alike" jj 42 (.str "bankwalk.basics" 187) (.ref 41) (by kernel_rfl) (by kernel_rfl) (by kernel_rfl)
 have b3:=F3.binds (ps:=JX) fun _ _ _ _ _ _ us hl=>by obtain ⟨_,rfl⟩:=Pu.qb3 hl;rfl
 have m3:=Hd.zy X G "first_alike" (.ref 42) (by kernel_rfl)
 have F4:=Hd.zG (K:=Kf w.params) "are_alike" j2 49 (.str "bankwalk.basics" 187) (.ref 48) (by kernel_rfl) (by kernel_rfl) (by kernel_rfl)
 have b4:=F4.binds (ps:=UK) fun _ _ _ _ _ _ us hl=>by obtain ⟨_,_,_,rfl⟩:=Pu.qaz hl;rfl
 have m4:=Hd.zy X G "are_alike" (.ref 49) (by kernel_rfl)
 have F5:=Hd.zG (K:=Kf w.params) "size_of" JK 81 (.str "bankwalk.dealings" 265) (.ref 80) (by kernel_rfl) (by kernel_rfl) (by kernel_rfl)
 have b5:=F5.binds (ps:=XU) fun _ _ _ _ _ _ us hl=>by obtain ⟨_,rfl⟩:=Pu.qb3 hl;rfl
 have m5:=Hd.zy X G "size_of" (.ref 81) (by kernel_rfl)
 have F6:=Hd.zG (K:=Kf w.params) "number_of" j7 88 (.str "bankwalk.dealings" 265) (.ref 87) (by kernel_rfl) (by kernel_rfl) (by kernel_rfl)
 have b6:=F6.binds (ps:=UD) fun _ _ _ _ _ _ us hl=>by obtain ⟨_,_,rfl⟩:=Pu.LM hl;rfl
 have m6:=Hd.zy X G "number_of" (.ref 88) (by kernel_rfl)
 have F7:=Hd.zG (K:=Kf w.params) "is_word" JR 95 (.str "bankwalk.dealings" 265) (.ref 94) (by kernel_rfl) (by kernel_rfl) (by kernel_rfl)
 have b7:=F7.binds (ps:=W4) fun _ _ _ _ _ _ us hl=>by obtain ⟨_,_,rfl⟩:=Pu.LM hl;rfl
 have m7:=Hd.zy X G "is_word" (.ref 95) (by kernel_rfl)
 have F8:=Hd.zG (K:=Kf w.params) "odd_in_common" QM 102 (.str "bankwalk.dealings" 265) (.ref 101) (by kernel_rfl) (by kernel_rfl) (by kernel_rfl)
 have b8:=F8.binds (ps:=XJ) fun _ _ _ _ _ _ us hl=>by obtain ⟨_,_,rfl⟩:=Pu.LM hl;rfl
 have m8:=Hd.zy X G "odd_in_common" (.ref 102) (by kernel_rfl)
 have F9:=Hd.zG (K:=Kf w.params) "bits_bank" YR 107 (.str "bankwalk.dealings" 265) (.ref 106) (by kernel_rfl) (by kernel_rfl) (by kernel_rfl)
 have b9:=F9.binds (ps:=MG) fun _ _ _ _ _ _ us hl=>by obtain ⟨_,_,rfl⟩:=Pu.LM hl;rfl
 have m9:=Hd.zy X G "bits_bank" (.ref 107) (by kernel_rfl)
 have F10:=Hd.zG (K:=Kf w.params) "parted" XQ 114 (.str "bankwalk.dealings" 265) (.ref 113) (by kernel_rfl) (by kernel_rfl) (by kernel_rfl)
 have b10:=F10.binds (ps:=qd7) fun _ _ _ _ _ _ us hl=>by obtain ⟨_,_,_,rfl⟩:=Pu.qaz hl;rfl
 have m10:=Hd.zy X G "parted" (.ref 114) (by kernel_rfl)
 have F11:=Hd.zG (K:=Kf w.params) "joined_bank" Z9 121 (.str "bankwalk.dealings" 265) (.ref 120) (by kernel_rfl) (by kernel_rfl) (by kernel_rfl)
 have b11:=F11.binds (ps:=R4) fun _ _ _ _ _ _ us hl=>by obtain ⟨_,_,_,rfl⟩:=Pu.qaz hl;rfl
 have m11:=Hd.zy X G "joined_bank" (.ref 121) (by kernel_rfl)
 have F12:=Hd.zG (K:=Kf w.params) "bank_in" JP 128 (.str "bankwalk.dealings" 265) (.ref 127) (by kernel_rfl) (by kernel_rfl) (by kernel_rfl)
 have b12:=F12.binds (ps:=XE) fun _ _ _ _ _ _ us hl=>by obtain ⟨_,_,rfl⟩:=Pu.LM hl;rfl
 have m12:=Hd.zy X G "bank_in" (.ref 128) (by kernel_rfl)
 have F13:=Hd.zG (K:=Kf w.params) "strung" YW 138 (.str "bankwalk.walks" 353) (.ref 137) (by kernel_rfl) (by kernel_rfl) (by kernel_rfl)
 have b13:=F13.binds (ps:=SI) fun _ _ _ _ _ _ us hl=>by obtain ⟨_,_,_,rfl⟩:=Pu.qaz hl;rfl
 have m13:=Hd.zy X G "strung" (.ref 138) (by kernel_rfl)
 have F14:=Hd.zG (K:=Kf w.params) "cells_of" ZB 143 (.str "bankwalk.walks" 353) (.ref 142) (by kernel_rfl) (by kernel_rfl) (by kernel_rfl)
 have b14:=F14.binds (ps:=DN) fun _ _ _ _ _ _ us hl=>by obtain ⟨_,rfl⟩:=Pu.qb3 hl;rfl
 have m14:=Hd.zy X G "cells_of" (.ref 143) (by kernel_rfl)
 have F15:=Hd.zG (K:=Kf w.params) "starts" VC 148 (.str "bankwalk.walks" 353) (.ref 147) (by kernel_rfl) (by kernel_rfl) (by kernel_rfl)
 have b15:=F15.binds (ps:=TC) fun _ _ _ _ _ _ us hl=>by obtain ⟨_,_,rfl⟩:=Pu.LM hl;rfl
 have m15:=Hd.zy X G "starts" (.ref 148) (by kernel_rfl)
 have F16:=Hd.zG (K:=Kf w.params) "shifted" JH 153 (.str "bankwalk.walks" 353) (.ref 152) (by kernel_rfl) (by kernel_rfl) (by kernel_rfl)
 have b16:=F16.binds (ps:=XA) fun _ _ _ _ _ _ us hl=>by obtain ⟨_,_,rfl⟩:=Pu.LM hl;rfl
 have m16:=Hd.zy X G "shifted" (.ref 153) (by kernel_rfl)
 have F17:=Hd.zG (K:=Kf w.params) "is_start" ZK 158 (.str "bankwalk.walks" 353) (.ref 157) (by kernel_rfl) (by kernel_rfl) (by kernel_rfl)
 have b17:=F17.binds (ps:=EV) fun _ _ _ _ _ _ us hl=>by obtain ⟨_,_,_,rfl⟩:=Pu.qaz hl;rfl
 have m17:=Hd.zy X G "is_start" (.ref 158) (by kernel_rfl)
 have F18:=Hd.zG (K:=Kf w.params) "words_of" ZR 165 (.str "bankwalk.walks" 353) (.ref 164) (by kernel_rfl) (by kernel_rfl) (by kernel_rfl)
 have b18:=F18.binds (ps:=E9) fun _ _ _ _ _ _ us hl=>by obtain ⟨_,_,_,rfl⟩:=Pu.qaz hl;rfl
 have m18:=Hd.zy X G "words_of" (.ref 165) (by kernel_rfl)
 have F19:=Hd.zG (K:=Kf w.params) "rests_by" ZO 170 (.str "bankwalk.rests" 412) (.ref 169) (by kernel_rfl) (by kernel_rfl) (by kernel_rfl)
 have b19:=F19.binds (ps:=EY) fun _ _ _ _ _ _ us hl=>by obtain ⟨_,_,_,rfl⟩:=Pu.qaz hl;rfl
 have m19:=Hd.zy X G "rests_by" (.ref 170) (by kernel_rfl)
 have F20:=Hd.zG (K:=Kf w.params) "all_factors" jm 175 (.str "bankwalk.skews" 420) (.ref 174) (by kernel_rfl) (by kernel_rfl) (by kernel_rfl)
 have b20:=F20.binds (ps:=JY) fun _ _ _ _ _ _ us hl=>by obtain ⟨_,rfl⟩:=Pu.qb3 hl;rfl
 have m20:=Hd.zy X G "all_factors" (.ref 175) (by kernel_rfl)
 have F21:=Hd.zG (K:=Kf w.params) "first_bar" j6 182 (.str "bankwalk.skews" 420) (.ref 181) (by kernel_rfl) (by kernel_rfl) (by kernel_rfl)
 have b21:=F21.binds (ps:=UC) fun _ _ _ _ _ _ us hl=>by obtain ⟨_,_,_,rfl⟩:=Pu.qaz hl;rfl
 have m21:=Hd.zy X G "first_bar" (.ref 182) (by kernel_rfl)
 have F22:=Hd.zG (K:=Kf w.params) "skew_for" ZD 189 (.str "bankwalk.skews" 420) (.ref 188) (by kernel_rfl) (by kernel_rfl) (by kernel_rfl)
 have b22:=F22.binds (ps:=DP) fun _ _ _ _ _ _ us hl=>by obtain ⟨_,_,rfl⟩:=Pu.LM hl;rfl
 have m22:=Hd.zy X G "skew_for" (.ref 189) (by kernel_rfl)
 have F23:=Hd.zG (K:=Kf w.params) "is_bar" VG 196 (.str "bankwalk.skews" 420) (.ref 195) (by kernel_rfl) (by kernel_rfl) (by kernel_rfl)
 have b23:=F23.binds (ps:=RV) fun _ _ _ _ _ _ us hl=>by obtain ⟨_,_,_,_,rfl⟩:=Pu.qnC hl;rfl
 have m23:=Hd.zy X G "is_bar" (.ref 196) (by kernel_rfl)
 have F24:=Hd.zG (K:=Kf w.params) "shows_no_skew" zJ 201 (.str "bankwalk.skews" 420) (.ref 200) (by kernel_rfl) (by kernel_rfl) (by kernel_rfl)
 have b24:=F24.binds (ps:=ZH) fun _ _ _ _ _ _ us hl=>by obtain ⟨_,_,_,rfl⟩:=Pu.qaz hl;rfl
 have m24:=Hd.zy X G "shows_no_skew" (.ref 201) (by kernel_rfl)
 have F25:=Hd.zG (K:=Kf w.params) "least_skew" jD 208 (.str "bankwalk.skews" 420) (.ref 207) (by kernel_rfl) (by kernel_rfl) (by kernel_rfl)
 have b25:=F25.binds (ps:=VD) fun _ _ _ _ _ _ us hl=>by obtain ⟨_,_,rfl⟩:=Pu.LM hl;rfl
 have m25:=Hd.zy X G "least_skew" (.ref 208) (by kernel_rfl)
 have F26:=Hd.zG (K:=Kf w.params) "banks_from" jI 213 (.str "bankwalk.clashes" 481) (.ref 212) (by kernel_rfl) (by kernel_rfl) (by kernel_rfl)
 have b26:=F26.binds (ps:=VE) fun _ _ _ _ _ _ us hl=>by obtain ⟨_,_,_,rfl⟩:=Pu.qaz hl;rfl
 have m26:=Hd.zy X G "banks_from" (.ref 213) (by kernel_rfl)
 have F27:=Hd.zG (K:=Kf w.params) "clash" EJ 220 (.str "bankwalk.clashes" 481) (.ref 219) (by kernel_rfl) (by kernel_rfl) (by kernel_rfl)
 have b27:=F27.binds (ps:=MI) fun _ _ _ _ _ _ us hl=>by obtain ⟨_,_,rfl⟩:=Pu.LM hl;rfl
 have m27:=Hd.zy X G "clash" (.ref 220) (by kernel_rfl)
 have F28:=Hd.zG (K:=Kf w.params) "_law_mix" JS 227 (.str "law_bankwalk_k92_whole_skews_or_bars" 499) (.ref 226) (by kernel_rfl) (by kernel_rfl) (by kernel_rfl)
 have b28:=F28.binds (ps:=W0) fun _ _ _ _ _ _ us hl=>by obtain ⟨_,_,rfl⟩:=Pu.LM hl;rfl
 have m28:=Hd.zy X G "_law_mix" (.ref 227) (by kernel_rfl)
 have F29:=Hd.zG (K:=Kf w.params) "_law_left" ZJ 234 (.str "law_bankwalk_k92_whole_skews_or_bars" 499) (.ref 233) (by kernel_rfl) (by kernel_rfl) (by kernel_rfl)
 have b29:=F29.binds (ps:=DR) fun _ _ _ _ _ _ us hl=>by obtain ⟨_,_,rfl⟩:=Pu.LM hl;rfl
 have m29:=Hd.zy X G "_law_left" (.ref 234) (by kernel_rfl)
 have F30:=Hd.zG (K:=Kf w.params) "_law_pick" ZS 241 (.str "law_bankwalk_k92_whole_skews_or_bars" 499) (.ref 240) (by kernel_rfl) (by kernel_rfl) (by kernel_rfl)
 have b30:=F30.binds (ps:=DL) fun _ _ _ _ _ _ us hl=>by obtain ⟨_,_,rfl⟩:=Pu.LM hl;rfl
 have m30:=Hd.zy X G "_law_pick" (.ref 241) (by kernel_rfl)
 have F31:=Hd.zG (K:=Kf w.params) "_law_many" ZQ 248 (.str "law_bankwalk_k92_whole_skews_or_bars" 499) (.ref 247) (by kernel_rfl) (by kernel_rfl) (by kernel_rfl)
 have b31:=F31.binds (ps:=ET) fun _ _ _ _ _ _ us hl=>by obtain ⟨_,rfl⟩:=Pu.qb3 hl;rfl
 have m31:=Hd.zy X G "_law_many" (.ref 248) (by kernel_rfl)
 have F32:=Hd.zG (K:=Kf w.params) "_law_walk" ZM 255 (.str "law_bankwalk_k92_whole_skews_or_bars" 499) (.ref 254) (by kernel_rfl) (by kernel_rfl) (by kernel_rfl)
 have b32:=F32.binds (ps:=DJ) fun _ _ _ _ _ _ us hl=>by obtain ⟨_,rfl⟩:=Pu.qb3 hl;rfl
 have m32:=Hd.zy X G "_law_walk" (.ref 255) (by kernel_rfl)
 have F33:=Hd.zG (K:=Kf w.params) "_law_cells" j1 260 (.str "law_bankwalk_k92_whole_skews_or_bars" 499) (.ref 259) (by kernel_rfl) (by kernel_rfl) (by kernel_rfl)
 have b33:=F33.binds (ps:=UF) fun _ _ _ _ _ _ us hl=>by obtain ⟨_,rfl⟩:=Pu.qb3 hl;rfl
 have m33:=Hd.zy X G "_law_cells" (.ref 260) (by kernel_rfl)
 have F34:=Hd.zG (K:=Kf w.params) "_law_same" Q8 265 (.str "law_bankwalk_k92_whole_skews_or_bars" 499) (.ref 264) (by kernel_rfl) (by kernel_rfl) (by kernel_rfl)
 have b34:=F34.binds (ps:=DB) fun _ _ _ _ _ _ us hl=>by obtain ⟨_,_,rfl⟩:=Pu.LM hl;rfl
 have m34:=Hd.zy X G "_law_same" (.ref 265) (by kernel_rfl)
 have F35:=Hd.zG (K:=Kf w.params) "_law_rests_at" zZ 270 (.str "law_bankwalk_k92_whole_skews_or_bars" 499) (.ref 269) (by kernel_rfl) (by kernel_rfl) (by kernel_rfl)
 have b35:=F35.binds (ps:=JA) fun _ _ _ _ _ _ us hl=>by obtain ⟨_,_,_,_,rfl⟩:=Pu.qnC hl;rfl
 have m35:=Hd.zy X G "_law_rests_at" (.ref 270) (by kernel_rfl)
 have F36:=Hd.zG (K:=Kf w.params) "_law_unlike" jF 275 (.str "law_bankwalk_k92_whole_skews_or_bars" 499) (.ref 274) (by kernel_rfl) (by kernel_rfl) (by kernel_rfl)
 have b36:=F36.binds (ps:=VM) fun _ _ _ _ _ _ us hl=>by obtain ⟨_,_,_,_,rfl⟩:=Pu.qnC hl;rfl
 have m36:=Hd.zy X G "_law_unlike" (.ref 275) (by kernel_rfl)
 have F37:=Hd.zG (K:=Kf w.params) "_law_box" JU 280 (.str "law_bankwalk_k92_whole_skews_or_bars" 499) (.ref 279) (by kernel_rfl) (by kernel_rfl) (by kernel_rfl)
 have b37:=F37.binds (ps:=X9) fun _ _ _ _ _ _ us hl=>by obtain ⟨_,rfl⟩:=Pu.qb3 hl;rfl
 have m37:=Hd.zy X G "_law_box" (.ref 280) (by kernel_rfl)
 have F38:=Hd.zG (K:=Kf w.params) "_law_found_right" zp 285 (.str "law_bankwalk_k92_whole_skews_or_bars" 499) (.ref 284) (by kernel_rfl) (by kernel_rfl) (by kernel_rfl)
 have b38:=F38.binds (ps:=jU) fun _ _ _ _ _ _ us hl=>by obtain ⟨_,_,_,_,_,rfl⟩:=Pu.qqU hl;rfl
 have m38:=Hd.zy X G "_law_found_right" (.ref 285) (by kernel_rfl)
 have F39:=Hd.zG (K:=Kf w.params) "_law_bars_right" zz 292 (.str "law_bankwalk_k92_whole_skews_or_bars" 499) (.ref 291) (by kernel_rfl) (by kernel_rfl) (by kernel_rfl)
 have b39:=F39.binds (ps:=QN) fun _ _ _ _ _ _ us hl=>by obtain ⟨_,_,_,rfl⟩:=Pu.qaz hl;rfl
 have m39:=Hd.zy X G "_law_bars_right" (.ref 292) (by kernel_rfl)
 have F40:=Hd.zG (K:=Kf w.params) "law" YT 297 (.str "law_bankwalk_k92_whole_skews_or_bars" 499) (.ref 296) (by kernel_rfl) (by kernel_rfl) (by kernel_rfl)
 have g_isinstance:=Hd.V8 X G "isinstance" (by kernel_rfl)
 have g_bool:=Hd.V8 X G "bool" (by kernel_rfl)
 have g_int:=Hd.V8 X G "int" (by kernel_rfl)
 have g_len:=Hd.V8 X G "len" (by kernel_rfl)
 have g_tuple:=Hd.V8 X G "tuple" (by kernel_rfl)
 have g_range:=Hd.V8 X G "range" (by kernel_rfl)
 have g_enumerate:=Hd.V8 X G "enumerate" (by kernel_rfl)
 have g_sum:=Hd.V8 X G "sum" (by kernel_rfl)
 have g_list:=Hd.V8 X G "list" (by kernel_rfl)
 have g_STRIDES:Tb (Kf w.params) mg w "STRIDES" EQ:=⟨129,_,4,Hd.zy X G "STRIDES" (.ref 129) (by kernel_rfl),(show (Kf w.params).lookup 129=some ⟨.type "dict",none,.dict #[⟨PyData.keyHash w.params "row",.str "row" 355,.ref 130⟩,⟨PyData.keyHash w.params "column",.str "column" 358,.ref 131⟩,⟨PyData.keyHash w.params "slant",.str "slant" 361,.ref 132⟩,⟨PyData.keyHash w.params "back",.str "back" 364,.ref 133⟩] 4,#[]⟩ by kernel_rfl),rfl,(.cons (v:=.ref 130) rfl (NX (show (Kf w.params).lookup 130=some ⟨.type "tuple",none,.seq #[.int (0) 356,.int (1) 357] 0,#[]⟩ by kernel_rfl)) (.cons (v:=.ref 131) rfl (NX (show (Kf w.params).lookup 131=some ⟨.type "tuple",none,.seq #[.int (1) 359,.int (0) 360] 0,#[]⟩ by kernel_rfl)) (.cons (v:=.ref 132) rfl (NX (show (Kf w.params).lookup 132=some ⟨.type "tuple",none,.seq #[.int (1) 362,.int (1) 363] 0,#[]⟩ by kernel_rfl)) (.cons (v:=.ref 133) rfl (NX (show (Kf w.params).lookup 133=some ⟨.type "tuple",none,.seq #[.int (1) 365,.int (-1) 367] 0,#[]⟩ by kernel_rfl)) .nil))))⟩
 have g_min:=Hd.V8 X G "min" (by kernel_rfl)
 have g_max:=Hd.V8 X G "max" (by kernel_rfl)
 have g_all:=Hd.V8 X G "all" (by kernel_rfl)
 have g_zip:=Hd.V8 X G "zip" (by kernel_rfl)
 have g_abs:=Hd.V8 X G "abs" (by kernel_rfl)
 have g_str:=Hd.V8 X G "str" (by kernel_rfl)
 have g_set:=Hd.V8 X G "set" (by kernel_rfl)
 refine ⟨PySem.W.fnOf "law" "law" (YA YT) (jL YT) (qi YT) .none .none .none (.str "law_bankwalk_k92_whole_skews_or_bars" 499) none (.ref 296) .none,fun s v=>.of_eq rfl,fun base _ _=>?_⟩
 have O_is_number:=TY (P:=l.prog) (w:=w) (base:=base) (k:=0) F0 b0 m0  g_isinstance g_bool g_int T3
 have O_is_pair:=qaC (P:=l.prog) (w:=w) (base:=base) (k:=1) F1 b1 m1 O_is_number g_len g_isinstance g_tuple qaI
 have O_is_number_below:=UX (P:=l.prog) (w:=w) (base:=base) (k:=1) F2 b2 m2 O_is_number  U2
 have O_first_alike:=C0 (P:=l.prog) (w:=w) (base:=base) (k:=0) F3 b3 m3  g_len g_range Pv.C1
 have O_are_alike:=KU (P:=l.prog) (w:=w) (base:=base) (k:=2) F4 b4 m4 O_is_number_below g_len KZ
 have O_odd_in_common:=V1 (P:=l.prog) (w:=w) (base:=base) F8 b8 m8
 have O_bits_bank:=Pu.Fn3.pz (V1 (P:=l.prog) (w:=w) (base:=base) F9 b9 m9) false
 have O_parted:=V1 (P:=l.prog) (w:=w) (base:=base) F10 b10 m10
 have O_strung:=qbx (P:=l.prog) (w:=w) (base:=base) (k:=0) F13 b13 m13  g_range Pv.qby
 have O_cells_of:=MF (P:=l.prog) (w:=w) (base:=base) (k:=1) F14 b14 m14 O_strung g_list g_range g_STRIDES Pv.LY
 have O_shifted:=qac (P:=l.prog) (w:=w) (base:=base) (k:=2) F16 b16 m16 O_cells_of  qaA
 have O_rests_by:=LS (P:=l.prog) (w:=w) (base:=base) (k:=2) F19 b19 m19 O_cells_of g_tuple Pv.MS
 have O_all_factors:=CZ (P:=l.prog) (w:=w) (base:=base) (k:=0) F20 b20 m20  g_range CM
 have O_first_bar:=KY (P:=l.prog) (w:=w) (base:=base) (k:=3) F21 b21 m21 O_rests_by (O_first_alike.mono (by decide)) g_enumerate T9
 have O_skew_for:=LQ (P:=l.prog) (w:=w) (base:=base) (k:=4) F22 b22 m22 (O_all_factors.mono (by decide)) O_first_bar  MP
 have O_is_bar:=qcB (P:=l.prog) (w:=w) (base:=base) (k:=3) F23 b23 m23 O_rests_by O_are_alike (O_is_number_below.mono (by decide)) g_len g_isinstance g_tuple qcf
 have O_shows_no_skew:=WA (P:=l.prog) (w:=w) (base:=base) (k:=4) F24 b24 m24 (O_all_factors.mono (by decide)) O_is_bar g_len g_isinstance g_list g_zip g_all WD
 have O_least_skew:=SV (P:=l.prog) (w:=w) (base:=base) (k:=5) F25 b25 m25 O_skew_for g_range TM
 have O_law_mix:=qaw (P:=l.prog) (w:=w) (base:=base) (k:=0) F28 b28 m28   Bk.qaK
 have O_law_left:=L6 (P:=l.prog) (w:=w) (base:=base) (k:=0) F29 b29 m29  g_len g_abs Bk.ML
 have O_law_pick:=LO (P:=l.prog) (w:=w) (base:=base) (k:=1) F30 b30 m30 O_law_mix  Bk.MB
 have O_law_many:=LX (P:=l.prog) (w:=w) (base:=base) (k:=2) F31 b31 m31 O_law_pick  Bk.MM
 have O_law_walk:=ME (P:=l.prog) (w:=w) (base:=base) (k:=3) F32 b32 m32 (O_law_pick.mono (by decide)) O_law_many g_int g_range g_tuple Bk.LR
 have O_law_cells:=TV (P:=l.prog) (w:=w) (base:=base) (k:=0) F33 b33 m33  g_list g_range T8
 have O_law_rests_at:=W5 (P:=l.prog) (w:=w) (base:=base) (k:=0) F35 b35 m35   CG
 have O_law_unlike:=RW (P:=l.prog) (w:=w) (base:=base) (k:=1) F36 b36 m36 O_law_cells O_law_rests_at g_len g_set g_all R0
 have O_law_box:=qak (P:=l.prog) (w:=w) (base:=base) (k:=0) F37 b37 m37  g_max g_min qaM
 have O_joined_bank:=Pu.Fn3.pz (V1 (P:=l.prog) (w:=w) (base:=base) F11 b11 m11) false
 have O_size_of_0:=Pu.Fn3.pz (V1 (P:=l.prog) (w:=w) (base:=base) F5 b5 m5) false
 have O_size_of_1:=qam (P:=l.prog) (w:=w) (base:=base) (k:=0) F5 b5 m5 O_size_of_0 g_len (Pv.qaf 0)
 have O_number_of:=K8 (P:=l.prog) (w:=w) (base:=base) (k:=1) F6 b6 m6 O_size_of_1  LJ
 have O_is_word:=qar (P:=l.prog) (w:=w) (base:=base) (k:=2) F7 b7 m7 O_is_pair (O_size_of_1.mono (by decide))  qaH
 have O_bank_in:=qaa (P:=l.prog) (w:=w) (base:=base) (k:=2) F12 b12 m12 O_number_of (O_bits_bank.mono (by decide)) (O_joined_bank.mono (by decide))  qay
 have O_starts:=qce (P:=l.prog) (w:=w) (base:=base) (k:=2) F15 b15 m15 (O_size_of_1.mono (by decide)) O_cells_of g_min g_max g_range (Pv.qaX 1)
 have O_is_start:=MA (P:=l.prog) (w:=w) (base:=base) (k:=3) F17 b17 m17 O_shifted O_is_word (O_is_pair.mono (by decide)) g_all MK
 have O_words_of:=MY (P:=l.prog) (w:=w) (base:=base) (k:=4) F18 b18 m18 O_is_start (O_shifted.mono (by decide))  L7
 have O_banks_from:=R9 (P:=l.prog) (w:=w) (base:=base) (k:=5) F26 b26 m26 O_words_of (O_bank_in.mono (by decide))  SZ
 have O_clash:=qdC (P:=l.prog) (w:=w) (base:=base) (k:=6) F27 b27 m27 (O_starts.mono (by decide)) O_banks_from (O_first_alike.mono (by decide))  qdi
 have O_law_found_right:=EK (P:=l.prog) (w:=w) (base:=base) (k:=7) F38 b38 m38 (O_law_unlike.mono (by decide)) (O_law_pick.mono (by decide)) O_clash g_range UY
 have O_law_same_0:=V1 (P:=l.prog) (w:=w) (base:=base) F34 b34 m34
 have O_law_same_1:=ZP (P:=l.prog) (w:=w) (base:=base) (k:=0) F34 b34 m34 O_law_same_0 g_isinstance g_list g_tuple g_zip g_all g_len g_str g_bool g_int (Bk.ZG 0)
 have O_law_same_2:=ZP (P:=l.prog) (w:=w) (base:=base) (k:=1) F34 b34 m34 O_law_same_1 g_isinstance g_list g_tuple g_zip g_all g_len g_str g_bool g_int (Bk.ZG 1)
 have O_law_same_3:=ZP (P:=l.prog) (w:=w) (base:=base) (k:=2) F34 b34 m34 O_law_same_2 g_isinstance g_list g_tuple g_zip g_all g_len g_str g_bool g_int (Bk.ZG 2)
 have O_law_same_4:=ZP (P:=l.prog) (w:=w) (base:=base) (k:=3) F34 b34 m34 O_law_same_3 g_isinstance g_list g_tuple g_zip g_all g_len g_str g_bool g_int (Bk.ZG 3)
 have O_law_same_5:=ZP (P:=l.prog) (w:=w) (base:=base) (k:=4) F34 b34 m34 O_law_same_4 g_isinstance g_list g_tuple g_zip g_all g_len g_str g_bool g_int (Bk.ZG 4)
 have O_law_bars_right:=DE (P:=l.prog) (w:=w) (base:=base) (k:=7) F39 b39 m39 (O_shows_no_skew.mono (by decide)) (O_law_cells.mono (by decide)) (O_law_box.mono (by decide)) O_clash (O_law_same_5.mono (by decide)) g_len g_enumerate DQ
 exact qjI (k:=8) F40 (O_law_left.mono (by decide)) (O_law_pick.mono (by decide)) (O_law_walk.mono (by decide)) (O_skew_for.mono (by decide)) O_law_found_right O_law_bars_right (O_least_skew.mono (by decide)) (O_law_same_5.mono (by decide)) (O_shows_no_skew.mono (by decide)) g_len g_min g_range g_enumerate (qiT qkw)
set_option maxRecDepth 100000 in
set_option maxHeartbeats 0 in
theorem qj9 (w : World) (os : OsState) : PySem.W.topRun treeTable PySem.Challenge.pw_bankwalk_k92_whole_skews_or_bars w 11 (some (Value.ref 6)) 2 (⟨qhF w.params,298,{ },#[],{ },611,os⟩ : PySem.W.SharedT).abs (PySem.W.restOf [] qmb TK ⟨228,0,250,15⟩ qjA) = some ⟨qh8 w.params,#[],{ },611,os⟩ := by kernel_rfl
theorem qoj:(qgf++(qez++[]))=qb9:=by kernel_rfl
set_option maxRecDepth 100000 in
set_option maxHeartbeats 0 in
theorem qhs (w : World) (os : OsState) : PySem.W.topRun treeTable PySem.Challenge.pw_bankwalk_k92_whole_skews_or_bars w 11 (some (Value.ref 6)) (12 + (1 + (933 + (851 + 2)))) ⟨PySem.W.boot_heap w.params,Array.mk [],PySem.W.boot_drawn,PySem.W.boot_toks,os⟩ (PySem.W.topStub PySem.Challenge.pw_bankwalk_k92_whole_skews_or_bars) = some ⟨qh8 w.params,#[],{ },611,os⟩ := by
 have h:=(PySem.W.piece_app (PySem.W.segRun_of (qmU w os)) (PySem.W.piece_app (PySem.W.segRun_of (qkg w os)) (qj9 w os)))
 rw [qoj] at h
 exact PySem.W.go_top (qlR w os) (PySem.W.piece_block (qkS w os) h)
abbrev Q : Program := PySem.W.view PySem.Challenge.pw_bankwalk_k92_whole_skews_or_bars [1,2,3,4,5,7,8,10,11,12,13,14,15,16,17,19,20,21,22,23,24,25,27,29,30,31,32,33,34,36,37,39,40,41,42,43,44,45,46,47,48,49,50,51]
set_option maxRecDepth 100000 in
set_option maxHeartbeats 0 in
theorem left : PySem.W.LeftO PySem.Challenge.pw_bankwalk_k92_whole_skews_or_bars Q ["STRIDES"] (fun s=>PySem.W.xlAt Q [] s && PySem.W.recOk [] s) (fun s=>([3,20,21,27,28,34,35,41,42,48,49,80,81,87,88,94,95,101,102,106,107,113,114,120,121,127,128,129,130,131,132,133,137,138,142,143,147,148,152,153,157,158,164,165,169,170,174,175,181,182,188,189,195,196,200,201,207,208,212,213,219,220,226,227,233,234,240,241,247,248,254,255,259,260,264,265,269,270,274,275,279,280,284,285,291,292,296,297]:List Addr).map s.heap.get?) (fun w=>(Kf w.params).map fun p=>some p.2) 3690:=
 PySem.W.LeftO.of_pieces (H₀:=PySem.W.boot_heap) (H₁:=qh8) (gs₀:=Array.mk []) (gs₁:=#[]) (d₀:=PySem.W.boot_drawn) (d₁:={ }) (k₀:=PySem.W.boot_toks) (k₁:=611) (m₀:=11) (ann:=some (Value.ref 6)) (M:=(12+(1+(933+(851+2)))))
  (PySem.W.boot_open (by kernel_rfl) (by kernel_rfl) (fun s=>by kernel_rfl)) (fun w=>by kernel_rfl) qhs (by kernel_rfl) (fun w=>by kernel_rfl)
end K92
open PySem PySem.W PyProof.Rows
set_option maxRecDepth 100000 in
set_option maxHeartbeats 0 in
theorem PySem.Challenge.cw_bankwalk_k92_whole_skews_or_bars_holds : PySem.Challenge.rw_bankwalk_k92_whole_skews_or_bars.Holds :=
 Hd.head (l := PySem.Challenge.rw_bankwalk_k92_whole_skews_or_bars) (q := K92.Q) (loose := ["STRIDES"]) (K:=K92.Kf) (as:=[3,20,21,27,28,34,35,41,42,48,49,80,81,87,88,94,95,101,102,106,107,113,114,120,121,127,128,129,130,131,132,133,137,138,142,143,147,148,152,153,157,158,164,165,169,170,174,175,181,182,188,189,195,196,200,201,207,208,212,213,219,220,226,227,233,234,240,241,247,248,254,255,259,260,264,265,269,270,274,275,279,280,284,285,291,292,296,297]) (N:=3690) (k:=9) (x:="_law_script")
  (d:=⟨"law",L2.YA K92.YT,L2.jL K92.YT,L2.qi K92.YT,⟨228,0,250,15⟩⟩) (fun _=>by kernel_rfl) (by kernel_rfl) K92.left (by kernel_rfl) (by kernel_rfl) (by kernel_rfl) (by kernel_rfl) (by kernel_rfl)
  ⟨rfl,rfl,rfl,rfl,rfl,by decide +kernel⟩ (by w_witness2) rfl (by kernel_rfl) ⟨rfl,by decide,by decide,rfl⟩ (fun w=>by kernel_rfl) fun w mg fa h KX G hmg=>K92.qmC KX G hmg
