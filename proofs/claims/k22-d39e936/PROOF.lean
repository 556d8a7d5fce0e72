import PyProof.Rows.All
import Wide.All
import OpenK.AllK
import Wide.FinOn
import Lean
import PyProof.EqAt
import PyProof.EqKinds
import PyProof.TupleCall
import PyProof.NeKinds
import KE.KRevSl
import PyProof.FactsAll.bool_2
import PyProof.Rows.EqBoolInt
import PyProof.Rows.IntBool
import PySem.Challenge.RW_bankwalk_k22_rests_tell_all
-- CHANGE: your row's module here,as the last of these rows
set_option Elab.async false
set_option genSizeOf false
set_option genInjectivity false
noncomputable section
set_option linter.all false
set_option maxRecDepth 100000
namespace L2
open PySem PySem.Spec PyProof.Rows
abbrev Key := Sum Int Str
def qlY : Key → Value → Bool
 | .inl k,v => Value.isInt k v
 | .inr x,v => Value.isStrOf x v
def qp0 (w : World) : Key → Int
 | .inl k => hashInt k
 | .inr x => hashStr w x
theorem zr : ∀ {k : Key} {v : Value},qlY k v = true → (∃ i t,k = Sum.inl i∧v = Value.int i t) ∨ (∃ x t,k = Sum.inr x∧v = Value.str x t)
 | .inl i,v,h => by
  obtain ⟨t,e⟩ := Value.isInt_shape (k := i) (v := v) h
  exact .inl ⟨i,t,rfl,e⟩
 | .inr x,v,h => by
  obtain ⟨t,e⟩ := Value.isStrOf_shape (x := x) (v := v) h
  exact .inr ⟨x,t,rfl,e⟩
theorem qiV (a b : Int) : decide ((Sum.inl a : Key) = Sum.inl b) = (a == b) := by
 by_cases e : a = b
 ·subst e;simp
 ·have h : ¬ (Sum.inl a : Key) = Sum.inl b := fun q => e (Sum.inl.inj q)
  rw [decide_eq_false h]
  exact (beq_eq_false_iff_ne.mpr e).symm
theorem qml (a b : Str) : decide ((Sum.inr a : Key) = Sum.inr b) = decide (a = b) := by
 by_cases e : a = b
 ·subst e;simp
 ·have h : ¬ (Sum.inr a : Key) = Sum.inr b := fun q => e (Sum.inr.inj q)
  rw [decide_eq_false h,decide_eq_false e]
theorem qk7 (a : Int) (b : Str) : decide ((Sum.inl a : Key) = Sum.inr b) = false := decide_eq_false (fun q => nomatch q)
theorem qip (a : Str) (b : Int) : decide ((Sum.inr a : Key) = Sum.inl b) = false := decide_eq_false (fun q => nomatch q)
def qa8 (prog : Program) (w : World) : PySem.KeyKind prog w Key where
 is := qlY
 hash := qp0 w
 inj := fun v a b ha hb => by
  rcases zr ha with ⟨i,t,rfl,rfl⟩ | ⟨x,t,rfl,rfl⟩
  ·rcases zr hb with ⟨j,u,rfl,e⟩ | ⟨y,u,rfl,e⟩
   ·injection e with e1 _;rw [e1]
   ·exact nomatch e
  ·rcases zr hb with ⟨j,u,rfl,e⟩ | ⟨y,u,rfl,e⟩
   ·exact nomatch e
   ·injection e with e1 _;rw [e1]
 byValue := fun k v h => by
  rcases zr h with ⟨i,t,rfl,rfl⟩ | ⟨x,t,rfl,rfl⟩ <;> rfl
 pyHash := fun hv h => by
  rcases zr hv with ⟨i,t,rfl,rfl⟩ | ⟨x,t,rfl,rfl⟩
  ·exact wpAny_pyHash_int h
  ·exact wpAny_pyHash_str h
 eqBool := fun hu hv h => by
  rcases zr hu with ⟨i,t,rfl,rfl⟩ | ⟨x,t,rfl,rfl⟩
  ·rcases zr hv with ⟨j,u,rfl,rfl⟩ | ⟨y,u,rfl,rfl⟩
   ·rw [qiV] at h;exact wpAny_eqBool_int h
   ·rw [qk7] at h;exact SeqAt.EqAt.int_str i t y u _ _ _ _ h
  ·rcases zr hv with ⟨j,u,rfl,rfl⟩ | ⟨y,u,rfl,rfl⟩
   ·rw [qip] at h;exact SeqAt.EqAt.str_int x t j u _ _ _ _ h
   ·rw [qml] at h;exact wpAny_eqBool_str h
 «strs» := fun k x t v h => by
  rcases zr h with ⟨i,u,rfl,e⟩ | ⟨y,u,rfl,e⟩
  ·exact nomatch e
  ·injection e with e1 _
   subst e1
   cases v <;> rfl
end L2
namespace L2
open PySem PySem.Spec PyProof.Rows
set_option genInjectivity true in
inductive V where
 | non | bl (b : Bool) | int (i : Int) | str (x : Str) | byt (b : Array UInt8) | flt (b : UInt64) | ref (a : Addr) | ty (n : String)
 deriving DecidableEq
def js : V → Value → Prop
 | .non,u => u = Value.none
 | .bl b,u => u = Value.bool b
 | .int i,u => ∃ t,u = Value.int i t
 | .str x,u => ∃ t,u = Value.str x t
 | .byt b,u => ∃ t,u = Value.bytes b t
 | .flt b,u => ∃ t,u = Value.float b t
 | .ref a,u => u = Value.ref a
 | .ty n,u => u = Value.type n
abbrev zO : List V → List Value → Prop := Paired js
theorem zO.length {xs : List V} {us : List Value} (r : zO xs us) : xs.length = us.length := Paired.length r
theorem zO.get : ∀ {xs : List V} {us : List Value} {i : Nat} {x : V},zO xs us → xs[i]? = some x → ∃ u,us[i]? = some u∧js x u
 | _,_,_,_,.nil,e => by simp at e
 | _,_,0,_,.cons r _,e => by simp at e;subst e;exact ⟨_,rfl,r⟩
 | _,_,i + 1,x,.cons _ t,e => by
  obtain ⟨u,h1,h2⟩ := zO.get (i := i) (x := x) t (by simpa using e)
  exact ⟨u,by simpa using h1,h2⟩
theorem zO.set {x : V} {u : Value} (r : js x u) : ∀ {xs : List V} {us : List Value} (i : Nat),zO xs us → zO (xs.set i x) (us.set i u)
 | _,_,_,.nil => .nil
 | _,_,0,.cons _ t => .cons r t
 | _,_,i + 1,.cons q t => .cons q (zO.set r i t)
theorem zO.append : ∀ {xs ys : List V} {us ws : List Value},zO xs us → zO ys ws → zO (xs ++ ys) (us ++ ws)
 | _,_,_,_,.nil,s => s
 | _,_,_,_,.cons r t,s => .cons r (zO.append t s)
theorem zO.take : ∀ {xs : List V} {us : List Value} (n : Nat),zO xs us → zO (xs.take n) (us.take n)
 | _,_,0,_ => .nil
 | _,_,_ + 1,.nil => .nil
 | _,_,n + 1,.cons r t => .cons r (zO.take n t)
theorem zO.drop : ∀ {xs : List V} {us : List Value} (n : Nat),zO xs us → zO (xs.drop n) (us.drop n)
 | _,_,0,r => r
 | _,_,_ + 1,.nil => .nil
 | _,_,n + 1,.cons _ t => zO.drop n t
def qpo : Option V → Option Value → Prop
 | some v,some u => js v u
 | none,none => True
 | _,_ => False
def KV {κ : Type} : List (κ × V) → List (κ × Value) → Prop := Paired fun (p : κ × V) (q : κ × Value) => p.1 = q.1∧js p.2 q.2
def kV : Key → V
 | .inl i => .int i
 | .inr x => .str x
inductive HO where
 /-- a list -/
 | lst (xs : List V)
 /-- a tuple (never changes) -/
 | tup (xs : List V)
 /-- a dict whose keys are ints and texts;one whose keys are tuples of ints and texts (the empty one is both) -/
 | dK (kvs : List (Key × V)) | dT (kvs : List (List Key × V))
 /-- a set of ints: its members,its size -/
 | set (S : Int → Bool) (n : Nat)
 /-- an instance of the class at C,its dict at dx,its attributes -/
 | ins (C dx : Addr) (fs : List (Str × V))
 /-- the dict of the instance at x -/
 | own (x : Addr)
 /-- the dict of an exception -/
 | xd (fs : List (Str × V))
 /-- a bound method,f of x -/
 | met (f x : Addr)
 /-- a range object lo,lo + 1,.. below hi -/
 | rng (lo hi : Int)
 /-- a thing that is known to the object (the script;a dict while a loop walks it): read,never written while it is so -/
 | frz (o : Obj) (u : HO)
 /-- a code object's table -/
 | tbl (ps : Array Value)
 /-- any other thing,by what is true of its one object (a def of one's own: SetO a S n := HO.ext fun h => ..) -/
 | ext (φ : Heap → Prop)
abbrev Hp := Addr → Option HO
def upd (H : Hp) (a : Addr) (o : HO) : Hp := fun b => if b = a then some o else H b
theorem zd {H : Hp} {a : Addr} {o : HO} : upd H a o a = some o := by unfold upd;rw [if_pos rfl]
theorem qC {H : Hp} {a b : Addr} {o : HO} (h : b ≠ a) : upd H a o b = H b := by unfold upd;rw [if_neg h]
theorem qw {H : Hp} {a b : Addr} {o : HO} (h : H a = some o) (h' : H b = none) : a ≠ b := by
 intro e;subst e;rw [h] at h';cases h'
section
variable (P : Program) (w : World)
def VN (H : Hp) (h : Heap) (a : Addr) : HO → Prop
 | .lst xs => xs.length ≤ sizeLine∧∃ (its : List Value) (n : Nat),zO xs its∧h.get? a = some { cls := .type "list",data := .seq its.toArray n }
 | .tup xs => xs.length ≤ sizeLine∧∃ its : List Value,zO xs its∧IsTup h a its.toArray
 | .dK kvs => kvs.length ≤ sizeLine∧(a == sysModules) = false∧∃ vs,KV kvs vs∧h.DictOf (qa8 P w) a vs
 | .dT kvs => kvs.length ≤ sizeLine∧(a == sysModules) = false∧∃ xs : List (List Key × Addr × Value),
   Paired (fun (p : List Key × V) (q : List Key × Addr × Value) => p.1 = q.1∧H q.2.1 = some (.tup (p.1.map kV))∧js p.2 q.2.2) kvs xs ∧
   ∃ o es ep,h.get? a = some o∧o.ExactDict∧o.data = .dict es ep∧es.toList = xs.map (entryOfKey (tupleKind (qa8 P w)))∧(xs.map (·.1)).Nodup
 | .set S n => h.SetOf (intKind P w) a S n
 | .ins C dx fs => H dx = some (.own a)∧fs.length ≤ 1000∧dx ≠ a∧h.get? a = some (PySem.W.instObj C dx) ∧
   ∃ mA,h.Ns1 dx mA∧(∀ f,qpo (fs.lookup f) (mA f))∧PySem.Within mA (fs.map (·.1))
 | .own _ => ∃ o,h.get? a = some o
 | .xd fs => ∃ mA,h.Ns1 a mA∧∀ f,qpo (fs.lookup f) (mA f)
 | .rng lo hi => ∃ t u v,h.get? a = some { cls := .type "range",data := .fields #[.int lo t,.int hi u,.int 1 v] }
 | .frz o u => h.get? a = some o∧VN H h a u
 | .tbl ps => h.get? a = some { cls := .none,data := .fields ps }
 | .met f x => h.get? a = some (PySem.W.methodObj (.ref f) (.ref x))
 | .ext φ => φ h∧(∃ o,h.get? a = some o)∧∀ h1 h2 : Heap,φ h1 → (∀ o,h1.get? a = some o → h2.get? a = some o) → φ h2
def HOk (H : Hp) (h : Heap) : Prop := ∀ a o,H a = some o → VN P w H h a o
end
section
variable {P : Program} {w : World} {H H' : Hp} {h h' : Heap} {a : Addr} {o : HO}
theorem VN.lt (x : VN P w H h a o) : a < h.objs.size := by
 cases o with
 | lst xs => obtain ⟨_,_,_,_,e⟩ := x;exact Heap.lt_size e
 | tup xs => obtain ⟨_,_,_,p⟩ := x;exact p.lt
 | dK kvs => obtain ⟨_,_,_,_,o,_,_,e,_⟩ := x;exact Heap.lt_size e
 | dT kvs => obtain ⟨_,_,_,_,o,_,_,e,_⟩ := x;exact Heap.lt_size e
 | set S n => obtain ⟨o,_,_,_,e,_⟩ := x;exact Heap.lt_size e
 | ins C dx fs => obtain ⟨_,_,_,e,_⟩ := x;exact Heap.lt_size e
 | own y => obtain ⟨_,e⟩ := x;exact Heap.lt_size e
 | xd fs => obtain ⟨_,⟨_,_,_,e,_⟩,_⟩ := x;exact Heap.lt_size e
 | rng lo hi => obtain ⟨_,_,_,e⟩ := x;exact Heap.lt_size e
 | frz ob u => obtain ⟨e,_⟩ := x;exact Heap.lt_size e
 | tbl ps => exact Heap.lt_size (show h.get? a = some _ from x)
 | met f y => exact Heap.lt_size (show h.get? a = some _ from x)
 | ext φ => obtain ⟨_,⟨_,e⟩,_⟩ := x;exact Heap.lt_size e
theorem Paired.mapP {α β : Type} {F G : α → β → Prop} : ∀ {l₁ : List α} {l₂ : List β},Paired F l₁ l₂ → (∀ a b,F a b → G a b) → Paired G l₁ l₂
 | _,_,.nil,_ => .nil
 | _,_,.cons r t,f => .cons (f _ _ r) (Paired.mapP t f)
theorem VN.stay (x : VN P w H h a o) (k : ∀ b u,(b = a ∨ H b = some (.own a)) → h.get? b = some u → h'.get? b = some u)
  (ho : ∀ b,H b = some (.own a) → H' b = some (.own a)) (ht : ∀ b xs,H b = some (.tup xs) → H' b = some (.tup xs)) : VN P w H' h' a o := by
 induction o with
 | lst xs => obtain ⟨z,its,n,r,e⟩ := x;exact ⟨z,its,n,r,k _ _ (.inl rfl) e⟩
 | tup xs => obtain ⟨z,its,r,ob,e,c⟩ := x;exact ⟨z,its,r,ob,k _ _ (.inl rfl) e,c⟩
 | dK kvs => obtain ⟨z,y,vs,r,ob,es,ep,e,c⟩ := x;exact ⟨z,y,vs,r,ob,es,ep,k _ _ (.inl rfl) e,c⟩
 | dT kvs =>
  obtain ⟨z,y,xs,r,ob,es,ep,e,c⟩ := x
  exact ⟨z,y,xs,Paired.mapP r fun p q z => ⟨z.1,ht _ _ z.2.1,z.2.2⟩,ob,es,ep,k _ _ (.inl rfl) e,c⟩
 | set S n => obtain ⟨ob,es,ep,t,e,c⟩ := x;exact ⟨ob,es,ep,t,k _ _ (.inl rfl) e,c⟩
 | ins C dx fs =>
  obtain ⟨d,z,ne,e,mA,⟨od,es,ep,e2,c⟩,r⟩ := x
  exact ⟨ho _ d,z,ne,k _ _ (.inl rfl) e,mA,⟨od,es,ep,k _ _ (.inr d) e2,c⟩,r⟩
 | own y => obtain ⟨ob,e⟩ := x;exact ⟨ob,k _ _ (.inl rfl) e⟩
 | xd fs => obtain ⟨mA,⟨od,es,ep,e,c⟩,r⟩ := x;exact ⟨mA,⟨od,es,ep,k _ _ (.inl rfl) e,c⟩,r⟩
 | rng lo hi => obtain ⟨t,u,v,e⟩ := x;exact ⟨t,u,v,k _ _ (.inl rfl) e⟩
 | frz ob u ih => obtain ⟨e,q⟩ := x;exact ⟨k _ _ (.inl rfl) e,ih q⟩
 | tbl ps =>
  have e : h.get? a = some { cls := .none,data := .fields ps } := x
  show h'.get? a = some { cls := .none,data := .fields ps }
  exact k a _ (.inl rfl) e
 | met f y =>
  have e : h.get? a = some (PySem.W.methodObj (.ref f) (.ref y)) := x
  show h'.get? a = some (PySem.W.methodObj (.ref f) (.ref y))
  exact k a _ (.inl rfl) e
 | ext φ => obtain ⟨p,⟨o,e⟩,st⟩ := x;exact ⟨st _ _ p fun o q => k _ _ (.inl rfl) q,⟨o,k _ _ (.inl rfl) e⟩,st⟩
theorem HOk.lt (x : HOk P w H h) (e : H a = some o) : a < h.objs.size := (x a o e).lt
theorem HOk.fresh (x : HOk P w H h) (e : h.objs.size ≤ a) : H a = none := by
 cases q : H a with
 | none => rfl
 | some u => exact absurd (Nat.lt_of_lt_of_le (x.lt q) e) (Nat.lt_irrefl _)
theorem HOk.kept (x : HOk P w H h) (k : ∀ b u,h.get? b = some u → h'.get? b = some u) : HOk P w H h' := fun a o e =>
 (x a o e).stay (fun b u _ q => k b u q) (fun _ q => q) fun _ _ q => q
theorem HOk.laid (x : HOk P w H h) (k : ∀ b u,h.get? b = some u → h'.get? b = some u) (hp : h.objs.size ≤ a) (new : VN P w (upd H a o) h' a o) : HOk P w (upd H a o) h' := fun b u e => by
 have hn := x.fresh hp
 by_cases hb : b = a
 ·subst hb;rw [zd] at e;cases e;exact new
 ·rw [qC hb] at e
  exact (x b u e).stay (fun c v _ q => k c v q) (fun c q => by rw [qC (qw q hn)];exact q) fun c xs q => by rw [qC (qw q hn)];exact q
end
def Rd (H : Hp) (a : Addr) (u : HO) : Prop := H a = some u ∨ ∃ o,H a = some (.frz o u)
theorem Rd.ok {P : Program} {w : World} {H : Hp} {h : Heap} {a : Addr} {u : HO} (r : Rd H a u) (x : HOk P w H h) : VN P w H h a u := by
 rcases r with r | ⟨o,r⟩
 ·exact x a u r
 ·obtain ⟨_,q⟩ := x a _ r
  exact q
def Mut : Option HO → Prop
 | some (.lst _) => True
 | some (.dK _) => True
 | some (.dT _) => True
 | some (.set _ _) => True
 | some (.ins _ _ _) => True
 | some (.ext _) => True
 | _ => False
section
variable {P : Program} {w : World} {H : Hp} {h h' : Heap} {x e : Addr} {o' : HO}
theorem HOk.write (ok : HOk P w H h) (mu : Mut (H x)) (he : e = x ∨ H e = some (.own x)) (k : ∀ b u,b ≠ e → h.get? b = some u → h'.get? b = some u) (heo : ∃ u,h'.get? e = some u)
  (new : VN P w (upd H x o') h' x o') : HOk P w (upd H x o') h' := fun b u q => by
 have nown : ∀ c y,H c = some (.own y) → c ≠ x := fun c y r z => by subst z;rw [r] at mu;exact mu
 have ntup : ∀ c xs,H c = some (.tup xs) → c ≠ x := fun c xs r z => by subst z;rw [r] at mu;exact mu
 by_cases hb : b = x
 ·subst hb;rw [zd] at q;cases q;exact new
 ·rw [qC hb] at q
  by_cases hbe : b = e
  ·have q' : H b = some (.own x) := by
    rcases he with z | z
    ·exact absurd (hbe.trans z) hb
    ·rw [hbe];exact z
   rw [q] at q';cases q'
   obtain ⟨v,hv⟩ := heo
   exact ⟨v,by rw [hbe];exact hv⟩
  ·refine (ok b u q).stay (fun c v hc r => k c v ?_ r) (fun c r => by rw [qC (nown c b r)];exact r) fun c xs r => by rw [qC (ntup c xs r)];exact r
   rcases hc with rfl | hc
   ·exact hbe
   ·rintro rfl
    rcases he with z | z
    ·exact nown c b hc z
    ·rw [hc] at z;cases z;exact hb rfl
end
structure Un (fs ex : List Addr) (H H' : Hp) (h h' : Heap) : Prop where
 keep : ∀ b o,h.get? b = some o → H b = none → b ∉ fs → b ∉ ex → h'.get? b = some o
 slot : ∀ b o,h.get? b = some o → H b = none → b ∈ fs → b ∉ ex → ∃ sl,h'.get? b = some { o with slots := sl }
 free : ∀ b o,h.get? b = some o → H b = none → b ∉ ex → H' b = none
 there : ∀ b o,h.get? b = some o → b ∉ ex → ∃ o',h'.get? b = some o'
 tups : ∀ b xs,H b = some (.tup xs) → H' b = some (.tup xs)
 frzs : ∀ b o u,H b = some (.frz o u) → H' b = some (.frz o u)
 tbls : ∀ b ps,H b = some (.tbl ps) → ∃ more,H' b = some (.tbl (ps ++ more))
section
variable {fs fs' ex ex' : List Addr} {H H1 H2 : Hp} {h h1 h2 h' : Heap} {a x e : Addr} {o : HO}
theorem Un.any (u : Un fs ex H H1 h h1) {b : Addr} {ob : Obj} (q : h.get? b = some ob) (n : H b = none) (hx : b ∉ ex) : ∃ sl,h1.get? b = some { ob with slots := sl } := by
 by_cases hb : b ∈ fs
 ·exact u.slot b ob q n hb hx
 ·exact ⟨ob.slots,u.keep b ob q n hb hx⟩
theorem Un.kept (k : ∀ b u,h.get? b = some u → h'.get? b = some u) : Un fs ex H H h h' :=
 ⟨fun b ob q _ _ _ => k b ob q,fun b ob q _ _ _ => ⟨ob.slots,k b ob q⟩,fun _ _ _ n _ => n,fun b ob q _ => ⟨ob,k b ob q⟩,fun _ _ q => q,fun _ _ _ q => q,fun _ ps q => ⟨#[],by rw [q];simp⟩⟩
theorem Un.refl : Un fs ex H H h h := Un.kept fun _ _ q => q
theorem Un.laid (k : ∀ b u,h.get? b = some u → h'.get? b = some u) (hp : h.objs.size ≤ a) (hn : H a = none) : Un fs ex H (upd H a o) h h' where
 keep := fun b u q _ _ _ => k b u q
 slot := fun b u q _ _ _ => ⟨u.slots,k b u q⟩
 free := fun b u q n _ => by rw [qC (Nat.ne_of_lt (Nat.lt_of_lt_of_le (Heap.lt_size q) hp))];exact n
 there := fun b u q _ => ⟨u,k b u q⟩
 tups := fun b xs q => by rw [qC (qw q hn)];exact q
 frzs := fun b u xs q => by rw [qC (qw q hn)];exact q
 tbls := fun b ps q => ⟨#[],by rw [qC (qw q hn),q];simp⟩
theorem Un.write (mu : Mut (H x)) (he : e = x ∨ H e = some (.own x)) (k : ∀ b u,b ≠ e → h.get? b = some u → h'.get? b = some u) (heo : ∃ u,h'.get? e = some u) : Un fs ex H (upd H x o) h h' := by
 have hx : ∀ b,H b = none → b ≠ x := fun b n z => by subst z;rw [n] at mu;exact mu
 have hb : ∀ b,H b = none → b ≠ e := fun b n z => by
  subst z
  rcases he with r | r
  ·exact hx b n r
  ·rw [n] at r;cases r
 have hm : ∀ b u,H b = some u → ¬ Mut (some u) → b ≠ x := fun b u q nm z => by subst z;rw [q] at mu;exact nm mu
 refine ⟨fun b u q n _ _ => k b u (hb b n) q,fun b u q n _ _ => ⟨u.slots,k b u (hb b n) q⟩,fun b u q n _ => by rw [qC (hx b n)];exact n,fun b u q _ => ?_,
  fun b xs q => by rw [qC (hm b _ q fun z => z)];exact q,fun b u xs q => by rw [qC (hm b _ q fun z => z)];exact q,fun b ps q => ⟨#[],by rw [qC (hm b _ q fun z => z),q];simp⟩⟩
 by_cases hbe : b = e
 ·subst hbe;exact heo
 ·exact ⟨u,k b u hbe q⟩
end
def trk (h : Heap) (H : Hp) : List Addr := (List.range h.objs.size).filter fun a => (H a).isSome
def qcC (h : Heap) (H : Hp) : Heap := PySem.W.hideAll h (trk h H)
theorem qbW (h : Heap) (H : Hp) : (qcC h H).objs.size = h.objs.size := PySem.W.hideAll_size _ _
theorem qdy {h : Heap} {H : Hp} {b : Addr} {o : Obj} (e : h.get? b = some o) (n : H b = none) : (qcC h H).get? b = some o :=
 PySem.W.hideAll_get _ e fun hm => by
  have q : (H b).isSome = true := (List.mem_filter.mp hm).2
  rw [n] at q;simp at q
theorem qgs {h : Heap} {H : Hp} {b : Addr} {o : Obj} (e : (qcC h H).get? b = some o) : h.get? b = some o∧H b = none := by
 have e' : h.get? b = some o := PySem.W.of_hideAll (trk h H) e
 refine ⟨e',?_⟩
 cases q : H b with
 | none => rfl
 | some x =>
  have hm : b ∈ trk h H := List.mem_filter.mpr ⟨List.mem_range.mpr (Heap.lt_size e'),by simp [q]⟩
  have z : (qcC h H).get? b = none := PySem.W.hideAll_none (trk h H) hm
  rw [z] at e;cases e
def qf3 (g h : Heap) (L : Addr) : List (Addr × Obj) := (List.range h.objs.size).filterMap fun a => if a = L ∨ (g.get? a).isSome = true then none else (h.get? a).map fun o => (a,o)
def ZJ (g h : Heap) (L d : Addr) : List (Addr × Obj) := (qf3 g h L).filter fun p => decide (p.1 ≠ d)
end L2
namespace L2
open PySem PySem.Spec PyProof.Rows
structure Mod (K : PySem.W.Frag) (mg : Str → Option Value) (base : Heap) : Prop where
 kin : K.In base
 glob : base.Ns mainGlobals mg
 blt : ∃ mb,base.Ns builtinsNs mb∧∀ x : Str,x ≠ "__name__" → mb x = bootBuiltins x
 nolimit : base.NoLimit
structure Cx where
 prog : Program
 w : World
 K : PySem.W.Frag
 mg : Str → Option Value
 base : Heap
 A : Around
 N : List Str
 s₀ : Shared
 H₀ : Hp
 env : Env
 outer : List Env
 stack : List Env
 ex : List Addr
 fn : Str → Bool
 calm : Bool
 pn : List (Addr × Obj)
 xe : Value → Shared → Prop
def frs (l : List Env) : List Addr := l.filterMap (·.frame)
abbrev Cx.fs (X : Cx) : List Addr := frs X.outer
def Vis (sc : Scope) (x : Str) : Prop := sc.names.lookup x = some .local ∨ sc.names.lookup x = some .cell ∨ sc.names.lookup x = some .free
def Loc (sc : Scope) (x : Str) : Prop := sc.names.lookup x = some .local ∨ sc.names.lookup x = some .cell
def qpv (env : Env) (h : Heap) (m : Str → Option Value) (x : Str) (u : Value) : Prop :=
 (env.kindOf x = some .local∧m x = some u) ∨ ((env.kindOf x = some .cell ∨ env.kindOf x = some .free)∧∃ c,env.cells.lookup x = some c∧h.IsCell c (some u))
structure Cx.Ok (X : Cx) : Prop where
 mod : Mod X.K X.mg X.base
 kind : X.env.scope.kind = .function
 glob : X.env.globals = mainGlobals
 blt : X.env.builtins = builtinsNs
 above : X.s₀.heap.objs.size ≤ X.env.locals
 inj : ∀ x y c,X.env.cells.lookup x = some c → X.env.cells.lookup y = some c → x = y
 has : ∀ x,(X.env.kindOf x = some .cell ∨ X.env.kindOf x = some .free) → ∃ c,X.env.cells.lookup x = some c
 cab : ∀ x c,X.fn x = true → X.env.cells.lookup x = some c → X.s₀.heap.objs.size ≤ c
 hd : X.calm = true → X.A.handled = none
 frames : X.A.frames = some X.stack
 stk : X.stack = X.outer ∨ (X.stack = X.env :: X.outer∧X.env.frame = some X.env.locals)
 exf : ∀ b ∈ X.ex,b ≠ X.env.locals∧∀ x c,X.env.cells.lookup x = some c → c ≠ b
 bs : ∀ b o,X.base.get? b = some o → X.s₀.heap.get? b = some o∧X.H₀ b = none
 bsz : X.base.objs.size ≤ X.s₀.heap.objs.size
 noex : ∀ b o,X.base.get? b = some o → b ∉ X.ex
 exfs : ∀ b ∈ X.ex,b ∉ X.fs
 funs : X.s₀.heap.FunFrames X.base X.outer
 frf : ∀ b ∈ X.fs,X.H₀ b = none
structure Inv (X : Cx) (pins : List (Addr × Obj)) (σ : List (Option V)) (H : Hp) (s : Shared) : Prop where
 ok : X.Ok
 os : s.os = X.s₀.os
 bare : AllBare s.gens
 base : Un X.fs X.ex X.H₀ H X.s₀.heap s.heap
 loc : ∃ m,s.heap.Ns X.env.locals m∧∀ (i : Nat) (x : Str) (v : V),X.N[i]? = some x → σ[i]? = some (some v) → Vis X.env.scope x → ∃ u,js v u∧qpv X.env s.heap m x u
 cell : ∀ x c,X.env.cells.lookup x = some c → ∃ v,s.heap.IsCell c v
 free : H X.env.locals = none
 freeC : ∀ x c,X.env.cells.lookup x = some c → H c = none
 pin : ∀ p ∈ X.pn ++ pins,s.heap.get? p.1 = some p.2∧H p.1 = none∧p.1 ≠ X.env.locals∧p.1 ∉ X.fs∧∀ v,p.2.data ≠ .cell v
 hok : HOk X.prog X.w H s.heap
 len : σ.length = X.N.length
section
variable {X : Cx} {pins : List (Addr × Obj)} {σ : List (Option V)} {H H' : Hp} {s : Shared} {h' : Heap}
theorem Cx.Ok.nofr (ok : X.Ok) {b : Addr} {o : Obj} (e : X.base.get? b = some o) : b ∉ X.fs := fun hb => by
 have := (ok.funs.mem hb).1
 rw [e] at this;cases this
theorem Inv.bs (I : Inv X pins σ H s) : ∀ b o,X.base.get? b = some o → s.heap.get? b = some o∧H b = none := fun b o e =>
 ⟨I.base.keep b o (I.ok.bs b o e).1 (I.ok.bs b o e).2 (I.ok.nofr e) (I.ok.noex b o e),I.base.free b o (I.ok.bs b o e).1 (I.ok.bs b o e).2 (I.ok.noex b o e)⟩
theorem Inv.bk (I : Inv X pins σ H s) : ∀ b o,X.base.get? b = some o → s.heap.get? b = some o := fun b o e => (I.bs b o e).1
theorem Inv.mod (I : Inv X pins σ H s) : Mod X.K X.mg X.base := I.ok.mod
theorem Inv.kIn (I : Inv X pins σ H s) : X.K.In s.heap := I.ok.mod.kin.keeps I.bk
theorem Inv.nolimit (I : Inv X pins σ H s) : s.heap.NoLimit := I.ok.mod.nolimit.keeps I.bk
theorem Inv.fr (I : Inv X pins σ H s) : ∃ m,Fr X.base X.env.locals s.heap m :=
 let ⟨m,hn,_⟩ := I.loc
 ⟨m,hn,I.bk,Nat.le_trans I.ok.bsz I.ok.above⟩
theorem Inv.lt (I : Inv X pins σ H s) : X.env.locals < s.heap.objs.size := let ⟨_,hn,_⟩ := I.loc;hn.lt
theorem Inv.sz (I : Inv X pins σ H s) : X.s₀.heap.objs.size ≤ s.heap.objs.size := Nat.le_trans I.ok.above (Nat.le_of_lt I.lt)
theorem Inv.nofs (I : Inv X pins σ H s) {a : Addr} (h : s.heap.objs.size ≤ a) : a ∉ X.fs := fun hb => by
 obtain ⟨_,o,ho,_⟩ := I.ok.funs.mem hb
 exact absurd (Nat.lt_of_lt_of_le (Heap.lt_size ho) (Nat.le_trans I.sz h)) (Nat.lt_irrefl _)
theorem Inv.cne (I : Inv X pins σ H s) : ∀ x c,X.env.cells.lookup x = some c → c ≠ X.env.locals := fun x c e z => by
 obtain ⟨v,o,ho,hd⟩ := I.cell x c e
 obtain ⟨m,⟨o',es,ep,ho',hd',_⟩,_⟩ := I.loc
 rw [z,ho'] at ho;cases ho;rw [hd'] at hd;cases hd
theorem Inv.funs (I : Inv X pins σ H s) : s.heap.FunFrames X.base X.outer := by
 have all : ∀ (l : List Env),(∀ b ∈ frs l,b ∈ X.fs) → X.s₀.heap.FunFrames X.base l → s.heap.FunFrames X.base l := by
  intro l
  induction l with
  | nil => intro _ _;trivial
  | cons env r ih =>
   intro hs hl
   obtain ⟨hk,⟨L,o,hf,hn,ho,hd⟩,hr⟩ := hl
   have hL : L ∈ X.fs := hs L (by unfold frs;rw [List.filterMap_cons,hf];exact List.mem_cons_self)
   obtain ⟨sl,e⟩ := I.base.slot L o ho (I.ok.frf L hL) hL fun z => I.ok.exfs L z hL
   exact ⟨hk,⟨L,_,hf,hn,e,hd⟩,ih (fun b hb => hs b (by unfold frs;rw [List.filterMap_cons,hf];exact List.mem_cons_of_mem _ hb)) hr⟩
 exact all X.outer (fun _ hb => hb) I.ok.funs
theorem Inv.stack (I : Inv X pins σ H s) : s.heap.FunFrames X.base X.stack := by
 rcases I.ok.stk with e | ⟨e,hf⟩
 ·rw [e];exact I.funs
 ·rw [e]
  obtain ⟨m,hn,_⟩ := I.loc
  refine .cons (by rw [I.ok.kind];decide) hf hn ?_ I.funs
  exact Heap.get?_none_of_le (Nat.le_trans I.ok.bsz I.ok.above)
theorem Inv.stkSub (I : Inv X pins σ H s) : ∀ b ∈ frs X.stack,b ∈ X.env.locals :: X.fs := fun b hb => by
 rcases I.ok.stk with e | ⟨e,hf⟩
 ·rw [e] at hb;exact List.mem_cons_of_mem _ hb
 ·rw [e] at hb
  unfold frs at hb
  rw [List.filterMap_cons,hf] at hb
  exact hb
theorem Inv.stkFree (I : Inv X pins σ H s) : ∀ b ∈ frs X.stack,H b = none := fun b hb => by
 rcases List.mem_cons.mp (I.stkSub b hb) with e | hb
 ·rw [e];exact I.free
 ·obtain ⟨_,o,ho,_⟩ := I.ok.funs.mem hb
  exact I.base.free b o ho (I.ok.frf b hb) fun z => I.ok.exfs b z hb
theorem Inv.step {g' : Array GenState} {t' : Nat} {d' : Drawn} {ch : List Addr} (I : Inv X pins σ H s)
  (hch : ∀ b ∈ ch,(b ∈ X.ex ∨ X.s₀.heap.objs.size ≤ b)∧b ≠ X.env.locals∧(∀ x c,X.env.cells.lookup x = some c → c ≠ b)∧∀ p ∈ X.pn ++ pins,p.1 ≠ b)
  (keep : ∀ b o,b ≠ X.env.locals → b ∉ X.fs → b ∉ ch → s.heap.get? b = some o → H b = none → h'.get? b = some o)
  (slot : ∀ b o,b ≠ X.env.locals → b ∈ X.fs → b ∉ ch → s.heap.get? b = some o → H b = none → ∃ sl,h'.get? b = some { o with slots := sl }) (free : ∀ b o,b ∉ ch → s.heap.get? b = some o → H b = none → H' b = none)
  (there : ∀ b o,b ∉ ch → s.heap.get? b = some o → ∃ o',h'.get? b = some o')
  (tups : ∀ b xs,H b = some (.tup xs) → H' b = some (.tup xs)) (frzs : ∀ b o u,H b = some (.frz o u) → H' b = some (.frz o u)) (tbls : ∀ b ps,H b = some (.tbl ps) → ∃ more,H' b = some (.tbl (ps ++ more)))
  (ns : ∀ m,s.heap.Ns X.env.locals m → h'.Ns X.env.locals m) (hok : HOk X.prog X.w H' h') (hg : AllBare g') :
  Inv X pins σ H' { s with heap := h',gens := g',drawn := d',toks := t' } := by
 have neL : ∀ b o,X.s₀.heap.get? b = some o → b ≠ X.env.locals := fun b o e => Nat.ne_of_lt (Nat.lt_of_lt_of_le (Heap.lt_size e) I.ok.above)
 have neC : ∀ b o,X.s₀.heap.get? b = some o → b ∉ X.ex → b ∉ ch := fun b o e hx hb => by
  rcases (hch b hb).1 with z | z
  ·exact hx z
  ·exact absurd (Nat.lt_of_lt_of_le (Heap.lt_size e) z) (Nat.lt_irrefl _)
 have cellK : ∀ x c,X.env.cells.lookup x = some c → ∀ v,s.heap.IsCell c v → h'.IsCell c v := fun x c e v ⟨o,ho,hd⟩ => by
  have nch : c ∉ ch := fun z => (hch c z).2.2.1 x c e rfl
  by_cases hc : c ∈ X.fs
  ·obtain ⟨sl,q⟩ := slot c o (I.cne x c e) hc nch ho (I.freeC x c e)
   exact ⟨_,q,hd⟩
  ·exact ⟨o,keep c o (I.cne x c e) hc nch ho (I.freeC x c e),hd⟩
 refine ⟨I.ok,I.os,hg,⟨fun b o e n hb hx => ?_,fun b o e n hb hx => ?_,fun b o e n hx => ?_,fun b o e hx => ?_,fun b xs e => tups b xs (I.base.tups b xs e),fun b o xs e => frzs b o xs (I.base.frzs b o xs e),fun b ps e => ?_⟩,?_,fun x c e => ?_,?_,fun x c e => ?_,fun p hp => ?_,hok,I.len⟩
 ·exact keep b o (neL b o e) hb (neC b o e hx) (I.base.keep b o e n hb hx) (I.base.free b o e n hx)
 ·obtain ⟨sl,e1⟩ := I.base.slot b o e n hb hx
  obtain ⟨sl',e2⟩ := slot b _ (neL b o e) hb (neC b o e hx) e1 (I.base.free b o e n hx)
  exact ⟨sl',e2⟩
 ·obtain ⟨o',e1⟩ := I.base.there b o e hx
  exact free b o' (neC b o e hx) e1 (I.base.free b o e n hx)
 ·obtain ⟨o',e1⟩ := I.base.there b o e hx
  exact there b o' (neC b o e hx) e1
 ·obtain ⟨m1,e1⟩ := I.base.tbls b ps e
  obtain ⟨m2,e2⟩ := tbls b _ e1
  exact ⟨m1 ++ m2,by rw [e2,Array.append_assoc]⟩
 ·obtain ⟨m,hn,hl⟩ := I.loc
  refine ⟨m,ns m hn,fun i x v e1 e2 e3 => ?_⟩
  obtain ⟨u,r,l⟩ := hl i x v e1 e2 e3
  refine ⟨u,r,?_⟩
  rcases l with l | ⟨k,c,e,z⟩
  ·exact .inl l
  ·exact .inr ⟨k,c,e,cellK x c e _ z⟩
 ·obtain ⟨v,z⟩ := I.cell x c e
  exact ⟨v,cellK x c e v z⟩
 ·obtain ⟨m,⟨o,_,_,ho,_⟩,_⟩ := I.loc
  exact free _ o (fun z => (hch _ z).2.1 rfl) ho I.free
 ·obtain ⟨v,o,ho,hd⟩ := I.cell x c e
  exact free c o (fun z => (hch c z).2.2.1 x c e rfl) ho (I.freeC x c e)
 ·obtain ⟨e,n,ne,nf,d⟩ := I.pin p hp
  have nch : p.1 ∉ ch := fun z => (hch p.1 z).2.2.2 p hp rfl
  exact ⟨keep p.1 p.2 ne nf nch e n,free p.1 p.2 nch e n,ne,nf,d⟩
theorem Inv.un {t' : Nat} (I : Inv X pins σ H s) (u : Un X.fs [] H H' s.heap h') (hok : HOk X.prog X.w H' h') : Inv X pins σ H' { s with heap := h',toks := t' } := by
 obtain ⟨m,⟨o,es,ep,ho,r⟩,_⟩ := id I.loc
 obtain ⟨sl,hL⟩ := u.any ho I.free (by simp)
 exact I.step (g' := s.gens) (d' := s.drawn) (ch := []) (fun _ z => nomatch z) (fun b o _ hb _ e n => u.keep b o e n hb (by simp)) (fun b o _ hb _ e n => u.slot b o e n hb (by simp)) (fun b o _ e n => u.free b o e n (by simp)) (fun b o _ e => u.there b o e (by simp)) u.tups u.frzs u.tbls (fun m' hm => by
  obtain ⟨o',es',ep',ho',r'⟩ := hm
  rw [ho] at ho';cases ho'
  exact ⟨_,es',ep',hL,r'⟩) hok I.bare
theorem Inv.call {g' : Array GenState} {t' : Nat} {d' : Drawn} {ch : List Addr} (I : Inv X pins σ H s) (u : Un (frs X.stack) ch H H' s.heap h') (hok : HOk X.prog X.w H' h') (hg : AllBare g')
  (hch : ∀ b ∈ ch,(b ∈ X.ex ∨ X.s₀.heap.objs.size ≤ b)∧b ≠ X.env.locals∧(∀ x c,X.env.cells.lookup x = some c → c ≠ b)∧∀ p ∈ X.pn ++ pins,p.1 ≠ b) :
  Inv X pins σ H' { s with heap := h',gens := g',drawn := d',toks := t' } := by
 obtain ⟨m,⟨o,es,ep,ho,r⟩,_⟩ := id I.loc
 obtain ⟨sl,hL⟩ := u.any ho I.free fun z => (hch _ z).2.1 rfl
 exact I.step (ch := ch) hch (fun b o hL hb hc e n => u.keep b o e n (fun z => (List.mem_cons.mp (I.stkSub b z)).elim hL hb) hc) (fun b o _ _ hc e n => u.any e n hc) (fun b o hc e n => u.free b o e n hc) (fun b o hc e => u.there b o e hc) u.tups u.frzs u.tbls (fun m' hm => by
  obtain ⟨o',es',ep',ho',r'⟩ := hm
  rw [ho] at ho';cases ho'
  exact ⟨_,es',ep',hL,r'⟩) hok hg
theorem Inv.turned {t' : Nat} {it : Addr} (I : Inv X pins σ H s) (k : ∀ b o,b ≠ it → s.heap.get? b = some o → h'.get? b = some o) (hn : H it = none) (hL : it ≠ X.env.locals)
  (h1 : it ∈ X.ex ∨ X.s₀.heap.objs.size ≤ it) (h2 : ∀ x c,X.env.cells.lookup x = some c → c ≠ it) (h3 : ∀ p ∈ X.pn ++ pins,p.1 ≠ it) : Inv X pins σ H { s with heap := h',toks := t' } := by
 have nit : ∀ b u,H b = some u → b ≠ it := fun b u e z => by rw [z,hn] at e;cases e
 refine I.step (g' := s.gens) (d' := s.drawn) (ch := [it]) (fun b hb => ?_) (fun b o _ _ hc e _ => k b o (fun z => hc (by simp [z])) e) (fun b o _ _ hc e _ => ⟨o.slots,k b o (fun z => hc (by simp [z])) e⟩) (fun _ _ _ _ n => n)
  (fun b o hc e => ⟨o,k b o (fun z => hc (by simp [z])) e⟩) (fun _ _ e => e) (fun _ _ _ e => e) (fun b ps e => ⟨#[],by rw [e];simp⟩) (fun m hm => ?_) (fun b u e => ?_) I.bare
 ·have e : b = it := by simpa using hb
  subst e
  exact ⟨h1,hL,h2,h3⟩
 ·obtain ⟨o,es,ep,ho,r⟩ := hm
  exact ⟨o,es,ep,k _ o (Ne.symm hL) ho,r⟩
 ·refine (I.hok b u e).stay (fun c v hc q => k c v ?_ q) (fun _ q => q) fun _ _ q => q
  rcases hc with z | z
  ·rw [z];exact nit b u e
  ·exact nit c _ z
theorem Inv.tok (I : Inv X pins σ H s) (t : Nat) : Inv X pins σ H { s with toks := t } := I.un (h' := s.heap) (t' := t) Un.refl I.hok
theorem Inv.kept {t' : Nat} (I : Inv X pins σ H s) (k : ∀ b u,s.heap.get? b = some u → h'.get? b = some u) : Inv X pins σ H { s with heap := h',toks := t' } := I.un (Un.kept k) (I.hok.kept k)
theorem Inv.laid {a : Addr} {o : HO} {t' : Nat} (I : Inv X pins σ H s) (k : ∀ b u,s.heap.get? b = some u → h'.get? b = some u) (hp : s.heap.objs.size ≤ a) (new : VN X.prog X.w (upd H a o) h' a o) :
  Inv X pins σ (upd H a o) { s with heap := h',toks := t' } := I.un (Un.laid k hp (I.hok.fresh hp)) (I.hok.laid k hp new)
theorem Inv.write {x e : Addr} {o : HO} {t' : Nat} (I : Inv X pins σ H s) (mu : Mut (H x)) (he : e = x ∨ H e = some (.own x)) (k : ∀ b u,b ≠ e → s.heap.get? b = some u → h'.get? b = some u) (heo : ∃ u,h'.get? e = some u)
  (new : VN X.prog X.w (upd H x o) h' x o) : Inv X pins σ (upd H x o) { s with heap := h',toks := t' } := I.un (Un.write mu he k heo) (I.hok.write mu he k heo new)
theorem Inv.pins_of {pins' : List (Addr × Obj)} (I : Inv X pins σ H s) (h : ∀ p ∈ pins',s.heap.get? p.1 = some p.2∧H p.1 = none∧p.1 ≠ X.env.locals∧p.1 ∉ X.fs∧∀ v,p.2.data ≠ .cell v) : Inv X pins' σ H s :=
 ⟨I.ok,I.os,I.bare,I.base,I.loc,I.cell,I.free,I.freeC,fun p hp => (List.mem_append.mp hp).elim (fun z => I.pin p (List.mem_append_left _ z)) (h p),I.hok,I.len⟩
theorem M9 {N : List Str} (hN : N.Nodup) {i j : Nat} {x : Str} (a : N[i]? = some x) (b : N[j]? = some x) : i = j := by
 obtain ⟨h1,e1⟩ := List.getElem?_eq_some_iff.mp a
 obtain ⟨h2,e2⟩ := List.getElem?_eq_some_iff.mp b
 exact (List.getElem_inj hN).mp (e1.trans e2.symm)
theorem SM {M : Model} {A : Around} {E : Value → Shared → Prop} {i : Nat} {x : Str} {v : V} {u : Value} {Q : Unit → Shared → Prop} (I : Inv X pins σ H s) (hN : X.N.Nodup) (hi : X.N[i]? = some x) (hx : Loc X.env.scope x) (r : js v u)
  (h : ∀ s',Inv X pins (σ.set i (some v)) H s' → (∃ a,Heap.SameBut a s.heap s'.heap∧(a = X.env.locals ∨ X.env.cells.lookup x = some a)) → Q () s') (hf : X.fn x = true ∨ X.env.scope.names.lookup x = some .local := by first | exact .inl rfl | exact .inr rfl | assumption) : wpAny M A (storeName X.env x u) Q E s := by
 obtain ⟨m,hn,hl⟩ := id I.loc
 have hcls : (X.env.scope.kind == .class || (X.env.scope.kind == .module && X.env.locals != X.env.globals)) = false := by rw [I.ok.kind];rfl
 have hiσ : i < σ.length := by rw [I.len];exact (List.getElem?_eq_some_iff.mp hi).1
 have cne := I.cne
 have tracked : ∀ {a : Addr} {h' : Heap},(∃ o,s.heap.get? a = some o∧H a = none) → Heap.SameBut a s.heap h' → HOk X.prog X.w H h' := fun {a h'} ha hs b ob e => by
  obtain ⟨_,_,hfree⟩ := ha
  refine (I.hok b ob e).stay (fun c w' hc q => (hs.2 c ?_).trans q) (fun _ q => q) fun _ _ q => q
  rintro rfl
  rcases hc with rfl | hc
  ·rw [hfree] at e;cases e
  ·rw [hfree] at hc;cases hc
 rcases hx with hk | hk
 ·refine wpAny_storeName_local hk hn (fun h' hn' hs => ?_) hcls
  obtain ⟨oL,_,_,hoL,_⟩ := id hn
  refine h _ ⟨I.ok,I.os,I.bare,⟨fun b o e n hb hx => ?_,fun b o e n hb hx => ?_,I.base.free,fun b o e hx => ?_,I.base.tups,I.base.frzs,I.base.tbls⟩,⟨_,hn',fun j y v' e1 e2 e3 => ?_⟩,fun y c e => ?_,I.free,I.freeC,fun p hp => ?_,tracked ⟨oL,hoL,I.free⟩ hs,by simpa using I.len⟩ ⟨_,hs,.inl rfl⟩
  ·exact (hs.2 b (Nat.ne_of_lt (Nat.lt_of_lt_of_le (Heap.lt_size e) I.ok.above))).trans (I.base.keep b o e n hb hx)
  ·obtain ⟨sl,e1⟩ := I.base.slot b o e n hb hx
   exact ⟨sl,(hs.2 b (Nat.ne_of_lt (Nat.lt_of_lt_of_le (Heap.lt_size e) I.ok.above))).trans e1⟩
  ·obtain ⟨o',e1⟩ := I.base.there b o e hx
   exact ⟨o',(hs.2 b (Nat.ne_of_lt (Nat.lt_of_lt_of_le (Heap.lt_size e) I.ok.above))).trans e1⟩
  ·by_cases hj : j = i
   ·subst hj
    rw [hi] at e1;cases e1
    rw [List.getElem?_set_self hiσ] at e2
    cases e2
    exact ⟨u,r,.inl ⟨hk,by simp⟩⟩
   ·rw [List.getElem?_set_ne (Ne.symm hj)] at e2
    obtain ⟨u',r',q⟩ := hl j y v' e1 e2 e3
    refine ⟨u',r',?_⟩
    rcases q with ⟨k,e⟩ | ⟨k,c,e,z⟩
    ·refine .inl ⟨k,?_⟩
     have : y ≠ x := fun e => hj (M9 hN e1 (e ▸ hi))
     simp [this,e]
    ·exact .inr ⟨k,c,e,z.sameBut hs (cne y c e)⟩
  ·obtain ⟨w',z⟩ := I.cell y c e
   exact ⟨w',z.sameBut hs (cne y c e)⟩
  ·obtain ⟨e,n,ne,nf,d⟩ := I.pin p hp
   exact ⟨(hs.2 p.1 ne).trans e,n,ne,nf,d⟩
 ·have hfn : X.fn x = true := by
   rcases hf with z | z
   ·exact z
   ·rw [z] at hk;cases hk
  obtain ⟨c,hc⟩ := I.ok.has x (.inl hk)
  obtain ⟨w',z⟩ := I.cell x c hc
  refine wpAny_storeName_cell I.ok.kind hk hc z (fun h' hc' hs => ?_)
  obtain ⟨oc,hoc,hocd⟩ := id z
  refine h { s with heap := h' } ⟨I.ok,I.os,I.bare,⟨fun b o e n hb hx => ?_,fun b o e n hb hx => ?_,I.base.free,fun b o e hx => ?_,I.base.tups,I.base.frzs,I.base.tbls⟩,⟨m,hn.sameBut hs (Ne.symm (cne x c hc)),fun j y v' e1 e2 e3 => ?_⟩,fun y c' e => ?_,I.free,I.freeC,fun p hp => ?_,tracked ⟨oc,hoc,I.freeC x c hc⟩ hs,by simpa using I.len⟩ ⟨c,hs,.inr hc⟩
  ·exact (hs.2 b (Nat.ne_of_lt (Nat.lt_of_lt_of_le (Heap.lt_size e) (I.ok.cab x c hfn hc)))).trans (I.base.keep b o e n hb hx)
  ·obtain ⟨sl,e1⟩ := I.base.slot b o e n hb hx
   exact ⟨sl,(hs.2 b (Nat.ne_of_lt (Nat.lt_of_lt_of_le (Heap.lt_size e) (I.ok.cab x c hfn hc)))).trans e1⟩
  ·obtain ⟨o',e1⟩ := I.base.there b o e hx
   exact ⟨o',(hs.2 b (Nat.ne_of_lt (Nat.lt_of_lt_of_le (Heap.lt_size e) (I.ok.cab x c hfn hc)))).trans e1⟩
  ·by_cases hj : j = i
   ·subst hj
    rw [hi] at e1;cases e1
    rw [List.getElem?_set_self hiσ] at e2
    cases e2
    exact ⟨u,r,.inr ⟨.inl hk,c,hc,hc'⟩⟩
   ·rw [List.getElem?_set_ne (Ne.symm hj)] at e2
    obtain ⟨u',r',q⟩ := hl j y v' e1 e2 e3
    refine ⟨u',r',?_⟩
    rcases q with q | ⟨k,c',e,z'⟩
    ·exact .inl q
    ·refine .inr ⟨k,c',e,z'.sameBut hs ?_⟩
     rintro rfl
     exact hj (M9 hN e1 (I.ok.inj _ _ _ e hc ▸ hi))
  ·by_cases hcc : c' = c
   ·subst hcc;exact ⟨_,hc'⟩
   ·obtain ⟨w2,z2⟩ := I.cell y c' e
    exact ⟨w2,z2.sameBut hs hcc⟩
  ·obtain ⟨e,n,ne,nf,d⟩ := I.pin p hp
   refine ⟨(hs.2 p.1 ?_).trans e,n,ne,nf,d⟩
   intro q
   rw [q,hoc] at e
   have q' : oc = p.2 := Option.some.inj e
   exact d w' (by rw [← q'];exact hocd)
theorem DB {M : Model} {A : Around} {E : Value → Shared → Prop} {i : Nat} {x : Str} {v : V} {u : Value} {Q : Unit → Shared → Prop} (I : Inv X pins σ H s) (hN : X.N.Nodup) (hi : X.N[i]? = some x) (hx : Loc X.env.scope x) (r : js v u)
  (h : ∀ s',Inv X pins (σ.set i (some v)) H s' → Q () s') (hf : X.fn x = true ∨ X.env.scope.names.lookup x = some .local := by first | exact .inl rfl | exact .inr rfl | assumption) : wpAny M A (storeName X.env x u) Q E s :=
 SM I hN hi hx r (fun s' I' _ => h s' I') hf
theorem Inv.call' {s' : Shared} {ch : List Addr} (I : Inv X pins σ H s) (ho : s'.os = s.os) (u : Un (frs X.stack) ch H H' s.heap s'.heap) (hok : HOk X.prog X.w H' s'.heap) (hg : AllBare s'.gens)
  (hch : ∀ b ∈ ch,(b ∈ X.ex ∨ X.s₀.heap.objs.size ≤ b)∧b ≠ X.env.locals∧(∀ x c,X.env.cells.lookup x = some c → c ≠ b)∧∀ p ∈ X.pn ++ pins,p.1 ≠ b) : Inv X pins σ H' s' := by
 obtain ⟨h',g',d',t',o'⟩ := s'
 have e : o' = s.os := ho
 subst e
 exact I.call (g' := g') (t' := t') (d' := d') u hok hg hch
end
abbrev XK := Value → Option Addr → Hp → Prop
abbrev St := List (Option V)
abbrev VK := V → Hp → Prop
abbrev TE := St → Hp → VK → Prop
abbrev TT := St → Hp → (Bool → Hp → Prop) → Prop
abbrev TA := St → Hp → (List V → Hp → Prop) → Prop
structure Ends where
 nx : St → Hp → Prop
 rt : VK
 bk : St → Hp → Prop := fun _ _ => False
 ct : St → Hp → Prop := fun _ _ => False
abbrev TS := Ends → St → Hp → Prop
def EP (X : Cx) (pins : List (Addr × Obj)) (σ : St) (Q : VK) (u : Value) (s' : Shared) : Prop := ∃ v H',Inv X pins σ H' s'∧js v u∧Q v H'
def TP (X : Cx) (pins : List (Addr × Obj)) (σ : St) (Q : Bool → Hp → Prop) (b : Bool) (s' : Shared) : Prop := ∃ H',Inv X pins σ H' s'∧Q b H'
def AP (X : Cx) (pins : List (Addr × Obj)) (σ : St) (Q : List V → Hp → Prop) (us : List Value) (s' : Shared) : Prop := ∃ vs H',Inv X pins σ H' s'∧zO vs us∧Q vs H'
def SP (X : Cx) (pins : List (Addr × Obj)) (D : Ends) (f : Flow) (s' : Shared) : Prop :=
 match f with
 | .next => ∃ σ' H',Inv X pins σ' H' s'∧D.nx σ' H'
 | .brk => ∃ σ' H',Inv X pins σ' H' s'∧D.bk σ' H'
 | .cont => ∃ σ' H',Inv X pins σ' H' s'∧D.ct σ' H'
 | .ret u => ∃ v σ' H',Inv X pins σ' H' s'∧js v u∧D.rt v H'
def PE (X : Cx) (e : Expr) (t : TE) : Prop :=
 ∀ (pins : List (Addr × Obj)) (s : Shared) (σ : St) (H : Hp) (Q : VK),Inv X pins σ H s → t σ H Q → wpAny (model X.prog X.w) X.A (eval e X.env) (EP X pins σ Q) X.xe s
def PT (X : Cx) (e : Expr) (t : TT) : Prop :=
 ∀ (pins : List (Addr × Obj)) (s : Shared) (σ : St) (H : Hp) (Q : Bool → Hp → Prop),Inv X pins σ H s → t σ H Q → wpAny (model X.prog X.w) X.A (isTrue e X.env (eval e X.env)) (TP X pins σ Q) X.xe s
def PW (X : Cx) (e : Expr) (t : TT) : Prop :=
 ∀ (whole : Sem Value) (pins : List (Addr × Obj)) (s : Shared) (σ : St) (H : Hp) (Q : Bool → Hp → Prop),Inv X pins σ H s → t σ H Q → wpAny (model X.prog X.w) X.A (isTrue e X.env whole) (TP X pins σ Q) X.xe s
theorem PW.pt {X : Cx} {e : Expr} {t : TT} (h : PW X e t) : PT X e t := h _
def PA (X : Cx) (es : List Expr) (t : TA) : Prop :=
 ∀ (pos : Pos) (pins : List (Addr × Obj)) (s : Shared) (σ : St) (H : Hp) (Q : List V → Hp → Prop),Inv X pins σ H s → t σ H Q → wpAny (model X.prog X.w) X.A (spliced (backTo pos (starEach es X.env))) (AP X pins σ Q) X.xe s
def PS (X : Cx) (st : Stmt) (t : TS) : Prop :=
 ∀ (pins : List (Addr × Obj)) (s : Shared) (σ : St) (H : Hp) (D : Ends),Inv X pins σ H s → t D σ H → wpAny (model X.prog X.w) X.A (exec st X.env) (SP X pins D) X.xe s
def PSs (X : Cx) (st : List Stmt) (t : TS) : Prop :=
 ∀ (pins : List (Addr × Obj)) (s : Shared) (σ : St) (H : Hp) (D : Ends),Inv X pins σ H s → t D σ H → wpAny (model X.prog X.w) X.A (execs st X.env) (SP X pins D) X.xe s
theorem thn {α : Type} {t : Sem α} {Q Q' : α → Shared → Prop} {M : Model} {A : Around} {E : Value → Shared → Prop} {s : Shared} (h : wpAny M A t Q E s) (hQ : ∀ a s,Q a s → Q' a s) : wpAny M A t Q' E s := wpAny_mono h hQ fun _ _ x => x
end L2
namespace L2
open PySem PySem.Spec PyProof.Rows
section
variable {X : Cx}
def qp4 (i : Nat) : TE := fun σ H Q => ∃ v,σ[i]? = some (some v)∧Q v H
def tC (v : V) : TE := fun _ H Q => Q v H
theorem qlR {i : Nat} {x : Str} {pos : Pos} (hN : X.N[i]? = some x) (hv : Vis X.env.scope x) (hd : (x == ("__debug__" : Str)) = false := by decide) (hcd : (x == ("__classdict__" : Str)) = false := by decide) : PE X (.Name x pos) (qp4 i) := by
 intro pins s σ H Q I h
 obtain ⟨v,e,h⟩ := h
 obtain ⟨m,hn,hl⟩ := I.loc
 obtain ⟨u,r,l⟩ := hl i x v hN e hv
 have fin : EP X pins σ Q u s := ⟨v,H,I,r,h⟩
 rcases l with ⟨hk,hm⟩ | ⟨hk,c,hc,hcell⟩
 ·exact wpAny_Name (wpAny_loadName_local I.ok.kind hk hn hm fin) hd
 ·rcases hk with hk | hk
  ·exact wpAny_Name (wpAny_loadName_cell I.ok.kind hk hc hcell fin) hd
  ·exact wpAny_Name (wpAny_loadName_free I.ok.kind hk hc hcell fin hcd) hd
theorem ql5 {i j pos} : PE X (.Constant (.int i) j pos) (tC (.int i)) := fun _ _ _ H _ I h => wpAny_Constant_int ⟨.int i,H,I.tok _,⟨_,rfl⟩,h⟩
theorem qoh {b j pos} : PE X (.Constant (.bool b) j pos) (tC (.bl b)) := fun _ _ _ H _ I h => Constant_bool ⟨.bl b,H,I,rfl,h⟩
theorem qi3 {j pos} : PE X (.Constant .none j pos) (tC .non) := fun _ _ _ H _ I h => Constant_none ⟨.non,H,I,rfl,h⟩
theorem qe8 {x j pos} : PE X (.Constant (.str x) j pos) (tC (.str x)) := fun _ _ _ H _ I h => Calls.Constant_str ⟨.str x,H,I.tok _,⟨_,rfl⟩,h⟩
def Gl (X : Cx) (x : Str) : Prop := X.env.kindOf x = some .globalImplicit
theorem qaY {E : Value → Shared → Prop} {pins : List (Addr × Obj)} {s : Shared} {σ : St} {H : Hp} {x : Str} {u : Value} {pos : Pos} {Q : Value → Shared → Prop} (I : Inv X pins σ H s) (hg : Gl X x) (hm : X.mg x = some u) (h : Q u s)
  (hd : (x == ("__debug__" : Str)) = false := by decide) : wpAny (model X.prog X.w) X.A (eval (.Name x pos) X.env) Q E s :=
 Calls.Name_function_global I.ok.kind hg (Calls.loadGlobal_global (by rw [I.ok.glob];exact I.mod.glob.keeps I.bk) hm h) hd
theorem WE {E : Value → Shared → Prop} {pins : List (Addr × Obj)} {s : Shared} {σ : St} {H : Hp} {x : Str} {u : Value} {pos : Pos} {Q : Value → Shared → Prop} (I : Inv X pins σ H s) (hg : Gl X x) (hm : X.mg x = none) (hv : bootBuiltins x = some u) (h : Q u s)
  (hn : x ≠ "__name__" := by decide) (hd : (x == ("__debug__" : Str)) = false := by decide) : wpAny (model X.prog X.w) X.A (eval (.Name x pos) X.env) Q E s := by
 obtain ⟨mb,h1,h2⟩ := I.mod.blt
 exact Calls.Name_function_global I.ok.kind hg (Calls.loadGlobal_builtin (by rw [I.ok.glob];exact I.mod.glob.keeps I.bk) hm (by rw [I.ok.blt];exact h1.keeps I.bk) ((h2 x hn).trans hv) h) hd
theorem qhh {x : Str} {v : V} {u : Value} {pos : Pos} (hg : Gl X x) (hm : X.mg x = some u) (r : js v u) (hd : (x == ("__debug__" : Str)) = false := by decide) : PE X (.Name x pos) (tC v) :=
 fun _ _ _ H _ I h => qaY I hg hm ⟨v,H,I,r,h⟩ hd
theorem LB {x : Str} {v : V} {u : Value} {pos : Pos} (hg : Gl X x) (hm : X.mg x = none) (hv : bootBuiltins x = some u) (r : js v u) (hn : x ≠ "__name__" := by decide) (hd : (x == ("__debug__" : Str)) = false := by decide) : PE X (.Name x pos) (tC v) :=
 fun _ _ _ H _ I h => WE I hg hm hv ⟨v,H,I,r,h⟩ hn hd
variable {a b : Expr} {ta tb : TE} {pos : Pos}
def tB (t : TE) : TT := fun σ H Q => t σ H fun x H1 => ∃ c,x = .bl c∧Q c H1
theorem qlB {e : Expr} {t : TE} (h : PE X e t) (he : ∀ whole,isTrue e X.env whole = (do let v ← whole;standAt e.pos;holding [v] (truthy v)) := by intro _;rfl) : PT X e (tB t) := by
 intro pins s σ H Q I hw
 refine isTrue_plain (thn (h pins s σ H _ I hw) fun v s1 ⟨x,H1,I1,r1,q1⟩ => ?_) (he _)
 obtain ⟨d,rfl,q⟩ := q1
 cases r1
 exact wpAny_truthy_bool ⟨H1,I1,q⟩
variable {tA tB' : TT} {ZJ : List Expr}
def qpF (t u : TT) : TT := fun σ H Q => t σ H fun c H1 => if c = true then u σ H1 Q else Q false H1
def tOr (t u : TT) : TT := fun σ H Q => t σ H fun c H1 => if c = true then Q true H1 else u σ H1 Q
def qpU (t : TT) : TT := fun σ H Q => t σ H fun c H1 => Q (!c) H1
theorem qg0 (ha : PT X a tA) : PW X (.BoolOp .And [a] pos) tA := by
 intro wh pins s σ H Q I h
 refine isTrue_and (thn (ha pins s σ H Q I h) fun c s1 e => ?_)
 cases c with
 | true => exact isTrue_and_nil e
 | false => exact e
theorem ql7 (ha : PT X a tA) : PW X (.BoolOp .Or [a] pos) tA := by
 intro wh pins s σ H Q I h
 refine isTrue_or (thn (ha pins s σ H Q I h) fun c s1 e => ?_)
 cases c with
 | false => exact isTrue_or_nil e
 | true => exact e
theorem qlS (ha : PT X a tA) (hb : PW X (.BoolOp .And (b :: ZJ) pos) tB') : PW X (.BoolOp .And (a :: b :: ZJ) pos) (qpF tA tB') := by
 intro wh pins s σ H Q I h
 refine isTrue_and (thn (ha pins s σ H _ I h) fun c s1 ⟨H1,I1,q1⟩ => ?_)
 cases c with
 | true => exact hb wh pins s1 σ H1 Q I1 q1
 | false => exact ⟨H1,I1,q1⟩
theorem qoA (ha : PT X a tA) (hb : PW X (.BoolOp .Or (b :: ZJ) pos) tB') : PW X (.BoolOp .Or (a :: b :: ZJ) pos) (tOr tA tB') := by
 intro wh pins s σ H Q I h
 refine isTrue_or (thn (ha pins s σ H _ I h) fun c s1 ⟨H1,I1,q1⟩ => ?_)
 cases c with
 | true => exact ⟨H1,I1,q1⟩
 | false => exact hb wh pins s1 σ H1 Q I1 q1
theorem qk3 (ha : PT X a tA) : PT X (.UnaryOp .Not a pos) (qpU tA) := by
 intro pins s σ H Q I h
 exact isTrue_not (ha pins s σ H (fun c H1 => Q (!c) H1) I h)
def qoi (ta tb : TE) : TE := fun σ H Q => ta σ H fun x H1 => ∃ c,x = .bl c∧if c = true then tb σ H1 Q else Q (.bl false) H1
def qm2 (ta : TE) : TE := fun σ H Q => ta σ H fun x H1 => ∃ c,x = .bl c∧Q (.bl (!c)) H1
theorem qkg {op} {t : TE} (h : PE X a t) : PE X (.BoolOp op [a] pos) t := fun pins s σ H Q I hw => BoolOp_one (h pins s σ H Q I hw)
theorem qiy (ha : PE X a ta) (hb : PE X (.BoolOp .And (b :: ZJ) pos) tb) : PE X (.BoolOp .And (a :: b :: ZJ) pos) (qoi ta tb) := by
 intro pins s σ H Q I h
 refine BoolOp_and (thn (ha pins s σ H _ I h) fun v s1 ⟨x,H1,I1,r1,q1⟩ => ?_)
 obtain ⟨c,rfl,q1⟩ := q1
 cases r1
 refine wpAny_truthy_bool ?_
 cases c with
 | true => exact hb pins s1 σ H1 Q I1 q1
 | false => exact ⟨.bl false,H1,I1,rfl,q1⟩
theorem qkF (ha : PE X a ta) : PE X (.UnaryOp .Not a pos) (qm2 ta) := by
 intro pins s σ H Q I h
 refine UnaryOp_ (thn (ha pins s σ H _ I h) fun v s1 ⟨x,H1,I1,r1,q1⟩ => ?_)
 obtain ⟨c,rfl,q1⟩ := q1
 cases r1
 exact not_of (wpAny_truthy_bool ⟨.bl (!c),H1,I1,rfl,q1⟩)
def tIf (t : TT) (ta tb : TE) : TE := fun σ H Q => t σ H fun c H1 => if c = true then ta σ H1 Q else tb σ H1 Q
theorem qcZ {c : Expr} (hc : PT X c tA) (ha : PE X a ta) (hb : PE X b tb) : PE X (.IfExp c a b pos) (tIf tA ta tb) := by
 intro pins s σ H Q I h
 refine wpAny_IfExp (thn (hc pins s σ H _ I h) fun d s1 ⟨H1,I1,q1⟩ => ?_)
 cases d with
 | true => exact ha pins s1 σ H1 Q I1 q1
 | false => exact hb pins s1 σ H1 Q I1 q1
end
end L2
namespace L2
open PySem PySem.Spec PyProof.Rows
def SqL (K : PySem.W.Frag) (H : Hp) (a : Addr) (xs : List V) : Prop :=
 Rd H a (.lst xs) ∨
  ∃ (o : Obj) (its : Array Value) (n : Nat),K.lookup a = some o∧o.cls = .type "list"∧o.dict = none∧o.data = .seq its n∧its.size ≤ sizeLine∧zO xs its.toList
def SqT (K : PySem.W.Frag) (H : Hp) (a : Addr) (xs : List V) : Prop :=
 Rd H a (.tup xs) ∨
  ∃ (o : Obj) (its : Array Value) (n : Nat),K.lookup a = some o∧o.cls = .type "tuple"∧o.data = .seq its n∧its.size ≤ sizeLine∧zO xs its.toList
def qpN : Value → Option V
 | .none => some .non
 | .bool b => some (.bl b)
 | .int i _ => some (.int i)
 | .str x _ => some (.str x)
 | .bytes b _ => some (.byt b)
 | .float b _ => some (.flt b)
 | .ref a => some (.ref a)
 | .type n => some (.ty n)
 | _ => none
theorem js.abs {x : V} {u : Value} (r : js x u) : qpN u = some x := by
 cases x with
 | non => cases r;rfl
 | bl _ => cases r;rfl
 | int _ => obtain ⟨t,rfl⟩ := r;rfl
 | str _ => obtain ⟨t,rfl⟩ := r;rfl
 | byt _ => obtain ⟨t,rfl⟩ := r;rfl
 | flt _ => obtain ⟨t,rfl⟩ := r;rfl
 | ref _ => cases r;rfl
 | ty _ => cases r;rfl
theorem js.inj {x y : V} {u : Value} (r : js x u) (q : js y u) : x = y := Option.some.inj (r.abs.symm.trans q.abs)
theorem zO.inj : ∀ {xs ys : List V} {us : List Value},zO xs us → zO ys us → xs = ys
 | _,_,_,.nil,.nil => rfl
 | _,_,_,.cons r t,.cons r' t' => by rw [r.inj r',zO.inj t t']
section
variable {X : Cx} {pins : List (Addr × Obj)} {σ : St} {H : Hp} {s : Shared} {a : Addr} {xs ys : List V}
theorem SqL.of {K : PySem.W.Frag} (h : H a = some (.lst xs)) : SqL K H a xs := .inl (.inl h)
theorem SqT.of {K : PySem.W.Frag} (h : H a = some (.tup xs)) : SqT K H a xs := .inl (.inl h)
theorem Inv.list (I : Inv X pins σ H s) (h : SqL X.K H a xs) : ∃ its : List Value,zO xs its∧PlainL s.heap a its.toArray∧xs.length ≤ sizeLine := by
 rcases h with h | ⟨o,its,n,hk,hc,hd,hs,hz,r⟩
 ·obtain ⟨z,its,n,r,e⟩ := h.ok I.hok
  exact ⟨its,r,⟨_,n,e,rfl,rfl,rfl⟩,z⟩
 ·refine ⟨its.toList,r,⟨o,n,I.kIn a o hk,hc,hd,by simpa using hs⟩,?_⟩
  have e := r.length
  simp only [Array.length_toList] at e
  omega
theorem Inv.tuple (I : Inv X pins σ H s) (h : SqT X.K H a xs) : ∃ its : List Value,zO xs its∧IsTup s.heap a its.toArray∧xs.length ≤ sizeLine := by
 rcases h with h | ⟨o,its,n,hk,hc,hs,hz,r⟩
 ·obtain ⟨z,its,r,p⟩ := h.ok I.hok
  exact ⟨its,r,p,z⟩
 ·refine ⟨its.toList,r,⟨o,I.kIn a o hk,hc,n,by simpa using hs⟩,?_⟩
  have e := r.length
  simp only [Array.length_toList] at e
  omega
theorem Inv.list_inj (I : Inv X pins σ H s) (h : SqL X.K H a xs) (h' : SqL X.K H a ys) : xs = ys := by
 obtain ⟨its,r,⟨o,n,e,_,_,d⟩,_⟩ := I.list h
 obtain ⟨its',r',⟨o',n',e',_,_,d'⟩,_⟩ := I.list h'
 rw [e] at e';cases e'
 rw [d] at d'
 injection d' with d1 _
 have : its = its' := by simpa using congrArg Array.toList d1
 subst this
 exact r.inj r'
theorem Inv.tuple_inj (I : Inv X pins σ H s) (h : SqT X.K H a xs) (h' : SqT X.K H a ys) : xs = ys := by
 obtain ⟨its,r,⟨o,e,_,n,d⟩,_⟩ := I.tuple h
 obtain ⟨its',r',⟨o',e',_,n',d'⟩,_⟩ := I.tuple h'
 rw [e] at e';cases e'
 rw [d] at d'
 injection d' with d1 _
 have : its = its' := by simpa using congrArg Array.toList d1
 subst this
 exact r.inj r'
end
abbrev Cx.wish (X : Cx) (E : Value → Shared → Prop) : Cx := { X with xe := E }
abbrev Cx.nox (X : Cx) : Cx := X.wish fun _ _ => False
theorem Cx.Ok.wish {X : Cx} (ok : X.Ok) (E : Value → Shared → Prop) : (X.wish E).Ok :=
 ⟨ok.mod,ok.kind,ok.glob,ok.blt,ok.above,ok.inj,ok.has,ok.cab,ok.hd,ok.frames,ok.stk,ok.exf,ok.bs,ok.bsz,ok.noex,ok.exfs,ok.funs,ok.frf⟩
theorem Cx.Ok.unwish {X : Cx} {E : Value → Shared → Prop} (ok : (X.wish E).Ok) : X.Ok :=
 ⟨ok.mod,ok.kind,ok.glob,ok.blt,ok.above,ok.inj,ok.has,ok.cab,ok.hd,ok.frames,ok.stk,ok.exf,ok.bs,ok.bsz,ok.noex,ok.exfs,ok.funs,ok.frf⟩
section
variable {X : Cx} {pins : List (Addr × Obj)} {σ : St} {H : Hp} {s : Shared} {E : Value → Shared → Prop}
theorem Inv.wish (I : Inv X pins σ H s) (E : Value → Shared → Prop) : Inv (X.wish E) pins σ H s := ⟨I.ok.wish E,I.os,I.bare,I.base,I.loc,I.cell,I.free,I.freeC,I.pin,I.hok,I.len⟩
theorem Inv.unwish (I : Inv (X.wish E) pins σ H s) : Inv X pins σ H s := ⟨I.ok.unwish,I.os,I.bare,I.base,I.loc,I.cell,I.free,I.freeC,I.pin,I.hok,I.len⟩
theorem SP.unwish {D : Ends} {f : Flow} {s' : Shared} (h : SP (X.wish E) pins D f s') : SP X pins D f s' := by
 cases f with
 | next => obtain ⟨σ',H',I,q⟩ := h;exact ⟨σ',H',I.unwish,q⟩
 | brk => obtain ⟨σ',H',I,q⟩ := h;exact ⟨σ',H',I.unwish,q⟩
 | cont => obtain ⟨σ',H',I,q⟩ := h;exact ⟨σ',H',I.unwish,q⟩
 | ret u => obtain ⟨v,σ',H',I,r,q⟩ := h;exact ⟨v,σ',H',I.unwish,r,q⟩
theorem PSs.nox {st : List Stmt} {t : TS} (h : PSs X.nox st t) : PSs X st t := fun pins s σ H D I hw =>
 wpAny_mono (h pins s σ H D (I.wish _) hw) (fun _ _ q => q.unwish) fun _ _ z => False.elim z
end
section
variable {X : Cx} {st : Stmt} {ZJ : List Stmt} {t u : TS} {e : Expr} {te : TE} {pos : Pos}
def qob : TS := fun D σ H => D.nx σ H
def qp6 (t u : TS) : TS := fun D σ H => t { D with nx := u D } σ H
theorem qhD : PSs X [] qob := fun _ _ σ H _ I h => wpAny_execs_nil ⟨σ,H,I,h⟩
theorem qcA (h1 : PS X st t) (h2 : PSs X ZJ u) : PSs X (st :: ZJ) (qp6 t u) := by
 intro pins s σ H D I h
 refine wpAny_execs_cons (thn (h1 pins s σ H { D with nx := u D } I h) fun f s1 q => ?_)
 cases f with
 | next =>
  obtain ⟨σ',H',I',q⟩ := q
  exact h2 pins s1 σ' H' D I' q
 | ret v => exact q
 | brk => exact q
 | cont => exact q
theorem qfY (h1 : PS X st t) : PSs X [st] t := by
 intro pins s σ H D I h
 refine wpAny_execs_cons (thn (h1 pins s σ H D I h) fun f s1 q => ?_)
 cases f with
 | next => exact wpAny_execs_nil q
 | ret v => exact q
 | brk => exact q
 | cont => exact q
theorem Inv.quiet {pins : List (Addr × Obj)} {σ : St} {H : Hp} {s : Shared} (I : Inv X pins σ H s) : interactive X.env = false := by simp [interactive,I.ok.kind]
def qn6 (te : TE) : TS := fun D σ H => te σ H fun _ H1 => D.nx σ H1
theorem qf7 (he : PE X e te) (hs : swapsWith e none pos.line X.env = pure false := by rfl) : PS X (.Expr e pos) (qn6 te) := by
 intro pins s σ H D I h
 exact wpAny_Expr_any (thn (he pins s σ H _ I h) fun v s1 ⟨x,H1,I1,r1,q1⟩ => ⟨σ,H1,I1,q1⟩) I.quiet hs
def qpD (te : TE) : TS := fun D σ H => te σ H D.rt
theorem qj9 (he : PE X e te) : PS X (.Return (some e) pos) (qpD te) := by
 intro pins s σ H D I h
 exact wpAny_Return_some (thn (he pins s σ H _ I h) fun v s1 ⟨x,H1,I1,r1,q1⟩ => ⟨x,σ,H1,I1,r1,q1⟩)
def qpG (c : TT) (t u : TS) : TS := fun D σ H => c σ H fun b H1 => if b = true then t D σ H1 else u D σ H1
theorem qnV {c : Expr} {a b : List Stmt} {tc : TT} (hc : PT X c tc) (ha : PSs X a t) (hb : PSs X b u) : PS X (.If c a b pos) (qpG tc t u) := by
 intro pins s σ H D I h
 refine wpAny_If (thn (hc pins s σ H _ I h) fun d s1 ⟨H1,I1,q1⟩ => ?_)
 cases d with
 | true => exact ha pins s1 σ H1 D I1 q1
 | false => exact hb pins s1 σ H1 D I1 q1
end
abbrev TG := V → St → Hp → (St → Hp → Prop) → Prop
abbrev TGs := List V → St → Hp → (St → Hp → Prop) → Prop
def PG (X : Cx) (target : Expr) (t : TG) : Prop :=
 ∀ (pins : List (Addr × Obj)) (s : Shared) (σ : St) (H : Hp) (v : V) (u : Value) (Q : St → Hp → Prop),Inv X pins σ H s → js v u → t v σ H Q →
  wpAny (model X.prog X.w) X.A (assign target X.env u) (fun _ s' => ∃ σ' H',Inv X pins σ' H' s'∧Q σ' H') X.xe s
def PGs (X : Cx) (ts : List Expr) (t : TGs) : Prop :=
 ∀ (pins : List (Addr × Obj)) (s : Shared) (σ : St) (H : Hp) (vs : List V) (us : List Value) (Q : St → Hp → Prop),Inv X pins σ H s → zO vs us → t vs σ H Q →
  wpAny (model X.prog X.w) X.A (assignInOrder ((assignEach ts X.env).map (·.2)) us) (fun _ s' => ∃ σ' H',Inv X pins σ' H' s'∧Q σ' H') X.xe s
abbrev qnu := V → V → V → Hp → (Hp → Prop) → Prop
def qo6 (X : Cx) (t : qnu) : Prop :=
 ∀ (pins : List (Addr × Obj)) (s : Shared) (σ : St) (H : Hp) (o i v : V) (ov iv u : Value) (Q : Hp → Prop),Inv X pins σ H s → js o ov → js i iv → js v u → t o i v H Q →
  wpAny (model X.prog X.w) X.A (setItem ov iv u) (fun _ s' => ∃ H',Inv X pins σ H' s'∧Q H') X.xe s
section
variable {X : Cx} {pos : Pos}
def qgR (i : Nat) : TG := fun v σ H Q => Q (σ.set i (some v)) H
theorem qgo {i : Nat} {x : Str} (hN : X.N.Nodup) (hi : X.N[i]? = some x) (hx : Loc X.env.scope x) (hf : X.fn x = true ∨ X.env.scope.names.lookup x = some .local := by first | exact .inl rfl | exact .inr rfl | assumption) : PG X (.Name x pos) (qgR i) := by
 intro pins s σ H v u Q I r h
 exact wpAny_assign_Name (DB I hN hi hx r (fun s' I' => ⟨_,H,I',h⟩) hf)
def W7 : TGs := fun vs σ H Q => vs = []∧Q σ H
def qW (t : TG) (u : TGs) : TGs := fun vs σ H Q => ∃ v r,vs = v :: r∧t v σ H fun σ' H' => u r σ' H' Q
theorem qgY : PGs X [] W7 := by
 intro pins s σ H vs us Q I r h
 obtain ⟨e,h⟩ := h
 subst e
 cases r
 exact assignInOrder_nil ⟨σ,H,I,h⟩
theorem qdo {e : Expr} {es : List Expr} {t : TG} {u : TGs} (h1 : PG X e t) (h2 : PGs X es u)
  (hs : (assignEach (e :: es) X.env).map (·.2) = assign e X.env :: (assignEach es X.env).map (·.2) := by rfl) : PGs X (e :: es) (qW t u) := by
 intro pins s σ H vs us Q I r h
 obtain ⟨v,vr,e1,h⟩ := h
 subst e1
 cases r with
 | cons r rr =>
  rw [hs]
  refine assignInOrder_cons (thn (h1 pins s σ H _ _ _ I r h) fun _ s1 ⟨σ1,H1,I1,q1⟩ => ?_)
  exact h2 pins s1 σ1 H1 _ _ Q I1 rr q1
def W6 (K : PySem.W.Frag) (n : Nat) (t : TGs) : TG := fun v σ H Q => ∃ a xs,v = .ref a∧SqT K H a xs∧xs.length = n∧t xs σ H Q
theorem qiw {es : List Expr} {k : Nat} {t : TGs} {n : Nat} (hc : X.calm = true) (h : PGs X es t)
  (hn : (assignEach es X.env).length = n := by rfl) (hst : (assignEach es X.env).findIdx? (·.1) = none := by rfl) : PG X (.Tuple es k pos) (W6 X.K n t) := by
 intro pins s σ H v u Q I r hw
 obtain ⟨a,xs,e1,hq,hl,hw⟩ := hw
 subst e1
 cases r
 obtain ⟨its,rv,ht,hz⟩ := I.tuple hq
 refine assign_Tuple_tuple (I.ok.hd hc) ht (by simp [hn,← hl,rv.length]) hst fun h' hx => ?_
 have I1 : Inv X pins σ H { s with heap := h' } := I.kept (t' := s.toks) fun b o e => hx b o (Nat.ne_of_lt (Heap.lt_size e)) e
 exact h pins _ σ H xs _ Q I1 (by simpa using rv) hw
def qpy (to ti : TE) (t : qnu) : TG := fun v σ H Q => to σ H fun o H1 => ti σ H1 fun i H2 => t o i v H2 fun H3 => Q σ H3
theorem qme {o i : Expr} {to ti : TE} {t : qnu} (ho : PE X o to) (hi : PE X i ti) (hs : qo6 X t)
  (ha : ∀ v,assign (.Subscript o i pos) X.env v = (do
   let ov ← holding [v] (eval o X.env)
   let iv ← holding [v,ov] (eval i X.env)
   standAt pos
   holding [v,ov,iv] (setItem ov iv v)
   release [v,ov,iv] []) := by intro _;rfl) : PG X (.Subscript o i pos) (qpy to ti t) := by
 intro pins s σ H v u Q I r h
 rw [ha]
 refine wpAny_bind (wpAny_holding (thn (ho pins s σ H _ I h) fun ov s1 ⟨x,H1,I1,r1,q1⟩ => ?_))
 refine wpAny_bind (wpAny_holding (thn (hi pins s1 σ H1 _ I1 q1) fun iv s2 ⟨y,H2,I2,r2,q2⟩ => ?_))
 refine wpAny_bind (wpAny_standAt (wpAny_bind (wpAny_holding (thn (hs pins s2 σ H2 x y v ov iv u _ I2 r1 r2 r q2) fun _ s3 ⟨H3,I3,q3⟩ => ?_))))
 exact wpAny_release ⟨σ,H3,I3,q3⟩
def qnY (te : TE) (g : TG) : TS := fun D σ H => te σ H fun x H1 => g x σ H1 D.nx
theorem qiD {tg e : Expr} {te : TE} {g : TG} (he : PE X e te) (hg : PG X tg g) (hs : swapsWithSole [tg] e pos.line X.env = pure false := by rfl) (hw : swappedStores [tg] e X.env = pure none := by rfl)
  (h1 : (assignEach [tg] X.env).map (·.2) = [assign tg X.env] := by rfl) : PS X (.Assign [tg] e pos) (qnY te g) := by
 intro pins s σ H D I h
 refine wpAny_Assign_stores (thn (he pins s σ H _ I h) fun v s1 ⟨x,H1,I1,r1,q1⟩ => ?_) hs hw
 rw [h1]
 exact thn (hg pins s1 σ H1 x v _ I1 r1 q1) fun _ s2 q => q
theorem qk9 {i : Nat} {x : Str} {e : Expr} {te : TE} {pos' : Pos} (hN : X.N.Nodup) (hi : X.N[i]? = some x) (hx : Loc X.env.scope x) (he : PE X e te) (hs : swapsWith e (some (.Name x pos')) pos.line X.env = pure false := by rfl) (hf : X.fn x = true ∨ X.env.scope.names.lookup x = some .local := by first | exact .inl rfl | exact .inr rfl | assumption) :
  PS X (.Assign [.Name x pos'] e pos) (qnY te (qgR i)) := by
 intro pins s σ H D I h
 refine wpAny_Assign_Name (thn (he pins s σ H _ I h) fun v s1 ⟨y,H1,I1,r1,q1⟩ => ?_) hs
 exact DB I1 hN hi hx r1 (fun s2 I2 => ⟨_,H1,I2,q1⟩) hf
def qp7 (i j : Nat) (ta : TA) : TS := fun D σ H => ta σ H fun vs H1 => ∃ v w,vs = [v,w]∧D.nx ((σ.set i (some v)).set j (some w)) H1
theorem qlK {i j : Nat} {x y : Str} {a b : Expr} {ta : TA} {px py pt : Pos} {kt k2 pt2} (hc : X.calm = true) (hN : X.N.Nodup) (hi : X.N[i]? = some x) (hj : X.N[j]? = some y) (hij : i ≠ j)
  (hx : X.env.scope.names.lookup x = some .local) (hy : X.env.scope.names.lookup y = some .local) (ha : PA X [a,b] ta)
  (hw : swappedStores [.Tuple [.Name x px,.Name y py] kt pt] (.Tuple [a,b] k2 pt2) X.env = pure (some [x,y]))
  (hs : swapsWithSole [.Tuple [.Name x px,.Name y py] kt pt] (.Tuple [a,b] k2 pt2) pos.line X.env = pure false := by rfl) :
  PS X (.Assign [.Tuple [.Name x px,.Name y py] kt pt] (.Tuple [a,b] k2 pt2) pos) (qp7 i j ta) := by
 intro pins s σ H D I h
 rw [exec_Assign_arm]
 refine wpAny_bind (wpAny_standAt ?_)
 rw [hs]
 refine wpAny_bind (wpAny_pure ?_)
 rw [if_neg (by decide)]
 refine wpAny_bind (Tuple_ (thn (ha _ pins s σ H _ I h) fun us s1 ⟨vs,H1,I1,r1,q1⟩ => ?_))
 obtain ⟨v,w,e1,q1⟩ := q1
 subst e1
 obtain ⟨u1,u2,rfl,rv,rw'⟩ : ∃ u1 u2,us = [u1,u2]∧js v u1∧js w u2 := by
  cases r1 with
  | cons p q =>
   cases q with
   | cons p' q' =>
    cases q'
    exact ⟨_,_,rfl,p,p'⟩
 refine wpAny_newObj_type ?_ (by show 2 ≤ sizeLine;decide)
 have I2 : Inv X pins σ H1 { s1 with heap := s1.heap.push { cls := .type "tuple",data := .seq [u1,u2].toArray } } := I1.kept (t' := s1.toks) fun b o e => Heap.get?_push_of_some _ e
 rw [hw]
 refine wpAny_bind (wpAny_pure ?_)
 show wpAny (model X.prog X.w) X.A (do rule "assign.swapped-stores";let items ← unpackItems (.ref s1.heap.objs.size) 2 none;assignInOrder [fun v => bindName X.env y v,fun v => bindName X.env x v] items.reverse;pure Flow.next) _ _ _
 refine wpAny_bind (wpAny_rule (wpAny_bind (unpackItems_tuple (items := #[u1,u2]) (I.ok.hd hc) (IsTup.new s1.heap _) fun h' hx' => ?_)))
 have I3 := I2.kept (h' := h') (t' := s1.toks) fun b o e => hx' b o (Nat.ne_of_lt (Heap.lt_size e)) e
 show wpAny _ _ (assignInOrder [fun v => bindName X.env y v,fun v => bindName X.env x v] [u2,u1] >>= fun _ => pure Flow.next) _ _ _
 refine wpAny_bind (assignInOrder_cons (wpAny_bindName (DB I3 hN hj (.inl hy) rw' (fun s2 I4 => ?_) (.inr hy))))
 refine assignInOrder_cons (wpAny_bindName (DB I4 hN hi (.inl hx) rv (fun s3 I5 => assignInOrder_nil (wpAny_pure ?_)) (.inr hx)))
 rw [List.set_comm _ _ (Ne.symm hij)] at I5
 exact ⟨_,H1,I5,q1⟩
end
section
variable {X : Cx} {pos : Pos}
def qil (c : TT) (tb : TS) : TS := fun D σ H => ∃ W : Nat → St → Hp → Prop,(∃ m,W m σ H)∧∀ m σ H,W m σ H →
 c σ H fun b H1 => if b = true then ∃ N : St → Hp → Prop,(∀ σ' H',N σ' H' → ∃ m',m' < m∧W m' σ' H')∧tb { D with nx := N,ct := N,bk := D.nx } σ H1 else D.nx σ H1
theorem qcu {c : Expr} {body : List Stmt} {tc : TT} {tb : TS} (hp : PassesOwn (model X.prog X.w) X.A X.env X.xe) (hc : PT X c tc) (hb : PSs X body tb) : PS X (.While c body [] pos) (qil tc tb) := by
 intro pins s σ H D I h
 obtain ⟨W,⟨m0,w0⟩,turn⟩ := h
 refine wpAny_While (codeAny_whileLoop (fun n s' => ∃ σ' H',Inv X pins σ' H' s'∧W n σ' H') ?_ m0 ⟨σ,H,I,w0⟩)
 rintro n s1 ⟨σ1,H1,I1,w1⟩
 refine wpAny_passesOwn hp (thn (hc pins s1 σ1 H1 _ I1 (turn n σ1 H1 w1)) fun b s2 ⟨H2,I2,q2⟩ => ?_)
 cases b with
 | true =>
  obtain ⟨N,hN,q2⟩ := q2
  rw [if_pos rfl]
  refine wpAny_passesOwn hp (thn (hb pins s2 σ1 H2 _ I2 q2) fun f s3 q3 => ?_)
  cases f with
  | next =>
   obtain ⟨σ3,H3,I3,n3⟩ := q3
   obtain ⟨m',hm,w3⟩ := hN σ3 H3 n3
   exact ⟨m',hm,σ3,H3,I3,w3⟩
  | cont =>
   obtain ⟨σ3,H3,I3,n3⟩ := q3
   obtain ⟨m',hm,w3⟩ := hN σ3 H3 n3
   exact ⟨m',hm,σ3,H3,I3,w3⟩
  | brk => exact q3
  | ret v => exact q3
 | false =>
  rw [if_neg Bool.false_ne_true]
  exact wpAny_execs_nil ⟨σ1,H2,I2,q2⟩
end
structure It where
 go : Nat → Hp → Prop
 yld : Nat → Hp → V → Hp → Prop
 stop : Nat → Hp → Prop
def TK (X : Cx) (pins : List (Addr × Obj)) (H : Hp) (b : Addr) : Prop :=
 H b = none∧b ≠ X.env.locals∧b ∉ X.fs∧(b ∈ X.ex ∨ X.s₀.heap.objs.size ≤ b)∧(∀ x c,X.env.cells.lookup x = some c → c ≠ b)∧∀ p ∈ X.pn ++ pins,p.1 ≠ b
theorem Inv.fpOk {X : Cx} {pins : List (Addr × Obj)} {σ : St} {H H' : Hp} {s : Shared} {b : Addr} (I : Inv X pins σ H s) (hb : s.heap.objs.size ≤ b) (hn : H' b = none) : TK X pins H' b := by
 refine ⟨hn,Nat.ne_of_gt (Nat.lt_of_lt_of_le I.lt hb),I.nofs hb,.inr (Nat.le_trans I.sz hb),fun x c e z => ?_,fun p hp z => ?_⟩
 ·obtain ⟨v,q⟩ := I.cell x c e
  exact absurd (Nat.lt_of_lt_of_le q.lt (by rw [z];exact hb)) (Nat.lt_irrefl _)
 ·exact absurd (Nat.lt_of_lt_of_le (Heap.lt_size (I.pin p hp).1) (by rw [z];exact hb)) (Nat.lt_irrefl _)
structure Turn (P : Program) (w : World) (K : PySem.W.Frag) (tg : Expr) (J : It) (fp : List Addr) (it : Addr) (tn : Nat → Heap → Prop) : Prop where
 mem : it ∈ fp
 obj : ∀ i h,tn i h → ∀ b ∈ fp,∃ o,h.get? b = some o∧∀ v,o.data ≠ .cell v
 keep : ∀ i h h',tn i h → (∀ b ∈ fp,∀ o,h.get? b = some o → h'.get? b = some o) → tn i h'
 item : ∀ (X : Cx),X.prog = P → X.w = w → X.K = K → X.calm = true → ∀ (i : Nat) (pins : List (Addr × Obj)) (s : Shared) (σ : St) (H : Hp) (E : Value → Shared → Prop),Inv X pins σ H s → (∀ b ∈ fp,TK X pins H b) → tn i s.heap → J.go i H →
  wpAny (model P w) X.A (pyNext (.ref it)) (fun r s1 => ∃ u,r = some u ∧
   wpAny (model P w) X.A (letOwnedTupleGo tg (.ref it) u) (fun _ s2 => ∃ x H',Inv X pins σ H' s2∧js x u∧J.yld i H x H'∧tn (i + 1) s2.heap∧∀ b ∈ fp,H' b = none) E s1) E s
 done : ∀ (X : Cx),X.prog = P → X.w = w → X.K = K → X.calm = true → ∀ (i : Nat) (pins : List (Addr × Obj)) (s : Shared) (σ : St) (H : Hp) (E : Value → Shared → Prop),Inv X pins σ H s → (∀ b ∈ fp,TK X pins H b) → tn i s.heap → J.stop i H →
  wpAny (model P w) X.A (pyNext (.ref it)) (fun r s1 => r = none∧Inv X pins σ H s1) E s
 self : ∀ (A : Around) (i : Nat) (s : Shared) (Q : Value → Shared → Prop) (E : Value → Shared → Prop),tn i s.heap → Q (.ref it) s → wpAny (model P w) A (pyIter (.ref it)) Q E s
abbrev TI := St → Hp → (It → Hp → Prop) → Prop
def PIE (X : Cx) (pins : List (Addr × Obj)) (σ : St) (tg : Expr) (R : It → Hp → Prop) (itv : Value) (s2 : Shared) : Prop :=
 ∃ (it : Addr) (fp : List Addr) (tn : Nat → Heap → Prop) (J : It) (H' : Hp),itv = .ref it∧Inv X pins σ H' s2∧Turn X.prog X.w X.K tg J fp it tn∧tn 0 s2.heap∧(∀ b ∈ fp,TK X pins H' b)∧R J H'
def PI (X : Cx) (tg iter : Expr) (wi : TI) : Prop :=
 ∀ (pins : List (Addr × Obj)) (s : Shared) (σ : St) (H : Hp) (R : It → Hp → Prop),Inv X pins σ H s → wi σ H R →
  wpAny (model X.prog X.w) X.A (eval iter X.env) (fun v s1 => wpAny (model X.prog X.w) X.A (pyIter v) (PIE X pins σ tg R) X.xe s1) X.xe s
theorem qgy {M : Model} {A : Around} {E : Value → Shared → Prop} {s : Shared} {tg : Expr} {it : Addr} {u : Value} {o : Obj} {n : String} {vs : Array Value} {Q : Unit → Shared → Prop} (ho : s.heap.get? it = some o) (hc : o.cls = .type n) (hd : o.data = .fields vs)
    (hn : ["enumerate","zip","dict_itemiterator","dict_reverseitemiterator","odict_iterator","itertools.zip_longest","itertools.pairwise"].contains n = false) (hQ : Q () s) : wpAny M A (letOwnedTupleGo tg (.ref it) u) Q E s := by
  unfold letOwnedTupleGo
  cases tg <;> first
    | exact wpAny_pure hQ
    | (cases u <;> first
        | exact wpAny_pure hQ
        | (refine wpAny_bind (wpAny_load ho ?_)
           rw [hc,hd]
           show wpAny M A (if (["enumerate","zip","dict_itemiterator","dict_reverseitemiterator","odict_iterator","itertools.zip_longest","itertools.pairwise"].contains n && vs[0]? == some (rawInt _)) = true then _ else _) Q E s
           rw [if_neg (by intro h;rw [hn,Bool.false_and] at h;cases h)]
           exact wpAny_pure hQ))
def Itl (K : PySem.W.Frag) (a : Addr) : It :=
 ⟨fun i H => ∃ xs x,SqL K H a xs∧xs[i]? = some x,fun i H x H' => H' = H∧∀ xs,SqL K H a xs → xs[i]? = some x,fun i H => ∃ xs,SqL K H a xs∧xs.length ≤ i⟩
def Itt (K : PySem.W.Frag) (a : Addr) : It :=
 ⟨fun i H => ∃ xs x,SqT K H a xs∧xs[i]? = some x,fun i H x H' => H' = H∧∀ xs,SqT K H a xs → xs[i]? = some x,fun i H => ∃ xs,SqT K H a xs∧xs.length ≤ i⟩
def Itr (lo : Int) (n : Nat) : It := ⟨fun i _ => i < n,fun i H x H' => H' = H∧x = .int (lo + i),fun i _ => n ≤ i⟩
theorem qaN {P : Program} {w : World} {K : PySem.W.Frag} {tg : Expr} (a it : Addr) : Turn P w K tg (Itl K a) [it] it (fun i h => h.IsListIter it a i) where
 mem := by simp
 obj := fun i h st b hb => by
  have e : b = it := by simpa using hb
  subst e
  obtain ⟨o,e,c,d⟩ := st
  exact ⟨o,e,fun v z => by rw [d] at z;cases z⟩
 keep := fun i h h' st k => st.at fun o e => k it (by simp) o e
 item := by
  intro X hP hw hK hc i pins s σ H E I hf st hg
  subst hP hw hK
  obtain ⟨xs,x,hq,hx⟩ := hg
  obtain ⟨its,rv,p,hz⟩ := I.list hq
  obtain ⟨u,hu,ru⟩ := rv.get hx
  obtain ⟨f0,f1,f2,f3,f4,f5⟩ := hf it (by simp)
  refine wpAny_pyNext_list_item st p.isList (x := u) (by simpa using hu) fun h' st' sb => ?_
  have I1 : Inv X pins σ H { s with heap := h' } := I.turned (t' := s.toks) (fun b o hb e => (sb.2 b hb).trans e) f0 f1 f3 f4 f5
  obtain ⟨o,e,c,d⟩ := id st'
  exact ⟨u,rfl,qgy (s := { s with heap := h' }) e c d (by decide) ⟨x,H,I1,ru,⟨rfl,fun ys hy => by rw [I.list_inj hy hq];exact hx⟩,st',fun b hb => (hf b hb).1⟩⟩
 done := by
  intro X hP hw hK hc i pins s σ H E I hf st hg
  subst hP hw hK
  obtain ⟨xs,hq,hx⟩ := hg
  obtain ⟨its,rv,p,hz⟩ := I.list hq
  obtain ⟨f0,f1,f2,f3,f4,f5⟩ := hf it (by simp)
  have hl := rv.length
  exact wpAny_pyNext_list_end (I.ok.hd hc) st p.isList (by simp;omega) fun h' eb => ⟨rfl,I.turned (t' := s.toks) (fun b o hb e => eb b o hb e) f0 f1 f3 f4 f5⟩
 self := fun _ _ _ _ _ st h => wpAny_pyIter_listiter st h
theorem NG {P : Program} {w : World} {K : PySem.W.Frag} {tg : Expr} (a it : Addr) : Turn P w K tg (Itt K a) [it] it (fun i h => h.IsTupleIter it a i) where
 mem := by simp
 obj := fun i h st b hb => by
  have e : b = it := by simpa using hb
  subst e
  obtain ⟨o,e,c,d⟩ := st
  exact ⟨o,e,fun v z => by rw [d] at z;cases z⟩
 keep := fun i h h' st k => st.at fun o e => k it (by simp) o e
 item := by
  intro X hP hw hK hc i pins s σ H E I hf st hg
  subst hP hw hK
  obtain ⟨xs,x,hq,hx⟩ := hg
  obtain ⟨its,rv,p,hz⟩ := I.tuple hq
  obtain ⟨u,hu,ru⟩ := rv.get hx
  obtain ⟨f0,f1,f2,f3,f4,f5⟩ := hf it (by simp)
  refine wpAny_pyNext_tuple_item st (show s.heap.IsTuple a its.toArray from p) (x := u) (by simpa using hu) fun h' st' sb => ?_
  have I1 : Inv X pins σ H { s with heap := h' } := I.turned (t' := s.toks) (fun b o hb e => (sb.2 b hb).trans e) f0 f1 f3 f4 f5
  obtain ⟨o,e,c,d⟩ := id st'
  exact ⟨u,rfl,qgy (s := { s with heap := h' }) e c d (by decide) ⟨x,H,I1,ru,⟨rfl,fun ys hy => by rw [I.tuple_inj hy hq];exact hx⟩,st',fun b hb => (hf b hb).1⟩⟩
 done := by
  intro X hP hw hK hc i pins s σ H E I hf st hg
  subst hP hw hK
  obtain ⟨xs,hq,hx⟩ := hg
  obtain ⟨its,rv,p,hz⟩ := I.tuple hq
  obtain ⟨f0,f1,f2,f3,f4,f5⟩ := hf it (by simp)
  have hl := rv.length
  exact wpAny_pyNext_tuple_end (I.ok.hd hc) st (show s.heap.IsTuple a its.toArray from p) (by simp;omega) fun h' eb => ⟨rfl,I.turned (t' := s.toks) (fun b o hb e => eb b o hb e) f0 f1 f3 f4 f5⟩
 self := fun _ _ _ _ _ st h => wpAny_pyIter_tupleiter st h
theorem N5 {P : Program} {w : World} {K : PySem.W.Frag} {tg : Expr} (it : Addr) (lo : Int) (n : Nat) : Turn P w K tg (Itr lo n) [it] it (fun i h => IsRangeIter h it (lo + (i : Nat) * 1) ((n : Int) - (i : Nat)) 1) where
 mem := by simp
 obj := fun i h st b hb => by
  have e : b = it := by simpa using hb
  subst e
  exact ⟨_,st,fun v z => by
   have z' : Data.fields _ = Data.cell v := z
   cases z'⟩
 keep := fun i h h' st k => k it (by simp) _ st
 item := by
  intro X hP hw hK hc i pins s σ H E I hf st hg
  subst hP hw hK
  obtain ⟨f0,f1,f2,f3,f4,f5⟩ := hf it (by simp)
  have W := Walks.range (prog := X.prog) (w := X.w) (I.ok.hd hc) it lo 1 n
  refine W.item i s _ _ hg st fun v h' tk hv st' kk => ?_
  obtain ⟨t,rfl⟩ := hv
  have I1 : Inv X pins σ H { s with heap := h',toks := tk } := I.turned (fun b o hb e => kk b o (by simpa using hb) e) f0 f1 f3 f4 f5
  refine ⟨_,rfl,qgy (s := { s with heap := h',toks := tk }) (n := "range_iterator") st' rfl rfl (by decide) ⟨.int (lo + i),H,I1,⟨t,?_⟩,⟨rfl,rfl⟩,st',fun b hb => (hf b hb).1⟩⟩
  rw [Int.mul_one]
 done := by
  intro X hP hw hK hc i pins s σ H E I hf st hg
  subst hP hw hK
  obtain ⟨f0,f1,f2,f3,f4,f5⟩ := hf it (by simp)
  exact wpAny_pyNext_range_end (I.ok.hd hc) st (by have : n ≤ i := hg;omega) fun h' eb => ⟨rfl,I.turned (t' := s.toks) (fun b o hb e => eb b o hb e) f0 f1 f3 f4 f5⟩
 self := fun _ _ _ _ _ st h => wpAny_pyIter_rangeiter st h
end L2
namespace L2
open PySem PySem.Spec PyProof.Rows
section
variable {X : Cx} {tg : Expr}
theorem MB {pins : List (Addr × Obj)} {σ : St} {H : Hp} {s : Shared} {R : It → Hp → Prop} {E : Value → Shared → Prop} {lo hi : Int} {t u v : Tok} {tk : Nat} (I : Inv X pins σ H s) (h1 : -(2 ^ 62) ≤ lo) (h2 : lo < 2 ^ 62) (h3 : -(2 ^ 62) ≤ hi) (h4 : hi < 2 ^ 62)
  (q : R (Itr lo (hi - lo).toNat) H) : wpAny (model X.prog X.w) X.A (pyIter (.ref s.heap.objs.size)) (PIE X pins σ tg R) E { s with heap := s.heap.push { cls := .type "range",data := .fields #[.int lo t,.int hi u,.int 1 v] },toks := tk } := by
 refine wpAny_pyIter_range (IsRange.new ..) (small_one h1 h2 h3 h4) ?_
 have I1 : Inv X pins σ H { s with heap := s.heap.push { cls := .type "range",data := .fields #[.int lo t,.int hi u,.int 1 v] },toks := tk } := I.kept fun b o e => Heap.get?_push_of_some _ e
 refine ⟨(s.heap.push { cls := .type "range",data := .fields #[.int lo t,.int hi u,.int 1 v] }).objs.size,[(s.heap.push { cls := .type "range",data := .fields #[.int lo t,.int hi u,.int 1 v] }).objs.size],_,_,H,rfl,
  I1.kept (t' := tk) fun b o e => Heap.get?_push_of_some _ e,N5 _ lo (hi - lo).toNat,?_,fun b hb => ?_,q⟩
 ·have e1 : lo + ((0 : Nat) : Int) * 1 = lo := by simp
  have e2 : (((hi - lo).toNat : Nat) : Int) - ((0 : Nat) : Int) = Builtin.Range.rangeSize lo hi 1 := by rw [rangeSize_one];split <;> omega
  show IsRangeIter _ _ (lo + ((0 : Nat) : Int) * 1) ((((hi - lo).toNat : Nat) : Int) - ((0 : Nat) : Int)) 1
  rw [e1,e2]
  exact Heap.get?_push_size _ rfl
 ·have e : b = (s.heap.push { cls := .type "range",data := .fields #[.int lo t,.int hi u,.int 1 v] }).objs.size := by simpa using hb
  subst e
  exact I1.fpOk (Nat.le_refl _) (I1.hok.fresh (Nat.le_refl _))
def qnX (ta : TA) : TI := fun σ H R => ta σ H fun vs H1 => ∃ j : Int,vs = [.int j]∧-(2 ^ 62) ≤ j∧j < 2 ^ 62∧R (Itr 0 j.toNat) H1
def qox (ta : TA) : TI := fun σ H R => ta σ H fun vs H1 => ∃ i j : Int,vs = [.int i,.int j]∧(-(2 ^ 62) ≤ i∧i < 2 ^ 62∧-(2 ^ 62) ≤ j∧j < 2 ^ 62)∧R (Itr i (j - i).toNat) H1
theorem qbv {a : Expr} {ta : TA} {p pos : Pos} (hg : Gl X "range") (hm : X.mg "range" = none) (ha : PA X [a] ta) (hs : starEach [a] X.env = [(false,eval a X.env)] := by rfl) : PI X tg (.Call (.Name "range" p) [a] [] pos) (qnX ta) := by
 intro pins s σ H R I h
 refine Call_ (WE I hg hm boot_range (PyProof.Rows.callWith_type1 (thn (ha pos pins s σ H _ I h) fun us s1 ⟨vs,H1,I1,r1,q1⟩ => ?_) hs rfl))
 obtain ⟨j,e,q1,q2,q⟩ := q1
 subst e
 cases r1 with
 | cons r rr =>
  cases rr
  obtain ⟨t,rfl⟩ := r
  exact call_range_1 (MB I1 (by omega) (by omega) q1 q2 (by simpa using q))
theorem qaR {a b : Expr} {ta : TA} {p pos : Pos} (hg : Gl X "range") (hm : X.mg "range" = none) (ha : PA X [a,b] ta) (hs : starEach [a,b] X.env = [(false,eval a X.env),(false,eval b X.env)] := by rfl) (hs2 : starEach [b] X.env = [(false,eval b X.env)] := by rfl) :
  PI X tg (.Call (.Name "range" p) [a,b] [] pos) (qox ta) := by
 intro pins s σ H R I h
 refine Call_ (WE I hg hm boot_range (PyProof.Rows.callWith_type1 (thn (ha pos pins s σ H _ I h) fun us s1 ⟨vs,H1,I1,r1,q1⟩ => ?_) (by rw [hs,hs2]) (by rw [hs2];rfl)))
 obtain ⟨i,j,e,⟨q1,q2,q3,q4⟩,q⟩ := q1
 subst e
 cases r1 with
 | cons r rr =>
  cases rr with
  | cons r' rr =>
   cases rr
   obtain ⟨t,rfl⟩ := r
   obtain ⟨t',rfl⟩ := r'
   exact call_range_2 (MB I1 q1 q2 q3 q4 q)
def qp5 (wi : TI) (g : TG) (tb : TS) : TS := fun D σ H => wi σ H fun J H1 => ∃ W : Nat → Nat → St → Hp → Prop,(∃ m,W 0 m σ H1)∧∀ i m σ H,W i m σ H →
 (J.stop i H∧D.nx σ H) ∨ (J.go i H∧∃ N : St → Hp → Prop,(∀ σ' H',N σ' H' → ∃ m',m' < m∧W (i + 1) m' σ' H')∧∀ x H',J.yld i H x H' → g x σ H' fun σ2 H2 => tb { D with nx := N,ct := N,bk := D.nx } σ2 H2)
def E6 (fp : List Addr) (h : Heap) : List (Addr × Obj) := fp.filterMap fun b => (h.get? b).map fun o => (b,o)
theorem zt {fp : List Addr} {h : Heap} {b : Addr} {o : Obj} (hb : b ∈ fp) (e : h.get? b = some o) : (b,o) ∈ E6 fp h := List.mem_filterMap.mpr ⟨b,hb,by rw [e];rfl⟩
theorem qbM {fp : List Addr} {h : Heap} {p : Addr × Obj} (hp : p ∈ E6 fp h) : p.1 ∈ fp∧h.get? p.1 = some p.2 := by
 obtain ⟨b,hb,e⟩ := List.mem_filterMap.mp hp
 cases q : h.get? b with
 | none => rw [q] at e;cases e
 | some o =>
  rw [q] at e
  have e' : (b,o) = p := Option.some.inj e
  subst e'
  exact ⟨hb,q⟩
theorem Inv.pinned {pins : List (Addr × Obj)} {σ : St} {H : Hp} {s : Shared} {fp : List Addr} (I : Inv X pins σ H s) (hf : ∀ b ∈ fp,TK X pins H b) (ho : ∀ b ∈ fp,∃ o,s.heap.get? b = some o∧∀ v,o.data ≠ .cell v) : Inv X (pins ++ E6 fp s.heap) σ H s :=
 I.pins_of fun p hp => (List.mem_append.mp hp).elim (fun z => I.pin p (List.mem_append_right _ z)) fun z => by
  obtain ⟨hb,e⟩ := qbM z
  obtain ⟨f0,f1,f2,_⟩ := hf p.1 hb
  obtain ⟨o,e',d⟩ := ho p.1 hb
  rw [e] at e';cases e'
  exact ⟨e,f0,f1,f2,d⟩
theorem Inv.unpinned {pins pl : List (Addr × Obj)} {σ : St} {H : Hp} {s : Shared} (I : Inv X (pins ++ pl) σ H s) : Inv X pins σ H s := I.pins_of fun p hp => I.pin p (List.mem_append_right _ (List.mem_append_left _ hp))
theorem qkO {iter : Expr} {body : List Stmt} {wi : TI} {g : TG} {tb : TS} {pos : Pos} (hp : PassesOwn (model X.prog X.w) X.A X.env X.xe) (hc : X.calm = true) (hi : PI X tg iter wi) (hg : PG X tg g) (hb : PSs X body tb)
  (hs : ∀ x,foldedSetIterable iter X.env x = pure x := by intro _;rfl) : PS X (.For tg iter body [] pos) (qp5 wi g tb) := by
 intro pins s σ H D I h
 refine wpAny_For (thn (hi pins s σ H _ I h) fun v s1 h1 => thn h1 fun itv s2 h2 => ?_) hs
 obtain ⟨it,fp,tn,J,H2,e,I2,T,st2,f2,W,⟨m0,w0⟩,turn⟩ := h2
 subst e
 -- what stays true of the iterator's objects through the loop
 have stat : ∀ {H' : Hp},(∀ b ∈ fp,H' b = none) → ∀ b ∈ fp,TK X pins H' b := fun hn b hb => ⟨hn b hb,(f2 b hb).2⟩
 refine codeAny_forLoop_any (fun n s' => ∃ i σ' H',Inv X pins σ' H' s'∧tn i s'.heap∧(∀ b ∈ fp,H' b = none)∧W i n σ' H') ?_ m0 ⟨0,σ,H2,I2,st2,fun b hb => (f2 b hb).1,w0⟩
 rintro n s3 ⟨i,σ3,H3,I3,st3,fr3,w3⟩
 rcases turn i n σ3 H3 w3 with ⟨stop,qn⟩ | ⟨go,N,hN,step⟩
 ·refine wpAny_passesOwn hp (thn (T.done X rfl rfl rfl hc i pins s3 σ3 H3 X.xe I3 (stat fr3) st3 stop) fun r s4 ⟨hr,I4⟩ => ?_)
  subst hr
  exact wpAny_execs_nil ⟨σ3,H3,I4,qn⟩
 ·refine wpAny_passesOwn hp (thn (T.item X rfl rfl rfl hc i pins s3 σ3 H3 X.xe I3 (stat fr3) st3 go) fun r s4 ⟨u,hr,h4⟩ => ?_)
  subst hr
  refine wpAny_passesOwn hp (thn h4 fun _ s5 ⟨x,H5,I5,r5,y5,st5,fr5⟩ => ?_)
  have I5' := I5.pinned (stat fr5) (T.obj _ _ st5)
  refine wpAny_passesOwn hp (thn (hg _ s5 σ3 H5 x u _ I5' r5 (step x H5 y5)) fun _ s6 ⟨σ6,H6,I6,q6⟩ => ?_)
  refine wpAny_passesOwn hp (thn (hb _ s6 σ6 H6 _ I6 q6) fun f s7 q7 => ?_)
  have again : ∀ {σ7 : St} {H7 : Hp},Inv X (pins ++ E6 fp s5.heap) σ7 H7 s7 → N σ7 H7 → ∃ m,m < n∧∃ i σ' H',Inv X pins σ' H' s7∧tn i s7.heap∧(∀ b ∈ fp,H' b = none)∧W i m σ' H' := fun {σ7 H7} I7 n7 => by
   obtain ⟨m',hm,w7⟩ := hN σ7 H7 n7
   refine ⟨m',hm,i + 1,σ7,H7,I7.unpinned,T.keep _ _ _ st5 fun b hb o e => (I7.pin (b,o) (List.mem_append_right _ (List.mem_append_right _ (zt hb e)))).1,fun b hb => ?_,w7⟩
   obtain ⟨o,e,d⟩ := T.obj _ _ st5 b hb
   exact (I7.pin (b,o) (List.mem_append_right _ (List.mem_append_right _ (zt hb e)))).2.1
  cases f with
  | next => obtain ⟨σ7,H7,I7,n7⟩ := q7;exact again I7 n7
  | cont => obtain ⟨σ7,H7,I7,n7⟩ := q7;exact again I7 n7
  | brk => obtain ⟨σ7,H7,I7,q7⟩ := q7;exact ⟨σ7,H7,I7.unpinned,q7⟩
  | ret v => obtain ⟨x7,σ7,H7,I7,r7,q7⟩ := q7;exact ⟨x7,σ7,H7,I7.unpinned,r7,q7⟩
end
end L2
namespace L2
open PySem PySem.Spec PyProof.Rows
abbrev R2 := V → V → Hp → VK → Prop
def OpR (X : Cx) (f : Value → Value → Sem Value) (r : R2) : Prop :=
 ∀ (pins : List (Addr × Obj)) (s : Shared) (σ : St) (H : Hp) (x y : V) (v u : Value) (Q : VK),Inv X pins σ H s → js x v → js y u → r x y H Q →
  wpAny (model X.prog X.w) X.A (f v u) (EP X pins σ Q) X.xe s
def UnR (X : Cx) (f : Value → Sem Value) (r : V → Hp → VK → Prop) : Prop :=
 ∀ (pins : List (Addr × Obj)) (s : Shared) (σ : St) (H : Hp) (x : V) (v : Value) (Q : VK),Inv X pins σ H s → js x v → r x H Q →
  wpAny (model X.prog X.w) X.A (f v) (EP X pins σ Q) X.xe s
def J0 (X : Cx) (f : Value) (r : List V → Hp → VK → Prop) : Prop :=
 ∀ (pins : List (Addr × Obj)) (s : Shared) (σ : St) (H : Hp) (xs : List V) (us : List Value) (Q : VK),Inv X pins σ H s → zO xs us → r xs H Q →
  wpAny (model X.prog X.w) X.A (call f us) (EP X pins σ Q) X.xe s
def tOp (r : R2) (ta tb : TE) : TE := fun σ H Q => ta σ H fun x H1 => tb σ H1 fun y H2 => r x y H2 Q
def tUn (r : V → Hp → VK → Prop) (ta : TE) : TE := fun σ H Q => ta σ H fun x H1 => r x H1 Q
def rI (C : Int → Int → Prop) (g : Int → Int → V) : R2 := fun x y H Q => ∃ i j,x = .int i∧y = .int j∧C i j∧Q (g i j) H
def rI0 (g : Int → Int → V) : R2 := fun x y H Q => ∃ i j,x = .int i∧y = .int j∧Q (g i j) H
def rU (g : Int → V) : V → Hp → VK → Prop := fun x H Q => ∃ i,x = .int i∧Q (g i) H
section
variable {X : Cx} {a b c : Expr} {ta tb tc : TE} {pos : Pos}
theorem qok (ha : PE X a ta) (hb : PE X b tb) {pins : List (Addr × Obj)} {s : Shared} {σ : St} {H : Hp} {R : V → V → Hp → Prop} (I : Inv X pins σ H s)
  (h : ta σ H fun x H1 => tb σ H1 fun y H2 => R x y H2) {Q : Value → Shared → Prop} {f : Value → Value → Sem Value}
  (hf : ∀ v u s2 x y H2,Inv X pins σ H2 s2 → js x v → js y u → R x y H2 → wpAny (model X.prog X.w) X.A (f v u) Q X.xe s2) :
  wpAny (model X.prog X.w) X.A (eval a X.env) (fun v s₁ => wpAny (model X.prog X.w) X.A (eval b X.env) (fun u s₂ => wpAny (model X.prog X.w) X.A (f v u) Q X.xe s₂) X.xe s₁) X.xe s := by
 refine thn (ha pins s σ H _ I h) fun v s1 ⟨x,H1,I1,r1,q1⟩ => ?_
 refine thn (hb pins s1 σ H1 _ I1 q1) fun u s2 ⟨y,H2,I2,r2,q2⟩ => ?_
 exact hf v u s2 x y H2 I2 r1 r2 q2
theorem qnx {op : Operator} {r : R2} (ho : OpR X (binaryOp op) r) (ha : PE X a ta) (hb : PE X b tb) : PE X (.BinOp a op b pos) (tOp r ta tb) := by
 intro pins s σ H Q I h
 exact wpAny_BinOp (qok ha hb I h fun v u s2 x y H2 I2 rx ry q => ho pins s2 σ H2 x y v u Q I2 rx ry q)
theorem qod {op : UnaryOp} {r : V → Hp → VK → Prop} (ho : UnR X (unaryOp op) r) (ha : PE X a ta) : PE X (.UnaryOp op a pos) (tUn r ta) := by
 intro pins s σ H Q I h
 exact UnaryOp_ (thn (ha pins s σ H _ I h) fun v s1 ⟨x,H1,I1,r1,q1⟩ => ho pins s1 σ H1 x v Q I1 r1 q1)
theorem opI {f : Value → Value → Sem Value} {C : Int → Int → Prop} {g : Int → Int → Int}
  (rule : ∀ (i j : Int) (t u : Tok) (s : Shared) (Q : Value → Shared → Prop) (E : Value → Shared → Prop),C i j → Q (.int (g i j) s.toks) { s with toks := s.toks + 1 } → wpAny (model X.prog X.w) X.A (f (.int i t) (.int j u)) Q E s) :
  OpR X f (rI C fun i j => .int (g i j)) := by
 intro pins s σ H x y v u Q I rx ry h
 obtain ⟨i,j,rfl,rfl,hc,q⟩ := h
 obtain ⟨t,rfl⟩ := rx
 obtain ⟨t',rfl⟩ := ry
 exact rule i j t t' s _ _ hc ⟨.int (g i j),H,I.tok _,⟨_,rfl⟩,q⟩
theorem qo0 {f : Value → Value → Sem Value} {g : Int → Int → Int}
  (rule : ∀ (i j : Int) (t u : Tok) (s : Shared) (Q : Value → Shared → Prop) (E : Value → Shared → Prop),Q (.int (g i j) s.toks) { s with toks := s.toks + 1 } → wpAny (model X.prog X.w) X.A (f (.int i t) (.int j u)) Q E s) :
  OpR X f (rI0 fun i j => .int (g i j)) := by
 intro pins s σ H x y v u Q I rx ry h
 obtain ⟨i,j,rfl,rfl,q⟩ := h
 obtain ⟨t,rfl⟩ := rx
 obtain ⟨t',rfl⟩ := ry
 exact rule i j t t' s _ _ ⟨.int (g i j),H,I.tok _,⟨_,rfl⟩,q⟩
theorem qmN {f : Value → Value → Sem Value} {g : Int → Int → Bool}
  (rule : ∀ (i j : Int) (t u : Tok) (s : Shared) (Q : Value → Shared → Prop) (E : Value → Shared → Prop),Q (.bool (g i j)) s → wpAny (model X.prog X.w) X.A (f (.int i t) (.int j u)) Q E s) :
  OpR X f (rI0 fun i j => .bl (g i j)) := by
 intro pins s σ H x y v u Q I rx ry h
 obtain ⟨i,j,rfl,rfl,q⟩ := h
 obtain ⟨t,rfl⟩ := rx
 obtain ⟨t',rfl⟩ := ry
 exact rule i j t t' s _ _ ⟨.bl (g i j),H,I,rfl,q⟩
def qht (i j : Int) : Prop := 0 < j∧j < 1073741824
def KF (i j : Int) : Prop := 0 ≤ j∧j ≤ 1000000∧i.natAbs < 2 ^ 64
def QP (i j : Int) : Prop := (-(2 ^ 64) < i∧i < 2 ^ 64) ∨ (-(2 ^ 64) < j∧j < 2 ^ 64)
theorem QP.ok {i j : Int} (h : QP i j) : IntMulOk i j := by
 rcases h with ⟨h1,h2⟩ | ⟨h1,h2⟩
 ·exact .of_left (intBits_le_64 h1 h2)
 ·exact .of_right (intBits_le_64 h1 h2)
theorem qi9 : OpR X (binaryOp .Add) (rI0 fun i j => .int (i + j)) := qo0 fun _ _ _ _ _ _ _ q => add_int q
theorem qiG : OpR X (binaryOp .Sub) (rI0 fun i j => .int (i - j)) := qo0 fun _ _ _ _ _ _ _ q => sub_int q
theorem qmA : OpR X (binaryOp .Mult) (rI QP fun i j => .int (i * j)) := opI fun _ _ _ _ _ _ _ hc q => mul_int q hc.ok
theorem qhu : OpR X (binaryOp .FloorDiv) (rI qht fun i j => .int (i / j)) := opI fun i j _ _ _ _ _ hc q => by
 have h1 : (0 : Int) < j := hc.1
 have h2 : j < 1073741824 := hc.2
 exact floordiv_int (by omega) (by rw [Int.fdiv_eq_ediv_of_nonneg i (by omega)];exact q) (.inl (PyProof.noPylong_small (by omega)))
theorem qiL : OpR X (binaryOp .Mod) (rI (fun _ j => 0 < j) fun i j => .int (i % j)) := opI fun i j _ _ _ _ _ hc q => by
 have h1 : (0 : Int) < j := hc
 exact mod_int' (by omega) (by rw [Int.fmod_eq_emod_of_nonneg i (by omega)];exact q)
theorem qki : OpR X (binaryOp .Pow) (rI KF fun i j => .int (i ^ j.toNat)) := opI fun _ _ _ _ _ _ _ hc q => pow_int_small hc.1 hc.2.1 hc.2.2 q
theorem qjP : OpR X (binaryOp .LShift) (rI KF fun i j => .int (i * 2 ^ j.toNat)) := opI fun _ _ _ _ _ _ _ hc q => lshift_int_small hc.1 hc.2.1 hc.2.2 q
theorem unI {f : Value → Sem Value} {g : Int → Int}
  (rule : ∀ (i : Int) (t : Tok) (s : Shared) (Q : Value → Shared → Prop) (E : Value → Shared → Prop),Q (.int (g i) s.toks) { s with toks := s.toks + 1 } → wpAny (model X.prog X.w) X.A (f (.int i t)) Q E s) :
  UnR X f (rU fun i => .int (g i)) := by
 intro pins s σ H x v Q I rx h
 obtain ⟨i,rfl,q⟩ := h
 obtain ⟨t,rfl⟩ := rx
 exact rule i t s _ _ ⟨.int (g i),H,I.tok _,⟨_,rfl⟩,q⟩
theorem qkI : UnR X (unaryOp .USub) (rU fun i => .int (-i)) := unI fun _ _ _ _ _ q => neg_int q
end
def qn1 : V → V → Bool
 | .non,.non => true | .non,.int _ => true | .int _,.non => true | .non,.bl _ => true | .bl _,.non => true | .non,.str _ => true | .str _,.non => true
 | .int _,.int _ => true | .bl _,.bl _ => true | .str _,.str _ => true | .byt _,.byt _ => true
 | .int _,.str _ => true | .str _,.int _ => true | .bl _,.str _ => true | .str _,.bl _ => true
 | _,_ => false
def rEq : R2 := fun x y H Q => qn1 x y = true∧Q (.bl (decide (x = y))) H
def rNe : R2 := fun x y H Q => qn1 x y = true∧Q (.bl (!decide (x = y))) H
theorem qas {i j : Int} : decide (V.int i = V.int j) = (i == j) := by
 rw [Bool.eq_iff_iff]
 simp
theorem qd1 {i j : Bool} : decide (V.bl i = V.bl j) = (i == j) := by
 rw [Bool.eq_iff_iff]
 simp
theorem qbJ {i j : Str} : decide (V.str i = V.str j) = (i == j) := by
 rw [Bool.eq_iff_iff]
 simp
theorem qaS {i j : Array UInt8} : decide (V.byt i = V.byt j) = (i.toList == j.toList) := by
 rw [Bool.eq_iff_iff]
 cases i
 cases j
 simp
section
variable {X : Cx} {a b c : Expr} {ta tb tc : TE} {pos : Pos}
theorem qV {pins : List (Addr × Obj)} {σ : St} {H : Hp} {s : Shared} {Q : VK} {k k' : Bool} (I : Inv X pins σ H s) (q : Q (.bl k) H) (e : k = k') : EP X pins σ Q (.bool k') s := by
 subst e
 exact ⟨.bl k,H,I,rfl,q⟩
theorem qoH : OpR X (compareOp .Eq) rEq := by
 intro pins s σ H x y v u Q I rx ry h
 obtain ⟨hs,q⟩ := h
 cases x with
 | non =>
  cases rx
  cases y with
  | non => cases ry;exact PySem.EqNone.eq_none_none (qV I q (by simp))
  | bl j => cases ry;exact PySem.EqNone.eq_none_bool (qV I q (by simp))
  | int j => obtain ⟨t',rfl⟩ := ry;exact PySem.EqNone.eq_none_int (qV I q (by simp))
  | str j => obtain ⟨t',rfl⟩ := ry;exact PySem.EqNone.eq_none_str (qV I q (by simp))
  | _ => exact absurd (show false = true from hs) Bool.false_ne_true
 | bl i =>
  cases rx
  cases y with
  | non => cases ry;exact PySem.EqNone.eq_bool_none (qV I q (by simp))
  | bl j => cases ry;exact eq_bool (qV I q qd1)
  | str j => obtain ⟨t',rfl⟩ := ry;exact PySem.EqMixed.eq_bool_str (qV I q (by simp))
  | _ => exact absurd (show false = true from hs) Bool.false_ne_true
 | int i =>
  obtain ⟨t,rfl⟩ := rx
  cases y with
  | non => cases ry;exact PySem.EqNone.eq_int_none (qV I q (by simp))
  | int j => obtain ⟨t',rfl⟩ := ry;exact eq_int (qV I q qas)
  | str j => obtain ⟨t',rfl⟩ := ry;exact PySem.EqMixed.eq_int_str (qV I q (by simp))
  | _ => exact absurd (show false = true from hs) Bool.false_ne_true
 | str i =>
  obtain ⟨t,rfl⟩ := rx
  cases y with
  | non => cases ry;exact PySem.EqNone.eq_str_none (qV I q (by simp))
  | bl j => cases ry;exact PySem.EqMixed.eq_str_bool (qV I q (by simp))
  | int j => obtain ⟨t',rfl⟩ := ry;exact PySem.EqMixed.eq_str_int (qV I q (by simp))
  | str j => obtain ⟨t',rfl⟩ := ry;exact eq_str (qV I q qbJ)
  | _ => exact absurd (show false = true from hs) Bool.false_ne_true
 | byt i =>
  obtain ⟨t,rfl⟩ := rx
  cases y with
  | byt j => obtain ⟨t',rfl⟩ := ry;exact PySem.W.eq_bytes (qV I q qaS)
  | _ => exact absurd (show false = true from hs) Bool.false_ne_true
 | _ => cases y <;> exact absurd (show false = true from hs) Bool.false_ne_true
theorem qnh : OpR X (compareOp .NotEq) rNe := by
 intro pins s σ H x y v u Q I rx ry h
 obtain ⟨hs,q⟩ := h
 cases x with
 | non =>
  cases rx
  cases y with
  | non => cases ry;exact PySem.EqNone.ne_none_none (qV I q (by simp))
  | bl j => cases ry;exact PySem.EqNone.ne_none_bool (qV I q (by simp))
  | int j => obtain ⟨t',rfl⟩ := ry;exact PySem.EqNone.ne_none_int (qV I q (by simp))
  | str j => obtain ⟨t',rfl⟩ := ry;exact PySem.EqNone.ne_none_str (qV I q (by simp))
  | _ => exact absurd (show false = true from hs) Bool.false_ne_true
 | bl i =>
  cases rx
  cases y with
  | non => cases ry;exact PySem.EqNone.ne_bool_none (qV I q (by simp))
  | bl j => cases ry;exact ne_bool (qV I q (congrArg not qd1))
  | str j => obtain ⟨t',rfl⟩ := ry;exact PySem.EqMixed.ne_bool_str (qV I q (by simp))
  | _ => exact absurd (show false = true from hs) Bool.false_ne_true
 | int i =>
  obtain ⟨t,rfl⟩ := rx
  cases y with
  | non => cases ry;exact PySem.EqNone.ne_int_none (qV I q (by simp))
  | int j => obtain ⟨t',rfl⟩ := ry;exact ne_int (qV I q (congrArg not qas))
  | str j => obtain ⟨t',rfl⟩ := ry;exact PySem.EqMixed.ne_int_str (qV I q (by simp))
  | _ => exact absurd (show false = true from hs) Bool.false_ne_true
 | str i =>
  obtain ⟨t,rfl⟩ := rx
  cases y with
  | non => cases ry;exact PySem.EqNone.ne_str_none (qV I q (by simp))
  | bl j => cases ry;exact PySem.EqMixed.ne_str_bool (qV I q (by simp))
  | int j => obtain ⟨t',rfl⟩ := ry;exact PySem.EqMixed.ne_str_int (qV I q (by simp))
  | str j => obtain ⟨t',rfl⟩ := ry;exact ne_str (qV I q (congrArg not qbJ))
  | _ => exact absurd (show false = true from hs) Bool.false_ne_true
 | byt i =>
  obtain ⟨t,rfl⟩ := rx
  cases y with
  | byt j => obtain ⟨t',rfl⟩ := ry;exact PySem.W.ne_bytes (qV I q (congrArg not qaS))
  | _ => exact absurd (show false = true from hs) Bool.false_ne_true
 | _ => cases y <;> exact absurd (show false = true from hs) Bool.false_ne_true
theorem qae : OpR X (compareOp .Lt) (rI0 fun i j => .bl (decide (i < j))) := qmN fun _ _ _ _ _ _ _ q => lt_int q
theorem qkK : OpR X (compareOp .LtE) (rI0 fun i j => .bl (decide (i ≤ j))) := qmN fun _ _ _ _ _ _ _ q => le_int q
theorem qgP : OpR X (compareOp .Gt) (rI0 fun i j => .bl (decide (j < i))) := qmN fun _ _ _ _ _ _ _ q => gt_int q
theorem qoj : OpR X (compareOp .GtE) (rI0 fun i j => .bl (decide (j ≤ i))) := qmN fun _ _ _ _ _ _ _ q => ge_int q
theorem MW : OpR X (compareOp .Is) (fun x y H Q => y = .non∧Q (.bl (decide (x = .non))) H) := by
 intro pins s σ H x y v u Q I rx ry h
 obtain ⟨rfl,q⟩ := h
 cases ry
 refine is_none_gen (qV I q ?_)
 cases x <;> first
  | (cases rx;rfl)
  | (obtain ⟨t,rfl⟩ := rx;rfl)
theorem qg3 : OpR X (compareOp .IsNot) (fun x y H Q => y = .non∧Q (.bl (!decide (x = .non))) H) := by
 intro pins s σ H x y v u Q I rx ry h
 obtain ⟨rfl,q⟩ := h
 cases ry
 refine isnot_none_gen (qV I q ?_)
 cases x <;> first
  | (cases rx;rfl)
  | (obtain ⟨t,rfl⟩ := rx;rfl)
theorem OpR.or {f : Value → Value → Sem Value} {r r' : R2} (h : OpR X f r) (h' : OpR X f r') : OpR X f (fun x y H Q => r x y H Q ∨ r' x y H Q) := by
 intro pins s σ H x y v u Q I rx ry q
 rcases q with q | q
 ·exact h pins s σ H x y v u Q I rx ry q
 ·exact h' pins s σ H x y v u Q I rx ry q
theorem qB (b : Expr) {op : CmpOp} (h : op ≠ .In := by decide) (h2 : op ≠ .NotIn := by decide) : behindInMarks op b = false := by
 have e1 : (op == CmpOp.In) = false := by cases op <;> first | rfl | exact absurd rfl h
 have e2 : (op == CmpOp.NotIn) = false := by cases op <;> first | rfl | exact absurd rfl h2
 cases b <;> simp [behindInMarks,e1,e2]
theorem qha {op : CmpOp} {r : R2} (ho : OpR X (compareOp op) r) (ha : PE X a ta) (hb : PE X b tb) (hm : behindInMarks op b = false) : PE X (.Compare a [op] [b] pos) (tOp r ta tb) := by
 intro pins s σ H Q I h
 exact wpAny_Compare1 (qok ha hb I h fun v u s2 x y H2 I2 rx ry q => ho pins s2 σ H2 x y v u Q I2 rx ry q) hm
def qmy (t : TE) : TT := fun σ H Q => t σ H fun x H' => ∃ k,x = .bl k∧Q k H'
theorem qgK {op : CmpOp} {r : R2} (ho : OpR X (compareOp op) r) (ha : PE X a ta) (hb : PE X b tb) (hm : behindInMarks op b = false) : PT X (.Compare a [op] [b] pos) (qmy (tOp r ta tb)) := by
 intro pins s σ H Q I h
 refine wpAny_isTrue_Compare1 (thn (ha pins s σ H _ I h) fun v s1 ⟨x,H1,I1,r1,q1⟩ => thn (hb pins s1 σ H1 _ I1 q1) fun u s2 ⟨y,H2,I2,r2,q2⟩ =>
  thn (ho pins s2 σ H2 x y v u _ I2 r1 r2 q2) fun c s3 ⟨z,H3,I3,r3,k,e,q3⟩ => ?_) hm
 subst e
 cases r3
 exact wpAny_truthy_bool ⟨H3,I3,q3⟩
def qeY (r r' : R2) (ta tb tc : TE) : TE := fun σ H Q => ta σ H fun x H1 => tb σ H1 fun y H2 => r x y H2 fun z H3 => ∃ k,z = .bl k ∧
 (if k = true then tc σ H3 fun w' H4 => r' y w' H4 Q else Q (.bl false) H3)
theorem qcD {op op' : CmpOp} {r r' : R2} (ho : OpR X (compareOp op) r) (ho' : OpR X (compareOp op') r') (ha : PE X a ta) (hb : PE X b tb) (hc : PE X c tc)
  (hm : lastMarks [op,op'] [b,c] = false := by with_unfolding_all rfl) : PE X (.Compare a [op,op'] [b,c] pos) (qeY r r' ta tb tc) := by
 intro pins s σ H Q I h
 refine Compare_chain (thn (ha pins s σ H _ I h) fun v s1 ⟨x,H1,I1,r1,q1⟩ => chain_link (thn (hb pins s1 σ H1 _ I1 q1) fun u s2 ⟨y,H2,I2,r2,q2⟩ =>
  thn (ho pins s2 σ H2 x y v u _ I2 r1 r2 q2) fun d s3 ⟨z,H3,I3,r3,k,e,q3⟩ => ?_)) hm
 subst e
 cases r3
 refine wpAny_truthy_bool ?_
 cases k with
 | false => exact ite_ff ⟨.bl false,H3,I3,rfl,q3⟩
 | true => exact ite_tt (chain_last (thn (hc pins s3 σ H3 _ I3 q3) fun w' s4 ⟨z',H4,I4,r4,q4⟩ => ho' pins s4 σ H4 y z' u w' Q I4 r2 r4 q4))
theorem TR : (sizeLine : Nat) < 2 ^ 63 := by rw [sizeLine_eq];decide
theorem XR {x : V} {us : List Value} (r : zO [x] us) : ∃ u,us = [u]∧js x u := by
 cases r with
 | cons r1 r2 => cases r2;exact ⟨_,rfl,r1⟩
theorem qaZ {x y : V} {us : List Value} (r : zO [x,y] us) : ∃ u w',us = [u,w']∧js x u∧js y w' := by
 cases r with
 | cons r1 r2 =>
  cases r2 with
  | cons r3 r4 => cases r4;exact ⟨_,_,rfl,r1,r3⟩
theorem MK : J0 X (.builtin "abs") (fun xs H Q => ∃ i,xs = [.int i]∧Q (.int (if i < 0 then -i else i)) H) := by
 intro pins s σ H xs us Q I r h
 obtain ⟨i,rfl,q⟩ := h
 obtain ⟨u,rfl,t,rfl⟩ := XR r
 exact call_abs_int fun u tk => ⟨.int (if i < 0 then -i else i),H,I.tok _,⟨_,rfl⟩,q⟩
theorem qa4 (hc : X.calm = true) : J0 X (.builtin "min") (fun xs H Q => ∃ i j,xs = [.int i,.int j]∧Q (.int (if j < i then j else i)) H) := by
 intro pins s σ H xs us Q I r h
 obtain ⟨i,j,rfl,q⟩ := h
 obtain ⟨u,w',rfl,⟨t,rfl⟩,⟨t',rfl⟩⟩ := qaZ r
 refine min_two_ints (I.ok.hd hc) fun h' tk k => ⟨_,H,I.kept k,?_,q⟩
 by_cases hj : j < i
 ·rw [if_pos hj,if_pos hj];exact ⟨_,rfl⟩
 ·rw [if_neg hj,if_neg hj];exact ⟨_,rfl⟩
theorem DR : J0 X (.type "int") (fun xs H Q => (∃ i,xs = [.int i]∧Q (.int i) H) ∨ ∃ k,xs = [.bl k]∧Q (.int (if k then 1 else 0)) H) := by
 intro pins s σ H xs us Q I r h
 rcases h with ⟨i,rfl,q⟩ | ⟨k,rfl,q⟩
 ·obtain ⟨u,rfl,t,rfl⟩ := XR r
  exact call_int_int ⟨.int i,H,I,⟨_,rfl⟩,q⟩
 ·obtain ⟨u,rfl,r1⟩ := XR r
  cases r1
  exact call_int_bool ⟨.int (if k then 1 else 0),H,I.tok _,⟨_,rfl⟩,q⟩
def qoO (K : PySem.W.Frag) (x : V) (H : Hp) (n : Nat) : Prop :=
 match x with
 | .str y => y.length ≤ sizeLine∧n = y.length
 | .byt y => y.size ≤ sizeLine∧n = y.size
 | .ref p => (∃ xs,SqL K H p xs∧n = xs.length) ∨ ∃ xs,SqT K H p xs∧n = xs.length
 | _ => False
theorem zI : J0 X (.builtin "len") (fun xs H Q => ∃ x n,xs = [x]∧qoO X.K x H n∧Q (.int n) H) := by
 intro pins s σ H xs us Q I r h
 obtain ⟨x,n,rfl,e,q⟩ := h
 obtain ⟨u,rfl,rx⟩ := XR r
 have hl := TR
 have hs : sizeLine = 16777216 := sizeLine_eq
 cases x with
 | str y =>
  obtain ⟨t,rfl⟩ := rx
  obtain ⟨hy,e'⟩ : y.length ≤ sizeLine∧n = y.length := e
  subst e'
  exact len_str (by omega) ⟨.int _,H,I.tok _,⟨_,rfl⟩,q⟩
 | byt y =>
  obtain ⟨t,rfl⟩ := rx
  obtain ⟨hy,e'⟩ : y.size ≤ sizeLine∧n = y.size := e
  subst e'
  exact PySem.W.len_bytes (by omega) ⟨.int _,H,I.tok _,⟨_,rfl⟩,q⟩
 | ref p =>
  cases rx
  have e' : (∃ xs,SqL X.K H p xs∧n = xs.length) ∨ ∃ xs,SqT X.K H p xs∧n = xs.length := e
  rcases e' with ⟨xs,hx,e'⟩ | ⟨xs,hx,e'⟩
  ·subst e'
   obtain ⟨its,r',pl,hz⟩ := I.list hx
   have hlen := r'.length
   exact Calls.call_len_list pl.isList (by simp only [List.size_toArray];omega) ⟨.int xs.length,H,I.tok _,⟨_,by simp only [List.size_toArray];rw [hlen]⟩,q⟩
  ·subst e'
   obtain ⟨its,r',pl,hz⟩ := I.tuple hx
   have hlen := r'.length
   exact len_tuple pl (by simp only [List.size_toArray];omega) ⟨.int xs.length,H,I.tok _,⟨_,by simp only [List.size_toArray];rw [hlen]⟩,q⟩
 | _ => exact (show False from e).elim
end
end L2
namespace L2
open PySem PySem.Spec PyProof.Rows
section
variable {prog : Program} {w : World} {A : Around} {E : Value → Shared → Prop} {s : Shared} {K : PySem.W.Frag} {x dx C f : Addr} {mA : Str → Option Value} {name : Str} {v : Value}
end
section
variable {P : Program} {w : World} {H H' : Hp} {h h' : Heap} {a C dx : Addr} {fs fs' : List (Str × V)}
end
section
variable {X : Cx} {pins : List (Addr × Obj)} {σ : St} {H : Hp} {s : Shared} {a C dx : Addr} {fs : List (Str × V)} {f : Str} {v : V} {A : Around} {E : Value → Shared → Prop}
end
section
variable {X : Cx} {o e value : Expr} {f : Str} {pos pos' tpos : Pos} {ta tv : TE}
end
section
variable {X : Cx} {pins : List (Addr × Obj)} {σ : St} {H : Hp} {s : Shared} {A : Around} {E : Value → Shared → Prop} {Q : Value → Shared → Prop} {c : Value} {b : Bool}
end
end L2
namespace L2
open PySem PySem.Spec PyProof.Rows
structure Room (k : Nat) (A : Around) : Prop where
 hd : A.handled = none
 dp : A.depth + 3 * k + 5 < recursionLimit
 un : A.units + 16 * k + 200 < cLine
 gd : A.guards = some []
theorem Room.mono {j k : Nat} {A : Around} (r : Room k A) (h : j ≤ k) : Room j A := ⟨r.hd,by have := r.dp;omega,by have := r.un;omega,r.gd⟩
theorem Room.deeper {k : Nat} {A : Around} (r : Room (k + 1) A) (env : Env) : Room k (A.deeper env) :=
 ⟨r.hd,by have := r.dp;show A.depth + 1 + 3 * k + 5 < _;omega,by have := r.un;show A.units + 3 + 16 * k + 200 < _;omega,r.gd⟩
theorem Room.in1 {k : Nat} {A : Around} (r : Room (k + 1) A) : Room k A.in1 :=
 ⟨r.hd,by have := r.dp;show A.depth + 3 * k + 5 < _;omega,by have := r.un;show A.units + 1 + 16 * k + 200 < _;omega,r.gd⟩
theorem Room.depth {k : Nat} {A : Around} (r : Room k A) : A.depth < recursionLimit := by have := r.dp;omega
theorem Room.units {k : Nat} {A : Around} (r : Room k A) : A.units + 64 < cLine := by have := r.un;omega
def qp3 : TA := fun _ H Q => Q [] H
def qoF (ta : TE) (tr : TA) : TA := fun σ H Q => ta σ H fun x H1 => tr σ H1 fun xs H2 => Q (x :: xs) H2
section
variable {X : Cx} {e : Expr} {es : List Expr} {te : TE} {t : TA} {pos : Pos}
theorem MT : PA X [] qp3 := fun _ _ _ _ H Q I h => Calls.spliced_nil ⟨[],H,I,.nil,h⟩
theorem V3 (ha : PE X e te) (hr : PA X es t) (hs : starEach (e :: es) X.env = (false,eval e X.env) :: starEach es X.env := by rfl) : PA X (e :: es) (qoF te t) := by
 intro pos pins s σ H Q I h
 rw [hs]
 show wpAny _ _ (spliced ((false,eval e X.env) :: backTo pos (starEach es X.env))) _ _ s
 refine Calls.spliced_cons (thn (ha pins s σ H _ I h) fun u s1 ⟨x,H1,I1,r1,q1⟩ => ?_)
 exact thn (hr pos pins s1 σ H1 _ I1 q1) fun us s2 ⟨xs,H2,I2,r2,q2⟩ => ⟨x :: xs,H2,I2,.cons r1 r2,q2⟩
def qpI (t : TA) : TE := fun σ H Q => t σ H fun xs H1 => xs.length ≤ sizeLine∧∀ p,H1 p = none → Q (.ref p) (upd H1 p (.tup xs))
def qpX (t : TA) : TE := fun σ H Q => t σ H fun xs H1 => xs.length ≤ sizeLine∧∀ p,H1 p = none → Q (.ref p) (upd H1 p (.lst xs))
theorem qez {x1} (h : PA X es t) : PE X (.Tuple es x1 pos) (qpI t) := by
 intro pins s σ H Q I hq
 refine wpAny_Tuple_spliced (thn (h pos pins s σ H _ I hq) fun us s1 ⟨xs,H1,I1,r,z,q⟩ => ⟨by rw [← r.length];exact z,?_⟩)
 have hf : H1 s1.heap.objs.size = none := I1.hok.fresh (Nat.le_refl _)
 refine ⟨.ref s1.heap.objs.size,upd H1 s1.heap.objs.size (.tup xs),I1.laid (t' := s1.toks) (fun b u e => Heap.get?_push_of_some _ e) (Nat.le_refl _) ?_,rfl,q _ hf⟩
 exact ⟨z,us,r,⟨_,Heap.get?_push_size _ rfl,rfl,_,rfl⟩⟩
theorem qix (h : PA X es t) : PE X (.List es pos) (qpX t) := by
 intro pins s σ H Q I hq
 refine wpAny_List_spliced (thn (h pos pins s σ H _ I hq) fun us s1 ⟨xs,H1,I1,r,z,q⟩ => ⟨by rw [← r.length];exact z,?_⟩)
 have hf : H1 s1.heap.objs.size = none := I1.hok.fresh (Nat.le_refl _)
 refine ⟨.ref s1.heap.objs.size,upd H1 s1.heap.objs.size (.lst xs),I1.laid (t' := s1.toks) (fun b u e => Heap.get?_push_of_some _ e) (Nat.le_refl _) ?_,rfl,q _ hf⟩
 exact ⟨z,us,0,r,Heap.get?_push_size _ rfl⟩
end
abbrev Sp := List V → Hp → VK → XK → Prop
abbrev CXT := List Env → Hp → Shared → XK → Value → Shared → Prop
structure Env0 (P : Program) (w : World) (K : PySem.W.Frag) (mg : Str → Option Value) (base : Heap) (A : Around) (outer : List Env) (s : Shared) (H : Hp) : Prop where
 frames : A.frames = some outer
 mod : Mod K mg base
 bs : ∀ b o,base.get? b = some o → s.heap.get? b = some o∧H b = none
 bsz : base.objs.size ≤ s.heap.objs.size
 funs : s.heap.FunFrames base outer
 frf : ∀ b ∈ frs outer,H b = none
 hok : HOk P w H s.heap
 bare : AllBare s.gens
def CE (outer : List Env) (P : Program) (w : World) (H : Hp) (s : Shared) (Q : VK) (u : Value) (s' : Shared) : Prop :=
 ∃ v H',s'.os = s.os∧AllBare s'.gens∧Un (frs outer) [] H H' s.heap s'.heap∧HOk P w H' s'.heap∧js v u∧Q v H'
def CR (CX : CXT) (outer : List Env) (P : Program) (w : World) (H : Hp) (s : Shared) (Q : VK) (E : XK) (r : Result) (s' : Shared) : Prop :=
 match r with
 | .ok (.ret u) => CE outer P w H s Q u s'
 | .ok _ => False
 | .error e => CX outer H s E e s'
structure FnOk (P : Program) (w : World) (K : PySem.W.Frag) (mg : Str → Option Value) (base : Heap) (CX : CXT) (k : Nat) (f : Addr) (fd : FuncData) (ps : List Str) (sp : Sp) : Prop where
 len : ∀ vs H Q E,sp vs H Q E → vs.length = ps.length
 run : ∀ (A : Around) (outer : List Env) (s : Shared) (H : Hp) (args : Args) (us : List Value) (vs : List V) (Q : VK) (E : XK),Room k A → Env0 P w K mg base A outer s H → BindsTo s fd args (ps.zip us) → zO vs us → sp vs H Q E →
  codeAny (model P w) A (.call (.ref f) args) (CR CX outer P w H s Q E) s
theorem FnOk.mono {P : Program} {w : World} {K : PySem.W.Frag} {mg : Str → Option Value} {base : Heap} {CX : CXT} {j k : Nat} {f : Addr} {fd : FuncData} {ps : List Str} {sp : Sp} (F : FnOk P w K mg base CX j f fd ps sp) (h : j ≤ k) :
  FnOk P w K mg base CX k f fd ps sp := ⟨F.len,fun A outer s H args us vs Q E hr => F.run A outer s H args us vs Q E (hr.mono h)⟩
theorem FnOk.imp {P : Program} {w : World} {K : PySem.W.Frag} {mg : Str → Option Value} {base : Heap} {CX : CXT} {k : Nat} {f : Addr} {fd : FuncData} {ps : List Str} {sp sp' : Sp} (F : FnOk P w K mg base CX k f fd ps sp)
  (h : ∀ vs H Q E,sp' vs H Q E → sp vs H Q E) : FnOk P w K mg base CX k f fd ps sp' :=
 ⟨fun vs H Q E q => F.len vs H Q E (h _ _ _ _ q),fun A outer s H args us vs Q E hr he hb hv hs => F.run A outer s H args us vs Q E hr he hb hv (h _ _ _ _ hs)⟩
theorem Env0.in1 {P : Program} {w : World} {K : PySem.W.Frag} {mg : Str → Option Value} {base : Heap} {A : Around} {outer : List Env} {s : Shared} {H : Hp} (e : Env0 P w K mg base A outer s H) :
  Env0 P w K mg base A.in1 outer s H := ⟨e.frames,e.mod,e.bs,e.bsz,e.funs,e.frf,e.hok,e.bare⟩
section
variable {X : Cx} {pins : List (Addr × Obj)} {σ : St} {H : Hp} {s s' : Shared}
theorem Inv.env0 (I : Inv X pins σ H s) : Env0 X.prog X.w X.K X.mg X.base X.A X.stack s H :=
 ⟨I.ok.frames,I.ok.mod,I.bs,Nat.le_trans I.ok.bsz I.sz,I.stack,I.stkFree,I.hok,I.bare⟩
theorem Inv.after {Q : VK} {u : Value} (I : Inv X pins σ H s) (h : CE X.stack X.prog X.w H s Q u s') : EP X pins σ Q u s' := by
 obtain ⟨v,H',os,bare,un,hok,r,q⟩ := h
 obtain ⟨hh,g,d,t,os'⟩ := s'
 obtain rfl : os' = s.os := os
 exact ⟨v,H',I.call (h' := hh) (g' := g) (d' := d) (t' := t) (ch := []) un hok bare (fun b z => absurd z (by simp)),r,q⟩
end
def qnm (sp : Sp) (dvs : List V) (E : XK) (t : TA) : TE := fun σ H Q => t σ H fun vs H1 => sp (vs ++ dvs) H1 Q E
def zb (K : PySem.W.Frag) (fd : FuncData) (ps : List Str) (ds : List Value) : Prop :=
 ∀ (s : Shared) (us : List Value),K.In s.heap → (us ++ ds).length = ps.length → BindsTo s fd ⟨us,[]⟩ (ps.zip (us ++ ds))
theorem zb.all {K : PySem.W.Frag} {fd : FuncData} {ps : List Str} (h : ∀ us : List Value,us.length = ps.length → bindArgs fd ⟨us,[]⟩ = pure (ps.zip us)) : zb K fd ps [] := fun s us _ hl => by
 rw [List.append_nil] at hl ⊢
 exact .of_eq (h us hl)
def qa2 (CX : CXT) (X : Cx) (E : XK) : Prop := ∀ (pins : List (Addr × Obj)) (σ : St) (H : Hp) (s : Shared) (e : Value) (s' : Shared),Inv X pins σ H s → CX X.stack H s E e s' → X.xe e s'
section
variable {X : Cx} {CX : CXT} {k : Nat} {f C : Addr} {fd : FuncData} {ps : List Str} {sp : Sp} {dvs : List V} {ds : List Value} {E : XK} {x m : Str} {p pos apos : Pos} {e o : Expr} {es : List Expr} {ta : TE} {t : TA}
theorem qiI {pins : List (Addr × Obj)} {σ : St} {H : Hp} {s : Shared} {Q : VK} {us : List Value} {vs : List V} (F : FnOk X.prog X.w X.K X.mg X.base CX k f fd ps sp) (hr : Room k X.A) (hb : zb X.K fd ps ds) (hd : zO dvs ds) (hx : qa2 CX X E)
  (I : Inv X pins σ H s) (r : zO vs us) (h : sp (vs ++ dvs) H Q E) : wpAny (model X.prog X.w) X.A (call (.ref f) us) (EP X pins σ Q) X.xe s := by
 have r2 : zO (vs ++ dvs) (us ++ ds) := r.append hd
 have hl : (us ++ ds).length = ps.length := by rw [← r2.length];exact F.len _ _ _ _ h
 refine wpAny_call (codeAny_mono (F.run X.A X.stack s H ⟨us,[]⟩ (us ++ ds) (vs ++ dvs) Q E hr I.env0 (hb s us I.kIn hl) r2 h) fun r s' hq => ?_)
 cases r with
 | error e => exact hx pins σ H s e s' I hq
 | ok fl =>
  cases fl with
  | ret u => exact I.after hq
  | next => exact False.elim hq
  | brk => exact False.elim hq
  | cont => exact False.elim hq
theorem qgM (F : FnOk X.prog X.w X.K X.mg X.base CX k f fd ps sp) (hr : Room k X.A) (hg : Gl X x) (hm : X.mg x = some (.ref f)) (hk : PySem.W.keepIn X.K (.ref f) = true) (hb : zb X.K fd ps ds) (hd : zO dvs ds) (hx : qa2 CX X E)
  (ha : PA X (e :: es) t) (hdb : (x == ("__debug__" : Str)) = false := by decide) (he : starEach (e :: es) X.env = (false,eval e X.env) :: starEach es X.env := by rfl) (hpl : (backTo pos (starEach es X.env)).any (·.1) = false := by rfl) :
  PE X (.Call (.Name x p) (e :: es) [] pos) (qnm sp dvs E t) := by
 intro pins s σ H Q I h
 refine wpAny_Call_Name_kw (qaY I hg hm ?_ hdb)
 refine PySem.W.callWith_K (h₀ := X.base) I.ok.mod.kin hk (thn (ha pos pins s σ H _ I h) fun us s1 ⟨vs,H1,I1,r,q⟩ => ⟨I1.kIn,?_⟩) he hpl
 exact qiI F hr hb hd hx I1 r q
end
section
variable {X : Cx} {CX : CXT} {k : Nat} {f C : Addr} {fd : FuncData} {ps ks : List Str} {sp : Sp} {E : XK} {x m : Str} {p pos apos kpos : Pos} {e o : Expr} {es : List Expr} {kws : List Keyword} {te ta : TE} {t tk : TA} {nm : Option Str}
variable {g : List Value → List Value → List Value} {gV : List V → List V → List V}
end
structure FnScope (N P : List Str) (sc : Scope) : Prop where
 kind : sc.kind = .function
 co : sc.isCoroutine = false
 gen : sc.isGenerator = false
 nd : N.Nodup
 pre : N.take P.length = P
 par : ∀ x ∈ P,sc.names.lookup x = some .local ∨ sc.names.lookup x = some .cell
 nofree : ∀ y ∈ sc.names,y.2 ≠ .free
theorem T1 {kindOf : Str → Option NameKind} {x : Str} : ∀ {binds : List (Str × Value)} {m : Str → Option Value},(∀ v,(x,v) ∉ binds) → bindL kindOf binds m x = m x
 | [],_,_ => rfl
 | (n,v) :: r,m,h => by
  unfold bindL
  rw [T1 fun w hw => h w (List.mem_cons_of_mem _ hw)]
  split
  ·have : x ≠ n := by rintro rfl;exact h v List.mem_cons_self
   simp [this]
  ·rfl
theorem T7 {kindOf : Str → Option NameKind} {x : Str} : ∀ {binds : List (Str × Value)} {m : Str → Option Value},(∀ v,(x,v) ∉ binds) → bindC kindOf binds m x = m x
 | [],_,_ => rfl
 | (n,v) :: r,m,h => by
  unfold bindC
  rw [T7 fun w hw => h w (List.mem_cons_of_mem _ hw)]
  split
  ·rfl
  ·have : x ≠ n := by rintro rfl;exact h v List.mem_cons_self
   simp [this]
theorem S4 {kindOf : Str → Option NameKind} {x : Str} {v : Value} : ∀ {P : List Str} {vs : List Value} {i : Nat} {m : Str → Option Value},P.Nodup → P[i]? = some x → vs[i]? = some v → kindOf x = some .local →
  bindL kindOf (P.zip vs) m x = some v
 | [],_,_,_,_,h,_,_ => by simp at h
 | _ :: _,[],_,_,_,_,h,_ => by simp at h
 | p :: P,w :: vs,0,m,nd,h1,h2,hk => by
  simp at h1 h2;subst h1;subst h2
  show bindL kindOf ((p,w) :: P.zip vs) m p = _
  unfold bindL
  rw [T1 fun v hv => (List.nodup_cons.mp nd).1 (List.of_mem_zip hv).1,if_pos hk]
  simp
 | p :: P,w :: vs,i + 1,m,nd,h1,h2,hk => by
  show bindL kindOf ((p,w) :: P.zip vs) m x = _
  unfold bindL
  exact S4 (i := i) (List.nodup_cons.mp nd).2 (by simpa using h1) (by simpa using h2) hk
theorem SX {kindOf : Str → Option NameKind} {x : Str} {v : Value} : ∀ {P : List Str} {vs : List Value} {i : Nat} {m : Str → Option Value},P.Nodup → P[i]? = some x → vs[i]? = some v → kindOf x ≠ some .local →
  bindC kindOf (P.zip vs) m x = some v
 | [],_,_,_,_,h,_,_ => by simp at h
 | _ :: _,[],_,_,_,_,h,_ => by simp at h
 | p :: P,w :: vs,0,m,nd,h1,h2,hk => by
  simp at h1 h2;subst h1;subst h2
  show bindC kindOf ((p,w) :: P.zip vs) m p = _
  unfold bindC
  rw [T7 fun v hv => (List.nodup_cons.mp nd).1 (List.of_mem_zip hv).1,if_neg hk]
  simp
 | p :: P,w :: vs,i + 1,m,nd,h1,h2,hk => by
  show bindC kindOf ((p,w) :: P.zip vs) m x = _
  unfold bindC
  exact SX (i := i) (List.nodup_cons.mp nd).2 (by simpa using h1) (by simpa using h2) hk
def WN (N : List Str) (vs : List V) : St := vs.map some ++ List.replicate (N.length - vs.length) none
def qcm (CX : CXT) (P : Program) (w : World) (K : PySem.W.Frag) (mg : Str → Option Value) (base : Heap) (N : List Str) (qual : Str) (scope : Scope) (f : Addr) (cd : Value) (A : Around) (outer : List Env) (s : Shared) (H : Hp) (E : XK) : Cx where
 prog := P
 w := w
 K := K
 mg := mg
 base := base
 A := A.deeper (envOfC qual scope s.heap.objs.size f cd)
 N := N
 s₀ := s
 H₀ := H
 env := envOfC qual scope s.heap.objs.size f cd
 outer := outer
 stack := envOfC qual scope s.heap.objs.size f cd :: outer
 ex := []
 calm := true
 fn := fun _ => true
 pn := []
 xe := fun e s' => wpAny (model P w) (A.deeper (envOfC qual scope s.heap.objs.size f cd)) (leaving (envOfC qual scope s.heap.objs.size f cd) e) (fun _ s'' => CX outer H s E e s'') (fun e' s'' => CX outer H s E e' s'') s'
theorem M0 {sc : Scope} {n : Nat} {x : Str} (h : sc.names.lookup x = some .cell) : ∃ c,(cellsFrom n sc.names []).lookup x = some c := by
 have q := PySem.W.cellsFrom_some sc.names n [] (.inl h)
 exact Option.isSome_iff_exists.mp q
theorem qa6 {CX : CXT} {P : Program} {w : World} {K : PySem.W.Frag} {mg : Str → Option Value} {base : Heap} {N ps : List Str} {qual : Str} {scope : Scope} {f : Addr} {cd : Value} {A : Around} {outer : List Env} {s s1 : Shared} {H : Hp} {E : XK} {us : List Value} {vs : List V}
  (S : FnScope N ps scope) (hd : A.handled = none) (e0 : Env0 P w K mg base A outer s H) (hl : vs.length = ps.length) (r : zO vs us)
  (x : InCallC s s.heap.objs.size (bindL (envOfC qual scope s.heap.objs.size f cd).kindOf (ps.zip us) fun _ => none) (cellsFrom (s.heap.objs.size + 1) scope.names []) (bindC (envOfC qual scope s.heap.objs.size f cd).kindOf (ps.zip us) fun _ => none) s1) :
  Inv (qcm CX P w K mg base N qual scope f cd A outer s H E) [] (WN N vs) H s1 := by
 have hpl : ps.length ≤ N.length := by have := congrArg List.length S.pre;rw [List.length_take] at this;omega
 obtain ⟨h1,tk,rfl,hk⟩ := x.done
 have noA : ∀ b : Addr,b ∉ (qcm CX P w K mg base N qual scope f cd A outer s H E).ex := fun b z => absurd (show b ∈ ([] : List Addr) from z) (by simp)
 refine ⟨⟨e0.mod,S.kind,rfl,rfl,Nat.le_refl _,fun y z c h1 h2 => ?_,fun y hy => ?_,fun y c _ h => ?_,fun _ => hd,Around.frames_deeper e0.frames,.inr ⟨rfl,rfl⟩,fun b z => absurd z (noA b),e0.bs,e0.bsz,fun b _ _ => noA b,fun b z => absurd z (noA b),e0.funs,e0.frf⟩,
  rfl,e0.bare,Un.kept hk,⟨_,x.toInCall.ns,fun i y v h1 h2 h3 => ?_⟩,fun y c h => ⟨_,x.cell y c h⟩,e0.hok.fresh (Nat.le_refl _),fun y c h => ?_,fun p hp => absurd (show p ∈ ([] : List (Addr × Obj)) from hp) (by simp),e0.hok.kept hk,?_⟩
 ·exact name_of_addr x.apart (PySem.mem_of_lookup h1) (PySem.mem_of_lookup h2)
 ·have hy : scope.names.lookup y = some .cell ∨ scope.names.lookup y = some .free := hy
  rcases hy with hy | hy
  ·exact M0 hy
  ·exact absurd rfl (S.nofree _ (PySem.mem_of_lookup hy))
 ·exact Nat.le_of_lt (x.above y c (PySem.mem_of_lookup h))
 ·have hi : i < vs.length := by
   unfold WN at h2
   by_cases hi : i < vs.length
   ·exact hi
   ·rw [List.getElem?_append_right (by simpa using hi)] at h2
    rw [List.getElem?_replicate] at h2
    split at h2 <;> cases h2
  have ha : vs[i]? = some v := by
   unfold WN at h2
   rw [List.getElem?_append_left (by simpa using hi),List.getElem?_map] at h2
   cases e : vs[i]? with
   | none => rw [e] at h2;cases h2
   | some a => rw [e] at h2;cases h2;rfl
  obtain ⟨u,hu,rv⟩ := r.get ha
  have hp : ps[i]? = some y := by
   rw [← S.pre,List.getElem?_take_of_lt (by omega)];exact h1
  have ndP : ps.Nodup := by rw [← S.pre];exact S.nd.sublist (List.take_sublist _ _)
  refine ⟨u,rv,?_⟩
  rcases S.par y (List.mem_of_getElem? hp) with k | k
  ·exact .inl ⟨k,S4 ndP hp hu k⟩
  ·obtain ⟨c,e⟩ := M0 (n := s.heap.objs.size + 1) k
   refine .inr ⟨.inl k,c,e,?_⟩
   have q := x.cell y c e
   rw [SX ndP hp hu (by show scope.names.lookup y ≠ _;rw [k];decide)] at q
   exact q
 ·exact e0.hok.fresh (Nat.le_of_lt (x.above y c (PySem.mem_of_lookup h)))
 ·unfold WN
  show _ = N.length
  rw [List.length_append,List.length_map,List.length_replicate]
  omega
theorem qor {CX : CXT} {P : Program} {w : World} {K : PySem.W.Frag} {mg : Str → Option Value} {base : Heap} {k : Nat} {f : Addr} {name qual : Str} {params : Arguments} {body : List Stmt} {scope : Scope} {dV kV doc pm cdv ct oc : Value} {an od : Option Addr}
  {osl : Array (Option Value)} {N ps : List Str} {sp : Sp} (lk : K.lookup f = some ⟨oc,od,.func (PySem.W.fnOf name qual params body scope dV kV doc pm an cdv ct),osl⟩) (hcd : PySem.W.codeIn K cdv qual = true) (S : FnScope N ps scope)
  (len : ∀ vs H Q E,sp vs H Q E → vs.length = ps.length)
  (hbody : ∀ (A : Around) (outer : List Env) (s : Shared) (H : Hp) (vs : List V) (Q : VK) (E : XK),Room k (A.deeper (envOfC qual scope s.heap.objs.size f cdv)) → sp vs H Q E →
   ∃ t,PSs (qcm CX P w K mg base N qual scope f cdv A outer s H E) body t∧t { nx := fun _ H' => Q .non H',rt := Q } (WN N vs) H) :
  FnOk P w K mg base CX (k + 1) f (PySem.W.fnOf name qual params body scope dV kV doc pm an cdv ct) ps sp := by
 refine ⟨len,fun A outer s H args us vs Q E hr e0 hb r hsp => ?_⟩
 have hl := len _ _ _ _ hsp
 have KX : K.In s.heap := e0.mod.kin.keeps fun b o e => (e0.bs b o e).1
 have lim : s.heap.NoLimit := e0.mod.nolimit.keeps fun b o e => (e0.bs b o e).1
 have hkind : ∀ y ∈ ps.zip us,scope.names.lookup y.1 = some .local ∨ (scope.names.lookup y.1 = some .cell∧((cellsFrom (s.heap.objs.size + 1) scope.names []).lookup y.1).isSome = true) := fun ⟨n,v⟩ hy => by
  rcases S.par n (List.of_mem_zip hy).1 with q | q
  ·exact .inl q
  ·exact .inr ⟨q,PySem.W.cellsFrom_some _ _ _ (.inl q)⟩
 refine codeAny_call_function hr.depth (KX _ _ lk) rfl S.co S.gen rfl (PySem.W.codeRec_of KX hcd) (hb _ _ _ _ ?_)
 refine wpAny_newFunctionEnv_cells S.kind hkind fun env he s1 x => ?_
 subst he
 refine ⟨lim.keeps x.toInCall.keep,codeAny_func ?_⟩
 obtain ⟨t,ht,hq⟩ := hbody A outer s H vs Q E (hr.deeper _) hsp
 have I : Inv (qcm CX P w K mg base N qual scope f cdv A outer s H E) [] (WN N vs) H s1 := qa6 S hr.hd e0 hl r x
 refine wpAny_mono (ht [] s1 (WN N vs) H _ I hq) (fun fl s' hs => ?_) fun e s' hs => hs
 have fin : ∀ {σ' : St} {H' : Hp} {v : V} {u : Value},Inv (qcm CX P w K mg base N qual scope f cdv A outer s H E) [] σ' H' s' → js v u → Q v H' → CE outer P w H s Q u s' :=
  fun {σ' H' v u} J rv q => ⟨v,H',J.os,J.bare,J.base,J.hok,rv,q⟩
 cases fl with
 | ret u =>
  obtain ⟨v,σ',H',J,rv,q⟩ := hs
  exact fin J rv q
 | next =>
  obtain ⟨σ',H',J,q⟩ := hs
  exact fin (v := V.non) (u := Value.none) J rfl q
 | brk =>
  obtain ⟨_,_,_,q⟩ := hs
  exact False.elim q
 | cont =>
  obtain ⟨_,_,_,q⟩ := hs
  exact False.elim q
end L2
namespace L2
open PySem PySem.Spec PyProof.Rows
section
variable {X : Cx} {x : Str} {p pos : Pos} {e : Expr} {es : List Expr} {t : TA} {id T : String} {r : List V → Hp → VK → Prop}
def tCB (r : List V → Hp → VK → Prop) (t : TA) : TE := fun σ H Q => t σ H fun vs H1 => r vs H1 Q
theorem CM (hc : J0 X (.builtin id) r) (hg : Gl X x) (hm : X.mg x = none) (hv : bootBuiltins x = some (.builtin id)) (ha : PA X (e :: es) t) (hn : x ≠ "__name__" := by decide) (hdb : (x == ("__debug__" : Str)) = false := by decide)
  (he : starEach (e :: es) X.env = (false,eval e X.env) :: starEach es X.env := by rfl) (hpl : (backTo pos (starEach es X.env)).any (·.1) = false := by rfl) : PE X (.Call (.Name x p) (e :: es) [] pos) (tCB r t) := by
 intro pins s σ H Q I h
 refine wpAny_Call_Name_kw (WE I hg hm hv ?_ hn hdb)
 exact PyProof.Rows.callWith_builtin1 (thn (ha pos pins s σ H _ I h) fun us s1 ⟨vs,H1,I1,r1,q1⟩ => hc pins s1 σ H1 vs us Q I1 r1 q1) he hpl
theorem qb8 (hc : J0 X (.type T) r) (hg : Gl X x) (hm : X.mg x = none) (hv : bootBuiltins x = some (.type T)) (ha : PA X (e :: es) t) (hn : x ≠ "__name__" := by decide) (hdb : (x == ("__debug__" : Str)) = false := by decide)
  (he : starEach (e :: es) X.env = (false,eval e X.env) :: starEach es X.env := by rfl) (hpl : (backTo pos (starEach es X.env)).any (·.1) = false := by rfl) : PE X (.Call (.Name x p) (e :: es) [] pos) (tCB r t) := by
 intro pins s σ H Q I h
 refine wpAny_Call_Name_kw (WE I hg hm hv ?_ hn hdb)
 exact PyProof.Rows.callWith_type1 (thn (ha pos pins s σ H _ I h) fun us s1 ⟨vs,H1,I1,r1,q1⟩ => hc pins s1 σ H1 vs us Q I1 r1 q1) he hpl
end
end L2
namespace HT
open PySem PyProof.Rows
section
open PySem.SeqAt
open PySem.MeetsSeq PySem.MeetsSeq2 PySem.MeetsSeq3
end
section
variable {prog : Program} {w : World} {A : Around} {E : Value → Shared → Prop} {s : Shared}
theorem qgS {t b : Addr} {vs ws : List Value} {Q : Value → Shared → Prop} (ht : IsTup s.heap t vs.toArray) (hb : IsTup s.heap b ws.toArray) (hv : vs ≠ [])
  (h1 : ws = [] → Q (.ref t) s) (h2 : ws ≠ [] → Q (.ref s.heap.objs.size) { s with heap := s.heap.push { cls := .type "tuple",data := .seq (vs ++ ws).toArray } })
  (hsz : vs.length + ws.length ≤ sizeLine) : wpAny (model prog w) A (binaryOp .Add (.ref t) (.ref b)) Q E s := by
 obtain ⟨⟨cls,dd,data,sl⟩,ho,hc,n,hd⟩ := id ht
 obtain ⟨⟨cls2,dd2,data2,sl2⟩,ho2,hc2,n2,hd2⟩ := id hb
 simp only at hc hd hc2 hd2
 subst hc hd hc2 hd2
 have e : vs.toArray ++ ws.toArray = (vs ++ ws).toArray := by simp
 by_cases hw : ws = []
 ·exact concat_meets ⟨_,ho,rfl⟩ ⟨_,ho2,rfl⟩ noFill_tuple_add seq_tuple_add PySem.F.slot_tuple_add PySem.F.entry_tuple_add (PySem.F.args_tuple_add_2 _ _)
   (tuple_addW1 t b vs.toArray ws.toArray n n2 dd dd2 sl sl2 (by simpa using hv) (by simp [hw])) ⟨ho,ho2,h1 hw⟩
 ·refine concat_meets ⟨_,ho,rfl⟩ ⟨_,ho2,rfl⟩ noFill_tuple_add seq_tuple_add PySem.F.slot_tuple_add PySem.F.entry_tuple_add (PySem.F.args_tuple_add_2 _ _)
   (tuple_addW2 t b vs.toArray ws.toArray n n2 dd dd2 sl sl2 (by simpa using hv) (by simpa using hw) (by rw [List.size_toArray,List.size_toArray];exact hsz)) ⟨ho,ho2,?_⟩
  rw [e]
  exact h2 hw
def sIx (n d : Nat) : Option Int → Nat
 | none => d
 | some v => if v < 0 then (v + (n : Int)).toNat else min v.toNat n
theorem MD (n d : Nat) : sIx n d none = d := rfl
theorem qb5 (n d k : Nat) : sIx n d (some (k : Int)) = min k n := by
 show (if (k : Int) < 0 then ((k : Int) + (n : Int)).toNat else min (k : Int).toNat n) = min k n
 rw [if_neg (by omega),Int.toNat_natCast]
theorem qjD (n d : Nat) (hd : d ≤ n) (o : Option Int) : sIx n d o ≤ n := by
 cases o with
 | none => exact hd
 | some v =>
  show (if v < 0 then (v + (n : Int)).toNat else min v.toNat n) ≤ n
  by_cases hv : v < 0
  ·rw [if_pos hv];omega
  ·rw [if_neg hv];exact Nat.min_le_right _ _
theorem qby (v : Int) (n d : Nat) : (if v < 0 then max (v + (n : Int)) 0 else min v (n : Int)) = ((sIx n d (some v) : Nat) : Int) := by
 show (if v < 0 then max (v + (n : Int)) 0 else min v (n : Int)) = (((if v < 0 then (v + (n : Int)).toNat else min v.toNat n) : Nat) : Int)
 by_cases hv : v < 0
 ·simp only [if_pos hv];omega
 ·simp only [if_neg hv];omega
theorem qac (lo hi : Option Int) (n : Nat) : Builtin.Slice.sliceAdjust lo hi 1 (n : Int) = (((sIx n 0 lo : Nat) : Int),((sIx n n hi : Nat) : Int)) := by
 have h1 : ¬ ((1 : Int) < 0) := by omega
 unfold Builtin.Slice.sliceAdjust
 simp only [h1,if_false]
 refine Prod.ext ?_ ?_
 ·cases lo with
  | none => rfl
  | some v => exact qby v n 0
 ·cases hi with
  | none => rfl
  | some v => exact qby v n n
theorem NO (i j : Nat) : Builtin.Slice.slicePlaces (i : Int) (j : Int) 1 = j - i := by
 unfold Builtin.Slice.slicePlaces
 have h1 : (1 : Int) > 0 := by omega
 simp only [h1,if_true,Int.ediv_one]
 split <;> omega
theorem X8 {v : Value} {o : Option Int} {Q : Option Int → Shared → Prop} (p : IsPart v o) (h : Q o s) : wpAny (model prog w) A (Builtin.Slice.slicePartIndex v) Q E s := by
 cases p with
 | none => exact slicePart_none h
 | int i t => exact slicePart_int h
theorem E9 {sl : Addr} {vl vu : Value} {lo hi : Option Int} {n : Nat} {Q : Int × Int × Nat → Shared → Prop} (hs : s.heap.IsSliceOf sl vl vu .none) (pl : IsPart vl lo) (pu : IsPart vu hi)
  (h : Q (((sIx n 0 lo : Nat) : Int),1,sIx n n hi - sIx n 0 lo) s) : wpAny (model prog w) A (Builtin.Slice.sliceApplied (.ref sl) (pure (n : Int))) Q E s := by
 obtain ⟨os,hos,hcs,hds⟩ := id hs
 unfold Builtin.Slice.sliceApplied Builtin.Slice.sliceFields
 refine wpAny_bind (wpAny_bind (wpAny_field hos hds (x := vl) rfl (wpAny_bind (wpAny_field hos hds (x := vu) rfl (wpAny_bind (wpAny_field hos hds (x := .none) rfl (wpAny_pure ?_)))))))
 refine wpAny_bind (slicePart_none ?_)
 show wpAny _ _ (if ((1 : Int) == 0) = true then _ else _) _ _ s
 rw [if_neg (by decide)]
 refine wpAny_bind (X8 pl (wpAny_bind (X8 pu (wpAny_bind (wpAny_pure ?_)))))
 show wpAny _ _ (match Builtin.Slice.sliceAdjust lo hi 1 (n : Int) with | (lo,hi) => pure (lo,(1 : Int),Builtin.Slice.slicePlaces lo hi 1)) _ _ s
 rw [qac lo hi n]
 show wpAny _ _ (pure (((sIx n 0 lo : Nat) : Int),(1 : Int),Builtin.Slice.slicePlaces ((sIx n 0 lo : Nat) : Int) ((sIx n n hi : Nat) : Int) 1)) _ _ s
 rw [NO]
 exact wpAny_pure h
theorem qct (xs : Array Value) (i k : Nat) : ((List.range k).filterMap fun (m : Nat) => xs[((i : Int) + (m : Int) * 1).toNat]?).toArray = ((xs.toList.drop i).take k).toArray := by
 have e : (fun (m : Nat) => xs[((i : Int) + (m : Int) * 1).toNat]?) = fun m => xs[i + m]? := by
  funext m
  have : ((i : Int) + (m : Int) * 1).toNat = i + m := by omega
  rw [this]
 rw [e]
 have := pick_run xs i k
 rw [List.filterMap_map] at this
 have e2 : ((fun x => xs[x]?) ∘ fun x => i + x) = fun m => xs[i + m]? := rfl
 rw [e2] at this
 rw [this]
theorem U4 {t sl : Addr} {items : Array Value} {vl vu : Value} {lo hi : Option Int} {Q : Value → Shared → Prop} (ht : IsTup s.heap t items) (hs : s.heap.IsSliceOf sl vl vu .none) (pl : IsPart vl lo) (pu : IsPart vu hi)
  (hw : ¬ (sIx items.size 0 lo = 0∧sIx items.size items.size hi = items.size))
  (h : Q (.ref s.heap.objs.size) { s with heap := s.heap.push { cls := .type "tuple",data := .seq ((items.toList.drop (sIx items.size 0 lo)).take (sIx items.size items.size hi - sIx items.size 0 lo)).toArray } })
  (hsz : items.size ≤ sizeLine) : wpAny (model prog w) A (getItem (.ref t) (.ref sl)) Q E s := by
 have htake : sizeOk (.seq ((items.toList.drop (sIx items.size 0 lo)).take (sIx items.size items.size hi - sIx items.size 0 lo)).toArray) := by
  show ((items.toList.drop (sIx items.size 0 lo)).take (sIx items.size items.size hi - sIx items.size 0 lo)).toArray.size ≤ sizeLine
  rw [List.size_toArray,List.length_take,List.length_drop,Array.length_toList]
  omega
 have hj : sIx items.size items.size hi ≤ items.size := qjD _ _ (Nat.le_refl _) hi
 obtain ⟨os,hos,hcs,hds⟩ := id hs
 have hTs : s.TypeIs (.ref sl) "slice" := ⟨os,hos,hcs⟩
 unfold getItem
 try with_reducible refine wpAny_holding ?_
 first | refine wpAny_bind (wpAny_pure ?_) | skip
 refine wpAny_bind (wpAny_sequenceKey ht.typeIs (by decide) ?_)
 refine wpAny_bind (wpAny_callSpecial?_slot (name := Str.ofString "__getitem__") ht.typeIs PyProof.Rows.slot_tuple_getitem
  (wpAny_call_entry PyProof.Rows.slot_tuple_getitem ht.typeIs entry_tuple_getitem ?_ (args_tuple_getitem _ _)))
 show wpAny _ _ (Builtin.Tuple.tupleItemsOf (.ref t) >>= _) _ _ s
 refine wpAny_bind (tupleItemsOf_ ht ?_)
 refine wpAny_bind (wpAny_typeOf hTs ?_)
 rw [if_pos (by decide)]
 refine wpAny_bind (E9 hs pl pu ?_)
 have hno : ¬ ((((sIx items.size 0 lo : Nat) : Int) == 0 && (1 : Int) == 1 && (sIx items.size items.size hi - sIx items.size 0 lo) == items.size) = true) := by
  intro q
  rw [Bool.and_eq_true,Bool.and_eq_true] at q
  have q1 : ((sIx items.size 0 lo : Nat) : Int) = 0 := eq_of_beq q.1.1
  have q2 : sIx items.size items.size hi - sIx items.size 0 lo = items.size := eq_of_beq q.2
  exact hw ⟨by omega,by omega⟩
 show wpAny _ _ (if (((sIx items.size 0 lo : Nat) : Int) == 0 && (1 : Int) == 1 && (sIx items.size items.size hi - sIx items.size 0 lo) == items.size) = true then _ else _) _ _ s
 rw [if_neg hno,qct]
 first
  | exact wpAny_bind (m := Builtin.Tuple.tupleExact _) (wpAny_newObj_type (wpAny_pure ⟨_,rfl,wpAny_pure h⟩) htake)
  | exact wpAny_bind (m := Builtin.Tuple.tupleExact _) (wpAny_newObj_type (wpAny_bind (wpAny_pure (wpAny_pure ⟨_,rfl,wpAny_pure h⟩))) htake)
  | exact wpAny_bind (wpAny_bind (m := Builtin.Tuple.tupleExact _) (wpAny_newObj_type (wpAny_pure (wpAny_pure ⟨_,rfl,wpAny_pure h⟩)) htake))
  | exact wpAny_bind (wpAny_bind (m := Builtin.Tuple.tupleExact _) (wpAny_newObj_type (wpAny_pure ⟨_,rfl,wpAny_pure h⟩) htake))
end
end HT
namespace L2
open PySem PySem.Spec PyProof.Rows
abbrev TO := St → Hp → (Option Int → Hp → Prop) → Prop
def PO (X : Cx) (e : Option Expr) (t : TO) : Prop :=
 ∀ (pins : List (Addr × Obj)) (s : Shared) (σ : St) (H : Hp) (Q : Option Int → Hp → Prop),Inv X pins σ H s → t σ H Q →
  wpAny (model X.prog X.w) X.A (evalPart e X.env) (fun u s' => ∃ o H',Inv X pins σ H' s'∧IsPart u o∧Q o H') X.xe s
def qgd : TO := fun _ H Q => Q none H
def qn5 (t : TE) : TO := fun σ H Q => t σ H fun x H1 => ∃ i,x = .int i∧Q (some i) H1
section
variable {X : Cx} {e : Expr} {te : TE} {lo hi : Option Expr} {tl th : TO} {pos p2 : Pos}
theorem qhf : PO X none qgd := by
 intro pins s σ H Q I h
 rw [evalPart_none]
 exact wpAny_pure ⟨none,H,I,.none,h⟩
theorem qgl (h : PE X e te) : PO X (some e) (qn5 te) := by
 intro pins s σ H Q I hw
 rw [evalPart_some]
 refine thn (h pins s σ H _ I hw) fun u s1 ⟨x,H1,I1,r1,q1⟩ => ?_
 obtain ⟨i,rfl,q⟩ := q1
 obtain ⟨t,rfl⟩ := r1
 exact ⟨some i,H1,I1,.int i t,q⟩
def SlR (X : Cx) (r : V → Option Int → Option Int → Hp → VK → Prop) : Prop :=
 ∀ (pins : List (Addr × Obj)) (s : Shared) (σ : St) (H : Hp) (x : V) (v vl vu : Value) (lo hi : Option Int) (sl : Addr) (Q : VK),Inv X pins σ H s → js x v → s.heap.IsSliceOf sl vl vu .none → IsPart vl lo → IsPart vu hi → r x lo hi H Q →
  ∃ T id,typeLookup (.type T) "__getitem__" = pure (some (.builtin id))∧s.TypeIs v T∧wpAny (model X.prog X.w) X.A (getItem v (.ref sl)) (EP X pins σ Q) X.xe s
theorem SlR.or {r r' : V → Option Int → Option Int → Hp → VK → Prop} (h : SlR X r) (h' : SlR X r') : SlR X (fun x lo hi H Q => r x lo hi H Q ∨ r' x lo hi H Q) := by
 intro pins s σ H x v vl vu lo hi sl Q I rx hs pl pu q
 rcases q with q | q
 ·exact h pins s σ H x v vl vu lo hi sl Q I rx hs pl pu q
 ·exact h' pins s σ H x v vl vu lo hi sl Q I rx hs pl pu q
def tSl (r : V → Option Int → Option Int → Hp → VK → Prop) (te : TE) (tl th : TO) : TE := fun σ H Q => te σ H fun x H1 => tl σ H1 fun l H2 => th σ H2 fun u H3 => r x l u H3 Q
theorem qcT {r : V → Option Int → Option Int → Hp → VK → Prop} (hr : SlR X r) (he : PE X e te) (hl : PO X lo tl) (hu : PO X hi th) : PE X (.Subscript e (.Slice lo hi none p2) pos) (tSl r te tl th) := by
 intro pins s σ H Q I h
 refine Subscript_ (thn (he pins s σ H _ I h) fun v s1 ⟨x,H1,I1,r1,q1⟩ => ?_)
 refine wpAny_Slice (thn (hl pins s1 σ H1 _ I1 q1) fun vl s2 ⟨l,H2,I2,pl,q2⟩ => thn (hu pins s2 σ H2 _ I2 q2) fun vu s3 ⟨u,H3,I3,pu,q3⟩ => ?_)
 rw [evalPart_none]
 refine wpAny_pure ?_
 have I4 : Inv X pins σ H3 { s3 with heap := s3.heap.push { cls := .type "slice",data := .fields #[vl,vu,.none] } } := I3.kept (t' := s3.toks) fun b ob q => Heap.get?_push_of_some _ q
 obtain ⟨T,id,hT,ht,hg⟩ := hr pins { s3 with heap := s3.heap.push { cls := .type "slice",data := .fields #[vl,vu,.none] } } σ H3 x v vl vu l u s3.heap.objs.size Q I4 r1 (Heap.IsSliceOf.new ..) pl pu q3
 show wpAny (model X.prog X.w) X.A (subscriptTail e (.Slice lo hi none p2) v (.ref s3.heap.objs.size)) (EP X pins σ Q) X.xe { s3 with heap := s3.heap.push { cls := .type "slice",data := .fields #[vl,vu,.none] } }
 exact tail_any (ops := [.ref s3.heap.objs.size,v]) ht hT hg (by with_unfolding_all rfl)
def qdT (xs : List V) (lo hi : Option Int) : List V := (xs.drop (HT.sIx xs.length 0 lo)).take (HT.sIx xs.length xs.length hi - HT.sIx xs.length 0 lo)
theorem WV (xs : List V) (lo hi : Option Int) : (qdT xs lo hi).length ≤ xs.length := by
 unfold qdT
 rw [List.length_take,List.length_drop]
 omega
def qpY (K : PySem.W.Frag) : V → Option Int → Option Int → Hp → VK → Prop := fun x lo hi H Q => ∃ a xs,x = .ref a∧SqT K H a xs ∧
 ¬ (HT.sIx xs.length 0 lo = 0∧HT.sIx xs.length xs.length hi = xs.length)∧∀ p,H p = none → Q (.ref p) (upd H p (.tup (qdT xs lo hi)))
theorem qir : SlR X (qpY X.K) := by
 intro pins s σ H x v vl vu lo hi sl Q I rx hs pl pu h
 obtain ⟨a,xs,rfl,hx,hw,q⟩ := h
 cases rx
 obtain ⟨its,r,ht,hz⟩ := I.tuple hx
 have hlen : its.toArray.size = xs.length := by rw [List.size_toArray];exact r.length.symm
 refine ⟨"tuple",_,PyProof.Rows.slot_tuple_getitem.lookup,ht.typeIs,?_⟩
 refine HT.U4 ht hs pl pu (by rw [hlen];exact hw) ?_ (by rw [hlen];exact hz)
 rw [hlen]
 refine ⟨.ref s.heap.objs.size,_,I.laid (t' := s.toks) (o := .tup (qdT xs lo hi)) (fun b ob q => Heap.get?_push_of_some _ q) (Nat.le_refl _) ?_,rfl,q _ (I.hok.fresh (Nat.le_refl _))⟩
 exact ⟨Nat.le_trans (WV xs lo hi) hz,_,(r.drop (HT.sIx xs.length 0 lo)).take (HT.sIx xs.length xs.length hi - HT.sIx xs.length 0 lo),IsTup.new _ _⟩
def qiH (K : PySem.W.Frag) : R2 := fun x y H Q => ∃ a b xs ys,x = .ref a∧y = .ref b∧SqT K H a xs∧SqT K H b ys∧xs ≠ []∧xs.length + ys.length ≤ sizeLine ∧
 (ys = [] → Q (.ref a) H)∧(ys ≠ [] → ∀ p,H p = none → Q (.ref p) (upd H p (.tup (xs ++ ys))))
theorem zO.nil_iff {xs : List V} {us : List Value} (r : zO xs us) : us = [] ↔ xs = [] := by
 cases r with
 | nil => simp
 | cons _ _ => simp
theorem qgp : OpR X (binaryOp .Add) (qiH X.K) := by
 intro pins s σ H x y v u Q I rx ry h
 obtain ⟨a,b,xs,ys,rfl,rfl,ha,hb,hx,hz,q1,q2⟩ := h
 cases rx
 cases ry
 obtain ⟨its,r1,p1,_⟩ := I.tuple ha
 obtain ⟨its2,r2,p2,_⟩ := I.tuple hb
 refine HT.qgS p1 p2 (fun z => hx (r1.nil_iff.mp z)) (fun z => ⟨.ref a,H,I,rfl,q1 (r2.nil_iff.mp z)⟩) (fun z => ?_) (by rw [← r1.length,← r2.length];exact hz)
 refine ⟨.ref s.heap.objs.size,_,I.laid (t' := s.toks) (o := .tup (xs ++ ys)) (fun b ob q => Heap.get?_push_of_some _ q) (Nat.le_refl _) ?_,rfl,q2 (fun w => z (r2.nil_iff.mpr w)) _ (I.hok.fresh (Nat.le_refl _))⟩
 exact ⟨by rw [List.length_append];exact hz,_,r1.append r2,IsTup.new _ _⟩
end
end L2
namespace L2
open PySem PySem.Spec PyProof.Rows
def ixN (n : Nat) (i : Int) : Option Nat := if 0 ≤ i then (if i < n then some i.toNat else none) else if -(n : Int) ≤ i then some (i + n).toNat else none
def atI {α : Type} (xs : List α) (i : Int) : Option α := (ixN xs.length i).bind fun j => xs[j]?
theorem qbb {n : Nat} {i : Int} {j : Nat} (h : ixN n i = some j) : seqIndex? i n = some j∧j < n∧-(n : Int) ≤ i∧i < n := by
 unfold ixN at h
 by_cases h0 : 0 ≤ i
 ·rw [if_pos h0] at h
  by_cases h1 : i < n
  ·rw [if_pos h1] at h
   have e : i.toNat = j := Option.some.inj h
   exact ⟨by rw [seqIndex_of h0 h1,e],by omega,by omega,h1⟩
  ·rw [if_neg h1] at h;cases h
 ·rw [if_neg h0] at h
  by_cases h1 : -(n : Int) ≤ i
  ·rw [if_pos h1] at h
   have e : (i + n).toNat = j := Option.some.inj h
   exact ⟨by rw [seqIndex_neg (by omega) h1,e],by omega,h1,by omega⟩
  ·rw [if_neg h1] at h;cases h
theorem LK {α : Type} {xs : List α} {i : Int} {v : α} (h : atI xs i = some v) : ∃ j,seqIndex? i xs.length = some j∧xs[j]? = some v∧j < xs.length∧-(xs.length : Int) ≤ i∧i < xs.length := by
 unfold atI at h
 cases e : ixN xs.length i with
 | none => rw [e] at h;cases h
 | some j =>
  rw [e] at h
  obtain ⟨h1,h2,h3,h4⟩ := qbb e
  exact ⟨j,h1,h,h2,h3,h4⟩
def U9 (b : Expr) : Prop := ∀ o i,subscripted b false o i = operate [o,i] (getItem o i)
def IxR (X : Cx) (r : R2) : Prop :=
 ∀ (value slice : Expr) (pins : List (Addr × Obj)) (s : Shared) (σ : St) (H : Hp) (x y : V) (v u : Value) (Q : VK),Inv X pins σ H s → js x v → js y u → r x y H Q →
  subscripted slice false v u = operate [v,u] (getItem v u) → wpAny (model X.prog X.w) X.A (subscriptTail value slice v u) (EP X pins σ Q) X.xe s
def MtR (X : Cx) (id : String) (r : V → List V → Hp → VK → Prop) : Prop :=
 ∀ (pins : List (Addr × Obj)) (s : Shared) (σ : St) (H : Hp) (x : V) (xs : List V) (v : Value) (us : List Value) (Q : VK),Inv X pins σ H s → js x v → zO xs us → r x xs H Q →
  wpAny (model X.prog X.w) X.A (call (.builtin id) (v :: us)) (EP X pins σ Q) X.xe s
section
variable {X : Cx} {a b : Expr} {ta tb : TE} {pos : Pos}
theorem IxR.or {r r' : R2} (h : IxR X r) (h' : IxR X r') : IxR X (fun x y H Q => r x y H Q ∨ r' x y H Q) := by
 intro value slice pins s σ H x y v u Q I rx ry q hs
 rcases q with q | q
 ·exact h value slice pins s σ H x y v u Q I rx ry q hs
 ·exact h' value slice pins s σ H x y v u Q I rx ry q hs
theorem qmB {r : R2} (hr : IxR X r) (ha : PE X a ta) (hb : PE X b tb) (hs : U9 b) : PE X (.Subscript a b pos) (tOp r ta tb) := by
 intro pins s σ H Q I h
 exact Subscript_ (qok ha hb I h fun v u s2 x y H2 I2 rx ry q => hr a b pins s2 σ H2 x y v u Q I2 rx ry q (hs _ _))
def qpt (K : PySem.W.Frag) : R2 := fun x y H Q => ∃ p xs i v,x = .ref p∧y = .int i∧SqL K H p xs∧atI xs i = some v∧Q v H
def qpr (K : PySem.W.Frag) : R2 := fun x y H Q => ∃ p xs i v,x = .ref p∧y = .int i∧SqT K H p xs∧atI xs i = some v∧Q v H
def qoN : R2 := fun x y H Q => ∃ z i c,x = .str z∧y = .int i∧z.length ≤ sizeLine∧atI z.cps.toList i = some c∧Q (.str ⟨#[c]⟩) H
theorem qgm : IxR X (qpt X.K) := by
 intro value slice pins s σ H x y v u Q I rx ry h hs
 obtain ⟨p,xs,i,z,rfl,rfl,hq,he,q⟩ := h
 cases rx
 obtain ⟨t,rfl⟩ := ry
 obtain ⟨its,r,pl,hz⟩ := I.list hq
 obtain ⟨j,h1,h2,h3,h4,h5⟩ := LK he
 obtain ⟨w,ew,rw'⟩ := r.get h2
 have hl := r.length
 have hn := TR
 have fin : EP X pins σ Q w s := ⟨z,H,I,rw',q⟩
 by_cases h0 : 0 ≤ i
 ·have hj : i.toNat = j := by
   rw [seqIndex_of h0 h5] at h1
   exact Option.some.inj h1
  exact item_listR pl.isList h0 (by omega) (by rw [hj];simpa using ew) fin hs
 ·have hj : (i + (its.toArray.size : Int)).toNat = j := by
   rw [seqIndex_neg (by omega) h4] at h1
   rw [List.size_toArray,← hl]
   exact Option.some.inj h1
  exact subscriptTail_builtinR (x := w) pl.isList.typeIs slot_list_getitem.lookup
   (wpAny_getItem_list_neg (Q := fun r s' => r = w∧EP X pins σ Q r s') pl.isList (by omega) (by rw [List.size_toArray] <;> omega) (by omega) (by rw [hj];simpa using ew) ⟨rfl,fin⟩) hs
theorem qmi : IxR X (qpr X.K) := by
 intro value slice pins s σ H x y v u Q I rx ry h hs
 obtain ⟨p,xs,i,z,rfl,rfl,hq,he,q⟩ := h
 cases rx
 obtain ⟨t,rfl⟩ := ry
 obtain ⟨its,r,pl,hz⟩ := I.tuple hq
 obtain ⟨j,h1,h2,h3,h4,h5⟩ := LK he
 obtain ⟨w,ew,rw'⟩ := r.get h2
 have hl := r.length
 have hn := TR
 have fin : EP X pins σ Q w s := ⟨z,H,I,rw',q⟩
 exact subscriptTail_builtinR (x := w) pl.typeIs slot_tuple_getitem.lookup
  (getItem_tuple (j := j) (Q := fun r s' => r = w∧EP X pins σ Q r s') pl (by omega) (by omega) (by rw [List.size_toArray,← hl];exact h1) (by simpa using ew) ⟨rfl,fin⟩) hs
theorem qiv : IxR X qoN := by
 intro value slice pins s σ H x y v u Q I rx ry h hs
 obtain ⟨z,i,c,rfl,rfl,hz,he,q⟩ := h
 obtain ⟨t,rfl⟩ := rx
 obtain ⟨t',rfl⟩ := ry
 obtain ⟨j,h1,h2,h3,h4,h5⟩ := LK he
 have hl : z.cps.toList.length = z.length := by simp [Str.length]
 rw [hl] at h1 h4 h5
 have hn := TR
 exact tail_any (typeIs_str s z t) slot_str_getitem.lookup (getItem_str (c := c) (by
  have e1 : decide (i < -(2 ^ 63 : Int)) = false := decide_eq_false (by omega)
  have e2 : decide (i ≥ 2 ^ 63) = false := decide_eq_false (by omega)
  rw [e1,e2,Bool.or_false]) (by rw [h1];simpa using h2) ⟨.str ⟨#[c]⟩,H,I.tok _,⟨_,rfl⟩,q⟩) hs
def rIx (K : PySem.W.Frag) : R2 := fun x y H Q => qpt K x y H Q ∨ qpr K x y H Q ∨ qoN x y H Q
theorem qmx : IxR X (rIx X.K) := qgm.or (qmi.or qiv)
theorem NT (its : List Value) (n j : Nat) (u : Value) : Obj.mapSeq (·.setIfInBounds j u) { cls := .type "list",data := .seq its.toArray n } = { cls := .type "list",data := .seq (its.set j u).toArray n } := by
 simp [Obj.mapSeq]
theorem Inv.lst {pins : List (Addr × Obj)} {σ : St} {H : Hp} {s : Shared} {p : Addr} {xs : List V} (I : Inv X pins σ H s) (h : H p = some (.lst xs)) :
  ∃ (its : List Value) (n : Nat),zO xs its∧s.heap.get? p = some { cls := .type "list",data := .seq its.toArray n }∧xs.length ≤ sizeLine := by
 obtain ⟨z,its,n,r,e⟩ := I.hok p _ h
 exact ⟨its,n,r,e,z⟩
theorem Inv.lstUpd {pins : List (Addr × Obj)} {σ : St} {H : Hp} {s : Shared} {p : Addr} {xs ys : List V} {its its' : List Value} {n n' : Nat} {f : Obj → Obj} (I : Inv X pins σ H s) (h : H p = some (.lst xs))
  (ho : s.heap.get? p = some { cls := .type "list",data := .seq its.toArray n }) (hf : f { cls := .type "list",data := .seq its.toArray n } = { cls := .type "list",data := .seq its'.toArray n' }) (r : zO ys its') (hz : ys.length ≤ sizeLine) (t : Nat) :
  Inv X pins σ (upd H p (.lst ys)) { s with heap := s.heap.update p f,toks := t } := by
 have e : (s.heap.update p f).get? p = some { cls := .type "list",data := .seq its'.toArray n' } := by
  rw [Heap.get?_update_self f ho (by rw [hf] <;> rfl),hf]
 refine I.write (x := p) (e := p) (by rw [h];trivial) (.inl rfl) (fun b u hb q => (Heap.get?_update_other _ _ (Ne.symm hb)).trans q) ⟨_,e⟩ ?_
 exact ⟨hz,its',n',r,e⟩
def qnd : V → V → V → Hp → (Hp → Prop) → Prop := fun o i v H Q => ∃ p xs k j,o = .ref p∧i = .int k∧H p = some (.lst xs)∧ixN xs.length k = some j∧Q (upd H p (.lst (xs.set j v)))
theorem qcw : qo6 X qnd := by
 intro pins s σ H o i v ov iv u Q I ro ri rv h
 obtain ⟨p,xs,k,j,rfl,rfl,hp,hj,q⟩ := h
 cases ro
 obtain ⟨t,rfl⟩ := ri
 obtain ⟨its,n,r,ho,hz⟩ := I.lst hp
 obtain ⟨h1,h2,h3,h4⟩ := qbb hj
 have hl := r.length
 have hn := TR
 have I' : Inv X pins σ (upd H p (.lst (xs.set j v))) { s with heap := s.heap.update p (Obj.mapSeq (·.setIfInBounds j u)) } :=
  I.lstUpd hp ho (NT its n j u) (r.set rv j) (by rw [List.length_set];exact hz) s.toks
 by_cases h0 : 0 ≤ k
 ·have hk : k.toNat = j := by
   rw [seqIndex_of h0 h4] at h1
   exact Option.some.inj h1
  exact PySem.W.ki_setAt ho h0 (by omega) (by rw [List.size_toArray,← hl];exact h4) (by rw [hk];exact ⟨_,I',q⟩)
 ·have hk : (k + (its.toArray.size : Int)).toNat = j := by
   rw [seqIndex_neg (by omega) h3] at h1
   rw [List.size_toArray,← hl]
   exact Option.some.inj h1
  exact PySem.W.ki_setBack ho (by omega) (by rw [List.size_toArray,← hl];exact h3) (by omega) (by rw [hk];exact ⟨_,I',q⟩)
theorem SU (lo hi : Option Int) (n : Nat) : (sliceBounds lo hi none n).1 = ((HT.sIx n 0 lo : Nat) : Int)∧(sliceBounds lo hi none n).2.1 = ((HT.sIx n n hi : Nat) : Int)∧(sliceBounds lo hi none n).2.2 = 1 := by
 refine ⟨?_,?_,rfl⟩
 ·cases lo with
  | none => simp [sliceBounds,HT.sIx]
  | some i =>
   simp only [sliceBounds,HT.sIx,Option.getD_none,show (1 : Int) > 0 by decide,if_true]
   by_cases h : i < 0
   ·simp only [h,if_true] <;> omega
   ·simp only [h,if_false] <;> omega
 ·cases hi with
  | none => simp [sliceBounds,HT.sIx]
  | some i =>
   simp only [sliceBounds,HT.sIx,Option.getD_none,show (1 : Int) > 0 by decide,if_true]
   by_cases h : i < 0
   ·simp only [h,if_true] <;> omega
   ·simp only [h,if_false] <;> omega
theorem RG (its : List Value) (lo hi : Option Int) : slicePick its.toArray lo hi none = ((its.drop (HT.sIx its.length 0 lo)).take (HT.sIx its.length its.length hi - HT.sIx its.length 0 lo)).toArray := by
 obtain ⟨h1,h2,h3⟩ := SU lo hi its.toArray.size
 unfold slicePick
 rw [h1,h2,h3]
 simp only [sliceRange_one,pick_run,List.size_toArray] <;> rfl
def qpQ (K : PySem.W.Frag) : V → Option Int → Option Int → Hp → VK → Prop := fun x lo hi H Q => ∃ a xs,x = .ref a∧SqL K H a xs∧∀ p,H p = none → Q (.ref p) (upd H p (.lst (qdT xs lo hi)))
theorem qgI : SlR X (qpQ X.K) := by
 intro pins s σ H x v vl vu lo hi sl Q I rx hs pl pu h
 obtain ⟨a,xs,rfl,hx,q⟩ := h
 cases rx
 obtain ⟨its,r,ht,hz⟩ := I.list hx
 have hlen := r.length
 refine ⟨"list",_,slot_list_getitem.lookup,ht.isList.typeIs,?_⟩
 refine wpAny_getItem_list_slice ht.isList hs pl pu .none (by simp) ?_ (by rw [List.size_toArray] <;> omega)
 rw [RG,← hlen]
 refine ⟨.ref s.heap.objs.size,_,I.laid (t' := s.toks) (o := .lst (qdT xs lo hi)) (fun b ob q => Heap.get?_push_of_some _ q) (Nat.le_refl _) ?_,rfl,q _ (I.hok.fresh (Nat.le_refl _))⟩
 exact ⟨Nat.le_trans (WV xs lo hi) hz,_,0,(r.drop (HT.sIx xs.length 0 lo)).take (HT.sIx xs.length xs.length hi - HT.sIx xs.length 0 lo),Heap.get?_push_size _ rfl⟩
def XA : V → Bool
 | .non => true
 | .bl _ => true
 | .int _ => true
 | .str _ => true
 | _ => false
def eqV : V → V → Bool
 | .non,.non => true
 | .bl a,.bl b => a == b
 | .bl a,.int b => (if a then 1 else 0) == b
 | .int a,.bl b => a == (if b then 1 else 0)
 | .int a,.int b => a == b
 | .str a,.str b => a == b
 | _,_ => false
theorem qkY {A : Around} {s : Shared} {y x : V} {u v : Value} (ry : js y u) (rx : js x v) (fy : XA y = true) (fx : XA x = true) : SeqAt.EqAt A s u v (eqV y x) := by
 cases y with
 | non =>
  cases ry
  cases x with
  | non => cases rx;exact SeqAt.EqAt.same _
  | bl b => cases rx;exact SeqAt.EqAt.none_bool b
  | int b => obtain ⟨t,rfl⟩ := rx;exact SeqAt.EqAt.none_int b t
  | str b => obtain ⟨t,rfl⟩ := rx;exact SeqAt.EqAt.none_str b t
  | _ => exact absurd (show false = true from fx) Bool.false_ne_true
 | bl a =>
  cases ry
  cases x with
  | non => cases rx;exact SeqAt.EqAt.bool_none a
  | bl b => cases rx;exact SeqAt.EqAt.bool_bool a b
  | int b => obtain ⟨t,rfl⟩ := rx;exact SeqAt.EqAt.bool_int a b t
  | str b => obtain ⟨t,rfl⟩ := rx;exact SeqAt.EqAt.bool_str a b t
  | _ => exact absurd (show false = true from fx) Bool.false_ne_true
 | int a =>
  obtain ⟨t',rfl⟩ := ry
  cases x with
  | non => cases rx;exact SeqAt.EqAt.int_none a t'
  | bl b => cases rx;exact SeqAt.EqAt.int_bool a t' b
  | int b => obtain ⟨t,rfl⟩ := rx;exact SeqAt.EqAt.int_int a t' b t
  | str b => obtain ⟨t,rfl⟩ := rx;exact SeqAt.EqAt.int_str a t' b t
  | _ => exact absurd (show false = true from fx) Bool.false_ne_true
 | str a =>
  obtain ⟨t',rfl⟩ := ry
  cases x with
  | non => cases rx;exact SeqAt.EqAt.str_none a t'
  | bl b => cases rx;exact SeqAt.EqAt.str_bool a t' b
  | int b => obtain ⟨t,rfl⟩ := rx;exact SeqAt.EqAt.str_int a t' b t
  | str b => obtain ⟨t,rfl⟩ := rx;exact SeqAt.EqAt.str_str a t' b t
  | _ => exact absurd (show false = true from fx) Bool.false_ne_true
 | _ => exact absurd (show false = true from fy) Bool.false_ne_true
def eqU (x : V) (u : Value) : Bool := match u with
 | .none => eqV .non x
 | .bool b => eqV (.bl b) x
 | .int i _ => eqV (.int i) x
 | .str z _ => eqV (.str z) x
 | _ => false
theorem qeW {x y : V} {u : Value} (r : js y u) (f : XA y = true) : eqU x u = eqV y x := by
 cases y with
 | non => cases r;rfl
 | bl b => cases r;rfl
 | int i => obtain ⟨t,rfl⟩ := r;rfl
 | str z => obtain ⟨t,rfl⟩ := r;rfl
 | _ => exact absurd (show false = true from f) Bool.false_ne_true
theorem DZ {x : V} : ∀ {xs : List V} {us : List Value},zO xs us → xs.all XA = true → us.any (eqU x) = xs.any fun y => eqV y x
 | _,_,.nil,_ => rfl
 | y :: xs,u :: us,.cons r t,f => by
  rw [List.all_cons,Bool.and_eq_true] at f
  rw [List.any_cons,List.any_cons,qeW r f.1,DZ t f.2]
theorem UT {A : Around} {s : Shared} {x : V} {v : Value} (rx : js x v) (fx : XA x = true) : ∀ {xs : List V} {us : List Value},zO xs us → xs.all XA = true → ∀ u ∈ us,SeqAt.EqAt A s u v (eqU x u)
 | _,_,.nil,_ => fun u hu => by cases hu
 | y :: xs,u :: us,.cons r t,f => fun u' hu => by
  rw [List.all_cons,Bool.and_eq_true] at f
  rcases List.mem_cons.mp hu with rfl | hu
  ·rw [qeW r f.1];exact qkY r rx f.1 fx
  ·exact UT rx fx t f.2 u' hu
def inV (x : V) (xs : List V) : Bool := xs.any fun y => eqV y x
def rIn (K : PySem.W.Frag) (neg : Bool) : R2 := fun x y H Q => ∃ p xs,y = .ref p∧(SqL K H p xs ∨ SqT K H p xs)∧XA x = true∧xs.all XA = true∧Q (.bl (if neg then !inV x xs else inV x xs)) H
theorem TF : OpR X (compareOp .In) (rIn X.K false) := by
 intro pins s σ H x y v u Q I rx ry h
 obtain ⟨p,xs,rfl,hq,fx,fs,q⟩ := h
 cases ry
 rcases hq with hq | hq
 ·obtain ⟨its,r,pl,hz⟩ := I.list hq
  refine SeqAt.in_listAt (eqU x) pl.isList (fun w hw => UT rx fx r fs w (by simpa using hw)) ⟨.bl _,H,I,rfl,?_⟩
  rw [show its.toArray.any (eqU x) = its.any (eqU x) by simp,DZ r fs]
  exact q
 ·obtain ⟨its,r,pl,hz⟩ := I.tuple hq
  refine SeqAt.in_tupleAt (eqU x) pl (fun w hw => UT rx fx r fs w (by simpa using hw)) ⟨.bl _,H,I,rfl,?_⟩
  rw [show its.toArray.any (eqU x) = its.any (eqU x) by simp,DZ r fs]
  exact q
theorem SL : OpR X (compareOp .NotIn) (rIn X.K true) := by
 intro pins s σ H x y v u Q I rx ry h
 obtain ⟨p,xs,rfl,hq,fx,fs,q⟩ := h
 cases ry
 rcases hq with hq | hq
 ·obtain ⟨its,r,pl,hz⟩ := I.list hq
  refine SeqAt.notIn_listAt (eqU x) pl.isList (fun w hw => UT rx fx r fs w (by simpa using hw)) ⟨.bl _,H,I,rfl,?_⟩
  rw [show its.toArray.any (eqU x) = its.any (eqU x) by simp,DZ r fs]
  exact q
 ·obtain ⟨its,r,pl,hz⟩ := I.tuple hq
  refine SeqAt.notIn_tupleAt (eqU x) pl (fun w hw => UT rx fx r fs w (by simpa using hw)) ⟨.bl _,H,I,rfl,?_⟩
  rw [show its.toArray.any (eqU x) = its.any (eqU x) by simp,DZ r fs]
  exact q
theorem J8 : J0 X (.type "list") (fun xs H Q => ∃ p ys,xs = [.ref p]∧(SqL X.K H p ys ∨ SqT X.K H p ys)∧∀ l,H l = none → Q (.ref l) (upd H l (.lst ys))) := by
 intro pins s σ H xs us Q I r h
 obtain ⟨p,ys,rfl,hq,q⟩ := h
 obtain ⟨u,rfl,rx⟩ := XR r
 cases rx
 have fin : ∀ (its : List Value),zO ys its → ys.length ≤ sizeLine → ∀ (h' : Heap) (c' : Nat),(∀ b o',s.heap.get? b = some o' → h'.get? b = some o') →
   h'.get? s.heap.objs.size = some { cls := .type "list",dict := none,data := .seq its.toArray c',slots := #[] } → EP X pins σ Q (.ref s.heap.objs.size) { s with heap := h' } := fun its r' hz h' c' kp e =>
  ⟨.ref s.heap.objs.size,_,I.laid (t' := s.toks) kp (Nat.le_refl _) (show VN X.prog X.w _ h' _ (.lst ys) from ⟨hz,its,c',r',e⟩),rfl,q _ (I.hok.fresh (Nat.le_refl _))⟩
 rcases hq with hq | hq
 ·obtain ⟨its,r',pl,hz⟩ := I.list hq
  have hlen := r'.length
  obtain ⟨o,ho,hc,n,hd⟩ := pl.isList
  exact call_list_seq p (.inl rfl) ho hc hd (fun h' c' kp e => fin its r' hz h' c' kp e) (by simp only [List.size_toArray] <;> omega)
 ·obtain ⟨its,r',pl,hz⟩ := I.tuple hq
  have hlen := r'.length
  obtain ⟨o,ho,hc,n,hd⟩ := pl
  exact call_list_seq p (.inr rfl) ho hc hd (fun h' c' kp e => fin its r' hz h' c' kp e) (by simp only [List.size_toArray] <;> omega)
theorem ZW : J0 X (.type "tuple") (fun xs H Q => ∃ p ys,xs = [.ref p]∧((SqL X.K H p ys∧∀ l,H l = none → Q (.ref l) (upd H l (.tup ys))) ∨ (SqT X.K H p ys∧Q (.ref p) H))) := by
 intro pins s σ H xs us Q I r h
 obtain ⟨p,ys,rfl,h⟩ := h
 obtain ⟨u,rfl,rx⟩ := XR r
 cases rx
 rcases h with ⟨hq,q⟩ | ⟨hq,q⟩
 ·obtain ⟨its,r',pl,hz⟩ := I.list hq
  have hlen := r'.length
  refine call_tuple_list pl.isList (fun h' kp => ?_) (by simp only [List.size_toArray] <;> omega)
  have I1 : Inv X pins σ H { s with heap := h' } := I.kept (t' := s.toks) kp
  have I2 : Inv X pins σ (upd H h'.objs.size (.tup ys)) { s with heap := h'.push { cls := .type "tuple",data := .seq its.toArray } } :=
   I1.laid (t' := s.toks) (fun b o e => Heap.get?_push_of_some _ e) (Nat.le_refl _) (show VN X.prog X.w _ _ _ (.tup ys) from ⟨hz,its,r',IsTup.new _ _⟩)
  exact ⟨.ref h'.objs.size,_,I2,rfl,q _ (I1.hok.fresh (Nat.le_refl _))⟩
 ·obtain ⟨its,r',pl,hz⟩ := I.tuple hq
  exact call_tuple_same pl ⟨.ref p,H,I,rfl,q⟩
def tyV (K : PySem.W.Frag) (T : String) (x : V) (H : Hp) : Prop := match x with
 | .str _ => T = "str"
 | .int _ => T = "int"
 | .ref p => (T = "list"∧∃ xs,SqL K H p xs) ∨ (T = "tuple"∧∃ o,K.lookup p = some o∧o.cls = .type "tuple"∧o.dict = none) ∨
   (T = "dict"∧((∃ kvs,H p = some (.dK kvs)) ∨ ∃ kvs,H p = some (.dT kvs))) ∨ (T = "set"∧∃ S n,H p = some (.set S n))
 | _ => False
theorem qmh {pins : List (Addr × Obj)} {σ : St} {H : Hp} {s : Shared} {T : String} {x : V} {v : Value} (I : Inv X pins σ H s) (r : js x v) (ty : tyV X.K T x H) :
  s.TypeIs v T∧∀ a,v = .ref a → ∃ ob,s.heap.get? a = some ob∧ob.dict = none := by
 cases x with
 | str z =>
  obtain ⟨t,rfl⟩ := r
  cases (show T = "str" from ty)
  exact ⟨typeIs_str s z t,fun _ e => nomatch e⟩
 | int i =>
  obtain ⟨t,rfl⟩ := r
  cases (show T = "int" from ty)
  exact ⟨typeIs_int s i t,fun _ e => nomatch e⟩
 | ref p =>
  cases r
  rcases ty with ⟨rfl,xs,hq⟩ | ⟨rfl,o,hk,hc,hd⟩ | ⟨rfl,hk⟩ | ⟨rfl,S,n,hk⟩
  ·obtain ⟨its,_,pl,_⟩ := I.list hq
   refine ⟨pl.isList.typeIs,fun a e => ?_⟩
   cases e
   obtain ⟨o,n,e,c,hd,_⟩ := pl
   exact ⟨o,e,hd⟩
  ·refine ⟨⟨o,I.kIn p o hk,hc⟩,fun a e => ?_⟩
   cases e
   exact ⟨o,I.kIn _ o hk,hd⟩
  ·have z : ∃ o,s.heap.get? p = some o∧o.ExactDict := by
    rcases hk with ⟨kvs,hk⟩ | ⟨kvs,hk⟩
    ·obtain ⟨_,_,_,_,o,_,_,e,ex,_⟩ := I.hok p _ hk
     exact ⟨o,e,ex⟩
    ·obtain ⟨_,_,_,_,o,_,_,e,ex,_⟩ := I.hok p _ hk
     exact ⟨o,e,ex⟩
   obtain ⟨o,e,ex⟩ := z
   refine ⟨⟨o,e,ex.1⟩,fun a e2 => ?_⟩
   cases e2
   exact ⟨o,e,ex.2.1⟩
  ·obtain ⟨o,_,_,_,e,ex,_⟩ := I.hok p _ hk
   refine ⟨⟨o,e,ex.1⟩,fun a e2 => ?_⟩
   cases e2
   exact ⟨o,e,ex.2.1⟩
 | _ => exact False.elim ty
def tBM (K : PySem.W.Frag) (T : String) (r : V → List V → Hp → VK → Prop) (to : TE) (t : TA) : TE := fun σ H Q => to σ H fun x H1 => tyV K T x H1∧t σ H1 fun xs H2 => r x xs H2 Q
variable {o e : Expr} {es : List Expr} {to : TE} {t : TA} {name : Str} {apos cpos : Pos} {T id : String} {r : V → List V → Hp → VK → Prop}
theorem qno (pa : PlainAttrs T) (slot : Slot T name id) (hty : typeOf (.builtin id) = pure (.type "method_descriptor")) (hm : MtR X id r) (ho : PE X o to) (ha : PA X (e :: es) t)
  (hbase : attributeBase o name X.env (eval o X.env) = eval o X.env := by rfl)
  (hfew : ((backTo cpos (starEach (e :: es) X.env)).all (fun x => !x.1) && (backToKw cpos (keywordEach [] X.env)).all (fun x => x.1.isSome)
   && decide ((e :: es).length + ([] : List Keyword).length + (if ([] : List Keyword).isEmpty then 0 else 1) < 30)) = true := by rfl)
  (hline : (apos.endLine == cpos.line) = true := by rfl) (hs : starEach (e :: es) X.env = (false,eval e X.env) :: starEach es X.env := by rfl) (hplain : (backTo cpos (starEach es X.env)).any (·.1) = false := by rfl) :
  PE X (.Call (.Attribute o name apos) (e :: es) [] cpos) (tBM X.K T r to t) := by
 intro pins s σ H Q I h
 refine wpAny_Call_method_late hbase hfew hline rfl (thn (ho pins s σ H _ I h) fun v s1 ⟨x,H1,I1,r1,ty,q1⟩ => ?_)
 obtain ⟨h1,h2⟩ := qmh I1 r1 ty
 refine ⟨T,id,pa,slot,hty,h1,h2,?_⟩
 have hA := ha cpos pins s1 σ H1 _ I1 q1
 rw [hs] at hA ⊢
 refine Calls.callWith_builtin (by show (false || (backTo cpos (starEach es X.env)).any (·.1)) = false;rw [hplain] <;> rfl) (Calls.evalArgs_plain ?_)
 exact thn hA fun us s2 ⟨vs,H2,I2,r2,q2⟩ => hm pins s2 σ H2 x vs v us Q I2 r1 r2 q2
end
end L2
namespace L2
open PySem PySem.Spec PyProof.Rows
def MtM (X : Cx) (id : String) (r : V → List V → Hp → VK → Prop) : Prop :=
 ∀ (pins : List (Addr × Obj)) (s : Shared) (σ : St) (H : Hp) (x : V) (xs : List V) (v : Value) (us : List Value) (Q : VK),Inv X pins σ H s → js x v → zO xs us → r x xs H Q →
  wpAny (model X.prog X.w) X.A (call (.builtin id) (v :: us)) (EP X pins σ Q) X.xe s
theorem zO.one : ∀ {x : V} {us : List Value},zO [x] us → ∃ u,us = [u]∧js x u
 | _,_,.cons r .nil => ⟨_,rfl,r⟩
theorem zO.reverse {xs : List V} {us : List Value} (h : zO xs us) : zO xs.reverse us.reverse := by
 induction h with
 | nil => exact .nil
 | cons r t ih => rw [List.reverse_cons,List.reverse_cons];exact zO.append ih (.cons r .nil)
section
variable {X : Cx} {pins : List (Addr × Obj)} {σ : St} {H : Hp} {s : Shared} {l b : Addr} {xs ys zs : List V}
theorem Inv.lset {its its' : List Value} {n : Nat} {f : Array Value → Array Value} {t' : Nat} (I : Inv X pins σ H s) (hH : H l = some (.lst xs))
  (e : s.heap.get? l = some { cls := .type "list",data := .seq its.toArray n }) (hf : f its.toArray = its'.toArray) (hv : zO ys its') (hz : ys.length ≤ sizeLine) :
  Inv X pins σ (upd H l (.lst ys)) { s with heap := s.heap.update l (Obj.mapSeq f),toks := t' } := by
 have q := PySem.IsL.update e f
 rw [hf] at q
 refine I.write (x := l) (e := l) (by rw [hH];exact trivial) (.inl rfl) (fun b' u hb hu => (Heap.get?_update_other s.heap (Obj.mapSeq f) (Ne.symm hb)).trans hu) ⟨_,q⟩ ?_
 exact ⟨hz,its',_,hv,q⟩
theorem Inv.lnew {its : List Value} {t' : Nat} (I : Inv X pins σ H s) (hv : zO ys its) (hz : ys.length ≤ sizeLine) :
  Inv X pins σ (upd H s.heap.objs.size (.lst ys)) { s with heap := s.heap.push { cls := .type "list",data := .seq its.toArray },toks := t' } :=
 I.laid (fun _ _ q => Heap.get?_push_of_some _ q) (Nat.le_refl _) ⟨hz,its,0,hv,Heap.get?_push_size _ rfl⟩
theorem Inv.fresh (I : Inv X pins σ H s) : H s.heap.objs.size = none := I.hok.fresh (Nat.le_refl _)
theorem Inv.lstM (I : Inv X pins σ H s) (hH : H l = some (.lst xs)) : xs.length ≤ sizeLine∧∃ (its : List Value) (n : Nat),zO xs its∧xs.length = its.length∧s.heap.get? l = some { cls := .type "list",data := .seq its.toArray n } := by
 obtain ⟨z,its,n,r,e⟩ := I.hok l _ hH
 exact ⟨z,its,n,r,r.length,e⟩
theorem qdC {n : Nat} (h : n ≤ sizeLine) : Builtin.List.listTooLong n = false := by
 unfold Builtin.List.listTooLong
 exact decide_eq_false (by omega)
end
section
variable {X : Cx}
def qbK : V → List V → Hp → VK → Prop := fun x vs H Q => ∃ l xs y,x = .ref l∧vs = [y]∧H l = some (.lst xs)∧xs.length < sizeLine∧Q .non (upd H l (.lst (xs ++ [y])))
theorem UW : MtM X "list.append" qbK := by
 intro pins s σ H x vs v us Q I rx rv h
 obtain ⟨l,xs,y,rfl,rfl,hH,hz,q⟩ := h
 cases rx
 obtain ⟨u,rfl,ru⟩ := rv.one
 obtain ⟨z,its,n,r,hl,e⟩ := I.lstM hH
 refine call_meets F.slot_list_append ⟨_,e,rfl⟩ F.entry_list_append (F.args_list_append_2 _ _) (PySem.list_append l its.toArray n u (by rw [List.size_toArray];omega)) ⟨e,?_⟩
 refine ⟨.non,_,I.lset (its' := its ++ [u]) hH e (by simp) (r.append (.cons ru .nil)) ?_,rfl,q⟩
 rw [List.length_append,List.length_singleton]
 omega
def qaQ : V → List V → Hp → VK → Prop := fun x vs H Q => ∃ l b xs zs,x = .ref l∧vs = [.ref b]∧H l = some (.lst xs)∧H b = some (.lst zs)∧xs.length + zs.length ≤ sizeLine∧Q .non (upd H l (.lst (xs ++ zs)))
theorem qbA : MtM X "list.extend" qaQ := by
 intro pins s σ H x vs v us Q I rx rv h
 obtain ⟨l,b,xs,zs,rfl,rfl,hH,hB,hz,q⟩ := h
 cases rx
 obtain ⟨u,rfl,ru⟩ := rv.one
 cases ru
 obtain ⟨z,its,n,r,hl,e⟩ := I.lstM hH
 obtain ⟨z2,its2,n2,r2,hl2,e2⟩ := I.lstM hB
 have hsz : its.toArray.size + its2.toArray.size ≤ sizeLine := by rw [List.size_toArray,List.size_toArray];omega
 have hlong : ¬ (!its.toArray.isEmpty && Builtin.List.listTooLong (its.toArray.size + its2.toArray.size)) = true := by
  rw [qdC hsz,Bool.and_false]
  exact Bool.false_ne_true
 refine call_meets F.slot_list_extend ⟨_,e,rfl⟩ F.entry_list_extend (F.args_list_extend_2 _ _)
  (AutoSeq1.list_extend_list_list_0 l its.toArray n b its2.toArray n2 hlong (by rw [List.size_toArray];omega) (by omega)) ⟨e,e2,?_⟩
 refine ⟨.non,_,I.lset (its' := its ++ its2) hH e (by simp) (r.append r2) ?_,rfl,q⟩
 rw [List.length_append]
 omega
def qo7 : R2 := fun x y H Q => ∃ l b xs zs,x = .ref l∧y = .ref b∧H l = some (.lst xs)∧H b = some (.lst zs)∧xs.length + zs.length ≤ sizeLine∧∀ p,H p = none → Q (.ref p) (upd H p (.lst (xs ++ zs)))
theorem qiB : OpR X (binaryOp .Add) qo7 := by
 intro pins s σ H x y v u Q I rx ry h
 obtain ⟨l,b,xs,zs,rfl,rfl,hH,hB,hz,q⟩ := h
 cases rx
 cases ry
 obtain ⟨z,its,n,r,hl,e⟩ := I.lstM hH
 obtain ⟨z2,its2,n2,r2,hl2,e2⟩ := I.lstM hB
 refine PySem.P.add_list e e2 ?_ (by rw [List.size_toArray,List.size_toArray];omega)
 have ea : its.toArray ++ its2.toArray = (its ++ its2).toArray := by simp
 rw [ea]
 exact ⟨.ref _,_,I.lnew (t' := s.toks) (r.append r2) (by rw [List.length_append];omega),rfl,q _ I.fresh⟩
end
section
variable {prog : Program} {w : World} {A : Around} {E : Value → Shared → Prop} {s : Shared}
end
section
variable {X : Cx}
end
end L2
namespace Att
open PySem PySem.W PySem.Calls PyProof.Rows
theorem WO {P : Params} {h : Heap} : ∀ (ns : List Int) (vs : List Value),WellAll P h vs (ns.map WData.int) → IntsAre vs ns := by
 intro ns
 induction ns with
 | nil =>
  intro vs w
  rw [List.map_nil] at w
  cases w
  exact .nil
 | cons n ns ih =>
  intro vs w
  rw [List.map_cons] at w
  cases w with
  | cons a b =>
   cases a
   exact .cons _ _ (ih _ b)
theorem qaG {l : OpenLaw} {n : Nat} (hn : l.most = some n) {P : Params} {h : Heap} {args : List WData} {vals : List Value}
  (hpre : l.row.toRowW.claim.pre args = true) (hwl : WellAll P h vals args) :
  ∃ a vs ns,vals = [Value.ref a]∧args = [WData.list (ns.map WData.int)]∧h.get? a = some { cls := .type "list",data := .seq vs.toArray }∧IntsAre vs ns∧ns.length ≤ n := by
 have hsh : WShape.hasAll [] args [.list .int] = true := (pre_splitW hpre).1
 have hc : l.pre.holds [] { args := args } = true := (pre_splitW hpre).2
 obtain ⟨d,r,rfl,h1,h2⟩ := hasAllW_cons hsh
 obtain rfl := hasAllW_nil h2
 obtain ⟨xs,rfl,h3⟩ := hasW_list h1
 obtain ⟨ns,rfl⟩ := items_int h3
 have hlen : ns.length ≤ n := by
  unfold OpenLaw.pre at hc
  have h4 : (WTm.not (.lt (.lit (.int (n : Int))) (.len (.arg 0)))).holds [] { args := [.list (ns.map .int)] } = true := by
   have h4 := (holds_andW hc).1
   rw [hn] at h4
   exact h4
  have h5 := condW_of h4 (w_not (w_lt w_lit (w_len_list (w_arg rfl))))
  rw [List.length_map] at h5
  refine Nat.le_of_not_lt fun q => ?_
  have q' : (n : Int) < ((ns.length : Nat) : Int) := by omega
  first
   | (rw [decide_eq_true q'] at h5;exact absurd h5 (by decide))
   | (simp at h5;omega)
 cases hwl with
 | cons w1 w2 =>
  cases w2
  cases w1 with
  | list ho hall => exact ⟨_,_,ns,rfl,rfl,ho,WO ns _ hall,hlen⟩
theorem qbk (l : OpenLaw) (args : List WData) : l.row.toRowW.claim.post args (.bool true) args = true :=
 postW_of (r := l.row.toRowW) (X := (true == true))
  (show WShape.has [] (.bool true) .bool = true by first | rfl | decide | simp [WShape.has,WShape.arms,WShape.armsAll])
  (show (WTm.eq .res (.lit (.bool true))).value [] { args := args,res := some (.bool true),after := args } = some (.bool (true == true)) from w_eq_bool (w_res rfl) w_lit) rfl
theorem K4 {l : OpenLaw} {n : Nat} {q : Program} {loose : List Str} {XP : (Str → Option Value) → Heap → Prop} {YP : World → Heap → Prop} {d : DefRec}
  (hn : l.most = some n) (hdf : d.params.defaults = [])
  (call : ∀ (w : World) (s₀ s₁ : Shared) (mg mb : Str → Option Value) (fa : Addr) (o : Obj) (pm cd doc : Value) (a : Addr) (vs : List Value) (ns : List Int),
   Ground q loose [] XP w s₀ mg mb s₁.heap → YP w s₁.heap →
   s₁.heap.get? fa = some o → o.data = .func (docDef d.name d.params d.body d.scope pm cd doc) → s₁.heap.CodeRec cd d.name → mg d.name = some (.ref fa) →
   s₁.heap.get? a = some { cls := .type "list",data := .seq vs.toArray } → IntsAre vs ns → ns.length ≤ n → s₁.gens = #[] →
   codeAny (model l.prog w) callerA (.call (.ref fa) ⟨[.ref a],[]⟩) (fun r s' => r = .ok (.ret (.bool true))∧OldK s₁.heap s'.heap∧s'.os = s₁.os∧AllBare s'.gens) s₁) :
  WalkO q loose XP YP l.row.toRowW d [] (fun f vs => PySem.call f vs) := by
 intro w s₀ s₁ mg mb G Y fa o pm cd doc dV kV ho hd hcd hD hmg hg args vals as hpre hlay hrd hwl hlo
 obtain rfl : dV = .none := Dflts.none hD hdf
 obtain rfl : kV = .none := Dflts.noKw hD
 obtain ⟨a,vs,ns,rfl,rfl,hobj,hints,hlen⟩ := qaG hn hpre hwl
 refine enter_call (codeAny_mono (call w s₀ s₁ mg mb fa o pm cd doc a vs ns G Y ho (fd_plain hd) hcd hmg hobj hints hlen hg) fun r s' hq => ?_)
 obtain ⟨rfl,h2,h3,h4⟩ := hq
 exact ⟨.inl ⟨.bool true,.bool true,[],rfl,fun _ => rfl,.bool true,qbk l _,fun _ => ⟨List.Pairwise.nil,fun _ hm => (nomatch hm)⟩⟩,h2,h3,h4⟩
section
variable {prog : Program} {w : World} {A : Around} {E : Value → Shared → Prop} {s : Shared} {K : Frag}
end
end Att
namespace L2
open PySem PySem.Spec PyProof.Rows
theorem S7 : ∀ {vs : List Value} {ns : List Int},IntsAre vs ns → zO (ns.map V.int) vs
 | _,_,.nil => .nil
 | _,_,.cons n t h => .cons ⟨t,rfl⟩ (S7 h)
def qmO (H : Hp) : Prop := ∀ b,H b = none ∨ ∃ o xs,H b = some (.frz o (.lst xs))
theorem qda {P : Program} {w : World} {K : PySem.W.Frag} {mg mb : Str → Option Value} {CX : CXT} {k : Nat} {fa a : Addr} {fd : FuncData} {x : Str} {sp : Sp} {s₁ : Shared} {vs : List Value} {ns : List Int}
  (KX : K.In s₁.heap) (hns : s₁.heap.Ns mainGlobals mg) (hb : s₁.heap.Ns builtinsNs mb) (hbb : ∀ x : Str,x ≠ "__name__" → mb x = bootBuiltins x) (hlim : s₁.heap.NoLimit) (hg : s₁.gens = #[])
  (ha : s₁.heap.get? a = some { cls := .type "list",data := .seq vs.toArray }) (hi : IntsAre vs ns) (hl : ns.length ≤ sizeLine) (hr : Room k callerA)
  (F : ∀ base : Heap,K.In base → base.Ns mainGlobals mg → FnOk P w K mg base CX k fa fd [x] sp) (hbind : ∀ (s : Shared) (u : Value),BindsTo s fd ⟨[u],[]⟩ [(x,u)])
  (hsp : ∀ H : Hp,qmO H → SqL K H a (ns.map V.int) → sp [.ref a] H (fun v _ => v = .bl true) fun _ _ _ => False)
  (hCX : ∀ H e s',CX [] H s₁ (fun _ _ _ => False) e s' → False) :
  codeAny (model P w) callerA (.call (.ref fa) ⟨[.ref a],[]⟩) (fun r s' => r = .ok (.ret (.bool true))∧OldK s₁.heap s'.heap∧s'.os = s₁.os∧AllBare s'.gens) s₁ := by
 have rv := S7 hi
 have lenV := hi.length
 -- from an abstract heap in which nothing but the script may be tracked
 have core : ∀ H : Hp,qmO H → SqL K H a (ns.map V.int) → HOk P w H s₁.heap → (∀ b,H b ≠ none → b = a) → (H a ≠ none → K.lookup a = none) →
   codeAny (model P w) callerA (.call (.ref fa) ⟨[.ref a],[]⟩) (fun r s' => r = .ok (.ret (.bool true))∧OldK s₁.heap s'.heap∧s'.os = s₁.os∧AllBare s'.gens) s₁ := by
  intro H hO hS hok hA hK
  have base_of : ∀ {b : Addr} {o : Obj},s₁.heap.get? b = some o → H b = none → (qcC s₁.heap H).get? b = some o := fun e n => qdy e n
  have noA : ∀ {b : Addr} {o : Obj} {es : Array DictEntry} {ep : Nat},s₁.heap.get? b = some o → o.data = .dict es ep → H b = none := fun {b o es ep} e d => by
   cases q : H b with
   | none => rfl
   | some u =>
    have e' : b = a := hA b (by rw [q];simp)
    subst e'
    rw [ha] at e;cases e
    have d' : Data.seq vs.toArray _ = Data.dict es ep := d
    cases d'
  have nsK : ∀ {b : Addr} {m : Str → Option Value},s₁.heap.Ns b m → (qcC s₁.heap H).Ns b m := fun {b m} ⟨o,es,ep,e,d,r⟩ => ⟨o,es,ep,base_of e (noA e d),d,r⟩
  have hKb : K.In (qcC s₁.heap H) := fun b o e => base_of (KX b o e) (by
   cases q : H b with
   | none => rfl
   | some u =>
    have e' : b = a := hA b (by rw [q];simp)
    subst e'
    rw [hK (by rw [q];simp)] at e;cases e)
  have hM : Mod K mg (qcC s₁.heap H) := ⟨hKb,nsK hns,⟨mb,nsK hb,hbb⟩,let ⟨mc,h1,h2⟩ := hlim;⟨mc,nsK h1,h2⟩⟩
  have e0 : Env0 P w K mg (qcC s₁.heap H) callerA [] s₁ H := ⟨rfl,hM,fun b o e => qgs e,Nat.le_of_eq (qbW _ _),trivial,fun b hb => absurd (show b ∈ ([] : List Addr) from hb) (by simp),hok,.of_eq hg⟩
  refine codeAny_mono ((F _ hKb (nsK hns)).run callerA [] s₁ H ⟨[.ref a],[]⟩ [.ref a] [.ref a] _ _ hr e0 (hbind s₁ (.ref a)) (.cons rfl .nil) (hsp H hO hS)) fun r s' h => ?_
  cases r with
  | error e => exact (hCX H e s' h).elim
  | ok fl =>
   cases fl with
   | next => exact False.elim h
   | brk => exact False.elim h
   | cont => exact False.elim h
   | ret u =>
    obtain ⟨v,H',os,bare,un,hok',r',q⟩ := h
    have q' : v = .bl true := q
    subst q'
    obtain rfl : u = Value.bool true := r'
    refine ⟨rfl,OldK.of_keep fun b o e => ?_,os,bare⟩
    cases q : H b with
    | none => exact un.keep b o e q (by intro z;exact absurd (show b ∈ ([] : List Addr) from z) (by simp)) (by simp)
    | some u =>
     rcases hO b with z | ⟨ob,xs,z⟩
     ·rw [q] at z;cases z
     ·have z2 := un.frzs b ob _ z
      obtain ⟨e1,_⟩ := hok b _ z
      obtain ⟨e2,_⟩ := hok' b _ z2
      rw [e] at e1;cases e1
      exact e2
 cases hk : K.lookup a with
 | some o =>
  -- the script is one of the module's own objects
  have e := KX a o hk
  rw [ha] at e
  cases e
  refine core (fun _ => none) (fun _ => .inl rfl) (.inr ⟨_,vs.toArray,_,hk,rfl,rfl,rfl,by rw [List.size_toArray,lenV];exact hl,by simpa using rv⟩) (fun b u z => by have z' : (none : Option HO) = some u := z;cases z') (fun b z => absurd rfl z) fun z => absurd rfl z
 | none =>
  refine core (fun b => if b = a then some (.frz { cls := .type "list",data := .seq vs.toArray } (.lst (ns.map V.int))) else none) (fun b => ?_) (.inl (.inr ⟨{ cls := .type "list",data := .seq vs.toArray },if_pos rfl⟩)) (fun b u z => ?_) (fun b z => ?_) fun _ => hk
  ·by_cases hb : b = a
   ·exact .inr ⟨_,_,if_pos hb⟩
   ·exact .inl (if_neg hb)
  ·by_cases hb : b = a
   ·have z' := (if_pos hb).symm.trans z
    cases z'
    subst hb
    exact ⟨ha,by rw [List.length_map];exact hl,vs,_,rv,ha⟩
   ·have z' := (if_neg hb).symm.trans z
    cases z'
  ·by_cases hb : b = a
   ·exact hb
   ·exact absurd (if_neg hb) z
end L2
namespace L2
open PySem PySem.Spec PyProof.Rows
theorem qf1 {l : PySem.W.OpenLaw} {n k : Nat} {q : Program} {loose : List Str} {XP : (Str → Option Value) → Heap → Prop} {YP : World → Heap → Prop} {d : DefRec} {K : Params → PySem.W.Frag} {CX : World → CXT} {sp : World → Sp} {x : Str}
  (hn : l.most = some n) (hn2 : n ≤ sizeLine) (hdf : d.params.defaults = []) (hr : Room k callerA)
  (hY : ∀ (w : World) (h : Heap),YP w h → (K w.params).In h)
  (F : ∀ (w : World) (mg : Str → Option Value) (fa : Addr) (h : Heap),(K w.params).In h → h.Ns mainGlobals mg → mg d.name = some (.ref fa) →
   ∃ fd : FuncData,(∀ (s : Shared) (u : Value),BindsTo s fd ⟨[u],[]⟩ [(x,u)]) ∧
    ∀ base : Heap,(K w.params).In base → base.Ns mainGlobals mg → FnOk l.prog w (K w.params) mg base (CX w) k fa fd [x] (sp w))
  (hsp : ∀ (w : World) (H : Hp) (a : Addr) (ns : List Int),ns.length ≤ n → qmO H → SqL (K w.params) H a (ns.map V.int) → sp w [.ref a] H (fun v _ => v = .bl true) fun _ _ _ => False)
  (hCX : ∀ (w : World) (H : Hp) (s : Shared) (e : Value) (s' : Shared),CX w [] H s (fun _ _ _ => False) e s' → False) :
  PySem.W.WalkO q loose XP YP l.row.toRowW d [] (fun f vs => PySem.call f vs) := by
 refine Att.K4 hn hdf fun w s₀ s₁ mg mb fa o pm cd doc a vs ns G Y ho hd hcd hmg hobj hints hlen hg => ?_
 have KX := hY w _ Y
 obtain ⟨fd,hb,hF⟩ := F w mg fa _ KX G.T.g hmg
 exact qda KX G.T.g G.T.b G.T.builtins G.T.nolimit hg hobj hints (Nat.le_trans hlen hn2) hr hF hb (fun H hO hS => hsp w H a ns hlen hO hS) fun H e s' => hCX w H s₁ e s'
end L2
namespace L2
open PySem PySem.Spec PyProof.Rows
def JA (s : Stmt) : Arguments := match s with
 | .FunctionDef _ a _ _ _ _ _ _ _ _ => a
 | _ => { posonlyargs := [],args := [],vararg := none,kwonlyargs := [],kw_defaults := [],kwarg := none,defaults := [] }
def jj (s : Stmt) : List Stmt := match s with
 | .FunctionDef _ _ b _ _ _ _ _ _ _ => b
 | _ => []
def qi (s : Stmt) : Scope := match s with
 | .FunctionDef _ _ _ _ _ _ sc _ _ _ => sc
 | _ => { kind := .function,names := [],isGenerator := false,isCoroutine := false }
abbrev CX0 : CXT := fun _ _ _ _ _ _ => False
abbrev E0 : XK := fun _ _ _ => False
theorem qow {X : Cx} : qa2 CX0 X E0 := fun _ _ _ _ _ _ _ h => h.elim
structure Fun (K : PySem.W.Frag) (x qual : Str) (st : Stmt) (f : Addr) (fd : FuncData) : Prop where
 ex : ∃ (oc : Value) (od : Option Addr) (kV doc pm : Value) (an : Option Addr) (cdv ct : Value) (osl : Array (Option Value)),
  fd = PySem.W.fnOf x qual (JA st) (jj st) (qi st) .none kV doc pm an cdv ct∧K.lookup f = some ⟨oc,od,.func fd,osl⟩∧PySem.W.codeIn K cdv qual = true
 kp : PySem.W.keepIn K (.ref f) = true
section
variable {P : Program} {w : World} {K : PySem.W.Frag} {mg : Str → Option Value} {base : Heap}
theorem Fun.ok {x qual : Str} {st : Stmt} {f : Addr} {fd : FuncData} {N ps : List Str} {k : Nat} {sp : Sp} (F : Fun K x qual st f fd) (S : FnScope N ps (qi st)) (len : ∀ vs H Q E,sp vs H Q E → vs.length = ps.length)
  (hbody : ∀ (cdv : Value) (A : Around) (outer : List Env) (s : Shared) (H : Hp) (vs : List V) (Q : VK) (E : XK),Room k (A.deeper (envOfC qual (qi st) s.heap.objs.size f cdv)) → sp vs H Q E →
   ∃ t,PSs (qcm CX0 P w K mg base N qual (qi st) f cdv A outer s H E).nox (jj st) t∧t { nx := fun _ H' => Q .non H',rt := Q } (WN N vs) H) : FnOk P w K mg base CX0 (k + 1) f fd ps sp := by
 obtain ⟨oc,od,kV,doc,pm,an,cdv,ct,osl,rfl,lk,hcd⟩ := F.ex
 refine qor lk hcd S len fun A outer s H vs Q E hr hsp => ?_
 obtain ⟨t,h,q⟩ := hbody cdv A outer s H vs Q E hr hsp
 exact ⟨t,h.nox,q⟩
theorem Fun.binds {x qual : Str} {st : Stmt} {f : Addr} {fd : FuncData} {ps : List Str} (F : Fun K x qual st f fd)
  (h : ∀ (kV doc pm : Value) (an : Option Addr) (cdv ct : Value) (us : List Value),us.length = ps.length → bindArgs (PySem.W.fnOf x qual (JA st) (jj st) (qi st) .none kV doc pm an cdv ct) ⟨us,[]⟩ = pure (ps.zip us)) : zb K fd ps [] := by
 obtain ⟨oc,od,kV,doc,pm,an,cdv,ct,osl,rfl,lk,hcd⟩ := F.ex
 exact .all (h kV doc pm an cdv ct)
theorem qjY {x qual : Str} {st : Stmt} {f : Addr} {oc : Value} {od an : Option Addr} {osl : Array (Option Value)} {kV doc pm cdv ct : Value} (l : K.lookup f = some ⟨oc,od,.func (PySem.W.fnOf x qual (JA st) (jj st) (qi st) .none kV doc pm an cdv ct),osl⟩)
  (c : PySem.W.codeIn K cdv qual = true) (k : PySem.W.keepIn K (.ref f) = true) : Fun K x qual st f (PySem.W.fnOf x qual (JA st) (jj st) (qi st) .none kV doc pm an cdv ct) := ⟨⟨oc,od,kV,doc,pm,an,cdv,ct,osl,rfl,l,c⟩,k⟩
end
section
variable {X : Cx}
end
theorem qmJ {A B : Prop} (h : B) : if false = true then A else B := by
 rw [if_neg Bool.false_ne_true]
 exact h
theorem qmH {A B : Prop} (h : A) : if true = true then A else B := by
 rw [if_pos rfl]
 exact h
end L2
set_option maxHeartbeats 4000000
namespace L3
open PySem PySem.Spec PyProof.Rows L2
set_option genInjectivity true in
inductive T where
 | non | bl (b : Bool) | int (i : Int) | str (x : Str) | tup (xs : List T) | ref (a : Addr)
inductive O where
 | lst (xs : List T)
 | frz (xs : List T)
abbrev Gp := Addr → Option O
def gu (G : Gp) (a : Addr) (o : O) : Gp := fun b => if b = a then some o else G b
theorem qE {G : Gp} {a : Addr} {o : O} : gu G a o a = some o := by unfold gu;rw [if_pos rfl]
theorem jR {G : Gp} {a b : Addr} {o : O} (h : b ≠ a) : gu G a o b = G b := by unfold gu;rw [if_neg h]
mutual
inductive Rp (K : PySem.W.Frag) (H : Hp) : T → V → Prop
 | non : Rp K H .non .non
 | bl (b : Bool) : Rp K H (.bl b) (.bl b)
 | int (i : Int) : Rp K H (.int i) (.int i)
 | str (x : Str) : Rp K H (.str x) (.str x)
 | ref (a : Addr) : Rp K H (.ref a) (.ref a)
 | tup {xs : List T} {a : Addr} {vs : List V} : SqT K H a vs → Rps K H xs vs → Rp K H (.tup xs) (.ref a)
inductive Rps (K : PySem.W.Frag) (H : Hp) : List T → List V → Prop
 | nil : Rps K H [] []
 | cons {x : T} {v : V} {xs : List T} {vs : List V} : Rp K H x v → Rps K H xs vs → Rps K H (x :: xs) (v :: vs)
end
def OR (K : PySem.W.Frag) (H : Hp) (a : Addr) : O → Prop
 | .lst xs => ∃ vs,H a = some (.lst vs)∧Rps K H xs vs
 | .frz xs => ∃ vs,(∃ o,H a = some (.frz o (.lst vs)))∧Rps K H xs vs
def HR (K : PySem.W.Frag) (G : Gp) (H : Hp) : Prop := ∀ a o,G a = some o → OR K H a o
def Kp (G : Gp) (H : Hp) (G' : Gp) (H' : Hp) : Prop := ∀ a o,H a = some o → G a = none → H' a = some o∧G' a = none
theorem Kp.refl {G : Gp} {H : Hp} : Kp G H G H := fun _ _ h g => ⟨h,g⟩
theorem Kp.trans {G G1 G2 : Gp} {H H1 H2 : Hp} (a : Kp G H G1 H1) (b : Kp G1 H1 G2 H2) : Kp G H G2 H2 := fun x o h g =>
 let ⟨h1,g1⟩ := a x o h g;b x o h1 g1
section
variable {K : PySem.W.Frag} {G G' : Gp} {H H' : Hp}
theorem HR.noneT (hr : HR K G H) {a : Addr} {vs : List V} (h : Rd H a (.tup vs)) : G a = none := by
 cases e : G a with
 | none => rfl
 | some o =>
  have q := hr a o e
  cases o with
  | lst xs =>
   obtain ⟨us,q1,_⟩ := q
   rcases h with h | ⟨ob,h⟩ <;> (rw [q1] at h;cases h)
  | frz xs =>
   obtain ⟨us,⟨o1,q1⟩,_⟩ := q
   rcases h with h | ⟨ob,h⟩ <;> (rw [q1] at h;cases h)
theorem C6 (hr : HR K G H) (k : Kp G H G' H') {a : Addr} {vs : List V} (h : SqT K H a vs) : SqT K H' a vs := by
 rcases h with h | h
 ·have g := hr.noneT h
  rcases h with h | ⟨o,h⟩
  ·exact .inl (.inl (k a _ h g).1)
  ·exact .inl (.inr ⟨o,(k a _ h g).1⟩)
 ·exact .inr h
mutual
theorem Rp.keep (hr : HR K G H) (k : Kp G H G' H') : ∀ {x : T} {v : V},Rp K H x v → Rp K H' x v
 | _,_,.non => .non
 | _,_,.bl b => .bl b
 | _,_,.int i => .int i
 | _,_,.str x => .str x
 | _,_,.ref a => .ref a
 | _,_,.tup h hs => .tup (C6 hr k h) (Rps.keep hr k hs)
theorem Rps.keep (hr : HR K G H) (k : Kp G H G' H') : ∀ {x : List T} {v : List V},Rps K H x v → Rps K H' x v
 | _,_,.nil => .nil
 | _,_,.cons a b => .cons (Rp.keep hr k a) (Rps.keep hr k b)
end
theorem Rps.length : ∀ {xs : List T} {vs : List V},Rps K H xs vs → xs.length = vs.length
 | _,_,.nil => rfl
 | _,_,.cons _ b => by simp [Rps.length b]
theorem Rps.get : ∀ {xs : List T} {vs : List V} {i : Nat} {x : T},Rps K H xs vs → xs[i]? = some x → ∃ v,vs[i]? = some v∧Rp K H x v
 | _,_,_,_,.nil,e => by simp at e
 | _,_,0,_,.cons r _,e => by simp at e;subst e;exact ⟨_,rfl,r⟩
 | _,_,i + 1,x,.cons _ t,e => by
  obtain ⟨u,h1,h2⟩ := Rps.get (i := i) (x := x) t (by simpa using e)
  exact ⟨u,by simpa using h1,h2⟩
theorem Rps.append : ∀ {xs ys : List T} {vs us : List V},Rps K H xs vs → Rps K H ys us → Rps K H (xs ++ ys) (vs ++ us)
 | _,_,_,_,.nil,s => s
 | _,_,_,_,.cons r t,s => .cons r (Rps.append t s)
theorem Rps.take : ∀ {xs : List T} {vs : List V} (n : Nat),Rps K H xs vs → Rps K H (xs.take n) (vs.take n)
 | _,_,0,_ => .nil
 | _,_,_ + 1,.nil => .nil
 | _,_,n + 1,.cons r t => .cons r (Rps.take n t)
theorem Rps.drop : ∀ {xs : List T} {vs : List V} (n : Nat),Rps K H xs vs → Rps K H (xs.drop n) (vs.drop n)
 | _,_,0,r => r
 | _,_,_ + 1,.nil => .nil
 | _,_,n + 1,.cons _ t => Rps.drop n t
theorem Rps.set {x : T} {v : V} (r : Rp K H x v) : ∀ {xs : List T} {vs : List V} (i : Nat),Rps K H xs vs → Rps K H (xs.set i x) (vs.set i v)
 | _,_,_,.nil => .nil
 | _,_,0,.cons _ t => .cons r t
 | _,_,i + 1,.cons q t => .cons q (Rps.set r i t)
theorem Rps.ints : ∀ (ns : List Int),Rps K H (ns.map T.int) (ns.map V.int)
 | [] => .nil
 | n :: r => .cons (.int n) (Rps.ints r)
theorem Rps.reverse {xs : List T} {vs : List V} (h : Rps K H xs vs) : Rps K H xs.reverse vs.reverse := by
 induction xs generalizing vs with
 | nil => cases h;exact .nil
 | cons x r ih =>
  cases h with
  | cons a b =>
   rw [List.reverse_cons,List.reverse_cons]
   exact (ih b).append (.cons a .nil)
theorem Kp.laid {p : Addr} {ho : HO} (hp : H p = none) : Kp G H G (upd H p ho) := fun a o h g => ⟨by rw [qC (qw h hp)];exact h,g⟩
theorem HR.free (hr : HR K G H) {p : Addr} (hp : H p = none) : G p = none := by
 cases e : G p with
 | none => rfl
 | some o =>
  have q := hr p o e
  cases o with
  | lst xs => obtain ⟨us,q1,_⟩ := q;rw [hp] at q1;cases q1
  | frz xs => obtain ⟨us,⟨o1,q1⟩,_⟩ := q;rw [hp] at q1;cases q1
theorem OR.keep (hr : HR K G H) (k : Kp G H G' H') {a : Addr} {o : O} (h : OR K H a o) (e : ∀ u,H a = some u → H' a = some u) : OR K H' a o := by
 cases o with
 | lst xs => obtain ⟨vs,h1,h2⟩ := h;exact ⟨vs,e _ h1,h2.keep hr k⟩
 | frz xs => obtain ⟨vs,⟨o,h1⟩,h2⟩ := h;exact ⟨vs,⟨o,e _ h1⟩,h2.keep hr k⟩
theorem HR.laid (hr : HR K G H) {p : Addr} {ho : HO} (hp : H p = none) : HR K G (upd H p ho) := fun a o e =>
 (hr a o e).keep hr (Kp.laid hp) fun u h => by rw [qC (qw h hp)];exact h
theorem Kp.newL {p : Addr} {ho : HO} {o' : O} (hp : H p = none) : Kp G H (gu G p o') (upd H p ho) := fun a o h g =>
 ⟨by rw [qC (qw h hp)];exact h,by rw [jR (qw h hp)];exact g⟩
theorem HR.newL (hr : HR K G H) {p : Addr} {xs : List T} {vs : List V} (hp : H p = none) (r : Rps K H xs vs) : HR K (gu G p (.lst xs)) (upd H p (.lst vs)) := fun a o e => by
 by_cases ha : a = p
 ·subst ha
  rw [qE] at e;cases e
  exact ⟨vs,zd,r.keep hr (Kp.laid hp)⟩
 ·rw [jR ha] at e
  exact (hr a o e).keep hr (Kp.laid hp) fun u h => by rw [qC ha];exact h
theorem Kp.wr {p : Addr} {ho : HO} {o o' : O} (g : G p = some o) : Kp G H (gu G p o') (upd H p ho) := fun a ob h ga => by
 have ha : a ≠ p := by intro e;subst e;rw [g] at ga;cases ga
 exact ⟨by rw [qC ha];exact h,by rw [jR ha];exact ga⟩
theorem HR.wr (hr : HR K G H) {p : Addr} {ys xs : List T} {vs : List V} (g : G p = some (.lst ys)) (r : Rps K H xs vs) : HR K (gu G p (.lst xs)) (upd H p (.lst vs)) := fun a o e => by
 have k : Kp G H (gu G p (.lst xs)) (upd H p (.lst vs)) := Kp.wr g
 by_cases ha : a = p
 ·subst ha
  rw [qE] at e;cases e
  exact ⟨vs,zd,r.keep hr k⟩
 ·rw [jR ha] at e
  exact (hr a o e).keep hr k fun u h => by rw [qC ha];exact h
end
abbrev St3 := List (Option T)
structure Rel (K : PySem.W.Frag) (τ : St3) (G : Gp) (σ : L2.St) (H : Hp) : Prop where
 hp : HR K G H
 len : τ.length = σ.length
 st : ∀ (i : Nat) (t : T),τ[i]? = some (some t) → ∃ v,σ[i]? = some (some v)∧Rp K H t v
theorem Rel.next {K : PySem.W.Frag} {τ : St3} {G G' : Gp} {σ : L2.St} {H H' : Hp} (r : Rel K τ G σ H) (hr : HR K G' H') (k : Kp G H G' H') : Rel K τ G' σ H' :=
 ⟨hr,r.len,fun i t e => let ⟨v,h1,h2⟩ := r.st i t e;⟨v,h1,h2.keep r.hp k⟩⟩
theorem Rel.set {K : PySem.W.Frag} {τ : St3} {G : Gp} {σ : L2.St} {H : Hp} {t : T} {v : V} (r : Rel K τ G σ H) (i : Nat) (h : Rp K H t v) : Rel K (τ.set i (some t)) G (σ.set i (some v)) H := by
 refine ⟨r.hp,by simp [r.len],fun j u e => ?_⟩
 by_cases hij : i = j
 ·subst hij
  rw [List.getElem?_set_self'] at e
  have hl : i < τ.length := by
   cases q : τ[i]? with
   | none => rw [q] at e;cases e
   | some z => exact (List.getElem?_eq_some_iff.mp q).1
  rw [List.getElem?_eq_getElem hl] at e
  have e' : t = u := by simpa using e
  subst e'
  exact ⟨v,by rw [List.getElem?_set_self (by rw [← r.len];exact hl)],h⟩
 ·rw [List.getElem?_set_ne hij] at e
  obtain ⟨w,h1,h2⟩ := r.st j u e
  exact ⟨w,by rw [List.getElem?_set_ne hij];exact h1,h2⟩
abbrev Q3 := T → Gp → Prop
abbrev TE3 := St3 → Gp → Q3 → Prop
abbrev TT3 := St3 → Gp → (Bool → Gp → Prop) → Prop
abbrev TA3 := St3 → Gp → (List T → Gp → Prop) → Prop
def Aft (K : PySem.W.Frag) (G : Gp) (H : Hp) (q : Q3) (Q : VK) : Prop := ∀ x G',q x G' → ∀ v H',Rp K H' x v → HR K G' H' → Kp G H G' H' → Q v H'
def qmF (K : PySem.W.Frag) (G : Gp) (H : Hp) (q : Bool → Gp → Prop) (Q : Bool → Hp → Prop) : Prop := ∀ x G',q x G' → ∀ H',HR K G' H' → Kp G H G' H' → Q x H'
def qpH (K : PySem.W.Frag) (G : Gp) (H : Hp) (q : List T → Gp → Prop) (Q : List V → Hp → Prop) : Prop := ∀ x G',q x G' → ∀ v H',Rps K H' x v → HR K G' H' → Kp G H G' H' → Q v H'
def lE (K : PySem.W.Frag) (t : TE3) : TE := fun σ H Q => ∃ τ G q,Rel K τ G σ H∧t τ G q∧Aft K G H q Q
def lT (K : PySem.W.Frag) (t : TT3) : TT := fun σ H Q => ∃ τ G q,Rel K τ G σ H∧t τ G q∧qmF K G H q Q
def lA (K : PySem.W.Frag) (t : TA3) : TA := fun σ H Q => ∃ τ G q,Rel K τ G σ H∧t τ G q∧qpH K G H q Q
abbrev E3 (X : Cx) (e : Expr) (t : TE3) : Prop := PE X e (lE X.K t)
abbrev C3 (X : Cx) (e : Expr) (t : TT3) : Prop := PT X e (lT X.K t)
abbrev W3 (X : Cx) (e : Expr) (t : TT3) : Prop := PW X e (lT X.K t)
abbrev A3 (X : Cx) (es : List Expr) (t : TA3) : Prop := PA X es (lA X.K t)
theorem Aft.back {K : PySem.W.Frag} {G G1 : Gp} {H H1 : Hp} {q : Q3} {Q : VK} (a : Aft K G H q Q) (k : Kp G H G1 H1) : Aft K G1 H1 q Q := fun x G' h v H' r hr k' => a x G' h v H' r hr (k.trans k')
theorem qmF.back {K : PySem.W.Frag} {G G1 : Gp} {H H1 : Hp} {q : Bool → Gp → Prop} {Q : Bool → Hp → Prop} (a : qmF K G H q Q) (k : Kp G H G1 H1) : qmF K G1 H1 q Q := fun x G' h H' hr k' => a x G' h H' hr (k.trans k')
theorem WP {X : Cx} {e : Expr} {t t' : TE} (h : PE X e t) (w : ∀ σ H Q,t' σ H Q → t σ H Q) : PE X e t' := fun pins s σ H Q I q => h pins s σ H Q I (w σ H Q q)
theorem qnS {X : Cx} {e : Expr} {t t' : TT} (h : PT X e t) (w : ∀ σ H Q,t' σ H Q → t σ H Q) : PT X e t' := fun pins s σ H Q I q => h pins s σ H Q I (w σ H Q q)
theorem qo1 {X : Cx} {e : Expr} {t t' : TT} (h : PW X e t) (w : ∀ σ H Q,t' σ H Q → t σ H Q) : PW X e t' := fun wh pins s σ H Q I q => h wh pins s σ H Q I (w σ H Q q)
theorem qpf {X : Cx} {e : List Expr} {t t' : TA} (h : PA X e t) (w : ∀ σ H Q,t' σ H Q → t σ H Q) : PA X e t' := fun pos pins s σ H Q I q => h pos pins s σ H Q I (w σ H Q q)
theorem zv {K : PySem.W.Frag} {ta : TE3} {τ : St3} {G : Gp} {σ : L2.St} {H : Hp} {q : Q3} {Q : VK} (r : Rel K τ G σ H) (h : ta τ G q)
  (n : ∀ x G1,q x G1 → ∀ v H1,Rp K H1 x v → HR K G1 H1 → Kp G H G1 H1 → Rel K τ G1 σ H1 → Q v H1) : lE K ta σ H Q :=
 ⟨τ,G,q,r,h,fun x G1 hq v H1 rx hr k => n x G1 hq v H1 rx hr k (r.next hr k)⟩
theorem CA {K : PySem.W.Frag} {ta : TT3} {τ : St3} {G : Gp} {σ : L2.St} {H : Hp} {q : Bool → Gp → Prop} {Q : Bool → Hp → Prop} (r : Rel K τ G σ H) (h : ta τ G q)
  (n : ∀ x G1,q x G1 → ∀ H1,HR K G1 H1 → Kp G H G1 H1 → Rel K τ G1 σ H1 → Q x H1) : lT K ta σ H Q :=
 ⟨τ,G,q,r,h,fun x G1 hq H1 hr k => n x G1 hq H1 hr k (r.next hr k)⟩
theorem JW {K : PySem.W.Frag} {ta : TA3} {τ : St3} {G : Gp} {σ : L2.St} {H : Hp} {q : List T → Gp → Prop} {Q : List V → Hp → Prop} (r : Rel K τ G σ H) (h : ta τ G q)
  (n : ∀ x G1,q x G1 → ∀ v H1,Rps K H1 x v → HR K G1 H1 → Kp G H G1 H1 → Rel K τ G1 σ H1 → Q v H1) : lA K ta σ H Q :=
 ⟨τ,G,q,r,h,fun x G1 hq v H1 rx hr k => n x G1 hq v H1 rx hr k (r.next hr k)⟩
section
variable {X : Cx} {a b c : Expr} {ta tb tc : TE3} {pos : Pos}
def v3 (i : Nat) : TE3 := fun τ G q => match τ[i]? with | some (some t) => q t G | _ => False
theorem qnK (i : Nat) {x : Str} {pos : Pos} (hN : X.N[i]? = some x := by rfl) (hv : Vis X.env.scope x := by first | exact Or.inl rfl | exact Or.inr (Or.inl rfl) | exact Or.inr (Or.inr rfl)) (hd : (x == ("__debug__" : Str)) = false := by decide)
  (hcd : (x == ("__classdict__" : Str)) = false := by decide) : E3 X (.Name x pos) (v3 i) := by
 refine WP (qlR (i := i) hN hv hd hcd) fun σ H Q ⟨τ,G,q,r,h,af⟩ => ?_
 unfold v3 at h
 split at h
 ·rename_i t e
  obtain ⟨v,e2,rv⟩ := r.st i t e
  exact ⟨v,e2,af t G h v H rv r.hp Kp.refl⟩
 ·exact h.elim
def c3 (t : T) : TE3 := fun _ G q => q t G
theorem e_c {t : T} {v : V} {e : Expr} (h : PE X e (tC v)) (hr : ∀ H,Rp X.K H t v) : E3 X e (c3 t) := WP h fun σ H Q ⟨τ,G,q,r,h,af⟩ => af t G h v H (hr H) r.hp Kp.refl
theorem qoB {i : Int} {j pos} : E3 X (.Constant (.int i) j pos) (c3 (.int i)) := e_c ql5 fun _ => .int i
theorem qpT {b : Bool} {j pos} : E3 X (.Constant (.bool b) j pos) (c3 (.bl b)) := e_c qoh fun _ => .bl b
theorem qoK {j pos} : E3 X (.Constant .none j pos) (c3 .non) := e_c qi3 fun _ => .non
theorem qnE {x : Str} {j pos} : E3 X (.Constant (.str x) j pos) (c3 (.str x)) := e_c qe8 fun _ => .str x
def n3 : TE3 := fun _ _ _ => False
abbrev R3 := T → T → Gp → Q3 → Prop
def WA (K : PySem.W.Frag) (r3 : R3) (r : R2) : Prop := ∀ x y v u G H q Q,HR K G H → Rp K H x v → Rp K H y u → r3 x y G q → Aft K G H q Q → r v u H Q
def o3 (r : R3) (ta tb : TE3) : TE3 := fun τ G q => ta τ G fun x G1 => tb τ G1 fun y G2 => r x y G2 q
theorem qcP {K : PySem.W.Frag} {r3 : R3} {r : R2} (hr : WA K r3 r) {σ : L2.St} {H : Hp} {Q : VK} (h : lE K (o3 r3 ta tb) σ H Q) : tOp r (lE K ta) (lE K tb) σ H Q := by
 obtain ⟨τ,G,q,rl,h,af⟩ := h
 refine zv rl h fun x G1 h1 v H1 rx hr1 k1 rl1 => zv rl1 h1 fun y G2 h2 u H2 ry hr2 k2 rl2 => ?_
 exact hr x y v u G2 H2 q Q hr2 (rx.keep hr1 k2) ry h2 (af.back (k1.trans k2))
theorem qfX {op : Operator} {r3 : R3} {r : R2} (ho : OpR X (binaryOp op) r) (hr : WA X.K r3 r) (ha : E3 X a ta) (hb : E3 X b tb) : E3 X (.BinOp a op b pos) (o3 r3 ta tb) :=
 WP (qnx ho ha hb) fun _ _ _ h => qcP hr h
theorem qov {op : CmpOp} {r3 : R3} {r : R2} (ho : OpR X (compareOp op) r) (hr : WA X.K r3 r) (ha : E3 X a ta) (hb : E3 X b tb) (hm : behindInMarks op b = false) : E3 X (.Compare a [op] [b] pos) (o3 r3 ta tb) :=
 WP (qha ho ha hb hm) fun _ _ _ h => qcP hr h
def tb3 (t : TE3) : TT3 := fun τ G q => t τ G fun x G' => match x with | .bl k => q k G' | _ => False
theorem qiQ {K : PySem.W.Frag} {t : TE3} {t2 : TE} (hw : ∀ σ H Q,lE K t σ H Q → t2 σ H Q) {σ : L2.St} {H : Hp} {Q : Bool → Hp → Prop} (h : lT K (tb3 t) σ H Q) : qmy t2 σ H Q := by
 obtain ⟨τ,G,q,rl,h,af⟩ := h
 refine hw _ _ _ (zv rl h fun x G1 h1 v H1 rx hr1 k1 rl1 => ?_)
 cases x with
 | bl k => cases rx;exact ⟨k,rfl,af k G1 h1 H1 hr1 k1⟩
 | _ => exact h1.elim
theorem qot {op : CmpOp} {r3 : R3} {r : R2} (ho : OpR X (compareOp op) r) (hr : WA X.K r3 r) (ha : E3 X a ta) (hb : E3 X b tb) (hm : behindInMarks op b = false) : C3 X (.Compare a [op] [b] pos) (tb3 (o3 r3 ta tb)) :=
 qnS (qgK ho ha hb hm) fun _ _ _ h => qiQ (fun _ _ _ => qcP hr) h
def ch3 (r r' : R3) (ta tb tc : TE3) : TE3 := fun τ G q => ta τ G fun x G1 => tb τ G1 fun y G2 => r x y G2 fun z G3 => match z with
 | .bl k => if k = true then tc τ G3 fun w G4 => r' y w G4 q else q (.bl false) G3
 | _ => False
theorem qne {K : PySem.W.Frag} {r3 r3' : R3} {r r' : R2} (hr : WA K r3 r) (hr' : WA K r3' r') {σ : L2.St} {H : Hp} {Q : VK} (h : lE K (ch3 r3 r3' ta tb tc) σ H Q) : qeY r r' (lE K ta) (lE K tb) (lE K tc) σ H Q := by
 obtain ⟨τ,G,q,rl,h,af⟩ := h
 refine zv rl h fun x G1 h1 v H1 rx hr1 k1 rl1 => zv rl1 h1 fun y G2 h2 u H2 ry hr2 k2 rl2 => ?_
 refine hr x y v u G2 H2 _ _ hr2 (rx.keep hr1 k2) ry h2 fun z G3 h3 w H3 rz hr3 k3 => ?_
 cases z with
 | bl k =>
  cases rz
  refine ⟨k,rfl,?_⟩
  cases k with
  | false =>
   rw [if_neg Bool.false_ne_true]
   rw [show (match T.bl false with | .bl k => if k = true then tc τ G3 fun w G4 => r3' y w G4 q else q (.bl false) G3 | _ => False) = q (.bl false) G3 from by simp] at h3
   exact af _ G3 h3 _ H3 (.bl false) hr3 ((k1.trans k2).trans k3)
  | true =>
   rw [if_pos rfl]
   refine zv (rl2.next hr3 k3) (show tc τ G3 fun w G4 => r3' y w G4 q from by simpa using h3) fun w G4 h4 w' H4 rw' hr4 k4 rl4 => ?_
   exact hr' y w _ _ G4 H4 q Q hr4 ((ry.keep hr2 k3).keep hr3 k4) rw' h4 (af.back (((k1.trans k2).trans k3).trans k4))
 | _ => exact h3.elim
theorem qhL {op op' : CmpOp} {r3 r3' : R3} {r r' : R2} (ho : OpR X (compareOp op) r) (hr : WA X.K r3 r) (ho' : OpR X (compareOp op') r') (hr' : WA X.K r3' r') (ha : E3 X a ta) (hb : E3 X b tb) (hc : E3 X c tc)
  (hm : lastMarks [op,op'] [b,c] = false := by with_unfolding_all rfl) : E3 X (.Compare a [op,op'] [b,c] pos) (ch3 r3 r3' ta tb tc) :=
 WP (qcD ho ho' ha hb hc hm) fun _ _ _ h => qne hr hr' h
def qoZ (K : PySem.W.Frag) (r3 : T → Gp → Q3 → Prop) (r : V → Hp → VK → Prop) : Prop := ∀ x v G H q Q,HR K G H → Rp K H x v → r3 x G q → Aft K G H q Q → r v H Q
def u3 (r : T → Gp → Q3 → Prop) (ta : TE3) : TE3 := fun τ G q => ta τ G fun x G1 => r x G1 q
theorem qpM {op : UnaryOp} {r3 : T → Gp → Q3 → Prop} {r : V → Hp → VK → Prop} (ho : UnR X (unaryOp op) r) (hr : qoZ X.K r3 r) (ha : E3 X a ta) : E3 X (.UnaryOp op a pos) (u3 r3 ta) :=
 WP (qod ho ha) fun _ _ _ ⟨τ,G,q,rl,h,af⟩ => zv rl h fun x G1 h1 v H1 rx hr1 k1 rl1 => hr x v G1 H1 q _ hr1 rx h1 (af.back k1)
def KY : T → Gp → Q3 → Prop := fun x G q => match x with | .int i => q (.int (-i)) G | _ => False
theorem qgX {K : PySem.W.Frag} : qoZ K KY (rU fun i => .int (-i)) := fun x v G H q Q hr rx h af => by
 cases x with
 | int i => cases rx;exact ⟨i,rfl,af _ G h _ H (.int _) hr Kp.refl⟩
 | _ => exact h.elim
def iI (f : Int → Int → Int) : R3 := fun x y G q => match x,y with | .int i,.int j => q (.int (f i j)) G | _,_ => False
def iC (C : Int → Int → Prop) (f : Int → Int → Int) : R3 := fun x y G q => match x,y with | .int i,.int j => C i j∧q (.int (f i j)) G | _,_ => False
def iB (f : Int → Int → Bool) : R3 := fun x y G q => match x,y with | .int i,.int j => q (.bl (f i j)) G | _,_ => False
theorem qj4 {K : PySem.W.Frag} {f : Int → Int → Int} : WA K (iI f) (rI0 fun i j => .int (f i j)) := fun x y v u G H q Q hr rx ry h af => by
 cases x <;> try exact h.elim
 cases y <;> try exact h.elim
 cases rx;cases ry
 exact ⟨_,_,rfl,rfl,af _ G h _ H (.int _) hr Kp.refl⟩
theorem S9 {K : PySem.W.Frag} {C : Int → Int → Prop} {f : Int → Int → Int} : WA K (iC C f) (rI C fun i j => .int (f i j)) := fun x y v u G H q Q hr rx ry h af => by
 cases x <;> try exact h.elim
 cases y <;> try exact h.elim
 cases rx;cases ry
 exact ⟨_,_,rfl,rfl,h.1,af _ G h.2 _ H (.int _) hr Kp.refl⟩
theorem JR {K : PySem.W.Frag} {f : Int → Int → Bool} : WA K (iB f) (rI0 fun i j => .bl (f i j)) := fun x y v u G H q Q hr rx ry h af => by
 cases x <;> try exact h.elim
 cases y <;> try exact h.elim
 cases rx;cases ry
 exact ⟨_,_,rfl,rfl,af _ G h _ H (.bl _) hr Kp.refl⟩
theorem qn2 (ha : E3 X a ta) (hb : E3 X b tb) : E3 X (.BinOp a .Sub b pos) (o3 (iI (· - ·)) ta tb) := qfX qiG qj4 ha hb
theorem qnN (ha : E3 X a ta) (hb : E3 X b tb) : E3 X (.BinOp a .Mult b pos) (o3 (iC QP (· * ·)) ta tb) := qfX qmA S9 ha hb
theorem qoz (ha : E3 X a ta) (hb : E3 X b tb) : E3 X (.BinOp a .Mod b pos) (o3 (iC (fun _ j => 0 < j) (· % ·)) ta tb) := qfX qiL S9 ha hb
theorem qnl (ha : E3 X a ta) (hb : E3 X b tb) : E3 X (.BinOp a .FloorDiv b pos) (o3 (iC qht (· / ·)) ta tb) := qfX qhu S9 ha hb
theorem qnH (ha : E3 X a ta) (hb : E3 X b tb) : E3 X (.BinOp a .Pow b pos) (o3 (iC KF (fun i j => i ^ j.toNat)) ta tb) := qfX qki S9 ha hb
theorem qn4 (ha : E3 X a ta) (hb : E3 X b tb) : E3 X (.BinOp a .LShift b pos) (o3 (iC KF (fun i j => i * 2 ^ j.toNat)) ta tb) := qfX qjP S9 ha hb
theorem qnC (ha : E3 X a ta) : E3 X (.UnaryOp .USub a pos) (u3 KY ta) := qpM qkI qgX ha
def JM : T → T → Option Bool
 | .non,.non => some true | .non,.int _ => some false | .int _,.non => some false | .non,.bl _ => some false | .bl _,.non => some false | .non,.str _ => some false | .str _,.non => some false
 | .int i,.int j => some (decide (i = j)) | .bl i,.bl j => some (decide (i = j)) | .str i,.str j => some (decide (i = j))
 | .int _,.str _ => some false | .str _,.int _ => some false | .bl _,.str _ => some false | .str _,.bl _ => some false
 | _,_ => none
theorem MI {K : PySem.W.Frag} {H : Hp} {x y : T} {v u : V} {k : Bool} (rx : Rp K H x v) (ry : Rp K H y u) (h : JM x y = some k) : qn1 v u = true∧decide (v = u) = k := by
 cases rx <;> cases ry <;> simp [JM] at h <;> subst h <;> refine ⟨rfl,?_⟩ <;> simp
def qbd (neg : Bool) : R3 := fun x y G q => match y with | .non => q (.bl (match x with | .non => !neg | _ => neg)) G | _ => False
theorem qd2 {K : PySem.W.Frag} {H : Hp} {x : T} {v : V} (rx : Rp K H x v) : decide (v = .non) = (match x with | .non => true | _ => false) := by
 cases rx <;> simp
theorem RX {K : PySem.W.Frag} : WA K (qbd false) (fun x y H Q => y = .non∧Q (.bl (decide (x = .non))) H) := fun x y v u G H q Q hr rx ry h af => by
 cases y <;> try exact h.elim
 cases ry
 refine ⟨rfl,?_⟩
 rw [qd2 rx]
 refine af _ G h _ H ?_ hr Kp.refl
 cases x <;> exact .bl _
theorem qc5 {K : PySem.W.Frag} : WA K (qbd true) (fun x y H Q => y = .non∧Q (.bl (!decide (x = .non))) H) := fun x y v u G H q Q hr rx ry h af => by
 cases y <;> try exact h.elim
 cases ry
 refine ⟨rfl,?_⟩
 rw [qd2 rx]
 refine af _ G h _ H ?_ hr Kp.refl
 cases x <;> exact .bl _
variable {tA tB : TT3} {ZJ : List Expr}
def qgg (t u : TT3) : TT3 := fun τ G q => t τ G fun k G1 => if k = true then u τ G1 q else q false G1
def or3 (t u : TT3) : TT3 := fun τ G q => t τ G fun k G1 => if k = true then q true G1 else u τ G1 q
def N8 (t : TT3) : TT3 := fun τ G q => t τ G fun k G1 => q (!k) G1
theorem qlD (ha : C3 X a tA) : W3 X (.BoolOp .And [a] pos) tA := qg0 ha
theorem qnZ (ha : C3 X a tA) : W3 X (.BoolOp .Or [a] pos) tA := ql7 ha
theorem qnR (ha : C3 X a tA) (hb : W3 X (.BoolOp .And (b :: ZJ) pos) tB) : W3 X (.BoolOp .And (a :: b :: ZJ) pos) (qgg tA tB) :=
 qo1 (qlS ha hb) fun _ _ _ ⟨τ,G,q,rl,h,af⟩ => CA rl h fun k G1 h1 H1 hr1 k1 rl1 => by
  cases k with
  | true => rw [if_pos rfl] at h1 ⊢;exact ⟨τ,G1,q,rl1,h1,af.back k1⟩
  | false => rw [if_neg Bool.false_ne_true] at h1 ⊢;exact af _ G1 h1 H1 hr1 k1
theorem qp2 (ha : C3 X a tA) (hb : W3 X (.BoolOp .Or (b :: ZJ) pos) tB) : W3 X (.BoolOp .Or (a :: b :: ZJ) pos) (or3 tA tB) :=
 qo1 (qoA ha hb) fun _ _ _ ⟨τ,G,q,rl,h,af⟩ => CA rl h fun k G1 h1 H1 hr1 k1 rl1 => by
  cases k with
  | true => rw [if_pos rfl] at h1 ⊢;exact af _ G1 h1 H1 hr1 k1
  | false => rw [if_neg Bool.false_ne_true] at h1 ⊢;exact ⟨τ,G1,q,rl1,h1,af.back k1⟩
theorem qnW (ha : C3 X a tA) : C3 X (.UnaryOp .Not a pos) (N8 tA) :=
 qnS (qk3 ha) fun _ _ _ ⟨τ,G,q,rl,h,af⟩ => CA rl h fun k G1 h1 H1 hr1 k1 rl1 => af _ G1 h1 H1 hr1 k1
theorem qof {e : Expr} {t : TE3} (h : E3 X e t) (he : ∀ whole,isTrue e X.env whole = (do let v ← whole;standAt e.pos;holding [v] (truthy v)) := by intro _;rfl) : C3 X e (tb3 t) :=
 qnS (qlB h he) fun _ _ _ h => qiQ (fun _ _ _ h => h) h
def jY (ta tb : TE3) : TE3 := fun τ G q => ta τ G fun x G1 => match x with | .bl k => if k = true then tb τ G1 q else q (.bl false) G1 | _ => False
def qoQ (ta tb : TE3) : TE3 := fun τ G q => ta τ G fun x G1 => match x with | .bl k => if k = true then q (.bl true) G1 else tb τ G1 q | _ => False
def K8 (ta : TE3) : TE3 := fun τ G q => ta τ G fun x G1 => match x with | .bl k => q (.bl (!k)) G1 | _ => False
theorem qom {op} (h : E3 X a ta) : E3 X (.BoolOp op [a] pos) ta := qkg h
theorem qoM (ha : E3 X a ta) (hb : E3 X (.BoolOp .And (b :: ZJ) pos) tb) : E3 X (.BoolOp .And (a :: b :: ZJ) pos) (jY ta tb) :=
 WP (qiy ha hb) fun _ _ _ ⟨τ,G,q,rl,h,af⟩ => zv rl h fun x G1 h1 v H1 rx hr1 k1 rl1 => by
  cases x with
  | bl k =>
   cases rx
   refine ⟨k,rfl,?_⟩
   cases k with
   | true => rw [if_pos rfl];exact ⟨τ,G1,q,rl1,(show tb τ G1 q from by simpa using h1),af.back k1⟩
   | false => rw [if_neg Bool.false_ne_true];exact af _ G1 (by simpa using h1) _ H1 (.bl false) hr1 k1
  | _ => exact h1.elim
theorem qoy (ha : E3 X a ta) : E3 X (.UnaryOp .Not a pos) (K8 ta) :=
 WP (qkF ha) fun _ _ _ ⟨τ,G,q,rl,h,af⟩ => zv rl h fun x G1 h1 v H1 rx hr1 k1 rl1 => by
  cases x with
  | bl k => cases rx;exact ⟨k,rfl,af _ G1 h1 _ H1 (.bl _) hr1 k1⟩
  | _ => exact h1.elim
def if3 (t : TT3) (ta tb : TE3) : TE3 := fun τ G q => t τ G fun k G1 => if k = true then ta τ G1 q else tb τ G1 q
theorem qpW {c : Expr} (hc : C3 X c tA) (ha : E3 X a ta) (hb : E3 X b tb) : E3 X (.IfExp c a b pos) (if3 tA ta tb) :=
 WP (qcZ hc ha hb) fun _ _ _ ⟨τ,G,q,rl,h,af⟩ => CA rl h fun k G1 h1 H1 hr1 k1 rl1 => by
  cases k with
  | true => rw [if_pos rfl] at h1 ⊢;exact ⟨τ,G1,q,rl1,h1,af.back k1⟩
  | false => rw [if_neg Bool.false_ne_true] at h1 ⊢;exact ⟨τ,G1,q,rl1,h1,af.back k1⟩
variable {e : Expr} {es : List Expr} {te : TE3} {t : TA3}
def qj : TA3 := fun _ G q => q [] G
def qc (ta : TE3) (tr : TA3) : TA3 := fun τ G q => ta τ G fun x G1 => tr τ G1 fun xs G2 => q (x :: xs) G2
theorem qnj : A3 X [] qj := qpf MT fun _ H _ ⟨τ,G,q,rl,h,af⟩ => af _ G h _ H .nil rl.hp Kp.refl
theorem qiT (ha : E3 X e te) (hr : A3 X es t) (hs : starEach (e :: es) X.env = (false,eval e X.env) :: starEach es X.env := by rfl) : A3 X (e :: es) (qc te t) :=
 qpf (V3 ha hr hs) fun _ _ _ ⟨τ,G,q,rl,h,af⟩ => zv rl h fun x G1 h1 v H1 rx hr1 k1 rl1 => JW rl1 h1 fun xs G2 h2 vs H2 rs hr2 k2 rl2 =>
  af _ G2 h2 _ H2 (.cons (rx.keep hr1 k2) rs) hr2 (k1.trans k2)
def jr (t : TA3) : TE3 := fun τ G q => t τ G fun xs G1 => xs.length ≤ sizeLine∧q (.tup xs) G1
def VF (t : TA3) : TE3 := fun τ G q => t τ G fun xs G1 => xs.length ≤ sizeLine∧∀ p,G1 p = none → q (.ref p) (gu G1 p (.lst xs))
theorem qnO {x1} (h : A3 X es t) : E3 X (.Tuple es x1 pos) (jr t) :=
 WP (qez h) fun _ _ _ ⟨τ,G,q,rl,h,af⟩ => JW rl h fun xs G1 h1 vs H1 rs hr1 k1 rl1 => ⟨by rw [← rs.length];exact h1.1,fun p hp =>
  af _ G1 h1.2 _ _ (.tup (SqT.of zd) (rs.keep hr1 (Kp.laid hp))) (hr1.laid hp) (k1.trans (Kp.laid hp))⟩
theorem qnI (h : A3 X es t) : E3 X (.List es pos) (VF t) :=
 WP (qix h) fun _ _ _ ⟨τ,G,q,rl,h,af⟩ => JW rl h fun xs G1 h1 vs H1 rs hr1 k1 rl1 => ⟨by rw [← rs.length];exact h1.1,fun p hp =>
  af _ _ (h1.2 p (hr1.free hp)) _ _ (.ref p) (hr1.newL hp rs) (k1.trans (Kp.newL hp))⟩
def M7 (K : PySem.W.Frag) (r3 : List T → Gp → Q3 → Prop) (r : List V → Hp → VK → Prop) : Prop := ∀ xs vs G H q Q,HR K G H → Rps K H xs vs → r3 xs G q → Aft K G H q Q → r vs H Q
def cb3 (r : List T → Gp → Q3 → Prop) (t : TA3) : TE3 := fun τ G q => t τ G fun xs G1 => r xs G1 q
theorem qkE {K : PySem.W.Frag} {r3 : List T → Gp → Q3 → Prop} {r : List V → Hp → VK → Prop} (hr : M7 K r3 r) {σ : L2.St} {H : Hp} {Q : VK} (h : lE K (cb3 r3 t) σ H Q) : tCB r (lA K t) σ H Q := by
 obtain ⟨τ,G,q,rl,h,af⟩ := h
 exact JW rl h fun xs G1 h1 vs H1 rs hr1 k1 rl1 => hr xs vs G1 H1 q Q hr1 rs h1 (af.back k1)
theorem qhC {x : Str} {p : Pos} {id : String} {r3 : List T → Gp → Q3 → Prop} {r : List V → Hp → VK → Prop} (hc : J0 X (.builtin id) r) (hr : M7 X.K r3 r) (hg : Gl X x) (hm : X.mg x = none) (hv : bootBuiltins x = some (.builtin id)) (ha : A3 X (e :: es) t) (hn : x ≠ "__name__" := by decide) (hdb : (x == ("__debug__" : Str)) = false := by decide)
  (he : starEach (e :: es) X.env = (false,eval e X.env) :: starEach es X.env := by rfl) (hpl : (backTo pos (starEach es X.env)).any (·.1) = false := by rfl) : E3 X (.Call (.Name x p) (e :: es) [] pos) (cb3 r3 t) :=
 WP (CM hc hg hm hv ha hn hdb he hpl) fun _ _ _ h => qkE hr h
theorem qdr {x : Str} {p : Pos} {ty : String} {r3 : List T → Gp → Q3 → Prop} {r : List V → Hp → VK → Prop} (hc : J0 X (.type ty) r) (hr : M7 X.K r3 r) (hg : Gl X x) (hm : X.mg x = none) (hv : bootBuiltins x = some (.type ty)) (ha : A3 X (e :: es) t) (hn : x ≠ "__name__" := by decide) (hdb : (x == ("__debug__" : Str)) = false := by decide)
  (he : starEach (e :: es) X.env = (false,eval e X.env) :: starEach es X.env := by rfl) (hpl : (backTo pos (starEach es X.env)).any (·.1) = false := by rfl) : E3 X (.Call (.Name x p) (e :: es) [] pos) (cb3 r3 t) :=
 WP (qb8 hc hg hm hv ha hn hdb he hpl) fun _ _ _ h => qkE hr h
end
end L3
namespace L3
open PySem PySem.Spec PyProof.Rows L2
def getL (G : Gp) (p : Addr) : Option (List T) := match G p with | some (.lst xs) => some xs | some (.frz xs) => some xs | none => none
section
variable {K : PySem.W.Frag} {G G' : Gp} {H H' : Hp}
theorem zA (hr : HR K G H) {p : Addr} {xs : List T} (h : getL G p = some xs) : ∃ vs,SqL K H p vs∧Rps K H xs vs := by
 unfold getL at h
 split at h
 ·rename_i ys e;cases h
  obtain ⟨vs,h1,h2⟩ := hr p _ e
  exact ⟨vs,SqL.of h1,h2⟩
 ·rename_i ys e;cases h
  obtain ⟨vs,⟨o,h1⟩,h2⟩ := hr p _ e
  exact ⟨vs,.inl (.inr ⟨o,h1⟩),h2⟩
 ·cases h
theorem HR.lst (hr : HR K G H) {p : Addr} {xs : List T} (h : G p = some (.lst xs)) : ∃ vs,H p = some (.lst vs)∧Rps K H xs vs := hr p _ h
theorem Rps.atI {xs : List T} {vs : List V} {i : Int} {x : T} (r : Rps K H xs vs) (h : atI xs i = some x) : ∃ v,L2.atI vs i = some v∧Rp K H x v := by
 unfold L2.atI at h ⊢
 rw [← r.length]
 cases e : ixN xs.length i with
 | none => rw [e] at h;cases h
 | some j =>
  rw [e] at h
  exact r.get (by simpa using h)
end
def ix3 : R3 := fun x y G q => match x,y with
 | .tup xs,.int i => (match atI xs i with | some z => q z G | none => False)
 | .ref p,.int i => (match getL G p with | some xs => (match atI xs i with | some z => q z G | none => False) | none => False)
 | _,_ => False
section
variable {X : Cx} {a b c e : Expr} {es : List Expr} {ta tb tc te : TE3} {t : TA3} {pos : Pos}
theorem qkh {K : PySem.W.Frag} : WA K ix3 (rIx K) := fun x y v u G H q Q hr rx ry h af => by
 cases x <;> try exact h.elim
 case tup xs =>
  cases y <;> try exact h.elim
  case int i =>
   unfold ix3 at h
   simp only at h
   split at h
   ·rename_i z e
    cases ry
    cases rx with
    | tup hs rs =>
     obtain ⟨w,e2,rw'⟩ := rs.atI e
     exact .inr (.inl ⟨_,_,i,w,rfl,rfl,hs,e2,af z G h w H rw' hr Kp.refl⟩)
   ·exact h.elim
 case ref p =>
  cases y <;> try exact h.elim
  case int i =>
   unfold ix3 at h
   simp only at h
   split at h
   ·rename_i xs e0
    split at h
    ·rename_i z e
     cases ry
     cases rx
     obtain ⟨vs,hs,rs⟩ := zA hr e0
     obtain ⟨w,e2,rw'⟩ := rs.atI e
     exact .inl ⟨p,vs,i,w,rfl,rfl,hs,e2,af z G h w H rw' hr Kp.refl⟩
    ·exact h.elim
   ·exact h.elim
theorem qpu (ha : E3 X a ta) (hb : E3 X b tb) (hs : U9 b := by intro _ _;rfl) : E3 X (.Subscript a b pos) (o3 ix3 ta tb) := WP (qmB qmx ha hb hs) fun _ _ _ h => qcP qkh h
def SF {α : Type} (xs : List α) (lo hi : Option Int) : List α := (xs.drop (HT.sIx xs.length 0 lo)).take (HT.sIx xs.length xs.length hi - HT.sIx xs.length 0 lo)
theorem Rps.cut {K : PySem.W.Frag} {H : Hp} {xs : List T} {vs : List V} (r : Rps K H xs vs) (lo hi : Option Int) : Rps K H (SF xs lo hi) (qdT vs lo hi) := by
 unfold SF qdT
 rw [r.length]
 exact (r.drop _).take _
abbrev TO3 := St3 → Gp → (Option Int → Gp → Prop) → Prop
def lO (K : PySem.W.Frag) (t : TO3) : TO := fun σ H Q => ∃ τ G q,Rel K τ G σ H∧t τ G q∧∀ x G',q x G' → ∀ H',HR K G' H' → Kp G H G' H' → Q x H'
abbrev P3 (X : Cx) (e : Option Expr) (t : TO3) : Prop := PO X e (lO X.K t)
def np3 : TO3 := fun _ G q => q none G
def sp3 (t : TE3) : TO3 := fun τ G q => t τ G fun x G1 => match x with | .int i => q (some i) G1 | _ => False
theorem qpc {X : Cx} {e : Option Expr} {t t' : TO} (h : PO X e t) (w : ∀ σ H Q,t' σ H Q → t σ H Q) : PO X e t' := fun pins s σ H Q I q => h pins s σ H Q I (w σ H Q q)
theorem qkv : P3 X none np3 := qpc qhf fun _ H _ ⟨τ,G,q,rl,h,af⟩ => af none G h H rl.hp Kp.refl
theorem qic (h : E3 X e te) : P3 X (some e) (sp3 te) := qpc (qgl h) fun _ _ _ ⟨τ,G,q,rl,h,af⟩ => zv rl h fun x G1 h1 v H1 rx hr1 k1 rl1 => by
 cases x <;> try exact h1.elim
 cases rx
 exact ⟨_,rfl,af _ G1 h1 H1 hr1 k1⟩
def sl3 : T → Option Int → Option Int → Gp → Q3 → Prop := fun x lo hi G q => match x with
 | .tup xs => ¬ (HT.sIx xs.length 0 lo = 0∧HT.sIx xs.length xs.length hi = xs.length)∧q (.tup (SF xs lo hi)) G
 | .ref p => (match getL G p with | some xs => ∀ a,G a = none → q (.ref a) (gu G a (.lst (SF xs lo hi))) | none => False)
 | _ => False
def qcl (te : TE3) (tl th : TO3) : TE3 := fun τ G q => te τ G fun x G1 => tl τ G1 fun l G2 => th τ G2 fun u G3 => sl3 x l u G3 q
theorem qhm {lo hi : Option Expr} {tl th : TO3} {p2 : Pos} (he : E3 X e te) (hl : P3 X lo tl) (hu : P3 X hi th) : E3 X (.Subscript e (.Slice lo hi none p2) pos) (qcl te tl th) :=
 WP (qcT (qir.or qgI) he hl hu) fun _ _ _ ⟨τ,G,q,rl,h,af⟩ => zv rl h fun x G1 h1 v H1 rx hr1 k1 rl1 =>
  ⟨τ,G1,_,rl1,h1,fun l G2 h2 H2 hr2 k2 => ⟨τ,G2,_,rl1.next hr2 k2,h2,fun u G3 h3 H3 hr3 k3 => by
   have kk := (k1.trans k2).trans k3
   have rx3 := (rx.keep hr1 k2).keep hr2 k3
   cases x <;> try exact h3.elim
   case tup xs =>
    cases rx3 with
    | tup hs rs =>
     refine .inl ⟨_,_,rfl,hs,by rw [← rs.length];exact h3.1,fun p hp => ?_⟩
     exact af _ G3 h3.2 _ _ (.tup (SqT.of zd) ((rs.cut _ _).keep hr3 (Kp.laid hp))) (hr3.laid hp) (kk.trans (Kp.laid hp))
   case ref p =>
    unfold sl3 at h3
    simp only at h3
    split at h3
    ·rename_i xs e0
     cases rx3
     obtain ⟨vs,hs,rs⟩ := zA hr3 e0
     refine .inr ⟨p,vs,rfl,hs,fun a ha => ?_⟩
     exact af _ _ (h3 a (hr3.free ha)) _ _ (.ref a) (hr3.newL ha (rs.cut _ _)) (kk.trans (Kp.newL ha))
    ·exact h3.elim⟩⟩
theorem qbh {K : PySem.W.Frag} {H : Hp} {xs : List T} {vs : List V} (r : Rps K H xs vs) : vs = [] ↔ xs = [] := by
 cases r <;> simp
def z9 : R3 := fun x y G q => match x,y with
 | .tup xs,.tup ys => xs ≠ []∧xs.length + ys.length ≤ sizeLine∧q (.tup (xs ++ ys)) G
 | .ref a,.ref b => (match G a,G b with | some (.lst xs),some (.lst ys) => xs.length + ys.length ≤ sizeLine∧∀ p,G p = none → q (.ref p) (gu G p (.lst (xs ++ ys))) | _,_ => False)
 | .int i,.int j => q (.int (i + j)) G
 | _,_ => False
theorem qho {K : PySem.W.Frag} : WA K z9 (fun x y H Q => (rI0 (fun i j => .int (i + j)) x y H Q ∨ qiH K x y H Q) ∨ qo7 x y H Q) := fun x y v u G H q Q hr rx ry h af => by
 cases x <;> try exact h.elim
 case int i =>
  cases y <;> try exact h.elim
  cases rx;cases ry
  exact .inl (.inl ⟨_,_,rfl,rfl,af _ G h _ H (.int _) hr Kp.refl⟩)
 case tup xs =>
  cases y <;> try exact h.elim
  case tup ys =>
   obtain ⟨h1,h2,h3⟩ := h
   cases rx with
   | tup hs rs =>
    cases ry with
    | tup hs' rs' =>
     refine .inl (.inr ⟨_,_,_,_,rfl,rfl,hs,hs',fun z => h1 ((qbh rs).mp z),by rw [← rs.length,← rs'.length];exact h2,fun z => ?_,fun z p hp => ?_⟩)
     ·have e := (qbh rs').mp z
      subst e
      rw [List.append_nil] at h3
      exact af _ G h3 _ H (.tup hs rs) hr Kp.refl
     ·exact af _ G h3 _ _ (.tup (SqT.of zd) ((rs.append rs').keep hr (Kp.laid hp))) (hr.laid hp) (Kp.laid hp)
 case ref a =>
  cases y <;> try exact h.elim
  case ref b =>
   unfold z9 at h
   simp only at h
   split at h
   ·rename_i xs ys e1 e2
    cases rx;cases ry
    obtain ⟨vs,g1,r1⟩ := hr.lst e1
    obtain ⟨us,g2,r2⟩ := hr.lst e2
    refine .inr ⟨a,b,vs,us,rfl,rfl,g1,g2,by rw [← r1.length,← r2.length];exact h.1,fun p hp => ?_⟩
    exact af _ _ (h.2 p (hr.free hp)) _ _ (.ref p) (hr.newL hp (r1.append r2)) (Kp.newL hp)
   ·exact h.elim
theorem qjX (ha : E3 X a ta) (hb : E3 X b tb) : E3 X (.BinOp a .Add b pos) (o3 z9 ta tb) := qfX ((qi9.or qgp).or qiB) qho ha hb
def ED : T → Bool
 | .non => true | .bl _ => true | .int _ => true | .str _ => true | _ => false
def eqF : T → T → Bool
 | .non,.non => true
 | .bl a,.bl b => a == b
 | .bl a,.int b => (if a then 1 else 0) == b
 | .int a,.bl b => a == (if b then 1 else 0)
 | .int a,.int b => a == b
 | .str a,.str b => a == b
 | _,_ => false
theorem KG {K : PySem.W.Frag} {H : Hp} {x : T} {v : V} (r : Rp K H x v) (h : ED x = true) : XA v = true := by
 cases r <;> first | rfl | (cases h)
theorem RU {K : PySem.W.Frag} {H : Hp} : ∀ {x : List T} {v : List V},Rps K H x v → x.all ED = true → v.all XA = true
 | _,_,.nil,_ => rfl
 | _,_,.cons a b,h => by
  rw [List.all_cons,Bool.and_eq_true] at h ⊢
  exact ⟨KG a h.1,RU b h.2⟩
theorem qjy {K : PySem.W.Frag} {H : Hp} {x y : T} {v u : V} (r : Rp K H x v) (s : Rp K H y u) (h : ED x = true) (h' : ED y = true) : eqV v u = eqF x y := by
 cases r <;> first | (cases h;done) | (cases s <;> first | rfl | (cases h';done))
theorem qbi {K : PySem.W.Frag} {H : Hp} {x : T} {v : V} (r : Rp K H x v) (h : ED x = true) : ∀ {ys : List T} {us : List V},Rps K H ys us → ys.all ED = true → inV v us = ys.any fun y => eqF y x
 | _,_,.nil,_ => rfl
 | _,_,.cons a b,h' => by
  rw [List.all_cons,Bool.and_eq_true] at h'
  unfold inV
  rw [List.any_cons,List.any_cons,qjy a r h'.1 h]
  congr 1
  exact qbi r h b h'.2
def in3 (neg : Bool) : R3 := fun x y G q => ED x = true∧match y with
 | .tup ys => ys.all ED = true∧q (.bl (if neg then !(ys.any fun y => eqF y x) else (ys.any fun y => eqF y x))) G
 | .ref p => (match getL G p with | some ys => ys.all ED = true∧q (.bl (if neg then !(ys.any fun y => eqF y x) else (ys.any fun y => eqF y x))) G | none => False)
 | _ => False
theorem qb0 {K : PySem.W.Frag} {neg : Bool} : WA K (in3 neg) (rIn K neg) := fun x y v u G H q Q hr rx ry h af => by
 obtain ⟨hf,h⟩ := h
 cases y <;> try exact h.elim
 case tup ys =>
  cases ry with
  | tup hs rs =>
   refine ⟨_,_,rfl,.inr hs,KG rx hf,RU rs h.1,?_⟩
   rw [qbi rx hf rs h.1]
   exact af _ G h.2 _ H (.bl _) hr Kp.refl
 case ref p =>
  simp only at h
  split at h
  ·rename_i ys e
   cases ry
   obtain ⟨us,hs,rs⟩ := zA hr e
   refine ⟨_,_,rfl,.inl hs,KG rx hf,RU rs h.1,?_⟩
   rw [qbi rx hf rs h.1]
   exact af _ G h.2 _ H (.bl _) hr Kp.refl
  ·exact h.elim
def DC : List T → Gp → Q3 → Prop := fun xs G q => match xs with
 | [.tup ys] => q (.int ys.length) G
 | [.str y] => y.length ≤ sizeLine∧q (.int y.length) G
 | [.ref p] => (match getL G p with | some ys => q (.int ys.length) G | none => False)
 | _ => False
theorem SE {K : PySem.W.Frag} {H : Hp} {x : T} {vs : List V} (r : Rps K H [x] vs) : ∃ v,vs = [v]∧Rp K H x v := by
 cases r with
 | cons a b => cases b;exact ⟨_,rfl,a⟩
theorem qmI {K : PySem.W.Frag} {H : Hp} {x y : T} {vs : List V} (r : Rps K H [x,y] vs) : ∃ v u,vs = [v,u]∧Rp K H x v∧Rp K H y u := by
 cases r with
 | cons a b => cases b with | cons c d => cases d;exact ⟨_,_,rfl,a,c⟩
theorem ju {K : PySem.W.Frag} : M7 K DC (fun xs H Q => ∃ x n,xs = [x]∧qoO K x H n∧Q (.int n) H) := fun xs vs G H q Q hr rs h af => by
 unfold DC at h
 split at h
 ·obtain ⟨v,rfl,r⟩ := SE rs
  cases r with
  | tup hs r2 => exact ⟨_,_,rfl,.inr ⟨_,hs,rfl⟩,by rw [← r2.length];exact af _ G h _ H (.int _) hr Kp.refl⟩
 ·obtain ⟨v,rfl,r⟩ := SE rs
  cases r
  exact ⟨_,_,rfl,⟨h.1,rfl⟩,af _ G h.2 _ H (.int _) hr Kp.refl⟩
 ·obtain ⟨v,rfl,r⟩ := SE rs
  split at h
  ·rename_i ys e
   cases r
   obtain ⟨us,hs,r2⟩ := zA hr e
   exact ⟨_,_,rfl,.inl ⟨_,hs,rfl⟩,by rw [← r2.length];exact af _ G h _ H (.int _) hr Kp.refl⟩
  ·exact h.elim
 ·exact h.elim
def qhN : List T → Gp → Q3 → Prop := fun xs G q => match xs with | [.int i] => q (.int (if i < 0 then -i else i)) G | _ => False
theorem qbT {K : PySem.W.Frag} : M7 K qhN (fun xs H Q => ∃ i,xs = [.int i]∧Q (.int (if i < 0 then -i else i)) H) := fun xs vs G H q Q hr rs h af => by
 unfold qhN at h
 split at h
 ·obtain ⟨v,rfl,r⟩ := SE rs
  cases r
  exact ⟨_,rfl,af _ G h _ H (.int _) hr Kp.refl⟩
 ·exact h.elim
def qhj : List T → Gp → Q3 → Prop := fun xs G q => match xs with | [.int i,.int j] => q (.int (if j < i then j else i)) G | _ => False
theorem qgA {K : PySem.W.Frag} : M7 K qhj (fun xs H Q => ∃ i j,xs = [.int i,.int j]∧Q (.int (if j < i then j else i)) H) := fun xs vs G H q Q hr rs h af => by
 unfold qhj at h
 split at h
 ·obtain ⟨v,u,rfl,r,r'⟩ := qmI rs
  cases r;cases r'
  exact ⟨_,_,rfl,af _ G h _ H (.int _) hr Kp.refl⟩
 ·exact h.elim
def qph : List T → Gp → Q3 → Prop := fun xs G q => match xs with | [.int i,.int j] => q (.int (if j > i then j else i)) G | _ => False
def qah : List T → Gp → Q3 → Prop := fun xs G q => match xs with | [.int i] => q (.int i) G | [.bl k] => q (.int (if k then 1 else 0)) G | _ => False
theorem KI {K : PySem.W.Frag} : M7 K qah (fun xs H Q => (∃ i,xs = [.int i]∧Q (.int i) H) ∨ ∃ k,xs = [.bl k]∧Q (.int (if k then 1 else 0)) H) := fun xs vs G H q Q hr rs h af => by
 unfold qah at h
 split at h
 ·obtain ⟨v,rfl,r⟩ := SE rs
  cases r
  exact .inl ⟨_,rfl,af _ G h _ H (.int _) hr Kp.refl⟩
 ·obtain ⟨v,rfl,r⟩ := SE rs
  cases r
  exact .inr ⟨_,rfl,af _ G h _ H (.int _) hr Kp.refl⟩
 ·exact h.elim
def VJ : List T → Gp → Q3 → Prop := fun xs G q => match xs with
 | [.tup ys] => q (.tup ys) G
 | [.ref p] => (match getL G p with | some ys => q (.tup ys) G | none => False)
 | _ => False
theorem DX {K : PySem.W.Frag} : M7 K VJ (fun xs H Q => ∃ p ys,xs = [.ref p]∧((SqL K H p ys∧∀ l,H l = none → Q (.ref l) (upd H l (.tup ys))) ∨ (SqT K H p ys∧Q (.ref p) H))) := fun xs vs G H q Q hr rs h af => by
 unfold VJ at h
 split at h
 ·obtain ⟨v,rfl,r⟩ := SE rs
  cases r with
  | tup hs r2 => exact ⟨_,_,rfl,.inr ⟨hs,af _ G h _ H (.tup hs r2) hr Kp.refl⟩⟩
 ·obtain ⟨v,rfl,r⟩ := SE rs
  split at h
  ·rename_i ys e
   cases r
   obtain ⟨us,hs,r2⟩ := zA hr e
   exact ⟨_,_,rfl,.inl ⟨hs,fun l hl => af _ G h _ _ (.tup (SqT.of zd) (r2.keep hr (Kp.laid hl))) (hr.laid hl) (Kp.laid hl)⟩⟩
  ·exact h.elim
 ·exact h.elim
def XC : List T → Gp → Q3 → Prop := fun xs G q => match xs with
 | [.tup ys] => ∀ p,G p = none → q (.ref p) (gu G p (.lst ys))
 | [.ref p] => (match getL G p with | some ys => ∀ p,G p = none → q (.ref p) (gu G p (.lst ys)) | none => False)
 | _ => False
theorem R5 {K : PySem.W.Frag} : M7 K XC (fun xs H Q => ∃ p ys,xs = [.ref p]∧(SqL K H p ys ∨ SqT K H p ys)∧∀ l,H l = none → Q (.ref l) (upd H l (.lst ys))) := fun xs vs G H q Q hr rs h af => by
 unfold XC at h
 split at h
 ·obtain ⟨v,rfl,r⟩ := SE rs
  cases r with
  | tup hs r2 => exact ⟨_,_,rfl,.inr hs,fun l hl => af _ _ (h l (hr.free hl)) _ _ (.ref l) (hr.newL hl r2) (Kp.newL hl)⟩
 ·obtain ⟨v,rfl,r⟩ := SE rs
  split at h
  ·rename_i ys e
   cases r
   obtain ⟨us,hs,r2⟩ := zA hr e
   exact ⟨_,_,rfl,.inl hs,fun l hl => af _ _ (h l (hr.free hl)) _ _ (.ref l) (hr.newL hl r2) (Kp.newL hl)⟩
  ·exact h.elim
 ·exact h.elim
def qcj : T → List T → Gp → Q3 → Prop := fun x xs G q => match x,xs with
 | .ref l,[.ref b] => (match G l,G b with | some (.lst ys),some (.lst zs) => ys.length + zs.length ≤ sizeLine∧q .non (gu G l (.lst (ys ++ zs))) | _,_ => False)
 | _,_ => False
def qe7 : T → List T → Gp → Q3 → Prop := fun x xs G q => match x,xs with
 | .ref l,[y] => (match G l with | some (.lst ys) => ys.length < sizeLine∧q .non (gu G l (.lst (ys ++ [y]))) | _ => False)
 | _,_ => False
def qmQ (K : PySem.W.Frag) (r3 : T → List T → Gp → Q3 → Prop) (r : V → List V → Hp → VK → Prop) : Prop := ∀ x xs v vs G H q Q,HR K G H → Rp K H x v → Rps K H xs vs → r3 x xs G q → Aft K G H q Q → r v vs H Q
theorem qhg {K : PySem.W.Frag} : qmQ K qcj qaQ := fun x xs v vs G H q Q hr rx rs h af => by
 unfold qcj at h
 split at h
 ·rename_i l b
  split at h
  ·rename_i ys zs e1 e2
   cases rx
   obtain ⟨u,rfl,r⟩ := SE rs
   cases r
   obtain ⟨vs,g1,r1⟩ := hr.lst e1
   obtain ⟨us,g2,r2⟩ := hr.lst e2
   exact ⟨l,b,vs,us,rfl,rfl,g1,g2,by rw [← r1.length,← r2.length];exact h.1,af _ _ h.2 _ _ .non (hr.wr e1 (r1.append r2)) (Kp.wr e1)⟩
  ·exact h.elim
 ·exact h.elim
theorem qhr {K : PySem.W.Frag} : qmQ K qe7 qbK := fun x xs v vs G H q Q hr rx rs h af => by
 unfold qe7 at h
 split at h
 ·rename_i l y
  split at h
  ·rename_i ys e1
   cases rx
   obtain ⟨u,rfl,r⟩ := SE rs
   obtain ⟨vs,g1,r1⟩ := hr.lst e1
   exact ⟨l,vs,u,rfl,rfl,g1,by rw [← r1.length];exact h.1,af _ _ h.2 _ _ .non (hr.wr e1 (r1.append (.cons r .nil))) (Kp.wr e1)⟩
  ·exact h.elim
 ·exact h.elim
def bm3 (r : T → List T → Gp → Q3 → Prop) (to : TE3) (t : TA3) : TE3 := fun τ G q => to τ G fun x G1 => (match x with | .ref p => (getL G1 p).isSome = true | _ => False)∧t τ G1 fun xs G2 => r x xs G2 q
theorem qol {o : Expr} {to : TE3} {name : Str} {apos cpos : Pos} {id : String} {r3 : T → List T → Gp → Q3 → Prop} {r : V → List V → Hp → VK → Prop} (slot : Slot "list" name id) (hty : typeOf (.builtin id) = pure (.type "method_descriptor")) (hm : MtR X id r) (hr : qmQ X.K r3 r) (ho : E3 X o to) (ha : A3 X (e :: es) t)
  (hbase : attributeBase o name X.env (eval o X.env) = eval o X.env := by rfl)
  (hfew : ((backTo cpos (starEach (e :: es) X.env)).all (fun x => !x.1) && (backToKw cpos (keywordEach [] X.env)).all (fun x => x.1.isSome)
   && decide ((e :: es).length + ([] : List Keyword).length + (if ([] : List Keyword).isEmpty then 0 else 1) < 30)) = true := by rfl)
  (hline : (apos.endLine == cpos.line) = true := by rfl) (hs : starEach (e :: es) X.env = (false,eval e X.env) :: starEach es X.env := by rfl) (hplain : (backTo cpos (starEach es X.env)).any (·.1) = false := by rfl) :
  E3 X (.Call (.Attribute o name apos) (e :: es) [] cpos) (bm3 r3 to t) :=
 WP (qno PySem.F.plainAttrs_list slot hty hm ho ha hbase hfew hline hs hplain) fun _ _ _ ⟨τ,G,q,rl,h,af⟩ => zv rl h fun x G1 h1 v H1 rx hr1 k1 rl1 => by
  obtain ⟨hp,h1⟩ := h1
  cases x <;> try exact hp.elim
  case ref p =>
   cases rx
   have hp' : (getL G1 p).isSome = true := hp
   obtain ⟨ys,e⟩ := Option.isSome_iff_exists.mp hp'
   obtain ⟨us,hs,r2⟩ := zA hr1 e
   exact ⟨.inl ⟨rfl,us,hs⟩,JW rl1 h1 fun xs G2 h2 vs H2 rs hr2 k2 rl2 => hr _ xs _ vs G2 H2 q _ hr2 (.ref p) rs h2 (af.back (k1.trans k2))⟩
theorem qcK {o : Expr} {to : TE3} {apos cpos : Pos} (ho : E3 X o to) (ha : A3 X [e] t)
  (hbase : attributeBase o "append" X.env (eval o X.env) = eval o X.env := by rfl)
  (hfew : ((backTo cpos (starEach [e] X.env)).all (fun x => !x.1) && (backToKw cpos (keywordEach [] X.env)).all (fun x => x.1.isSome)
   && decide (([e] : List Expr).length + ([] : List Keyword).length + (if ([] : List Keyword).isEmpty then 0 else 1) < 30)) = true := by rfl)
  (hline : (apos.endLine == cpos.line) = true := by rfl) (hs : starEach [e] X.env = (false,eval e X.env) :: starEach [] X.env := by rfl) (hplain : (backTo cpos (starEach [] X.env)).any (·.1) = false := by rfl) :
  E3 X (.Call (.Attribute o "append" apos) [e] [] cpos) (bm3 qe7 to t) := qol PySem.F.slot_list_append PySem.F.type_list_append UW qhr ho ha hbase hfew hline hs hplain
theorem qcL {o : Expr} {to : TE3} {apos cpos : Pos} (ho : E3 X o to) (ha : A3 X [e] t)
  (hbase : attributeBase o "extend" X.env (eval o X.env) = eval o X.env := by rfl)
  (hfew : ((backTo cpos (starEach [e] X.env)).all (fun x => !x.1) && (backToKw cpos (keywordEach [] X.env)).all (fun x => x.1.isSome)
   && decide (([e] : List Expr).length + ([] : List Keyword).length + (if ([] : List Keyword).isEmpty then 0 else 1) < 30)) = true := by rfl)
  (hline : (apos.endLine == cpos.line) = true := by rfl) (hs : starEach [e] X.env = (false,eval e X.env) :: starEach [] X.env := by rfl) (hplain : (backTo cpos (starEach [] X.env)).any (·.1) = false := by rfl) :
  E3 X (.Call (.Attribute o "extend" apos) [e] [] cpos) (bm3 qcj to t) := qol PySem.F.slot_list_extend PySem.F.type_list_extend qbA qhg ho ha hbase hfew hline hs hplain
end
end L3
namespace L3
open PySem PySem.Spec PyProof.Rows L2
def tyT (G : Gp) : T → Option String
 | .non => some "NoneType" | .bl _ => some "bool" | .int _ => some "int" | .str _ => some "str" | .tup _ => some "tuple"
 | .ref p => if (getL G p).isSome then some "list" else none
def ZU (t c : String) : Bool := t == c || (t == "bool" && c == "int")
theorem CT (K : PySem.W.Frag) : ∀ t ∈ ["NoneType","bool","int","str","tuple","list"],∀ c ∈ ["bool","int","str","tuple","list"],PySem.W.kitOne K (.type t) (.type c) = some (ZU t c) := by
 intro t ht c hc
 simp only [List.mem_cons,List.not_mem_nil,or_false] at ht hc
 rcases ht with rfl | rfl | rfl | rfl | rfl | rfl <;> rcases hc with rfl | rfl | rfl | rfl | rfl <;> kernel_rfl
section
variable {X : Cx} {a b c e : Expr} {es : List Expr} {ta tb tc te : TE3} {t : TA3} {pos : Pos}
def TyS (K : PySem.W.Frag) (H : Hp) (x : V) (t : String) : Prop := match x with
 | .non => t = "NoneType" | .bl _ => t = "bool" | .int _ => t = "int" | .str _ => t = "str"
 | .ref a => (t = "tuple"∧∃ vs,SqT K H a vs) ∨ (t = "list"∧∃ vs,SqL K H a vs)
 | _ => False
theorem TyS.mem {K : PySem.W.Frag} {H : Hp} {x : V} {t : String} (h : TyS K H x t) : t ∈ ["NoneType","bool","int","str","tuple","list"] := by
 cases x <;> simp [TyS] at h <;> first | (subst h;decide) | (rcases h with ⟨rfl,_⟩ | ⟨rfl,_⟩ <;> decide)
theorem TyS.kitx {pins : List (Addr × Obj)} {σ : L2.St} {H : Hp} {s : Shared} {x : V} {u : Value} {t : String} (I : Inv X pins σ H s) (rx : js x u) (h : TyS X.K H x t) :
  ∃ HH : Heap → Prop,PySem.W.KitX X.K u (.type t) HH∧HH s.heap∧u ≠ .builtin "__main__.__loader__#opaque" := by
 cases x with
 | non => cases (show u = Value.none from rx);cases (show t = _ from h);exact ⟨_,PySem.W.kitx_none,True.intro,fun z => nomatch z⟩
 | bl y => cases (show u = Value.bool y from rx);cases (show t = _ from h);exact ⟨_,PySem.W.kitx_bool,True.intro,fun z => nomatch z⟩
 | int i => obtain ⟨tk,q⟩ := (show ∃ t,u = Value.int i t from rx);cases q;cases (show t = _ from h);exact ⟨_,PySem.W.kitx_int,True.intro,fun z => nomatch z⟩
 | str y => obtain ⟨tk,q⟩ := (show ∃ t,u = Value.str y t from rx);cases q;cases (show t = _ from h);exact ⟨_,PySem.W.kitx_str,True.intro,fun z => nomatch z⟩
 | ref a =>
  cases (show u = Value.ref a from rx)
  rcases (show (t = "tuple"∧∃ vs,SqT X.K H a vs) ∨ (t = "list"∧∃ vs,SqL X.K H a vs) from h) with ⟨rfl,vs,hs⟩ | ⟨rfl,vs,hs⟩
  ·obtain ⟨its,_,p,_⟩ := I.tuple hs
   obtain ⟨o,h1,h2,_⟩ := p
   exact ⟨_,PySem.W.kitx_tuple,⟨o,h1,h2⟩,fun z => nomatch z⟩
  ·obtain ⟨its,_,p,_⟩ := I.list hs
   obtain ⟨o,n,h1,h2,_⟩ := p
   exact ⟨_,PySem.W.kitx_list,⟨o,h1,h2⟩,fun z => nomatch z⟩
 | _ => exact False.elim h
abbrev QL : List String := ["bool","int","str","tuple","list"]
theorem qcy : J0 X (.builtin "isinstance") (fun xs H Q => ∃ x t c,xs = [x,.ty c]∧TyS X.K H x t∧c ∈ QL∧Q (.bl (ZU t c)) H) := by
 intro pins s σ H xs us Q I r h
 obtain ⟨x,t,c,rfl,ht,hc,q⟩ := h
 obtain ⟨u,w,rfl,rx,rc⟩ := qaZ r
 cases (show w = Value.type c from rc)
 obtain ⟨HH,kx,hh,ne⟩ := ht.kitx I rx
 exact PySem.W.kia_one kx I.kIn hh (CT X.K t ht.mem c hc) ne fun tk => ⟨.bl _,H,I.tok tk,rfl,q⟩
theorem qcH (K : PySem.W.Frag) {t c d : String} (ht : t ∈ ["NoneType","bool","int","str","tuple","list"]) (hc : c ∈ QL) (hd : d ∈ QL) : PySem.W.kitAny K (.type t) [.type c,.type d] = some (ZU t c || ZU t d) := by
 unfold PySem.W.kitAny
 rw [CT K t ht c hc]
 cases ZU t c with
 | true => rfl
 | false =>
  show PySem.W.kitAny K (.type t) [.type d] = _
  unfold PySem.W.kitAny
  rw [CT K t ht d hd]
  cases ZU t d <;> rfl
theorem qbs : J0 X (.builtin "isinstance") (fun xs H Q => ∃ x t c d p,xs = [x,.ref p]∧H p = some (.tup [.ty c,.ty d])∧TyS X.K H x t∧c ∈ QL∧d ∈ QL∧Q (.bl (ZU t c || ZU t d)) H) := by
 intro pins s σ H xs us Q I r h
 obtain ⟨x,t,c,d,p,rfl,hp,ht,hc,hd,q⟩ := h
 obtain ⟨u,w,rfl,rx,rc⟩ := qaZ r
 cases (show w = Value.ref p from rc)
 obtain ⟨HH,kx,hh,ne⟩ := ht.kitx I rx
 obtain ⟨_,its,rv,⟨o,ho,hcl,n,hda⟩⟩ := (show VN X.prog X.w H s.heap p (.tup [.ty c,.ty d]) from I.hok p _ hp)
 obtain ⟨u1,u2,rfl,r1,r2⟩ := qaZ rv
 cases (show u1 = Value.type c from r1)
 cases (show u2 = Value.type d from r2)
 obtain ⟨cl,dd,da,sl⟩ := o
 cases (show cl = _ from hcl)
 cases (show da = _ from hda)
 exact PySem.W.kia_tup kx I.kIn hh ho (qcH X.K ht.mem hc hd) ne fun tk => ⟨.bl _,H,I.tok tk,rfl,q⟩
theorem qdF {K : PySem.W.Frag} {G : Gp} {H : Hp} (hr : HR K G H) {x : T} {v : V} {t : String} (r : Rp K H x v) (h : tyT G x = some t) : TyS K H v t := by
 cases r with
 | non => cases h;rfl
 | bl _ => cases h;rfl
 | int _ => cases h;rfl
 | str _ => cases h;rfl
 | tup hs rs => cases h;exact .inl ⟨rfl,_,hs⟩
 | ref a =>
  have h : (if (getL G a).isSome then some "list" else none) = some t := h
  split at h
  ·rename_i e
   cases h
   obtain ⟨ys,e⟩ := Option.isSome_iff_exists.mp e
   obtain ⟨us,hs,_⟩ := zA hr e
   exact .inr ⟨rfl,us,hs⟩
  ·cases h
def W8 (f : String → Bool) (te : TE3) : TE3 := fun τ G q => te τ G fun x G1 => match tyT G1 x with | some t => q (.bl (f t)) G1 | none => False
theorem qnn {tn : Str} {ty : String} {p p2 : Pos} (he : E3 X e te) (hg : Gl X "isinstance") (hm : X.mg "isinstance" = none) (hg2 : Gl X tn) (hm2 : X.mg tn = none) (hv : bootBuiltins tn = some (.type ty)) (hmem : ty ∈ QL := by decide) (hn : tn ≠ "__name__" := by decide) (hdb : (tn == ("__debug__" : Str)) = false := by decide)
  (hs : starEach [e,.Name tn p2] X.env = (false,eval e X.env) :: starEach [.Name tn p2] X.env := by rfl) (hs2 : starEach [.Name tn p2] X.env = (false,eval (.Name tn p2) X.env) :: starEach [] X.env := by rfl) (hpl : (backTo pos (starEach [.Name tn p2] X.env)).any (·.1) = false := by rfl) :
  E3 X (.Call (.Name "isinstance" p) [e,.Name tn p2] [] pos) (W8 (fun t => ZU t ty) te) :=
 WP (CM qcy hg hm PyProof.Rows.boot_isinstance (V3 he (V3 (LB (v := .ty ty) hg2 hm2 hv rfl hn hdb) MT hs2) hs) (by decide) (by decide) hs hpl)
  fun _ _ _ ⟨τ,G,q,rl,h,af⟩ => zv rl h fun x G1 h1 v H1 rx hr1 k1 rl1 => by
   split at h1
   ·rename_i t e1
    exact ⟨_,t,ty,rfl,qdF hr1 rx e1,hmem,af _ G1 h1 _ H1 (.bl _) hr1 k1⟩
   ·exact h1.elim
theorem qik {tn tn' : Str} {ty ty' : String} {p p2 p3 p4 : Pos} {x1} (he : E3 X e te) (hg : Gl X "isinstance") (hm : X.mg "isinstance" = none) (hg2 : Gl X tn) (hm2 : X.mg tn = none) (hv : bootBuiltins tn = some (.type ty)) (hg3 : Gl X tn') (hm3 : X.mg tn' = none) (hv3 : bootBuiltins tn' = some (.type ty'))
  (hmem : ty ∈ QL := by decide) (hn : tn ≠ "__name__" := by decide) (hdb : (tn == ("__debug__" : Str)) = false := by decide) (hmem3 : ty' ∈ QL := by decide) (hn3 : tn' ≠ "__name__" := by decide) (hdb3 : (tn' == ("__debug__" : Str)) = false := by decide)
  (hs : starEach [e,.Tuple [.Name tn p2,.Name tn' p3] x1 p4] X.env = (false,eval e X.env) :: starEach [.Tuple [.Name tn p2,.Name tn' p3] x1 p4] X.env := by rfl) (hs2 : starEach [.Tuple [.Name tn p2,.Name tn' p3] x1 p4] X.env = (false,eval (.Tuple [.Name tn p2,.Name tn' p3] x1 p4) X.env) :: starEach [] X.env := by rfl)
  (hs3 : starEach [.Name tn p2,.Name tn' p3] X.env = (false,eval (.Name tn p2) X.env) :: starEach [.Name tn' p3] X.env := by rfl) (hs4 : starEach [.Name tn' p3] X.env = (false,eval (.Name tn' p3) X.env) :: starEach [] X.env := by rfl)
  (hpl : (backTo pos (starEach [.Tuple [.Name tn p2,.Name tn' p3] x1 p4] X.env)).any (·.1) = false := by rfl) :
  E3 X (.Call (.Name "isinstance" p) [e,.Tuple [.Name tn p2,.Name tn' p3] x1 p4] [] pos) (W8 (fun t => ZU t ty || ZU t ty') te) :=
 WP (CM qbs hg hm PyProof.Rows.boot_isinstance (V3 he (V3 (qez (V3 (LB (v := .ty ty) hg2 hm2 hv rfl hn hdb) (V3 (LB (v := .ty ty') hg3 hm3 hv3 rfl hn3 hdb3) MT hs4) hs3)) MT hs2) hs) (by decide) (by decide) hs hpl)
  fun _ _ _ ⟨τ,G,q,rl,h,af⟩ => zv rl h fun x G1 h1 v H1 rx hr1 k1 rl1 => by
   refine ⟨by show 2 ≤ sizeLine;decide,fun pp hp => ?_⟩
   split at h1
   ·rename_i t e1
    have hr2 := hr1.laid (ho := .tup [.ty ty,.ty ty']) hp
    have kk : Kp G1 H1 G1 (upd H1 pp (.tup [.ty ty,.ty ty'])) := Kp.laid hp
    exact ⟨_,t,ty,ty',pp,rfl,zd,qdF hr2 (rx.keep hr1 kk) e1,hmem,hmem3,af _ G1 h1 _ _ (.bl _) hr2 (k1.trans kk)⟩
   ·exact h1.elim
structure Ends3 where
 nx : St3 → Gp → Prop
 rt : Q3
 bk : St3 → Gp → Prop := fun _ _ => False
 ct : St3 → Gp → Prop := fun _ _ => False
abbrev TS3 := Ends3 → St3 → Gp → Prop
def qe6 (K : PySem.W.Frag) (G : Gp) (H : Hp) (q : St3 → Gp → Prop) (Q : L2.St → Hp → Prop) : Prop := ∀ τ G',q τ G' → ∀ σ H',Rel K τ G' σ H' → Kp G H G' H' → Q σ H'
structure AftD (K : PySem.W.Frag) (G : Gp) (H : Hp) (d : Ends3) (D : Ends) : Prop where
 nx : qe6 K G H d.nx D.nx
 rt : Aft K G H d.rt D.rt
 bk : qe6 K G H d.bk D.bk
 ct : qe6 K G H d.ct D.ct
theorem qe6.back {K : PySem.W.Frag} {G G1 : Gp} {H H1 : Hp} {q : St3 → Gp → Prop} {Q : L2.St → Hp → Prop} (a : qe6 K G H q Q) (k : Kp G H G1 H1) : qe6 K G1 H1 q Q := fun x G' h v H' r k' => a x G' h v H' r (k.trans k')
theorem AftD.back {K : PySem.W.Frag} {G G1 : Gp} {H H1 : Hp} {d : Ends3} {D : Ends} (a : AftD K G H d D) (k : Kp G H G1 H1) : AftD K G1 H1 d D := ⟨a.nx.back k,a.rt.back k,a.bk.back k,a.ct.back k⟩
def lS (K : PySem.W.Frag) (t : TS3) : TS := fun D σ H => ∃ τ G d,Rel K τ G σ H∧t d τ G∧AftD K G H d D
abbrev S3 (X : Cx) (st : Stmt) (t : TS3) : Prop := PS X st (lS X.K t)
abbrev B3 (X : Cx) (st : List Stmt) (t : TS3) : Prop := PSs X st (lS X.K t)
theorem qdt {X : Cx} {st : Stmt} {t t' : TS} (h : PS X st t) (w : ∀ D σ H,t' D σ H → t D σ H) : PS X st t' := fun pins s σ H D I q => h pins s σ H D I (w D σ H q)
theorem qjc {X : Cx} {st : List Stmt} {t t' : TS} (h : PSs X st t) (w : ∀ D σ H,t' D σ H → t D σ H) : PSs X st t' := fun pins s σ H D I q => h pins s σ H D I (w D σ H q)
variable {st : Stmt} {ZJ : List Stmt} {t1 t2 : TS3} {tA : TT3}
def qL : TS3 := fun d τ G => d.nx τ G
def qM (t u : TS3) : TS3 := fun d τ G => t { d with nx := u d } τ G
theorem qn0 : B3 X [] qL := qjc qhD fun _ σ H ⟨τ,G,d,rl,h,af⟩ => af.nx τ G h σ H rl Kp.refl
theorem qls (h1 : S3 X st t1) (h2 : B3 X ZJ t2) : B3 X (st :: ZJ) (qM t1 t2) := qjc (qcA h1 h2) fun D σ H ⟨τ,G,d,rl,h,af⟩ =>
 ⟨τ,G,{ d with nx := t2 d },rl,h,⟨fun τ' G' h' σ' H' rl' k' => ⟨τ',G',d,rl',h',af.back k'⟩,af.rt,af.bk,af.ct⟩⟩
theorem qm9 (h1 : S3 X st t1) : B3 X [st] t1 := qfY h1
def W9 (te : TE3) : TS3 := fun d τ G => te τ G fun _ G1 => d.nx τ G1
theorem qkp (he : E3 X e te) (hs : swapsWith e none pos.line X.env = pure false := by rfl) : S3 X (.Expr e pos) (W9 te) := qdt (qf7 he hs) fun _ σ H ⟨τ,G,d,rl,h,af⟩ =>
 zv rl h fun x G1 h1 v H1 rx hr1 k1 rl1 => af.nx τ G1 h1 σ H1 rl1 k1
def qR (te : TE3) : TS3 := fun d τ G => te τ G d.rt
theorem qnv (he : E3 X e te) : S3 X (.Return (some e) pos) (qR te) := qdt (qj9 he) fun _ σ H ⟨τ,G,d,rl,h,af⟩ => ⟨τ,G,d.rt,rl,h,af.rt⟩
def qh1 : TS3 := fun d _ G => d.rt .non G
def jq (c : TT3) (t u : TS3) : TS3 := fun d τ G => c τ G fun k G1 => if k = true then t d τ G1 else u d τ G1
theorem qpS {c : Expr} {ba bb : List Stmt} (hc : C3 X c tA) (ha : B3 X ba t1) (hb : B3 X bb t2) : S3 X (.If c ba bb pos) (jq tA t1 t2) := qdt (qnV hc ha hb) fun _ σ H ⟨τ,G,d,rl,h,af⟩ =>
 CA rl h fun k G1 h1 H1 hr1 k1 rl1 => by
  cases k with
  | true => rw [if_pos rfl] at h1 ⊢;exact ⟨τ,G1,d,rl1,h1,af.back k1⟩
  | false => rw [if_neg Bool.false_ne_true] at h1 ⊢;exact ⟨τ,G1,d,rl1,h1,af.back k1⟩
def qhX : TS3 := fun _ _ _ => False
theorem qf2 {sts : List Stmt} : B3 X sts qhX := fun _ _ _ _ _ _ ⟨_,_,_,_,h,_⟩ => h.elim
abbrev TG3 := T → St3 → Gp → (St3 → Gp → Prop) → Prop
abbrev KD := List T → St3 → Gp → (St3 → Gp → Prop) → Prop
def lG (K : PySem.W.Frag) (t : TG3) : TG := fun v σ H Q => ∃ x τ G q,Rp K H x v∧Rel K τ G σ H∧t x τ G q∧qe6 K G H q Q
def lGs (K : PySem.W.Frag) (t : KD) : TGs := fun v σ H Q => ∃ x τ G q,Rps K H x v∧Rel K τ G σ H∧t x τ G q∧qe6 K G H q Q
abbrev G3 (X : Cx) (e : Expr) (t : TG3) : Prop := PG X e (lG X.K t)
abbrev Gs3 (X : Cx) (es : List Expr) (t : KD) : Prop := PGs X es (lGs X.K t)
theorem qnT {X : Cx} {e : Expr} {t t' : TG} (h : PG X e t) (w : ∀ v σ H Q,t' v σ H Q → t v σ H Q) : PG X e t' := fun pins s σ H v u Q I r q => h pins s σ H v u Q I r (w v σ H Q q)
theorem qln {X : Cx} {e : List Expr} {t t' : TGs} (h : PGs X e t) (w : ∀ v σ H Q,t' v σ H Q → t v σ H Q) : PGs X e t' := fun pins s σ H v u Q I r q => h pins s σ H v u Q I r (w v σ H Q q)
def gn3 (i : Nat) : TG3 := fun x τ G q => q (τ.set i (some x)) G
theorem qlN {i : Nat} {x : Str} (hN : X.N.Nodup) (hi : X.N[i]? = some x := by rfl) (hx : Loc X.env.scope x := by first | exact Or.inl rfl | exact Or.inr rfl) (hf : X.fn x = true ∨ X.env.scope.names.lookup x = some .local := by first | exact .inl rfl | exact .inr rfl) : G3 X (.Name x pos) (gn3 i) :=
 qnT (qgo hN hi hx hf) fun v σ H Q ⟨x,τ,G,q,rx,rl,h,af⟩ => af _ G h _ H (rl.set i rx) Kp.refl
def je : KD := fun xs τ G q => match xs with | [] => q τ G | _ => False
def qu (t : TG3) (u : KD) : KD := fun xs τ G q => match xs with | x :: r => t x τ G fun τ' G' => u r τ' G' q | [] => False
theorem qnL : Gs3 X [] je := qln qgY fun v σ H Q ⟨x,τ,G,q,rx,rl,h,af⟩ => by
 cases rx with
 | nil => exact ⟨rfl,af _ G h _ H rl Kp.refl⟩
 | cons _ _ => exact h.elim
theorem qj1 {tg : TG3} {tgs : KD} (h1 : G3 X e tg) (h2 : Gs3 X es tgs) (hs : (assignEach (e :: es) X.env).map (·.2) = assign e X.env :: (assignEach es X.env).map (·.2) := by rfl) : Gs3 X (e :: es) (qu tg tgs) := qln (qdo h1 h2 hs) fun v σ H Q ⟨x,τ,G,q,rx,rl,h,af⟩ => by
 cases rx with
 | nil => exact h.elim
 | cons r rs => exact ⟨_,_,rfl,_,τ,G,_,r,rl,h,fun τ' G' h' σ' H' rl' k' => ⟨_,τ',G',q,rs.keep rl.hp k',rl',h',af.back k'⟩⟩
def jm (n : Nat) (t : KD) : TG3 := fun x τ G q => match x with | .tup xs => xs.length = n∧t xs τ G q | _ => False
theorem qoc {k : Nat} {tgs : KD} {n : Nat} (hc : X.calm = true) (h : Gs3 X es tgs) (hn : (assignEach es X.env).length = n := by rfl) (hst : (assignEach es X.env).findIdx? (·.1) = none := by rfl) : G3 X (.Tuple es k pos) (jm n tgs) :=
 qnT (qiw hc h hn hst) fun v σ H Q ⟨x,τ,G,q,rx,rl,h,af⟩ => by
  cases x <;> try exact h.elim
  case tup xs =>
   cases rx with
   | tup hs rs => exact ⟨_,_,rfl,hs,by rw [← rs.length];exact h.1,_,τ,G,q,rs,rl,h.2,af⟩
def qcM : T → T → T → Gp → (Gp → Prop) → Prop := fun o i v G q => match o,i with
 | .ref p,.int k => (match G p with | some (.lst xs) => (match ixN xs.length k with | some j => q (gu G p (.lst (xs.set j v))) | none => False) | _ => False)
 | _,_ => False
def D9 (to ti : TE3) : TG3 := fun x τ G q => to τ G fun o G1 => ti τ G1 fun i G2 => qcM o i x G2 fun G3 => q τ G3
theorem qnB {o i : Expr} {to ti : TE3} (ho : E3 X o to) (hi : E3 X i ti) (ha : ∀ v,assign (.Subscript o i pos) X.env v = (do
      let ov ← holding [v] (eval o X.env)
      let iv ← holding [v,ov] (eval i X.env)
      standAt pos
      holding [v,ov,iv] (setItem ov iv v)
      release [v,ov,iv] []) := by intro _;rfl) : G3 X (.Subscript o i pos) (D9 to ti) :=
  qnT (qme ho hi qcw ha) fun v σ H Q ⟨x,τ,G,q,rx,rl,h,af⟩ => zv rl h fun y G1 h1 u H1 ry hr1 k1 rl1 => zv rl1 h1 fun z G2 h2 w H2 rz hr2 k2 rl2 => by
    have rx2 := (rx.keep rl.hp k1).keep hr1 k2
    have ry2 := ry.keep hr1 k2
    unfold qcM at h2
    split at h2
    · rename_i p k
      split at h2
      · rename_i xs e
        split at h2
        · rename_i j ej
          cases ry2;cases rz
          obtain ⟨vs,g1,r1⟩ := hr2.lst e
          have kk : Kp G2 H2 (gu G2 p (.lst (xs.set j x))) (upd H2 p (.lst (vs.set j v))) := Kp.wr e
          exact ⟨p,vs,k,j,rfl,rfl,g1,by rw [← r1.length];exact ej,af τ _ h2 σ _ (rl2.next (hr2.wr e (r1.set rx2 j)) kk) ((k1.trans k2).trans kk)⟩
        · exact h2.elim
      · exact h2.elim
    · exact h2.elim
def zm (te : TE3) (g : TG3) : TS3 := fun d τ G => te τ G fun x G1 => g x τ G1 d.nx
theorem qnQ {tg e : Expr} {g : TG3} (he : E3 X e te) (hg : G3 X tg g) (hs : swapsWithSole [tg] e pos.line X.env = pure false := by rfl) (hw : swappedStores [tg] e X.env = pure none := by rfl)
  (h1 : (assignEach [tg] X.env).map (·.2) = [assign tg X.env] := by rfl) : S3 X (.Assign [tg] e pos) (zm te g) := qdt (qiD he hg hs hw h1) fun _ σ H ⟨τ,G,d,rl,h,af⟩ =>
 zv rl h fun x G1 h1 v H1 rx hr1 k1 rl1 => ⟨x,τ,G1,d.nx,rx,rl1,h1,af.nx.back k1⟩
theorem qnc (i : Nat) {x : Str} {e : Expr} {pos' : Pos} (hN : X.N.Nodup) (he : E3 X e te) (hi : X.N[i]? = some x := by rfl) (hx : Loc X.env.scope x := by first | exact Or.inl rfl | exact Or.inr rfl) (hs : swapsWith e (some (.Name x pos')) pos.line X.env = pure false := by rfl) (hf : X.fn x = true ∨ X.env.scope.names.lookup x = some .local := by first | exact .inl rfl | exact .inr rfl) :
  S3 X (.Assign [.Name x pos'] e pos) (zm te (gn3 i)) := qdt (qk9 hN hi hx he hs hf) fun _ σ H ⟨τ,G,d,rl,h,af⟩ =>
 zv rl h fun x G1 h1 v H1 rx hr1 k1 rl1 => af.nx _ G1 h1 _ H1 (rl1.set i rx) k1
def CY (i j : Nat) (ta : TA3) : TS3 := fun d τ G => ta τ G fun xs G1 => match xs with | [x,y] => d.nx ((τ.set i (some x)).set j (some y)) G1 | _ => False
theorem qm3 {i j : Nat} {x y : Str} {a b : Expr} {tt : TA3} {px py pt : Pos} {kt k2 pt2} (hc : X.calm = true) (hN : X.N.Nodup) (hi : X.N[i]? = some x) (hj : X.N[j]? = some y) (hij : i ≠ j)
  (hx : X.env.scope.names.lookup x = some .local) (hy : X.env.scope.names.lookup y = some .local) (ha : A3 X [a,b] tt)
  (hw : swappedStores [.Tuple [.Name x px,.Name y py] kt pt] (.Tuple [a,b] k2 pt2) X.env = pure (some [x,y]) := by rfl)
  (hs : swapsWithSole [.Tuple [.Name x px,.Name y py] kt pt] (.Tuple [a,b] k2 pt2) pos.line X.env = pure false := by rfl) :
  S3 X (.Assign [.Tuple [.Name x px,.Name y py] kt pt] (.Tuple [a,b] k2 pt2) pos) (CY i j tt) := qdt (qlK hc hN hi hj hij hx hy ha hw hs) fun _ σ H ⟨τ,G,d,rl,h,af⟩ =>
 JW rl h fun xs G1 h1 vs H1 rs hr1 k1 rl1 => by
  split at h1
  ·obtain ⟨v,u,rfl,r,r'⟩ := qmI rs
   exact ⟨v,u,rfl,af.nx _ G1 h1 _ H1 ((rl1.set i r).set j r') k1⟩
  ·exact h1.elim
end
end L3
namespace L3
open PySem PySem.Spec PyProof.Rows L2
abbrev TI3 := St3 → Gp → (List T → (Gp → Prop) → Gp → Prop) → Prop
def qhU (K : PySem.W.Frag) (J : It) (items : List T) (stay : Gp → Prop) (G0 : Gp) (H0 : Hp) : Prop := ∀ G H,HR K G H → Kp G0 H0 G H → stay G →
 (∀ i x,items[i]? = some x → J.go i H)∧(∀ i x v H',items[i]? = some x → J.yld i H v H' → Rp K H' x v∧HR K G H'∧Kp G H G H')∧J.stop items.length H
def lI (K : PySem.W.Frag) (wi : TI3) : TI := fun σ H R => ∃ τ G r,Rel K τ G σ H∧wi τ G r∧∀ items stay G',r items stay G' → ∀ J H',HR K G' H' → Kp G H G' H' → qhU K J items stay G' H' → R J H'
abbrev I3 (X : Cx) (tg iter : Expr) (wi : TI3) : Prop := PI X tg iter (lI X.K wi)
theorem qh0 {X : Cx} {tg e : Expr} {t t' : TI} (h : PI X tg e t) (w : ∀ σ H R,t' σ H R → t σ H R) : PI X tg e t' := fun pins s σ H R I q => h pins s σ H R I (w σ H R q)
section
variable {X : Cx} {a b c e l tg : Expr} {es : List Expr} {ta tb tc te : TE3} {t : TA3} {pos : Pos}
theorem qjm {tl : TE} (hl : PE X l tl) : PI X tg l (fun σ H R => tl σ H fun x H1 => ∃ a,x = .ref a∧(((∃ xs,SqL X.K H1 a xs)∧R (Itl X.K a) H1) ∨ ((∃ xs,SqT X.K H1 a xs)∧R (Itt X.K a) H1))) := by
 intro pins s σ H R I h
 refine thn (hl pins s σ H _ I h) fun v s1 ⟨x,H1,I1,r1,q1⟩ => ?_
 obtain ⟨a,e,⟨⟨xs,hq⟩,q⟩ | ⟨⟨xs,hq⟩,q⟩⟩ := q1
 ·subst e
  cases r1
  obtain ⟨its,rv,p,hz⟩ := I1.list hq
  refine wpAny_pyIter_list p.isList ?_
  refine ⟨s1.heap.objs.size,[s1.heap.objs.size],_,_,H1,rfl,I1.kept (t' := s1.toks) fun b o e => Heap.get?_push_of_some _ e,qaN a _,⟨_,Heap.get?_push_size _ rfl,rfl,rfl⟩,fun b hb => ?_,q⟩
  have e : b = s1.heap.objs.size := by simpa using hb
  subst e
  exact I1.fpOk (Nat.le_refl _) (I1.hok.fresh (Nat.le_refl _))
 ·subst e
  cases r1
  obtain ⟨its,rv,p,hz⟩ := I1.tuple hq
  refine wpAny_pyIter_tuple (show s1.heap.IsTuple a its.toArray from p) ?_
  refine ⟨s1.heap.objs.size,[s1.heap.objs.size],_,_,H1,rfl,I1.kept (t' := s1.toks) fun b o e => Heap.get?_push_of_some _ e,NG a _,⟨_,Heap.get?_push_size _ rfl,rfl,rfl⟩,fun b hb => ?_,q⟩
  have e : b = s1.heap.objs.size := by simpa using hb
  subst e
  exact I1.fpOk (Nat.le_refl _) (I1.hok.fresh (Nat.le_refl _))
def U6 (tl : TE3) : TI3 := fun τ G r => tl τ G fun x G1 => match x with
 | .tup xs => r xs (fun _ => True) G1
 | .ref p => (match getL G1 p with | some xs => r xs (fun G => getL G p = some xs) G1 | none => False)
 | _ => False
theorem qiq {K : PySem.W.Frag} {p : Addr} {xs : List T} {G0 : Gp} {H0 : Hp} : qhU K (Itl K p) xs (fun G => getL G p = some xs) G0 H0 := by
 intro G H hr _ hs
 obtain ⟨vs,sq,rs⟩ := zA hr hs
 refine ⟨fun i x hi => ?_,fun i x v H' hi y => ?_,⟨vs,sq,by rw [rs.length];exact Nat.le_refl _⟩⟩
 ·obtain ⟨v,hv,_⟩ := rs.get hi
  exact ⟨vs,v,sq,hv⟩
 ·obtain ⟨e,y⟩ := y
  subst e
  obtain ⟨w,hw,rw'⟩ := rs.get hi
  have e2 := (y vs sq).symm.trans hw
  cases e2
  exact ⟨rw',hr,Kp.refl⟩
theorem qmd {K : PySem.W.Frag} {p : Addr} {xs : List T} {vs : List V} {G0 : Gp} {H0 : Hp} (hr0 : HR K G0 H0) (sq0 : SqT K H0 p vs) (rs0 : Rps K H0 xs vs) : qhU K (Itt K p) xs (fun _ => True) G0 H0 := by
 intro G H hr k _
 have sq := C6 hr0 k sq0
 have rs := rs0.keep hr0 k
 refine ⟨fun i x hi => ?_,fun i x v H' hi y => ?_,⟨vs,sq,by rw [rs.length];exact Nat.le_refl _⟩⟩
 ·obtain ⟨v,hv,_⟩ := rs.get hi
  exact ⟨vs,v,sq,hv⟩
 ·obtain ⟨e,y⟩ := y
  subst e
  obtain ⟨w,hw,rw'⟩ := rs.get hi
  have e2 := (y vs sq).symm.trans hw
  cases e2
  exact ⟨rw',hr,Kp.refl⟩
theorem qm1 (hl : E3 X l te) : I3 X tg l (U6 te) := qh0 (qjm hl) fun σ H R ⟨τ,G,r,rl,h,af⟩ => zv rl h fun x G1 h1 v H1 rx hr1 k1 rl1 => by
 cases x <;> try exact h1.elim
 case tup xs =>
  cases rx with
  | tup hs rs => exact ⟨_,rfl,.inr ⟨⟨_,hs⟩,af _ _ G1 h1 _ H1 hr1 k1 (qmd hr1 hs rs)⟩⟩
 case ref p =>
  simp only at h1
  split at h1
  ·rename_i xs e0
   cases rx
   obtain ⟨vs,hs,rs⟩ := zA hr1 e0
   exact ⟨_,rfl,.inl ⟨⟨_,hs⟩,af _ _ G1 h1 _ H1 hr1 k1 qiq⟩⟩
  ·exact h1.elim
def NW (lo : Int) (n : Nat) : List T := (List.range n).map fun (i : Nat) => T.int (lo + (i : Int))
theorem qfB {K : PySem.W.Frag} {lo : Int} {n : Nat} {G0 : Gp} {H0 : Hp} : qhU K (Itr lo n) (NW lo n) (fun _ => True) G0 H0 := by
 intro G H hr k _
 have hl : (NW lo n).length = n := by simp [NW]
 refine ⟨fun i x hi => ?_,fun i x v H' hi y => ?_,(show n ≤ (NW lo n).length by rw [hl];exact Nat.le_refl n)⟩
 ·have := (List.getElem?_eq_some_iff.mp hi).1
  rw [hl] at this
  exact this
 ·obtain ⟨e,y⟩ := y
  subst e
  subst y
  have h1 := (List.getElem?_eq_some_iff.mp hi).1
  rw [hl] at h1
  unfold NW at hi
  rw [List.getElem?_map,List.getElem?_range h1] at hi
  have e : T.int (lo + (i : Int)) = x := by simpa using hi
  subst e
  exact ⟨.int _,hr,Kp.refl⟩
def jO (ta : TA3) : TI3 := fun τ G r => ta τ G fun xs G1 => match xs with
 | [.int j] => (-(2 ^ 62) ≤ j∧j < 2 ^ 62)∧r (NW 0 j.toNat) (fun _ => True) G1
 | [.int i,.int j] => (-(2 ^ 62) ≤ i∧i < 2 ^ 62∧-(2 ^ 62) ≤ j∧j < 2 ^ 62)∧r (NW i (j - i).toNat) (fun _ => True) G1
 | _ => False
theorem qcG {p : Pos} (hg : Gl X "range") (hm : X.mg "range" = none) (ha : A3 X [a] t) (hs : starEach [a] X.env = [(false,eval a X.env)] := by rfl) (h1 : ∀ τ G q,t τ G q → t τ G fun xs G => q xs G∧xs.length = 1) : I3 X tg (.Call (.Name "range" p) [a] [] pos) (jO t) :=
 qh0 (qbv hg hm ha hs) fun σ H R ⟨τ,G,r,rl,h,af⟩ => JW rl (h1 _ _ _ h) fun xs G1 h1 vs H1 rs hr1 k1 rl1 => by
  obtain ⟨h1,hl⟩ := h1
  simp only at h1
  split at h1
  ·obtain ⟨v,rfl,r1⟩ := SE rs
   cases r1
   exact ⟨_,rfl,h1.1.1,h1.1.2,af _ _ G1 h1.2 _ H1 hr1 k1 qfB⟩
  ·simp at hl
  ·exact h1.elim
theorem qdg {p : Pos} (hg : Gl X "range") (hm : X.mg "range" = none) (ha : A3 X [a,b] t) (hs : starEach [a,b] X.env = [(false,eval a X.env),(false,eval b X.env)] := by rfl) (hs2 : starEach [b] X.env = [(false,eval b X.env)] := by rfl) (h1 : ∀ τ G q,t τ G q → t τ G fun xs G => q xs G∧xs.length = 2) : I3 X tg (.Call (.Name "range" p) [a,b] [] pos) (jO t) :=
 qh0 (qaR hg hm ha hs hs2) fun σ H R ⟨τ,G,r,rl,h,af⟩ => JW rl (h1 _ _ _ h) fun xs G1 h1 vs H1 rs hr1 k1 rl1 => by
  obtain ⟨h1,hl⟩ := h1
  simp only at h1
  split at h1
  ·simp at hl
  ·obtain ⟨v,u,rfl,r1,r2⟩ := qmI rs
   cases r1;cases r2
   exact ⟨_,_,rfl,h1.1,af _ _ G1 h1.2 _ H1 hr1 k1 qfB⟩
  ·exact h1.elim
def CW (stay : Gp → Prop) (g : TG3) (tb : TS3) (d : Ends3) : List T → St3 → Gp → Prop
 | [],τ,G => stay G∧d.nx τ G
 | x :: r,τ,G => stay G∧g x τ G fun τ2 G2 => tb { d with nx := CW stay g tb d r,ct := CW stay g tb d r,bk := d.nx } τ2 G2
def RK (wi : TI3) (g : TG3) (tb : TS3) : TS3 := fun d τ G => wi τ G fun items stay G1 => CW stay g tb d items τ G1
theorem qnG {iter : Expr} {body : List Stmt} {wi : TI3} {g : TG3} {tb : TS3} (hp : PassesOwn (model X.prog X.w) X.A X.env X.xe) (hc : X.calm = true) (hi : I3 X tg iter wi) (hg : G3 X tg g) (hb : B3 X body tb)
  (hs : ∀ x,foldedSetIterable iter X.env x = pure x := by intro _;rfl) : S3 X (.For tg iter body [] pos) (RK wi g tb) :=
 qdt (qkO hp hc hi hg hb hs) fun D σ H ⟨τ,G,d,rl,h,af⟩ => by
  refine ⟨τ,G,_,rl,h,fun items stay G1 h1 J H1 hr1 k1 ok => ?_⟩
  refine ⟨fun i m σ' H' => m = items.length - i∧i ≤ items.length∧∃ τ' G',Rel X.K τ' G' σ' H'∧Kp G1 H1 G' H'∧CW stay g tb d (items.drop i) τ' G',⟨_,rfl,Nat.zero_le _,τ,G1,rl.next hr1 k1,Kp.refl,by simpa using h1⟩,?_⟩
  rintro i m σ' H' ⟨rfl,hi,τ',G',rl',k',h'⟩
  by_cases hlt : i < items.length
  ·rw [List.drop_eq_getElem_cons hlt] at h'
   obtain ⟨hst,h'⟩ := h'
   obtain ⟨go,yld,_⟩ := ok G' H' rl'.hp k' hst
   have hx : items[i]? = some items[i] := List.getElem?_eq_getElem hlt
   refine .inr ⟨go i _ hx,fun σ2 H2 => ∃ τ2 G2,Rel X.K τ2 G2 σ2 H2∧Kp G1 H1 G2 H2∧CW stay g tb d (items.drop (i + 1)) τ2 G2,fun σ2 H2 h2 => ⟨_,by omega,rfl,hlt,h2⟩,fun v H2 y => ?_⟩
   obtain ⟨rv,hr2,k2⟩ := yld i _ v H2 hx y
   have k3 : Kp G1 H1 G' H2 := k'.trans k2
   refine ⟨_,τ',G',_,rv,rl'.next hr2 k2,h',fun τ3 G3 h3 σ3 H3 rl3 k4 => ?_⟩
   have k5 : Kp G H G3 H3 := (k1.trans k3).trans k4
   refine ⟨τ3,G3,_,rl3,h3,⟨fun τ4 G4 h4 σ4 H4 rl4 k6 => ⟨τ4,G4,rl4,(k3.trans k4).trans k6,h4⟩,af.rt.back k5,af.nx.back k5,fun τ4 G4 h4 σ4 H4 rl4 k6 => ⟨τ4,G4,rl4,(k3.trans k4).trans k6,h4⟩⟩⟩
  ·have e : i = items.length := by omega
   subst e
   rw [List.drop_length] at h'
   obtain ⟨_,_,stop⟩ := ok G' H' rl'.hp k' h'.1
   exact .inl ⟨stop,af.nx τ' G' h'.2 σ' H' rl' (k1.trans k')⟩
theorem WX {stay : Gp → Prop} {g : TG3} {tb : TS3} {d : Ends3} (items : List T) (Pv : Nat → St3 → Gp → Prop) {τ : St3} {G : Gp} (h0 : Pv 0 τ G) (hst : ∀ i τ G,i ≤ items.length → Pv i τ G → stay G)
  (hs : ∀ i x τ G (nx : St3 → Gp → Prop),items[i]? = some x → Pv i τ G → (∀ τ G,Pv (i + 1) τ G → nx τ G) → g x τ G fun τ2 G2 => tb { d with nx := nx,ct := nx,bk := d.nx } τ2 G2)
  (hd : ∀ τ G,Pv items.length τ G → d.nx τ G) : CW stay g tb d items τ G := by
 have key : ∀ (r : List T) (i : Nat) τ G,items.drop i = r → i ≤ items.length → Pv i τ G → CW stay g tb d r τ G := by
  intro r
  induction r with
  | nil =>
   intro i τ G e hi p
   have : i = items.length := by have := congrArg List.length e;simp at this;omega
   subst this
   exact ⟨hst _ τ G hi p,hd τ G p⟩
  | cons x r ih =>
   intro i τ G e hi p
   have hl : i < items.length := by
    apply Classical.byContradiction
    intro z
    rw [List.drop_eq_nil_of_le (by omega)] at e
    cases e
   have e' := List.drop_eq_getElem_cons hl
   rw [e] at e'
   injection e' with e1 e2
   refine ⟨hst i τ G hi p,hs i x τ G _ (by rw [List.getElem?_eq_getElem hl,e1]) p fun τ2 G2 p2 => ih (i + 1) τ2 G2 e2.symm hl p2⟩
 exact key items 0 τ G (by simp) (Nat.zero_le _) h0
def M1 (c : TT3) (tb : TS3) : TS3 := fun d τ G => ∃ W : Nat → St3 → Gp → Prop,(∃ m,W m τ G)∧∀ m τ G,W m τ G →
 c τ G fun b G1 => if b = true then ∃ N : St3 → Gp → Prop,(∀ τ' G',N τ' G' → ∃ m',m' < m∧W m' τ' G')∧tb { d with nx := N,ct := N,bk := d.nx } τ G1 else d.nx τ G1
theorem qgD {c : Expr} {body : List Stmt} {tc : TT3} {tb : TS3} (hp : PassesOwn (model X.prog X.w) X.A X.env X.xe) (hc : C3 X c tc) (hb : B3 X body tb) : S3 X (.While c body [] pos) (M1 tc tb) :=
 qdt (qcu hp hc hb) fun D σ H ⟨τ,G,d,rl,⟨W,⟨m0,w0⟩,turn⟩,af⟩ => by
  refine ⟨fun m σ' H' => ∃ τ' G',Rel X.K τ' G' σ' H'∧Kp G H G' H'∧W m τ' G',⟨m0,τ,G,rl,Kp.refl,w0⟩,?_⟩
  rintro m σ' H' ⟨τ',G',rl',k',w'⟩
  refine CA rl' (turn m τ' G' w') fun b G1 h1 H1 hr1 k1 rl1 => ?_
  cases b with
  | true =>
   rw [if_pos rfl] at h1 ⊢
   obtain ⟨N,hN,h1⟩ := h1
   refine ⟨fun σ2 H2 => ∃ τ2 G2,Rel X.K τ2 G2 σ2 H2∧Kp G H G2 H2∧N τ2 G2,fun σ2 H2 ⟨τ2,G2,r2,k2,n2⟩ => ?_,τ',G1,_,rl1,h1,⟨fun τ2 G2 h2 σ2 H2 r2 k2 => ⟨τ2,G2,r2,(k'.trans k1).trans k2,h2⟩,af.rt.back (k'.trans k1),af.nx.back (k'.trans k1),fun τ2 G2 h2 σ2 H2 r2 k2 => ⟨τ2,G2,r2,(k'.trans k1).trans k2,h2⟩⟩⟩
   obtain ⟨m',hm,w2⟩ := hN τ2 G2 n2
   exact ⟨m',hm,τ2,G2,r2,k2,w2⟩
  | false =>
   rw [if_neg Bool.false_ne_true] at h1 ⊢
   exact af.nx τ' G1 h1 σ' H1 rl1 (k'.trans k1)
abbrev Sp3 := List T → Gp → Q3 → Prop
def lSp (K : PySem.W.Frag) (sp : Sp3) : Sp := fun vs H Q _ => ∃ ts G q,HR K G H∧Rps K H ts vs∧sp ts G q∧Aft K G H q Q
def Fn3 (P : Program) (w : World) (K : PySem.W.Frag) (mg : Str → Option Value) (base : Heap) (k : Nat) (x : Str) (sp : Sp3) : Prop :=
 ∃ f fd ps,FnOk P w K mg base CX0 k f fd ps (lSp K sp)∧zb K fd ps []∧PySem.W.keepIn K (.ref f) = true∧mg x = some (.ref f)
theorem Fn3.mono {P : Program} {w : World} {K : PySem.W.Frag} {mg : Str → Option Value} {base : Heap} {j k : Nat} {x : Str} {sp : Sp3} (F : Fn3 P w K mg base j x sp) (h : j ≤ k) : Fn3 P w K mg base k x sp :=
 let ⟨f,fd,ps,a,b,c,d⟩ := F;⟨f,fd,ps,a.mono h,b,c,d⟩
theorem Fn3.imp {P : Program} {w : World} {K : PySem.W.Frag} {mg : Str → Option Value} {base : Heap} {k : Nat} {x : Str} {sp sp' : Sp3} (F : Fn3 P w K mg base k x sp) (h : ∀ ts G q,sp' ts G q → sp ts G q) : Fn3 P w K mg base k x sp' :=
 let ⟨f,fd,ps,a,b,c,d⟩ := F;⟨f,fd,ps,a.imp fun vs H Q E ⟨ts,G,q,h1,h2,h3,h4⟩ => ⟨ts,G,q,h1,h2,h _ _ _ h3,h4⟩,b,c,d⟩
theorem qiA {k : Nat} {x : Str} {p : Pos} {sp : Sp3} (F : Fn3 X.prog X.w X.K X.mg X.base k x sp) (hr : Room k X.A) (hg : Gl X x) (ha : A3 X (e :: es) t) (hdb : (x == ("__debug__" : Str)) = false := by decide)
  (he : starEach (e :: es) X.env = (false,eval e X.env) :: starEach es X.env := by rfl) (hpl : (backTo pos (starEach es X.env)).any (·.1) = false := by rfl) : E3 X (.Call (.Name x p) (e :: es) [] pos) (cb3 sp t) := by
 obtain ⟨f,fd,ps,F,b,kp,m⟩ := F
 refine WP (qgM F hr hg m kp b .nil qow ha hdb he hpl) fun σ H Q ⟨τ,G,q,rl,h,af⟩ => JW rl h fun xs G1 h1 vs H1 rs hr1 k1 rl1 => ?_
 rw [List.append_nil]
 exact ⟨xs,G1,q,hr1,rs,h1,af.back k1⟩
def qs (N : List Str) (ts : List T) : St3 := ts.map some ++ List.replicate (N.length - ts.length) none
theorem TL {K : PySem.W.Frag} {N : List Str} {G : Gp} {H : Hp} {ts : List T} {vs : List V} (hr : HR K G H) (rs : Rps K H ts vs) : Rel K (qs N ts) G (L2.WN N vs) H := by
 refine ⟨hr,by simp [qs,L2.WN,rs.length],fun i t e => ?_⟩
 unfold qs at e
 by_cases hi : i < ts.length
 ·rw [List.getElem?_append_left (by simpa using hi),List.getElem?_map] at e
  cases q : ts[i]? with
  | none => rw [q] at e;cases e
  | some z =>
   rw [q] at e
   have e' : z = t := by simpa using e
   subst e'
   obtain ⟨v,hv,r⟩ := rs.get q
   refine ⟨v,?_,r⟩
   unfold L2.WN
   rw [List.getElem?_append_left (by rw [List.length_map,← rs.length];exact hi),List.getElem?_map,hv]
   rfl
 ·rw [List.getElem?_append_right (by simpa using hi),List.getElem?_replicate] at e
  split at e <;> cases e
theorem qmn {P : Program} {w : World} {K : PySem.W.Frag} {mg : Str → Option Value} {base : Heap} {x qual : Str} {st : Stmt} {f : Addr} {fd : FuncData} {N ps : List Str} {k : Nat} {sp : Sp3} {t3 : TS3} (F : Fun K x qual st f fd) (S : FnScope N ps (qi st)) (bd : zb K fd ps []) (hm : mg x = some (.ref f))
  (body : ∀ (cdv : Value) (A : Around) (outer : List Env) (s : Shared) (H : Hp) (E : XK),Room k (A.deeper (envOfC qual (qi st) s.heap.objs.size f cdv)) →
   B3 (qcm CX0 P w K mg base N qual (qi st) f cdv A outer s H E).nox (jj st) t3)
  (read : ∀ ts G q,sp ts G q → ts.length = ps.length∧t3 { nx := fun _ G' => q .non G',rt := q } (qs N ts) G) : Fn3 P w K mg base (k + 1) x sp := by
 refine ⟨f,fd,ps,F.ok S (fun vs H Q E ⟨ts,G,q,h1,h2,h3,h4⟩ => by rw [← h2.length];exact (read ts G q h3).1) fun cdv A outer s H vs Q E hr ⟨ts,G,q,h1,h2,h3,h4⟩ => ?_,bd,F.kp,hm⟩
 refine ⟨_,body cdv A outer s H E hr,qs N ts,G,_,TL h1 h2,(read ts G q h3).2,⟨fun τ' G' h' σ' H' rl' k' => h4 _ G' h' _ H' .non rl'.hp k',h4,fun _ _ z => z.elim,fun _ _ z => z.elim⟩⟩
def qfV (xs : List T) : Option Bool := match xs with
 | [] => some true
 | .bl k :: r => (match qfV r with | some j => some (k && j) | none => none)
 | _ => none
def qmY (xs : List T) : Option Bool := match xs with
 | [] => some false
 | .bl k :: r => (match qmY r with | some j => some (k || j) | none => none)
 | _ => none
theorem qcN {P : Program} {w : World} {A : Around} {its : List Value} {ks : List Bool} (h : its = ks.map Value.bool) : TruthOf P w A (fun i v => its.toArray[i]? = some v) (fun i => ks.getD i true) := by
 intro i v s Q E hp hq
 subst h
 have hp' : ks[i]?.map Value.bool = some v := by simpa using hp
 cases e : ks[i]? with
 | none => rw [e] at hp';cases hp'
 | some k =>
  rw [e] at hp'
  cases hp'
  have : ks.getD i true = k := by rw [List.getD_eq_getElem?_getD,e];rfl
  have hq : Q (ks.getD i true) s := hq
  rw [this] at hq
  exact wpAny_truthy_bool hq
theorem X7 : ∀ {ks : List Bool} {us : List Value},zO (ks.map V.bl) us → us = ks.map Value.bool
 | [],_,r => by cases r;rfl
 | k :: ks,_,r => by
  cases r with
  | cons a b => rw [show _ = Value.bool k from a,X7 b];rfl
theorem qbG (ks : List Bool) : ((List.range ks.length).all fun i => ks.getD i true) = ks.all id := by
 induction ks with
 | nil => rfl
 | cons k ks ih =>
  rw [List.length_cons,List.range_succ_eq_map,List.all_cons,List.all_map,List.all_cons]
  congr 1
theorem Q7 (hc : X.calm = true) : J0 X (.builtin "all") (fun xs H Q => ∃ (p : Addr) (ks : List Bool),xs = [.ref p]∧SqL X.K H p (ks.map V.bl)∧Q (.bl (ks.all id)) H) := by
 intro pins s σ H xs us Q I r h
 obtain ⟨p,ks,rfl,hq,q⟩ := h
 obtain ⟨u,rfl,rp⟩ := XR r
 cases (show u = Value.ref p from rp)
 obtain ⟨its,rv,pl,hz⟩ := I.list hq
 have hb := X7 rv
 have hlen : its.length = ks.length := by rw [hb];simp
 have hp : p < s.heap.objs.size := by obtain ⟨o,n,e,_⟩ := pl;exact Heap.lt_size e
 refine call_all_walk (wpAny_pyIter_list pl.isList ⟨s.heap.objs.size,_,_,_,_,_,fun i => ks.getD i true,rfl,Walks.list (A := X.A.in1) (show X.A.in1.handled = none from I.ok.hd hc) s.heap.objs.size p (Nat.ne_of_lt hp) its.toArray,⟨⟨_,Heap.get?_push_size _ rfl,rfl,rfl⟩,?_⟩,qcN hb,fun h' tk hk => ?_⟩)
 ·obtain ⟨o,n,e,c,_,d⟩ := pl
  exact ⟨o,Heap.get?_push_of_some _ e,c,n,d⟩
 ·refine ⟨.bl _,H,?_,rfl,by rw [List.size_toArray,hlen,qbG];exact q⟩
  exact I.kept (h' := h') (t' := tk) fun b o e => hk b o (by simp;exact Nat.ne_of_lt (Heap.lt_size e)) (Heap.get?_push_of_some _ e)
end
end L3
namespace L3
open PySem PySem.Spec PyProof.Rows L2
def XI (env : Env) : List (Str × NameKind) → List (Str × Addr) → List (Str × Addr)
 | [],cs => cs
 | (n,k) :: r,cs => if k = .free then XI env r ((n,(env.cells.lookup n).getD 0) :: cs) else XI env r cs
theorem JC {scope : Scope} {env : Env} (h : ∀ y ∈ scope.names,y.2 = .free → ∃ c,env.cells.lookup y.1 = some c) : closureFor scope env = pure (XI env scope.names []) := by
 have key : ∀ (l : List (Str × NameKind)) (cs : List (Str × Addr)),(∀ y ∈ l,y.2 = .free → ∃ c,env.cells.lookup y.1 = some c) →
   (forIn l cs fun (x : Str × NameKind) (r : List (Str × Addr)) => if (x.2 == NameKind.free) = true then (do let a ← cellOf env x.1;pure (ForInStep.yield ((x.1,a) :: r))) else pure (ForInStep.yield r)) = (pure (XI env l cs) : Sem _) := by
  intro l
  induction l with
  | nil => intro cs _;rfl
  | cons y r ih =>
   intro cs hl
   obtain ⟨n,k⟩ := y
   rw [List.forIn_cons]
   by_cases hk : k = .free
   ·subst hk
    obtain ⟨c,hc⟩ := hl (n,.free) List.mem_cons_self rfl
    have e : cellOf env n = pure c := by unfold cellOf;rw [show List.lookup n env.cells = some c from hc]
    simp only [beq_self_eq_true,if_true]
    rw [e,pure_bind,pure_bind]
    show forIn r ((n,c) :: cs) _ = _
    rw [ih _ fun z hz => hl z (List.mem_cons_of_mem _ hz)]
    show _ = (pure (if NameKind.free = NameKind.free then XI env r ((n,(env.cells.lookup n).getD 0) :: cs) else XI env r cs) : Sem _)
    rw [if_pos rfl,show List.lookup n env.cells = some c from hc]
    rfl
   ·have hb : (k == NameKind.free) = false := by cases k <;> first | rfl | exact absurd rfl hk
    simp only [hb,Bool.false_eq_true,if_false]
    rw [pure_bind]
    show forIn r cs _ = _
    rw [ih _ fun z hz => hl z (List.mem_cons_of_mem _ hz)]
    show _ = (pure (if k = NameKind.free then XI env r ((n,(env.cells.lookup n).getD 0) :: cs) else XI env r cs) : Sem _)
    rw [if_neg hk]
 have := key scope.names [] h
 unfold closureFor
 refine Eq.trans ?_ this
 exact bind_pure (m := Sem) _
theorem VL {env : Env} : ∀ (l : List (Str × NameKind)) (cs : List (Str × Addr)) (x : Str) (c : Addr),(∀ y ∈ l,y.2 = .free → ∃ c,env.cells.lookup y.1 = some c) →
  (∀ x c,cs.lookup x = some c → env.cells.lookup x = some c) → (XI env l cs).lookup x = some c → env.cells.lookup x = some c
 | [],_,_,_,_,h,e => h _ _ e
 | (n,k) :: r,cs,x,c,hl,h,e => by
  unfold XI at e
  split at e
  ·rename_i hk
   refine VL r _ x c (fun y hy => hl y (List.mem_cons_of_mem _ hy)) (fun x c e => ?_) e
   rw [List.lookup_cons] at e
   split at e
   ·rename_i hx
    have hx' : x = n := by simpa using hx
    subst hx'
    obtain ⟨d,hd⟩ := hl (x,k) List.mem_cons_self hk
    have hd : List.lookup x env.cells = some d := hd
    rw [hd] at e ⊢
    exact e
   ·exact h _ _ e
  ·exact VL r cs x c (fun y hy => hl y (List.mem_cons_of_mem _ hy)) h e
theorem DM {env : Env} : ∀ (l : List (Str × NameKind)) (cs : List (Str × Addr)) (x : Str),((x,NameKind.free) ∈ l ∨ ∃ c,cs.lookup x = some c) → ∃ c,(XI env l cs).lookup x = some c
 | [],_,_,h => by
  rcases h with h | h
  ·simp at h
  ·exact h
 | (n,k) :: r,cs,x,h => by
  unfold XI
  have put : ∀ d : Addr,(x = n ∨ ∃ c,cs.lookup x = some c) → ∃ c,((n,d) :: cs).lookup x = some c := fun d z => by
   rw [List.lookup_cons]
   cases hx : x == n with
   | true => exact ⟨d,rfl⟩
   | false =>
    rcases z with z | z
    ·rw [z] at hx;simp at hx
    ·exact z
  split
  ·rename_i hk
   refine DM r _ x ?_
   rcases h with h | h
   ·rcases List.mem_cons.mp h with e | e
    ·cases e;exact .inr (put _ (.inl rfl))
    ·exact .inl e
   ·exact .inr (put _ (.inr h))
  ·rename_i hk
   refine DM r _ x ?_
   rcases h with h | h
   ·rcases List.mem_cons.mp h with e | e
    ·cases e;exact absurd rfl hk
    ·exact .inl e
   ·exact .inr h
theorem RW {env : Env} : ∀ (l : List (Str × NameKind)) (cs : List (Str × Addr)) (x : Str) (c : Addr),(XI env l cs).lookup x = some c → (x,NameKind.free) ∈ l ∨ cs.lookup x = some c
 | [],_,_,_,e => .inr e
 | (n,k) :: r,cs,x,c,e => by
  unfold XI at e
  split at e
  ·rename_i hk
   rcases RW r _ x c e with z | z
   ·exact .inl (List.mem_cons_of_mem _ z)
   ·rw [List.lookup_cons] at z
    split at z
    ·rename_i hx
     have hx' : x = n := by simpa using hx
     subst hx';subst hk
     exact .inl List.mem_cons_self
    ·exact .inr z
  ·rcases RW r cs x c e with z | z
   ·exact .inl (List.mem_cons_of_mem _ z)
   ·exact .inr z
theorem EJ {α : Type} : ∀ (xs ys : List (Str × α)) (x : Str),(xs ++ ys).lookup x = (match xs.lookup x with | some c => some c | none => ys.lookup x)
 | [],ys,x => rfl
 | (n,c) :: xs,ys,x => by
  rw [List.cons_append,List.lookup_cons,List.lookup_cons]
  cases x == n with
  | true => rfl
  | false => exact EJ xs ys x
theorem jf : ∀ (l : List (Str × NameKind)) {n : Nat} {acc : List (Str × Addr)},cellsFrom n l acc = cellsFrom n l [] ++ acc
 | [],_,_ => rfl
 | (x,k) :: r,n,acc => by
  unfold cellsFrom
  split
  ·rw [jf r (acc := (x,n) :: acc),jf r (acc := [(x,n)]),List.append_assoc];rfl
  ·exact jf r
theorem JH : ∀ (l : List (Str × NameKind)) (n : Nat) (acc : List (Str × Addr)) (x : Str) (c : Addr),(x,c) ∈ cellsFrom n l acc → (x,NameKind.cell) ∈ l ∨ (x,c) ∈ acc
 | [],_,_,_,_,h => .inr h
 | (y,k) :: r,n,acc,x,c,h => by
  unfold cellsFrom at h
  split at h
  ·rename_i hk
   have hk : k = .cell := by simpa using hk
   rcases JH r _ _ x c h with z | z
   ·exact .inl (List.mem_cons_of_mem _ z)
   ·rcases List.mem_cons.mp z with e | e
    ·cases e;subst hk;exact .inl List.mem_cons_self
    ·exact .inr e
  ·rcases JH r _ _ x c h with z | z
   ·exact .inl (List.mem_cons_of_mem _ z)
   ·exact .inr z
theorem jW : ∀ (l : List (Str × NameKind)) (n : Nat) (acc : List (Str × Addr)) (x : Str),((x,NameKind.cell) ∈ l ∨ ∃ c,acc.lookup x = some c) → ∃ c,(cellsFrom n l acc).lookup x = some c
 | [],_,_,_,h => by
  rcases h with h | h
  ·simp at h
  ·exact h
 | (y,k) :: r,n,acc,x,h => by
  unfold cellsFrom
  have put : (x = y ∨ ∃ c,acc.lookup x = some c) → ∃ c,((y,n) :: acc).lookup x = some c := fun z => by
   rw [List.lookup_cons]
   cases hx : x == y with
   | true => exact ⟨n,rfl⟩
   | false =>
    rcases z with z | z
    ·rw [z] at hx;simp at hx
    ·exact z
  split
  ·refine jW r _ _ x ?_
   rcases h with h | h
   ·rcases List.mem_cons.mp h with e | e
    ·cases e;exact .inr (put (.inl rfl))
    ·exact .inl e
   ·exact .inr (put (.inr h))
  ·rename_i hk
   refine jW r _ _ x ?_
   rcases h with h | h
   ·rcases List.mem_cons.mp h with e | e
    ·cases e;exact absurd rfl hk
    ·exact .inl e
   ·exact .inr h
theorem jT {M : Model} {A : Around} {E : Value → Shared → Prop} {s : Shared} {scope : Scope} {globals : Addr} {cl : List (Str × Addr)} {qual : Str} {env : Env} {Q : Env → Shared → Prop}
  (hQ : ∀ h₁ : Heap,h₁.Ns s.heap.objs.size (fun _ => none) → (∀ b o,s.heap.get? b = some o → h₁.get? b = some o) → CellsOk h₁ (s.heap.objs.size + 1) (cellsFrom (s.heap.objs.size + 1) scope.names []) → Q (newEnv scope s.heap.objs.size globals (cellsFrom (s.heap.objs.size + 1) scope.names cl) qual none .none (some env) builtinsNs) { s with heap := h₁ }) :
  wpAny M A (newFunctionEnv scope globals cl [] qual none .none (some env)) Q E s := by
 simp only [newFunctionEnv,Option.isSome_some,if_true]
 refine wpAny_bind (wpAny_alloc ?_)
 refine wpAny_bind (wpAny_layCells _ (fun name kind cells => by cases hkc : kind == NameKind.cell <;> simp [hkc]) _ _ _ _ ?_)
 have ok := cellsFrom_ok scope.names (s.heap.push { cls := .type "dict",data := .dict #[] }) (s.heap.objs.size + 1) [] ⟨fun _ _ hm => (nomatch hm),List.Pairwise.nil⟩ (by rw [Heap.size_push];exact Nat.le_refl _)
 rw [Heap.size_push] at ok
 rw [show ({ s with heap := s.heap.push { cls := .type "dict",data := .dict #[] } } : Shared).heap.objs.size = s.heap.objs.size + 1 from Heap.size_push ..]
 rw [List.forIn_nil]
 refine wpAny_bind (wpAny_pure (wpAny_pure ?_))
 exact hQ _ ((Heap.Ns.new s.heap (.type "dict")).keeps (pushCells_keeps _ _)) (fun b o e => pushCells_keeps _ _ b o (Heap.get?_push_of_some _ e)) ok
def qk (X : Cx) (N' : List Str) (scope : Scope) (s : Shared) (H : Hp) (fp : List Addr) : Cx where
 prog := X.prog
 w := X.w
 K := X.K
 mg := X.mg
 base := X.base
 A := X.A
 N := N'
 s₀ := s
 H₀ := H
 env := compEnvC scope (cellsFrom (s.heap.objs.size + 1) scope.names (XI X.env scope.names [])) s.heap.objs.size X.env
 outer := X.stack
 stack := X.stack
 ex := fp
 fn := fun x => scope.names.lookup x == some .cell
 calm := true
 pn := []
 xe := fun _ _ => False
def qai (outer inner : Scope) : Bool := (inner.kind == .function) && inner.names.all fun y =>
 (y.2 != .cell || inner.names.lookup y.1 == some .cell) && (y.2 != .local || inner.names.lookup y.1 == some .local) && (y.2 != .free || (inner.names.lookup y.1 == some .free && (outer.names.lookup y.1 == some .cell || outer.names.lookup y.1 == some .free)))
def cap {α : Type} (m : List (Option Nat)) (σ : List (Option α)) : List (Option α) := m.map fun o => match o with | some j => (σ[j]?).join | none => none
def VX (N N' : List Str) (scope : Scope) (m : List (Option Nat)) : Bool := (m.length == N'.length) && (m.zip N').all fun p => match p.1 with
 | none => true
 | some j => N[j]? == some p.2 && scope.names.lookup p.2 == some .free
theorem qb2 {α : Type} {m : List (Option Nat)} {σ : List (Option α)} {i : Nat} {v : α} (h : (cap m σ)[i]? = some (some v)) : ∃ j,m[i]? = some (some j)∧σ[j]? = some (some v) := by
 unfold cap at h
 rw [List.getElem?_map] at h
 cases e : m[i]? with
 | none => rw [e] at h;cases h
 | some o =>
  rw [e] at h
  cases o with
  | none => cases h
  | some j =>
   refine ⟨j,rfl,?_⟩
   have h' : (σ[j]?).join = some v := by simpa using h
   cases q : σ[j]? with
   | none => rw [q] at h';cases h'
   | some z => rw [q] at h';exact congrArg some h'
theorem qbQ {N N' : List Str} {scope : Scope} {m : List (Option Nat)} (h : VX N N' scope m = true) {i j : Nat} {x : Str} (e : m[i]? = some (some j)) (hx : N'[i]? = some x) : N[j]? = some x∧scope.names.lookup x = some .free := by
 unfold VX at h
 rw [Bool.and_eq_true] at h
 have hm : (some j,x) ∈ m.zip N' := List.mem_of_getElem? (i := i) (List.getElem?_zip_eq_some.mpr ⟨e,hx⟩)
 have := List.all_eq_true.mp h.2 _ hm
 simp only [Bool.and_eq_true,beq_iff_eq] at this
 exact this
theorem qhz {N N' : List Str} {scope : Scope} {m : List (Option Nat)} {α : Type} (σ : List (Option α)) (h : VX N N' scope m = true) : (cap m σ).length = N'.length := by
 unfold VX at h
 rw [Bool.and_eq_true] at h
 unfold cap
 rw [List.length_map]
 simpa using h.1
structure ScFacts (outer inner : Scope) : Prop where
 kind : inner.kind = .function
 own : ∀ y ∈ inner.names,y.2 = .cell → inner.names.lookup y.1 = some .cell
 loc : ∀ y ∈ inner.names,y.2 = .local → inner.names.lookup y.1 = some .local
 free : ∀ y ∈ inner.names,y.2 = .free → inner.names.lookup y.1 = some .free∧(outer.names.lookup y.1 = some .cell ∨ outer.names.lookup y.1 = some .free)
theorem EG {outer inner : Scope} (h : qai outer inner = true) : ScFacts outer inner := by
 unfold qai at h
 rw [Bool.and_eq_true] at h
 have ha := List.all_eq_true.mp h.2
 refine ⟨by simpa using h.1,fun y hy e => ?_,fun y hy e => ?_,fun y hy e => ?_⟩
 ·have := ha y hy
  rw [e] at this
  simpa using this
 ·have := ha y hy
  rw [e] at this
  simpa using this
 ·have := ha y hy
  rw [e] at this
  simpa using this
theorem ZC {scope : Scope} {env : Env} {x : Str} {k : NameKind} (h : (relabel scope env).names.lookup x = some k) : scope.names.lookup x = some k ∨ (k = .cell∧scope.names.lookup x = some .free) := by
 have key : ∀ (l : List (Str × NameKind)),(l.map fun (n,k) => if (k == NameKind.free && env.scope.kind == .function && env.kindOf n == some .cell) then (n,NameKind.cell) else (n,k)).lookup x = some k → l.lookup x = some k ∨ (k = .cell∧l.lookup x = some .free) := by
  intro l
  induction l with
  | nil => intro h;simp at h
  | cons y r ih =>
   intro h
   obtain ⟨n,j⟩ := y
   rw [List.map_cons] at h
   dsimp only at h
   by_cases hc : (j == NameKind.free && env.scope.kind == .function && env.kindOf n == some .cell) = true
   ·rw [if_pos hc,List.lookup_cons] at h
    rw [List.lookup_cons]
    cases hx : x == n with
    | true =>
     rw [hx] at h
     have hk : NameKind.cell = k := by simpa using h
     have hj : j = .free := by simp only [Bool.and_eq_true,beq_iff_eq] at hc;exact hc.1.1
     exact .inr ⟨hk.symm,by rw [hj]⟩
    | false => rw [hx] at h;exact ih h
   ·rw [if_neg hc,List.lookup_cons] at h
    rw [List.lookup_cons]
    cases hx : x == n with
    | true => rw [hx] at h;exact .inl h
    | false => rw [hx] at h;exact ih h
 exact key scope.names h
def PF (X : Cx) (ifs : List Expr) (t : TT) : Prop :=
 ∀ (pins : List (Addr × Obj)) (s : Shared) (σ : L2.St) (H : Hp) (Q : Bool → Hp → Prop),Inv X pins σ H s → t σ H Q →
  wpAny (model X.prog X.w) X.A (forIn ifs true fun c r => if r = true then do let ok ← isTrue c X.env (eval c X.env);pure (ForInStep.yield ok) else pure (ForInStep.yield r)) (TP X pins σ Q) X.xe s
theorem ql4 {X : Cx} : PF X [] (fun _ H Q => Q true H) := fun _ _ _ H _ I h => wpAny_tests_nil ⟨H,I,h⟩
theorem qk1 {X : Cx} {c : Expr} {t : TT} (h : PT X c t) : PF X [c] t := fun pins s σ H Q I q => wpAny_tests_one (h pins s σ H Q I q)
section
variable {X : Cx} {pins : List (Addr × Obj)} {σ : L2.St} {H : Hp} {s : Shared}
theorem R9 {N' : List Str} {scope : Scope} {fp : List Addr} {m : List (Option Nat)} {h1 : Heap} {mm : Str → Option Value} (hc : X.calm = true) (I : Inv X pins σ H s) (sc : ScFacts X.env.scope scope) (hcap : VX X.N N' scope m = true)
  (hfp : ∀ b ∈ fp,TK X pins H b) (hob : ∀ b ∈ fp,∃ o,s.heap.get? b = some o) (hns : h1.Ns s.heap.objs.size mm) (hk : ∀ b o,s.heap.get? b = some o → h1.get? b = some o) (hown : CellsOk h1 (s.heap.objs.size + 1) (cellsFrom (s.heap.objs.size + 1) scope.names [])) :
  Inv (qk X N' scope s H fp) [] (cap m σ) H { s with heap := h1 } := by
 have hcl : ∀ y ∈ scope.names,y.2 = .free → ∃ c,X.env.cells.lookup y.1 = some c := fun y hy e => by
  rcases (sc.free y hy e).2 with z | z
  ·exact I.ok.has y.1 (.inl z)
  ·exact I.ok.has y.1 (.inr z)
 have cl : ∀ x c,(XI X.env scope.names []).lookup x = some c → X.env.cells.lookup x = some c := fun x c e => VL scope.names [] x c hcl (fun _ _ z => by simp at z) e
 have clt : ∀ x c,(XI X.env scope.names []).lookup x = some c → c < s.heap.objs.size := fun x c e => by
  obtain ⟨v,q⟩ := I.cell x c (cl x c e)
  exact q.lt
 -- a cell of the block: its own,or one from around
 have cs : ∀ x c,(cellsFrom (s.heap.objs.size + 1) scope.names (XI X.env scope.names [])).lookup x = some c → ((x,c) ∈ cellsFrom (s.heap.objs.size + 1) scope.names []∧s.heap.objs.size + 1 ≤ c∧h1.IsCell c none) ∨ (XI X.env scope.names []).lookup x = some c := fun x c e => by
  rw [jf,EJ] at e
  cases q : (cellsFrom (s.heap.objs.size + 1) scope.names []).lookup x with
  | none => rw [q] at e;exact .inr e
  | some d =>
   rw [q] at e
   cases e
   have mem := PySem.mem_of_lookup q
   exact .inl ⟨mem,(hown.empty x _ mem).2,(hown.empty x _ mem).1⟩
 have fpne : ∀ b ∈ fp,b ≠ s.heap.objs.size := fun b hb => let ⟨o,e⟩ := hob b hb;Nat.ne_of_lt (Heap.lt_size e)
 refine ⟨⟨I.ok.mod,sc.kind,I.ok.glob,I.ok.blt,Nat.le_refl _,fun x y c e1 e2 => ?_,fun x hx => ?_,fun x c hf e => ?_,fun _ => I.ok.hd hc,I.ok.frames,.inl rfl,fun b hb => ⟨fpne b hb,fun x c e => ?_⟩,I.bs,Nat.le_trans I.ok.bsz I.sz,fun b o e hb => ?_,fun b hb z => ?_,I.stack,I.stkFree⟩,
  rfl,I.bare,Un.kept hk,⟨mm,hns,fun i x v e1 e2 e3 => ?_⟩,fun x c e => ?_,I.fresh,fun x c e => ?_,fun p hp => absurd (show p ∈ ([] : List (Addr × Obj)) from hp) (by simp),I.hok.kept hk,qhz σ hcap⟩
 ·rcases cs x c e1 with ⟨m1,l1,_⟩ | z1 <;> rcases cs y c e2 with ⟨m2,l2,_⟩ | z2
  ·exact PySem.name_of_addr hown.apart m1 m2
  ·exact absurd (clt y c z2) (Nat.not_lt.mpr (Nat.le_trans (Nat.le_succ _) l1))
  ·exact absurd (clt x c z1) (Nat.not_lt.mpr (Nat.le_trans (Nat.le_succ _) l2))
  ·exact I.ok.inj x y c (cl x c z1) (cl y c z2)
 ·have hx : (relabel scope X.env).names.lookup x = some .cell ∨ (relabel scope X.env).names.lookup x = some .free := hx
  have hf : scope.names.lookup x = some .cell ∨ scope.names.lookup x = some .free := by
   rcases hx with z | z
   ·rcases ZC z with q | ⟨_,q⟩
    ·exact .inl q
    ·exact .inr q
   ·rcases ZC z with q | ⟨q,_⟩
    ·exact .inr q
    ·cases q
  show ∃ c,(cellsFrom (s.heap.objs.size + 1) scope.names (XI X.env scope.names [])).lookup x = some c
  rcases hf with hf | hf
  ·exact jW scope.names _ _ x (.inl (PySem.mem_of_lookup hf))
  ·exact jW scope.names _ _ x (.inr (DM scope.names [] x (.inl (PySem.mem_of_lookup hf))))
 ·have hf : scope.names.lookup x = some .cell := by simpa [qk] using hf
  rcases cs x c e with ⟨_,l1,_⟩ | z1
  ·exact Nat.le_trans (Nat.le_succ _) l1
  ·rcases RW scope.names [] x c z1 with q | q
   ·rw [(sc.free _ q rfl).1] at hf;cases hf
   ·simp at q
 ·rcases cs x c e with ⟨_,l1,_⟩ | z1
  ·obtain ⟨o,eo⟩ := hob b hb
   exact Nat.ne_of_gt (Nat.lt_of_lt_of_le (Heap.lt_size eo) (Nat.le_trans (Nat.le_succ _) l1))
  ·exact (hfp b hb).2.2.2.2.1 x c (cl x c z1)
 ·rcases (hfp b hb).2.2.2.1 with z | z
  ·exact I.ok.noex b o e z
  ·exact absurd (Nat.lt_of_lt_of_le (Heap.lt_size e) (Nat.le_trans I.ok.bsz z)) (Nat.lt_irrefl _)
 ·rcases List.mem_cons.mp (I.stkSub b z) with q | q
  ·exact (hfp b hb).2.1 q
  ·exact (hfp b hb).2.2.1 q
 ·obtain ⟨j,ej,es⟩ := qb2 e2
  obtain ⟨hN,hfr⟩ := qbQ hcap ej e1
  have mem := PySem.mem_of_lookup hfr
  have ho := (sc.free _ mem rfl).2
  obtain ⟨m0,hn0,hl0⟩ := I.loc
  obtain ⟨u,ru,lk⟩ := hl0 j x v hN es (ho.elim (fun z => .inr (.inl z)) fun z => .inr (.inr z))
  refine ⟨u,ru,.inr ⟨?_,?_⟩⟩
  ·rcases e3 with z | z | z
   ·rcases ZC z with q | ⟨q,_⟩
    ·rw [hfr] at q;cases q
    ·cases q
   ·exact .inl z
   ·exact .inr z
  ·rcases lk with ⟨z,_⟩ | ⟨_,c,hc',hcell⟩
   ·have z : X.env.scope.names.lookup x = some .local := z
    rcases ho with q | q <;> (rw [z] at q;cases q)
   ·obtain ⟨c',hc2⟩ := DM (env := X.env) scope.names [] x (.inl mem)
    have e := cl x c' hc2
    rw [hc'] at e
    cases e
    obtain ⟨o,eo,d⟩ := hcell
    refine ⟨c,?_,o,hk c o eo,d⟩
    show (cellsFrom (s.heap.objs.size + 1) scope.names (XI X.env scope.names [])).lookup x = some c
    rw [jf,EJ]
    cases q : (cellsFrom (s.heap.objs.size + 1) scope.names []).lookup x with
    | none => exact hc2
    | some d =>
     rcases JH scope.names _ [] x d (PySem.mem_of_lookup q) with z | z
     ·rw [sc.own _ z rfl] at hfr;cases hfr
     ·simp at z
 ·rcases cs x c e with ⟨_,_,z⟩ | z1
  ·exact ⟨none,z⟩
  ·obtain ⟨v,o,eo,d⟩ := I.cell x c (cl x c z1)
   exact ⟨v,o,hk c o eo,d⟩
 ·rcases cs x c e with ⟨_,l1,_⟩ | z1
  ·exact I.hok.fresh (Nat.le_trans (Nat.le_succ _) l1)
  ·exact I.freeC x c (cl x c z1)
theorem EA {N' : List Str} {scope : Scope} {fp : List Addr} {pins' : List (Addr × Obj)} {σ' : L2.St} {H' : Hp} {s' : Shared} {h2 : Heap} (I : Inv X pins σ H s) (hfp : ∀ b ∈ fp,TK X pins H b) (J : Inv (qk X N' scope s H fp) pins' σ' H' s')
  (sb : Heap.SameBut s.heap.objs.size s'.heap h2) : Inv X pins σ H' { s' with heap := h2 } := by
 have ne : ∀ b o,s.heap.get? b = some o → b ≠ s.heap.objs.size := fun b o e => Nat.ne_of_lt (Heap.lt_size e)
 have g : ∀ b,b ≠ s.heap.objs.size → h2.get? b = s'.heap.get? b := fun b hb => sb.2 b hb
 have hn : H' s.heap.objs.size = none := J.free
 have u : Un (frs X.stack) fp H H' s.heap s'.heap := J.base
 refine I.call' (s' := { s' with heap := h2 }) J.os ⟨fun b o e n hb hx => ?_,fun b o e n hb hx => ?_,u.free,fun b o e hx => ?_,u.tups,u.frzs,u.tbls⟩ (fun a o e => ?_) J.bare fun b hb => ⟨(hfp b hb).2.2.2.1,(hfp b hb).2.1,(hfp b hb).2.2.2.2.1,(hfp b hb).2.2.2.2.2⟩
 ·show h2.get? b = _
  rw [g b (ne b o e)];exact u.keep b o e n hb hx
 ·show ∃ sl,h2.get? b = _
  rw [g b (ne b o e)];exact u.slot b o e n hb hx
 ·show ∃ o',h2.get? b = _
  rw [g b (ne b o e)];exact u.there b o e hx
 ·refine (J.hok a o e).stay (fun b v hb q => ?_) (fun _ q => q) fun _ _ q => q
  have hb' : b ≠ s.heap.objs.size := by
   intro z
   subst z
   rcases hb with z | z
   ·rw [← z] at e;rw [hn] at e;cases e
   ·rw [hn] at z;cases z
  rw [g b hb'];exact q
end
end L3
namespace L3
open PySem PySem.Spec PyProof.Rows L2
def tLC (wi : TI) (g : TG) (tif : TT) (te : TE) (m : List (Option Nat)) : TE := fun σ H Q => wi σ H fun J H1 => ∀ D,H1 D = none →
 ∃ W : Nat → Nat → L2.St → Hp → Prop,(∃ n,W 0 n (cap m σ) (upd H1 D (.lst [])))∧∀ i n σ H,W i n σ H →
  (J.stop i H∧Q (.ref D) H) ∨ (J.go i H∧∀ x H',J.yld i H x H' → g x σ H' fun σ2 H2 => tif σ2 H2 fun k H3 =>
   if k = true then te σ2 H3 fun y H4 => ∃ zs,H4 D = some (.lst zs)∧zs.length < sizeLine∧∃ n',n' < n∧W (i + 1) n' σ2 (upd H4 D (.lst (zs ++ [y])))
   else ∃ n',n' < n∧W (i + 1) n' σ2 H3)
section
variable {X : Cx}
theorem qm5 {elt tg iter : Expr} {ifs : List Expr} {scope : Scope} {pos : Pos} {N' : List Str} {m : List (Option Nat)} {wi : TI} {g : TG} {tif : TT} {te : TE} (hc : X.calm = true) (hi : PI X tg iter wi)
  (hg : ∀ s H fp,PG (qk X N' scope s H fp) tg g) (hf : ∀ s H fp,PF (qk X N' scope s H fp) ifs tif) (he : ∀ s H fp,PE (qk X N' scope s H fp) elt te)
  (hsc : qai X.env.scope scope = true) (hcap : VX X.N N' scope m = true) (hs : ∀ x,foldedSetIterable iter X.env x = pure x := by intro _;rfl) :
  PE X (.ListComp elt [⟨tg,iter,ifs,0⟩] scope pos) (tLC wi g tif te m) := by
 intro pins s σ H Q I h
 have sc := EG hsc
 have hcl : ∀ y ∈ scope.names,y.2 = .free → ∃ c,X.env.cells.lookup y.1 = some c := fun y hy e => by
  rcases (sc.free y hy e).2 with z | z
  ·exact I.ok.has y.1 (.inl z)
  ·exact I.ok.has y.1 (.inr z)
 rw [eval_ListComp]
 refine wpAny_comprehension_free (use := none) (g := ⟨tg,iter,ifs,0⟩) (gs := []) rfl hs (JC hcl) sc.kind sc.loc ?_
 show wpAny _ _ (eval iter X.env) _ _ s
 refine thn (hi pins s σ H _ I h) fun v s1 h1 => thn h1 fun itv s2 h2 => ?_
 obtain ⟨it,fp,tn,J,H2,rfl,I2,T,st2,f2,hW⟩ := h2
 refine wpAny_newObj_type ?_
 have hD : H2 s2.heap.objs.size = none := I2.fresh
 obtain ⟨W,⟨n0,w0⟩,turn⟩ := hW _ hD
 generalize hDe : s2.heap.objs.size = D at *
 have I3 : Inv X pins σ (upd H2 D (.lst [])) { s2 with heap := s2.heap.push { cls := .type "list",dict := none,data := .seq ([] : List Value).toArray } } := by
  subst hDe
  exact I2.laid (t' := s2.toks) (fun b u e => Heap.get?_push_of_some _ e) (Nat.le_refl _) ⟨Nat.zero_le _,[],0,.nil,Heap.get?_push_size _ rfl⟩
 have ob2 := T.obj 0 _ st2
 have ob3 : ∀ b ∈ fp,∃ o,(s2.heap.push { cls := .type "list",dict := none,data := .seq ([] : List Value).toArray }).get? b = some o := fun b hb => let ⟨o,e,_⟩ := ob2 b hb;⟨o,Heap.get?_push_of_some _ e⟩
 have f3 : ∀ b ∈ fp,TK X pins (upd H2 D (.lst [])) b := fun b hb => by
  obtain ⟨o,e,_⟩ := ob2 b hb
  have : b ≠ D := by rw [← hDe];exact Nat.ne_of_lt (Heap.lt_size e)
  exact ⟨by rw [qC this];exact (f2 b hb).1,(f2 b hb).2⟩
 have k23 : ∀ b o,s2.heap.get? b = some o → (s2.heap.push { cls := .type "list",dict := none,data := .seq ([] : List Value).toArray }).get? b = some o := fun b o e => Heap.get?_push_of_some _ e
 generalize hH3 : upd H2 D (.lst []) = H3 at *
 generalize hs3 : ({ s2 with heap := s2.heap.push { cls := .type "list",dict := none,data := .seq ([] : List Value).toArray } } : Shared) = s3 at *
 have ob3 : ∀ b ∈ fp,∃ o,s3.heap.get? b = some o := by rw [← hs3];exact ob3
 have k23 : ∀ b o,s2.heap.get? b = some o → s3.heap.get? b = some o := by rw [← hs3];exact k23
 refine jT fun h₁ hns hk hown => ?_
 have I4 : Inv (qk X N' scope s3 H3 fp) [] (cap m σ) H3 { s3 with heap := h₁ } := R9 hc I3 sc hcap f3 ob3 hns hk hown
 have tn4 : tn 0 h₁ := T.keep _ _ _ st2 fun b hb o e => hk b o (k23 b o e)
 have fr4 : ∀ b ∈ fp,H3 b = none := fun b hb => (f3 b hb).1
 have stat : ∀ {H' : Hp},(∀ b ∈ fp,H' b = none) → ∀ b ∈ fp,TK (qk X N' scope s3 H3 fp) [] H' b := fun hn b hb => by
  refine ⟨hn b hb,I4.ok.exf b hb |>.1,I4.ok.exfs b hb,.inl hb,fun x c e => (I4.ok.exf b hb).2 x c e,fun p hp => absurd (show p ∈ ([] : List (Addr × Obj)) from hp) (by simp)⟩
 show codeAny (model X.prog X.w) X.A (.compStart (.ListComp elt [⟨tg,iter,ifs,0⟩] scope pos) 0 (.ref it) (.ref D) (qk X N' scope s3 H3 fp).env) (compPost (model X.prog X.w) X.A X.xe none (EP X pins σ Q) (.ref D) s3.heap.objs.size) { s3 with heap := h₁ }
 have loop : codeAny (model X.prog X.w) X.A (.compLoop (.ListComp elt [⟨tg,iter,ifs,0⟩] scope pos) 0 (.ref it) (.ref D) (qk X N' scope s3 H3 fp).env) (compPost (model X.prog X.w) X.A X.xe none (EP X pins σ Q) (.ref D) s3.heap.objs.size) { s3 with heap := h₁ } := by
  refine codeAny_loop rfl (fun n s' => ∃ i σ' H',Inv (qk X N' scope s3 H3 fp) [] σ' H' s'∧tn i s'.heap∧(∀ b ∈ fp,H' b = none)∧W i n σ' H') (fun n s' hI => ?_) n0 ⟨0,cap m σ,H3,I4,tn4,fr4,w0⟩
  show wpAny _ X.A ((compTurn (.ListComp elt [⟨tg,iter,ifs,0⟩] scope pos) 0 (.ref it) (.ref D) (qk X N' scope s3 H3 fp).env).onRaise (fun x => do noteFrame x (qk X N' scope s3 H3 fp).env;theTreesLotGoes x)) _ _ s'
  refine wpAny_noted ?_
  rw [compTurn_list]
  refine wpAny_bind (wpAny_standAt (wpAny_bind ?_))
  obtain ⟨i,σ5,H5,I5,st5,fr5,w5⟩ := hI
  rcases turn i n σ5 H5 w5 with ⟨stop,q⟩ | ⟨go,step⟩
  ·refine thn (T.done (qk X N' scope s3 H3 fp) rfl rfl rfl rfl i [] s' σ5 H5 _ I5 (stat fr5) st5 stop) fun r s6 ⟨hr,I6⟩ => ?_
   subst hr
   refine wpAny_pure ?_
   obtain ⟨mm,hn6,_⟩ := I6.loc
   exact ⟨mm,hn6,fun h' sb => ⟨.ref D,H5,EA I3 f3 I6 sb,rfl,q⟩⟩
  ·refine thn (T.item (qk X N' scope s3 H3 fp) rfl rfl rfl rfl i [] s' σ5 H5 _ I5 (stat fr5) st5 go) fun r s6 ⟨u,hr,h6⟩ => ?_
   subst hr
   refine wpAny_bind (thn h6 fun _ s7 ⟨x,H7,I7,r7,y7,st7,fr7⟩ => ?_)
   have I7' := I7.pinned (stat fr7) (T.obj _ _ st7)
   have again : ∀ {σ8 : L2.St} {H8 : Hp} {s8 : Shared},Inv (qk X N' scope s3 H3 fp) ([] ++ E6 fp s7.heap) σ8 H8 s8 → (∃ n',n' < n∧W (i + 1) n' σ8 H8) →
     ∃ m',m' < n∧∃ i σ' H',Inv (qk X N' scope s3 H3 fp) [] σ' H' s8∧tn i s8.heap∧(∀ b ∈ fp,H' b = none)∧W i m' σ' H' := fun {σ8 H8 s8} I8 ⟨n',hn,w8⟩ => by
    refine ⟨n',hn,i + 1,σ8,H8,I8.unpinned,T.keep _ _ _ st7 fun b hb o e => (I8.pin (b,o) (List.mem_append_right _ (List.mem_append_right _ (zt hb e)))).1,fun b hb => ?_,w8⟩
    obtain ⟨o,e,d⟩ := T.obj _ _ st7 b hb
    exact (I8.pin (b,o) (List.mem_append_right _ (List.mem_append_right _ (zt hb e)))).2.1
   refine wpAny_bind (wpAny_mono (hg s3 H3 fp _ s7 σ5 H7 x u _ I7' r7 (step x H7 y7)) (fun _ s8 ⟨σ8,H8,I8,q8⟩ => ?_) fun _ _ z => z.elim)
   refine wpAny_bind (wpAny_mono (hf s3 H3 fp _ s8 σ8 H8 _ I8 q8) (fun k s9 ⟨H9,I9,q9⟩ => ?_) fun _ _ z => z.elim)
   cases k with
   | false =>
    rw [if_neg Bool.false_ne_true] at q9
    exact wpAny_pure ⟨rfl,again I9 q9⟩
   | true =>
    rw [if_pos rfl] at q9
    refine wpAny_bind (wpAny_bind (wpAny_mono (he s3 H3 fp _ s9 σ8 H9 _ I9 q9) (fun w s10 ⟨y,H10,I10,r10,q10⟩ => ?_) fun _ _ z => z.elim))
    obtain ⟨zs,hz,hl,q10⟩ := q10
    refine wpAny_bind (wpAny_mono (UW (X := qk X N' scope s3 H3 fp) _ s10 σ8 H10 (.ref D) [y] (.ref D) [w] (fun _ H11 => H11 = upd H10 D (.lst (zs ++ [y]))) I10 rfl (.cons r10 .nil) ⟨D,zs,y,rfl,rfl,hz,hl,rfl⟩) (fun _ s11 ⟨_,H11,I11,_,e11⟩ => ?_) fun _ _ z => z.elim)
    subst e11
    exact wpAny_pure (wpAny_pure ⟨rfl,again I11 q10⟩)
 exact codeAny_compStart_list loop (T.self X.A 0 _ _ _ tn4 loop)
end
end L3
namespace L3
open PySem PySem.Spec PyProof.Rows L2
section
variable {K : PySem.W.Frag} {G G' : Gp} {H H' : Hp}
theorem qgW {D : Addr} {o : HO} {ws : List V} (hD : H D = some (.lst ws)) {a : Addr} {vs : List V} (h : SqT K H a vs) : SqT K (upd H D o) a vs := by
 rcases h with h | h
 ·refine .inl ?_
  rcases h with h | ⟨ob,h⟩
  ·have : a ≠ D := by intro e;subst e;rw [hD] at h;cases h
   exact .inl (by rw [qC this];exact h)
  ·have : a ≠ D := by intro e;subst e;rw [hD] at h;cases h
   exact .inr ⟨ob,by rw [qC this];exact h⟩
 ·exact .inr h
mutual
theorem Rp.wrD {D : Addr} {o : HO} {ws : List V} (hD : H D = some (.lst ws)) : ∀ {x : T} {v : V},Rp K H x v → Rp K (upd H D o) x v
 | _,_,.non => .non
 | _,_,.bl b => .bl b
 | _,_,.int i => .int i
 | _,_,.str x => .str x
 | _,_,.ref a => .ref a
 | _,_,.tup h hs => .tup (qgW hD h) (Rps.wrD hD hs)
theorem Rps.wrD {D : Addr} {o : HO} {ws : List V} (hD : H D = some (.lst ws)) : ∀ {x : List T} {v : List V},Rps K H x v → Rps K (upd H D o) x v
 | _,_,.nil => .nil
 | _,_,.cons a b => .cons (Rp.wrD hD a) (Rps.wrD hD b)
end
theorem HR.wrD {D : Addr} {o : HO} {ws : List V} (hr : HR K G H) (hD : H D = some (.lst ws)) (g : G D = none) : HR K G (upd H D o) := fun a ob e => by
 have ha : a ≠ D := by intro z;subst z;rw [g] at e;cases e
 have q := hr a ob e
 cases ob with
 | lst xs => obtain ⟨vs,h1,h2⟩ := q;exact ⟨vs,by rw [qC ha];exact h1,h2.wrD hD⟩
 | frz xs => obtain ⟨vs,⟨o1,h1⟩,h2⟩ := q;exact ⟨vs,⟨o1,by rw [qC ha];exact h1⟩,h2.wrD hD⟩
theorem Rel.wrD {D : Addr} {o : HO} {ws : List V} {τ : St3} {σ : L2.St} (r : Rel K τ G σ H) (hD : H D = some (.lst ws)) (g : G D = none) : Rel K τ G σ (upd H D o) :=
 ⟨r.hp.wrD hD g,r.len,fun i t e => let ⟨v,h1,h2⟩ := r.st i t e;⟨v,h1,h2.wrD hD⟩⟩
theorem Kp.wrD {D : Addr} {o : HO} (k : Kp G H G' H') (hD : H D = none) : Kp G H G' (upd H' D o) := fun a ob h g => by
 obtain ⟨h1,h2⟩ := k a ob h g
 exact ⟨by rw [qC (qw h hD)];exact h1,h2⟩
theorem qdi {α : Type} {m : List (Option Nat)} {σ : List (Option α)} {i j : Nat} (h : m[i]? = some (some j)) : (cap m σ)[i]? = some ((σ[j]?).join) := by
 unfold cap;rw [List.getElem?_map,h];rfl
theorem Rel.cap {τ : St3} {σ : L2.St} (r : Rel K τ G σ H) (m : List (Option Nat)) : Rel K (cap m τ) G (L3.cap m σ) H := by
 refine ⟨r.hp,by simp [L3.cap],fun i t e => ?_⟩
 obtain ⟨j,e1,e2⟩ := qb2 e
 obtain ⟨v,h1,h2⟩ := r.st j t e2
 exact ⟨v,by rw [qdi e1,h1];rfl,h2⟩
end
def ND (stay : Gp → Prop) (g : TG3) (tif : TT3) (te : TE3) (q : Q3) : List T → List T → St3 → Gp → Prop
 | [],ys,_,G => stay G∧∀ p,G p = none → q (.ref p) (gu G p (.lst ys))
 | x :: r,ys,τ,G => stay G∧g x τ G fun τ2 G2 => tif τ2 G2 fun k G3 => if k = true then te τ2 G3 fun y G4 => ys.length < sizeLine∧ND stay g tif te q r (ys ++ [y]) τ2 G4 else ND stay g tif te q r ys τ2 G3
def lc3 (wi : TI3) (g : TG3) (tif : TT3) (te : TE3) (m : List (Option Nat)) : TE3 := fun τ G q => wi τ G fun items stay G1 => ND stay g tif te q items [] (cap m τ) G1
abbrev F3 (X : Cx) (ifs : List Expr) (t : TT3) : Prop := PF X ifs (lT X.K t)
def tt3 : TT3 := fun _ G q => q true G
theorem qoG {X : Cx} : F3 X [] tt3 := fun pins s σ H Q I ⟨τ,G,q,rl,h,af⟩ => ql4 pins s σ H Q I (af true G h H rl.hp Kp.refl)
theorem qm0 {X : Cx} {c : Expr} {t : TT3} (h : C3 X c t) : F3 X [c] t := qk1 h
section
variable {X : Cx}
theorem qp1 {elt tg iter : Expr} {ifs : List Expr} {scope : Scope} {pos : Pos} (N' : List Str) (m : List (Option Nat)) {wi : TI3} {g : TG3} {tif : TT3} {te : TE3} (hc : X.calm = true) (hi : I3 X tg iter wi)
  (hg : ∀ s H fp,G3 (qk X N' scope s H fp) tg g) (hf : ∀ s H fp,F3 (qk X N' scope s H fp) ifs tif) (he : ∀ s H fp,E3 (qk X N' scope s H fp) elt te)
  (hsc : qai X.env.scope scope = true) (hcap : VX X.N N' scope m = true) (hs : ∀ x,foldedSetIterable iter X.env x = pure x := by intro _;rfl) :
  E3 X (.ListComp elt [⟨tg,iter,ifs,0⟩] scope pos) (lc3 wi g tif te m) :=
 WP (qm5 (g := lG X.K g) (tif := lT X.K tif) (te := lE X.K te) hc hi hg hf he hsc hcap hs) fun σ H Q ⟨τ,G,q,rl,h,af⟩ => by
  refine ⟨τ,G,_,rl,h,fun items stay G1 h1 J H1 hr1 k1 ok D hD => ?_⟩
  have gD : G1 D = none := hr1.free hD
  refine ⟨fun i n σ' H' => n = items.length - i∧i ≤ items.length∧∃ τ' G' ys vs,Rel X.K τ' G' σ' H'∧Kp G1 H1 G' H'∧H' D = some (.lst vs)∧Rps X.K H' ys vs∧G' D = none∧ND stay g tif te q (items.drop i) ys τ' G',
   ⟨_,rfl,Nat.zero_le _,cap m τ,G1,[],[],((rl.next hr1 k1).cap m).next (hr1.laid hD) (Kp.laid hD),Kp.laid hD,zd,.nil,gD,by simpa using h1⟩,?_⟩
  rintro i n σ' H' ⟨rfl,hi,τ',G',ys,vs,rl',k',hDl,rys,gD',h'⟩
  by_cases hlt : i < items.length
  ·rw [List.drop_eq_getElem_cons hlt] at h'
   obtain ⟨hst,h'⟩ := h'
   obtain ⟨go,yld,_⟩ := ok G' H' rl'.hp k' hst
   have hx : items[i]? = some items[i] := List.getElem?_eq_getElem hlt
   refine .inr ⟨go i _ hx,fun v H2 y => ?_⟩
   obtain ⟨rv,hr2,k2⟩ := yld i _ v H2 hx y
   have nxt : ∀ {τ4 : St3} {G4 : Gp} {σ4 : L2.St} {H4 : Hp} {ys4 : List T} {vs4 : List V},Rel X.K τ4 G4 σ4 H4 → Kp G1 H1 G4 H4 → H4 D = some (.lst vs4) → Rps X.K H4 ys4 vs4 → G4 D = none → ND stay g tif te q (items.drop (i + 1)) ys4 τ4 G4 →
     ∃ n',n' < items.length - i∧(n' = items.length - (i + 1)∧i + 1 ≤ items.length∧∃ τ' G' ys vs,Rel X.K τ' G' σ4 H4∧Kp G1 H1 G' H4∧H4 D = some (.lst vs)∧Rps X.K H4 ys vs∧G' D = none∧ND stay g tif te q (items.drop (i + 1)) ys τ' G') :=
    fun {τ4 G4 σ4 H4 ys4 vs4} a b c d e f => ⟨_,by omega,rfl,hlt,τ4,G4,ys4,vs4,a,b,c,d,e,f⟩
   refine ⟨_,τ',G',_,rv,rl'.next hr2 k2,h',fun τ3 G3 h3 σ3 H3 rl3 k3 => ⟨τ3,G3,_,rl3,h3,fun k G4 h4 H4 hr4 k4 => ?_⟩⟩
   have kk := (k2.trans k3).trans k4
   obtain ⟨hD4,gD4⟩ := kk D _ hDl gD'
   have rys4 := rys.keep rl'.hp kk
   cases k with
   | false =>
    rw [if_neg Bool.false_ne_true] at h4
    refine qmJ ?_
    exact nxt (rl3.next hr4 k4) (k'.trans kk) hD4 rys4 gD4 h4
   | true =>
    rw [if_pos rfl] at h4
    refine qmH ?_
    refine ⟨τ3,G4,_,rl3.next hr4 k4,h4,fun z G5 h5 w H5 rw5 hr5 k5 => ?_⟩
    obtain ⟨hD5,gD5⟩ := k5 D _ hD4 gD4
    have rys5 := rys4.keep hr4 k5
    exact ⟨vs,hD5,by rw [← rys.length];exact h5.1,nxt (((rl3.next hr4 k4).next hr5 k5).wrD hD5 gD5) (((k'.trans kk).trans k5).wrD hD) zd ((rys5.append (.cons rw5 .nil)).wrD hD5) gD5 h5.2⟩
  ·have e : i = items.length := by omega
   subst e
   rw [List.drop_length] at h'
   obtain ⟨_,_,stop⟩ := ok G' H' rl'.hp k' h'.1
   refine .inl ⟨stop,af _ _ (h'.2 D gD') _ H' (.ref D) (fun a o e => ?_) fun a o e ga => ?_⟩
   ·by_cases ha : a = D
    ·subst ha
     rw [qE] at e;cases e
     exact ⟨vs,hDl,rys⟩
    ·rw [jR ha] at e
     exact rl'.hp a o e
   ·obtain ⟨e1,g1⟩ := k1 a o e ga
    obtain ⟨e2,g2⟩ := k' a o e1 g1
    exact ⟨e2,by rw [jR (qw e1 hD)];exact g2⟩
end
end L3
namespace L3
open PySem PySem.Spec PyProof.Rows L2
structure Src (P : Program) (w : World) (it c : Addr) (St : Nat → Heap → Prop) (Has : Array Value → Heap → Prop) : Prop where
 obj : ∀ {k h},St k h → ∃ o,h.get? it = some o∧∀ v,o.data ≠ .cell v
 keep : ∀ {k h h'},St k h → (∀ o,h.get? it = some o → h'.get? it = some o) → St k h'
 hkeep : ∀ {xs h h'},Has xs h → (∀ o,h.get? c = some o → h'.get? c = some o) → Has xs h'
 item : ∀ {A : Around} {s : Shared} {k : Nat} {xs : Array Value} {x : Value} {Q : Value → Shared → Prop} {E : Value → Shared → Prop},St k s.heap → Has xs s.heap → xs[k]? = some x →
  (∀ h',St (k + 1) h' → Heap.SameBut it s.heap h' → Q x { s with heap := h' }) → wpAny (model P w) A (Builtin.SmallTypes.nextOf (.ref it)) Q E s
 done : ∀ {A : Around} {s : Shared} {k : Nat} {xs : Array Value} {Q : Value → Shared → Prop} {E : Value → Shared → Prop},A.handled = none → St k s.heap → Has xs s.heap → xs[k]? = none →
  (∀ h' e,Heap.ExtBut it s.heap h' → (∃ o,h'.get? e = some o∧o.cls = .type "StopIteration") → E (.ref e) { s with heap := h' }) → wpAny (model P w) A (Builtin.SmallTypes.nextOf (.ref it)) Q E s
theorem qdD {P : Program} {w : World} (it l : Addr) : Src P w it l (fun k h => h.IsListIter it l k) (fun xs h => h.IsList l xs) where
 obj := fun st => let ⟨o,e,_,d⟩ := st;⟨o,e,fun v z => by rw [d] at z;cases z⟩
 keep := fun st k => st.at fun o e => k o e
 hkeep := fun st k => st.at fun o e => k o e
 item := fun st hl hx hQ => wpAny_nextOf_list_item st hl hx hQ
 done := fun hh st hl hx hE => wpAny_nextOf_list_end hh st hl hx hE
theorem NS {P : Program} {w : World} {A : Around} {s : Shared} {it t : Addr} {i : Nat} {its : Array Value} {x : Value} {Q : Value → Shared → Prop} {E : Value → Shared → Prop} (hit : s.heap.IsTupleIter it t i) (ht : s.heap.IsTuple t its) (hx : its[i]? = some x)
  (hQ : ∀ h',h'.IsTupleIter it t (i + 1) → Heap.SameBut it s.heap h' → Q x { s with heap := h' }) : wpAny (model P w) A (Builtin.SmallTypes.nextOf (.ref it)) Q E s := by
 obtain ⟨o1,e1,c1,d1⟩ := id hit
 obtain ⟨o2,e2,_,n2,d2⟩ := ht
 unfold Builtin.SmallTypes.nextOf
 refine wpAny_bind (wpAny_callSpecial?_slot (name := Str.ofString "__next__") hit.typeIs F.slot_tuple_iterator_next (wpAny_call_entry F.slot_tuple_iterator_next hit.typeIs F.entry_tuple_iterator_next ?_ (F.args_tuple_iterator_next_1 _)))
 refine wpAny_bind (m := field (.ref it) 0) (wpAny_field e1 d1 (x := .ref t) rfl ?_)
 rw [if_neg (show ¬ ((Value.ref t == Value.none) = true) by exact Bool.false_ne_true)]
 refine wpAny_bind (m := field (.ref it) 1) (wpAny_field e1 d1 (x := .int i 0) rfl ?_)
 refine wpAny_bind (m := seqItems? (.ref t)) (wpAny_seqItems e2 d2 ?_)
 simp only [Int.toNat_natCast,hx]
 refine wpAny_bind (wpAny_setField e1 d1 (by simp) (wpAny_pure ⟨x,rfl,wpAny_pure (hQ _ ⟨_,Heap.get?_update_self _ e1 (Obj.isFreed_of_fields (Obj.data_mapFields d1 _)),(Obj.cls_mapFields ..).trans c1,?_⟩ (Heap.SameBut.update ..))⟩))
 rw [Obj.data_mapFields d1];simp [rawInt]
theorem XH {P : Program} {w : World} {A : Around} {s : Shared} {it t : Addr} {i : Nat} {its : Array Value} {Q : Value → Shared → Prop} {E : Value → Shared → Prop} (hh : A.handled = none) (hit : s.heap.IsTupleIter it t i) (ht : s.heap.IsTuple t its) (hx : its[i]? = none)
  (hE : ∀ h' e,Heap.ExtBut it s.heap h' → (∃ o,h'.get? e = some o∧o.cls = .type "StopIteration") → E (.ref e) { s with heap := h' }) : wpAny (model P w) A (Builtin.SmallTypes.nextOf (.ref it)) Q E s := by
 obtain ⟨o1,e1,c1,d1⟩ := id hit
 obtain ⟨o2,e2,_,n2,d2⟩ := ht
 unfold Builtin.SmallTypes.nextOf
 refine wpAny_bind (wpAny_callSpecial?_slot (name := Str.ofString "__next__") hit.typeIs F.slot_tuple_iterator_next (wpAny_call_entry F.slot_tuple_iterator_next hit.typeIs F.entry_tuple_iterator_next ?_ (F.args_tuple_iterator_next_1 _)))
 refine wpAny_bind (m := field (.ref it) 0) (wpAny_field e1 d1 (x := .ref t) rfl ?_)
 rw [if_neg (show ¬ ((Value.ref t == Value.none) = true) by exact Bool.false_ne_true)]
 refine wpAny_bind (m := field (.ref it) 1) (wpAny_field e1 d1 (x := .int i 0) rfl ?_)
 refine wpAny_bind (m := seqItems? (.ref t)) (wpAny_seqItems e2 d2 ?_)
 simp only [Int.toNat_natCast,hx]
 refine wpAny_bind (wpAny_rule (wpAny_bind (wpAny_setField e1 d1 (by simp) ?_)))
 refine wpAny_bind (m := newExc (.type "StopIteration") []) ?_
 simp only [newExc,newTuple]
 refine wpAny_bind (wpAny_newObj_type ?_ (by size_fits))
 refine wpAny_bind (m := firstArgMember _ _) (wpAny_of_eq (a := Value.none) (by first | rfl | (simp only [firstArgMember] <;> rfl)) (wpAny_newObj_type ?_ (by size_fits)))
 simp only [raiseNew]
 refine wpAny_bind (wpAny_handled ?_)
 first | rw [show A.in1.handled = Option.none from hh] | rw [show A.handled = Option.none from hh]
 exact wpAny_bind (wpAny_pure (wpAny_throw (hE _ _ (((Heap.SameBut.update ..).extBut.push _).push _) ⟨_,Heap.get?_push_size _ rfl,rfl⟩)))
theorem qhw {P : Program} {w : World} (it t : Addr) : Src P w it t (fun k h => h.IsTupleIter it t k) (fun xs h => h.IsTuple t xs) where
 obj := fun st => let ⟨o,e,_,d⟩ := st;⟨o,e,fun v z => by rw [d] at z;cases z⟩
 keep := fun st k => st.at fun o e => k o e
 hkeep := fun st k => st.at fun o e => k o e
 item := fun st hl hx hQ => NS st hl hx hQ
 done := fun hh st hl hx hE => XH hh st hl hx hE
structure ZA (z ti to i1 i2 c1 c2 : Addr) : Prop where
 ne : ([z,ti,to,i1,i2] : List Addr).Nodup
 a1 : c1 ∉ [z,to,i1,i2]
 a2 : c2 ∉ [z,to,i1,i2]
section
variable {P : Program} {w : World} {A : Around} {s : Shared} {z ti to i1 i2 c1 c2 : Addr} {S1 S2 : Nat → Heap → Prop} {H1 H2 : Array Value → Heap → Prop} {k1 k2 : Nat} {xs ys : Array Value} {x y a b : Value} {E : Value → Shared → Prop}
theorem qdl {Q : Value → Shared → Prop} (R1 : Src P w i1 c1 S1 H1) (R2 : Src P w i2 c2 S2 H2) (D : ZA z ti to i1 i2 c1 c2) (hz : IsZip s.heap z ti to .none) (hi : IsPair s.heap ti (.ref i1) (.ref i2)) (ho : IsPair s.heap to a b)
  (p1 : S1 k1 s.heap) (p2 : S2 k2 s.heap) (l1 : H1 xs s.heap) (l2 : H2 ys s.heap) (hx : xs[k1]? = some x) (hy : ys[k2]? = some y)
  (hQ : ∀ h',IsZip h' z ti to (rawInt s.heap.objs.size) → IsPair h' to x y → S1 (k1 + 1) h' → S2 (k2 + 1) h' → IsPair h' s.heap.objs.size x y → (∀ c o,c ∉ [z,to,i1,i2] → s.heap.get? c = some o → h'.get? c = some o) → Q (.ref s.heap.objs.size) { s with heap := h' }) :
  wpAny (model P w) A (Builtin.«zip.__next__» ⟨[.ref z],[]⟩) (fun fin s' => ∃ v,fin = .done (.ret v)∧Q v s') E s := by
 have ne := D.ne
 simp only [List.nodup_cons,List.mem_cons,List.not_mem_nil,not_or,or_false] at ne
 obtain ⟨⟨n1,n2,n3,n4⟩,⟨n5,n6,n7⟩,⟨n8,n9⟩,n10,_⟩ := ne
 have a1 := D.a1
 have a2 := D.a2
 simp only [List.mem_cons,List.not_mem_nil,not_or,or_false] at a1 a2
 obtain ⟨q1,q2,q3,q4⟩ := a1
 obtain ⟨r1,r2,r3,r4⟩ := a2
 refine wpAny_bind (m := field (.ref z) 2) (wpAny_field hz rfl (x := .bool false) rfl ?_)
 refine wpAny_bind (m := field (.ref z) 3) (wpAny_field hz rfl (x := .ref ti) rfl ?_)
 refine wpAny_bind (wpAny_seqItems hi rfl ?_)
 refine wpAny_bind (m := Builtin.SmallTypes.ownedTupleIsFree (.ref z)) ?_
 unfold Builtin.SmallTypes.ownedTupleIsFree
 refine wpAny_bind (wpAny_field hz rfl (x := Value.none) rfl (wpAny_pure ?_))
 simp only [if_true]
 refine wpAny_bind (wpAny_rule (wpAny_bind (wpAny_field hz rfl (x := .ref to) rfl (wpAny_bind (wpAny_setField_rec hz (by simp) fun g1 z1 s1 => ?_)))))
 replace z1 : IsZip g1 z ti to Value.ellipsis := z1
 refine wpAny_bind ?_
 simp only [List.zipIdx_cons,List.zipIdx_nil,List.forIn_cons,List.forIn_nil]
 refine wpAny_bind (wpAny_bind (wpAny_onRaise (wpAny_bind (m := Builtin.SmallTypes.nextOf (.ref i1)) ?_)))
 refine R1.item (R1.keep p1 fun o e => s1.extBut _ _ (Ne.symm n3) e) (R1.hkeep l1 fun o e => s1.extBut _ _ q1 e) hx fun g2 p12 s2 => wpAny_pure ?_
 have t2 : IsPair g2 to a b := s2.extBut _ _ n8 (s1.extBut _ _ (Ne.symm n2) ho)
 refine wpAny_bind (wpAny_seqItems t2 rfl (wpAny_bind (wpAny_updateSeq_pair t2 fun g3 t3 s3 => ?_)))
 replace t3 : IsPair g3 to x b := t3
 refine wpAny_bind (wpAny_letGo (wpAny_pure (wpAny_bind (wpAny_bind (wpAny_onRaise (wpAny_bind (m := Builtin.SmallTypes.nextOf (.ref i2)) ?_))))))
 refine R2.item (R2.keep p2 fun o e => s3.extBut _ _ (Ne.symm n9) (s2.extBut _ _ (Ne.symm n10) (s1.extBut _ _ (Ne.symm n4) e))) (R2.hkeep l2 fun o e => s3.extBut _ _ r2 (s2.extBut _ _ r3 (s1.extBut _ _ r1 e))) hy fun g4 p24 s4 => wpAny_pure ?_
 have t4 : IsPair g4 to x b := s4.extBut _ _ n9 t3
 refine wpAny_bind (wpAny_seqItems t4 rfl (wpAny_bind (wpAny_updateSeq_pair t4 fun g5 t5 s5 => ?_)))
 replace t5 : IsPair g5 to x y := t5
 refine wpAny_bind (wpAny_letGo (wpAny_pure (wpAny_pure (wpAny_bind (wpAny_seqItems t5 rfl (wpAny_bind (wpAny_newTuple ?_)))))))
 have sz : g5.objs.size = s.heap.objs.size := by rw [s5.1,s4.1,s3.1,s2.1,s1.1]
 have z5 : IsZip g5 z ti to Value.ellipsis := s5.extBut _ _ n2 (s4.extBut _ _ n4 (s3.extBut _ _ n2 (s2.extBut _ _ n3 z1)))
 have kk : ∀ c o,c ∉ [z,to,i1,i2] → s.heap.get? c = some o → g5.get? c = some o := fun c o hc e => by
  simp only [List.mem_cons,List.not_mem_nil,not_or,or_false] at hc
  exact s5.extBut _ _ hc.2.1 (s4.extBut _ _ hc.2.2.2 (s3.extBut _ _ hc.2.1 (s2.extBut _ _ hc.2.2.1 (s1.extBut _ _ hc.1 e))))
 have p15 : S1 (k1 + 1) g5 := R1.keep p12 fun o e => s5.extBut _ _ (Ne.symm n8) (s4.extBut _ _ n10 (s3.extBut _ _ (Ne.symm n8) e))
 have p25 : S2 (k2 + 1) g5 := R2.keep p24 fun o e => s5.extBut _ _ (Ne.symm n9) e
 have zlt : z < g5.objs.size := Heap.lt_size z5
 refine wpAny_bind (m := Builtin.SmallTypes.ownedTupleHandOut (.ref z) (.ref g5.objs.size)) ?_
 unfold Builtin.SmallTypes.ownedTupleHandOut
 have z6 : IsZip (g5.push { cls := .type "tuple",data := .seq #[x,y] }) z ti to Value.ellipsis := Heap.get?_push_of_some _ z5
 refine wpAny_bind (wpAny_setField_rec z6 (by simp) fun g7 z7 s7 => ?_)
 replace z7 : IsZip g7 z ti to (rawInt g5.objs.size) := z7
 refine wpAny_setField_rec z7 (by simp) fun g8 z8 s8 => ?_
 replace z8 : IsZip g8 z ti to (rawInt g5.objs.size) := z8
 have up : ∀ c o,c ≠ z → g5.get? c = some o → g8.get? c = some o := fun c o hc e => s8.extBut _ _ hc (s7.extBut _ _ hc (Heap.get?_push_of_some _ e))
 have t8 : IsPair g8 g5.objs.size x y := s8.extBut _ _ (Nat.ne_of_gt zlt) (s7.extBut _ _ (Nat.ne_of_gt zlt) (Heap.get?_push_size _ rfl))
 rw [sz] at z8 t8
 refine wpAny_pure ⟨_,rfl,?_⟩
 show Q (Value.ref g5.objs.size) _
 rw [sz]
 exact hQ g8 z8 (up _ _ (Ne.symm n2) t5) (R1.keep p15 fun o e => up _ o (Ne.symm n3) e) (R2.keep p25 fun o e => up _ o (Ne.symm n4) e) t8 fun c o hc e => up c o (fun q => hc (by simp [q])) (kk c o hc e)
theorem qhK {Q : Fin → Shared → Prop} (hh : A.handled = none) (R1 : Src P w i1 c1 S1 H1) (R2 : Src P w i2 c2 S2 H2) (D : ZA z ti to i1 i2 c1 c2) (hz : IsZip s.heap z ti to .none) (hi : IsPair s.heap ti (.ref i1) (.ref i2)) (ho : IsPair s.heap to a b)
  (p1 : S1 k1 s.heap) (p2 : S2 k2 s.heap) (l1 : H1 xs s.heap) (l2 : H2 ys s.heap) (hend : xs[k1]? = none ∨ ys[k2]? = none)
  (hE : ∀ h' e,(∀ c o,c ∉ [z,to,i1,i2] → s.heap.get? c = some o → h'.get? c = some o) → (∃ o,h'.get? e = some o∧o.cls = .type "StopIteration") → E (.ref e) { s with heap := h' }) :
  wpAny (model P w) A (Builtin.«zip.__next__» ⟨[.ref z],[]⟩) Q E s := by
 have ne := D.ne
 simp only [List.nodup_cons,List.mem_cons,List.not_mem_nil,not_or,or_false] at ne
 obtain ⟨⟨n1,n2,n3,n4⟩,⟨n5,n6,n7⟩,⟨n8,n9⟩,n10,_⟩ := ne
 have a1 := D.a1
 have a2 := D.a2
 simp only [List.mem_cons,List.not_mem_nil,not_or,or_false] at a1 a2
 obtain ⟨q1,q2,q3,q4⟩ := a1
 obtain ⟨r1,r2,r3,r4⟩ := a2
 refine wpAny_bind (m := field (.ref z) 2) (wpAny_field hz rfl (x := .bool false) rfl ?_)
 refine wpAny_bind (m := field (.ref z) 3) (wpAny_field hz rfl (x := .ref ti) rfl ?_)
 refine wpAny_bind (wpAny_seqItems hi rfl ?_)
 refine wpAny_bind (m := Builtin.SmallTypes.ownedTupleIsFree (.ref z)) ?_
 unfold Builtin.SmallTypes.ownedTupleIsFree
 refine wpAny_bind (wpAny_field hz rfl (x := Value.none) rfl (wpAny_pure ?_))
 simp only [if_true]
 refine wpAny_bind (wpAny_rule (wpAny_bind (wpAny_field hz rfl (x := .ref to) rfl (wpAny_bind (wpAny_setField_rec hz (by simp) fun g1 z1 s1 => ?_)))))
 replace z1 : IsZip g1 z ti to Value.ellipsis := z1
 refine wpAny_bind ?_
 simp only [List.zipIdx_cons,List.zipIdx_nil,List.forIn_cons,List.forIn_nil]
 refine wpAny_bind (wpAny_bind (wpAny_onRaise (wpAny_bind (m := Builtin.SmallTypes.nextOf (.ref i1)) ?_)))
 cases hx : xs[k1]? with
 | none =>
  refine R1.done hh (R1.keep p1 fun o e => s1.extBut _ _ (Ne.symm n3) e) (R1.hkeep l1 fun o e => s1.extBut _ _ q1 e) hx fun g2 e s2 ⟨oe,he,ce⟩ => ?_
  have z2 : IsZip g2 z ti to Value.ellipsis := s2 _ _ n3 z1
  have ez : e ≠ z := fun q => by subst q;rw [z2] at he;cases he;simp at ce
  refine wpAny_setField_rec z2 (by simp) fun g3 _ s3 => hE g3 e (fun c o hc q => ?_) ⟨oe,s3.extBut _ _ ez he,ce⟩
  simp only [List.mem_cons,List.not_mem_nil,not_or,or_false] at hc
  exact s3.extBut _ _ hc.1 (s2 _ _ hc.2.2.1 (s1.extBut _ _ hc.1 q))
 | some x =>
  have hy : ys[k2]? = none := by rcases hend with q | q;rw [hx] at q;cases q;exact q
  refine R1.item (R1.keep p1 fun o e => s1.extBut _ _ (Ne.symm n3) e) (R1.hkeep l1 fun o e => s1.extBut _ _ q1 e) hx fun g2 p12 s2 => wpAny_pure ?_
  have t2 : IsPair g2 to a b := s2.extBut _ _ n8 (s1.extBut _ _ (Ne.symm n2) ho)
  refine wpAny_bind (wpAny_seqItems t2 rfl (wpAny_bind (wpAny_updateSeq_pair t2 fun g3 t3 s3 => ?_)))
  refine wpAny_bind (wpAny_letGo (wpAny_pure (wpAny_bind (wpAny_bind (wpAny_onRaise (wpAny_bind (m := Builtin.SmallTypes.nextOf (.ref i2)) ?_))))))
  refine R2.done hh (R2.keep p2 fun o e => s3.extBut _ _ (Ne.symm n9) (s2.extBut _ _ (Ne.symm n10) (s1.extBut _ _ (Ne.symm n4) e))) (R2.hkeep l2 fun o e => s3.extBut _ _ r2 (s2.extBut _ _ r3 (s1.extBut _ _ r1 e))) hy fun g4 e s4 ⟨oe,he,ce⟩ => ?_
  have z4 : IsZip g4 z ti to Value.ellipsis := s4 _ _ n4 (s3.extBut _ _ n2 (s2.extBut _ _ n3 z1))
  have ez : e ≠ z := fun q => by subst q;rw [z4] at he;cases he;simp at ce
  refine wpAny_setField_rec z4 (by simp) fun g5 _ s5 => hE g5 e (fun c o hc q => ?_) ⟨oe,s5.extBut _ _ ez he,ce⟩
  simp only [List.mem_cons,List.not_mem_nil,not_or,or_false] at hc
  exact s5.extBut _ _ hc.1 (s4 _ _ hc.2.2.2 (s3.extBut _ _ hc.2.1 (s2.extBut _ _ hc.2.2.1 (s1.extBut _ _ hc.1 q))))
end
end L3
namespace L3
open PySem PySem.Spec PyProof.Rows L2
abbrev qm4 (b : Bool) : String := if b then "list_iterator" else "tuple_iterator"
abbrev zx (b : Bool) (c : Addr) : Obj := { cls := .type (qm4 b),data := .fields #[.ref c,.int 0 0] }
def qdf (b : Bool) (it c : Addr) (k : Nat) (h : Heap) : Prop := match b with | true => h.IsListIter it c k | false => h.IsTupleIter it c k
def KB (b : Bool) (c : Addr) (xs : Array Value) (h : Heap) : Prop := match b with | true => h.IsList c xs | false => h.IsTuple c xs
theorem zB {P : Program} {w : World} (b : Bool) (it c : Addr) : Src P w it c (qdf b it c) (KB b c) := by
 cases b
 ·exact qhw it c
 ·exact qdD it c
theorem K2 {P : Program} {w : World} {A : Around} {s : Shared} {b : Bool} {c : Addr} {xs : Array Value} {Q : Value → Shared → Prop} {E : Value → Shared → Prop} (h : KB b c xs s.heap) (q : Q (.ref s.heap.objs.size) { s with heap := s.heap.push (zx b c) }) :
  wpAny (model P w) A (pyIter (.ref c)) Q E s := by
 cases b
 ·exact wpAny_pyIter_tuple (show s.heap.IsTuple c xs from h) q
 ·exact wpAny_pyIter_list (show s.heap.IsList c xs from h) q
theorem qav {b : Bool} {c : Addr} {xs : Array Value} {h : Heap} {o : Obj} (q : KB b c xs h) : KB b c xs (h.push o) := by
 cases b
 ·exact (show h.IsTuple c xs from q).at fun _ e => Heap.get?_push_of_some _ e
 ·exact (show h.IsList c xs from q).at fun _ e => Heap.get?_push_of_some _ e
abbrev zh1 (h : Heap) (o1 : Obj) : Heap := h.push o1
abbrev zh2 (h : Heap) (o1 o2 : Obj) : Heap := (zh1 h o1).push o2
abbrev zh3 (h : Heap) (o1 o2 : Obj) : Heap := (zh2 h o1 o2).push { cls := .type "tuple",data := .seq #[.ref h.objs.size,.ref (zh1 h o1).objs.size] }
abbrev zh4 (h : Heap) (o1 o2 : Obj) : Heap := (zh3 h o1 o2).push { cls := .type "tuple",data := .seq #[.none,.none] }
abbrev zh5 (h : Heap) (o1 o2 : Obj) : Heap := (zh4 h o1 o2).push { cls := .type "zip",data := .fields #[.none,.bool false,.bool false,.ref (zh2 h o1 o2).objs.size,.ref (zh3 h o1 o2).objs.size] }
theorem qbY (c1 c2 : Addr) (o1 o2 : Obj) :
  Meets (Builtin.«zip.__new__» ⟨[.type "zip",.ref c1,.ref c2],[]⟩) (fun _ R s =>
   (∀ (P : Program) (w : World) (A : Around) (Q : Value → Shared → Prop) (E : Value → Shared → Prop),Q (.ref s.heap.objs.size) { s with heap := zh1 s.heap o1 } → wpAny (model P w) A (pyIter (.ref c1)) Q E s) ∧
   (∀ (P : Program) (w : World) (A : Around) (Q : Value → Shared → Prop) (E : Value → Shared → Prop),Q (.ref (zh1 s.heap o1).objs.size) { s with heap := zh2 s.heap o1 o2 } → wpAny (model P w) A (pyIter (.ref c2)) Q E { s with heap := zh1 s.heap o1 }) ∧
   R (.ok (.ret (.ref (zh4 s.heap o1 o2).objs.size))) { s with heap := zh5 s.heap o1 o2 }) :=
 .of_wp fun prog w A R s h => by
  obtain ⟨hp,g,d,tk,os⟩ := s
  obtain ⟨h1,h2,h⟩ := h
  have hsub := sub_zip
  have k1 := fun A Q E => h1 prog w A Q E
  have k2 := fun A Q E => h2 prog w A Q E
  wp_walk using k1 _ _ _,k2 _ _ _
  exact ⟨_,rfl,h⟩
end L3
namespace L3
open PySem PySem.Spec PyProof.Rows L2
def qc6 (b1 b2 : Bool) (z ti to i1 i2 c1 c2 : Addr) (k : Nat) (h : Heap) : Prop :=
 IsZip h z ti to .none∧IsPair h ti (.ref i1) (.ref i2)∧(∃ a b,IsPair h to a b)∧qdf b1 i1 c1 k h∧qdf b2 i2 c2 k h
section
variable {P : Program} {w : World} {A : Around} {s : Shared} {E : Value → Shared → Prop}
theorem qdc {b1 b2 : Bool} {c1 c2 : Addr} {xs ys : Array Value} {Q : Value → Shared → Prop} (h1 : KB b1 c1 xs s.heap) (h2 : KB b2 c2 ys s.heap)
  (q : ∀ h',qc6 b1 b2 (s.heap.objs.size + 4) (s.heap.objs.size + 2) (s.heap.objs.size + 3) s.heap.objs.size (s.heap.objs.size + 1) c1 c2 0 h' → (∀ c o,s.heap.get? c = some o → h'.get? c = some o) → Q (.ref (s.heap.objs.size + 4)) { s with heap := h' }) :
  wpAny (model P w) A (call (.type "zip") [.ref c1,.ref c2]) Q E s := by
 refine callType_new F.called_zip (by decide) (F.typeCall_zip_2 _ _) (F.newCall_zip_2 _ _) (fun obj => F.args_object_init_3 obj _ _) F.entry_zip_new
  (qbY c1 c2 (zx b1 c1) (zx b2 c2)) ⟨fun P w A Q E q => K2 h1 q,fun P w A Q E q => K2 (s := { s with heap := zh1 s.heap (zx b1 c1) }) (qav h2) q,?_⟩
 have e1 : (zh1 s.heap (zx b1 c1)).objs.size = s.heap.objs.size + 1 := Heap.size_push ..
 have e2 : (zh2 s.heap (zx b1 c1) (zx b2 c2)).objs.size = s.heap.objs.size + 2 := by rw [Heap.size_push,e1]
 have e3 : (zh3 s.heap (zx b1 c1) (zx b2 c2)).objs.size = s.heap.objs.size + 3 := by rw [Heap.size_push,e2]
 have e4 : (zh4 s.heap (zx b1 c1) (zx b2 c2)).objs.size = s.heap.objs.size + 4 := by rw [Heap.size_push,e3]
 have g5 : (zh5 s.heap (zx b1 c1) (zx b2 c2)).get? (zh4 s.heap (zx b1 c1) (zx b2 c2)).objs.size = some _ := Heap.get?_push_size _ rfl
 have g4 : (zh5 s.heap (zx b1 c1) (zx b2 c2)).get? (zh3 s.heap (zx b1 c1) (zx b2 c2)).objs.size = some _ := Heap.get?_push_of_some _ (Heap.get?_push_size _ rfl)
 have g3 : (zh5 s.heap (zx b1 c1) (zx b2 c2)).get? (zh2 s.heap (zx b1 c1) (zx b2 c2)).objs.size = some _ := Heap.get?_push_of_some _ (Heap.get?_push_of_some _ (Heap.get?_push_size _ rfl))
 have g2 : (zh5 s.heap (zx b1 c1) (zx b2 c2)).get? (zh1 s.heap (zx b1 c1)).objs.size = some (zx b2 c2) := Heap.get?_push_of_some _ (Heap.get?_push_of_some _ (Heap.get?_push_of_some _ (Heap.get?_push_size _ rfl)))
 have g1 : (zh5 s.heap (zx b1 c1) (zx b2 c2)).get? s.heap.objs.size = some (zx b1 c1) := Heap.get?_push_of_some _ (Heap.get?_push_of_some _ (Heap.get?_push_of_some _ (Heap.get?_push_of_some _ (Heap.get?_push_size _ rfl))))
 show _∧_
 rw [e2,e3,e4] at g5
 rw [e1,e2] at g3
 rw [e3] at g4
 rw [e1] at g2
 rw [e4]
 refine ⟨⟨_,g5,rfl⟩,q _ ⟨g5,g3,⟨_,_,g4⟩,?_,?_⟩ fun c o e => Heap.get?_push_of_some _ (Heap.get?_push_of_some _ (Heap.get?_push_of_some _ (Heap.get?_push_of_some _ (Heap.get?_push_of_some _ e))))⟩
 ·cases b1 <;> exact ⟨_,g1,rfl,rfl⟩
 ·cases b2 <;> exact ⟨_,g2,rfl,rfl⟩
theorem qcV {b1 b2 : Bool} {z ti to i1 i2 c1 c2 : Addr} {k : Nat} {xs ys : Array Value} {x y : Value} {Q : Option Value → Shared → Prop} (D : ZA z ti to i1 i2 c1 c2) (st : qc6 b1 b2 z ti to i1 i2 c1 c2 k s.heap) (l1 : KB b1 c1 xs s.heap) (l2 : KB b2 c2 ys s.heap) (hx : xs[k]? = some x) (hy : ys[k]? = some y)
  (hQ : ∀ h',IsZip h' z ti to (rawInt s.heap.objs.size) → IsPair h' ti (.ref i1) (.ref i2) → (∃ a b,IsPair h' to a b) → qdf b1 i1 c1 (k + 1) h' → qdf b2 i2 c2 (k + 1) h' → IsPair h' s.heap.objs.size x y → (∀ c o,c ∉ [z,to,i1,i2] → s.heap.get? c = some o → h'.get? c = some o) → Q (some (.ref s.heap.objs.size)) { s with heap := h' }) :
  wpAny (model P w) A (pyNext (.ref z)) Q E s := by
 obtain ⟨hz,hi,⟨a,b,ho⟩,p1,p2⟩ := st
 have ty : s.TypeIs (.ref z) "zip" := ⟨_,hz,rfl⟩
 have nti : ti ∉ [z,to,i1,i2] := by
  have ne := D.ne
  simp only [List.nodup_cons,List.mem_cons,List.not_mem_nil,not_or,or_false] at ne ⊢
  exact ⟨Ne.symm ne.1.1,ne.2.1.1,ne.2.1.2.1,ne.2.1.2.2⟩
 unfold pyNext
 exact wpAny_bind (wpAny_attempt (wpAny_callSpecial?_slot (name := Str.ofString "__next__") ty F.slot_zip_next (wpAny_call_entry F.slot_zip_next ty F.entry_zip_next
  (qdl (zB b1 i1 c1) (zB b2 i2 c2) D hz hi ho p1 p2 l1 l2 hx hy fun h' u1 u2 u3 u4 u5 u6 => wpAny_pure (hQ h' u1 (u6 _ _ nti hi) ⟨_,_,u2⟩ u3 u4 u5 u6)) (F.args_zip_next_1 _))))
theorem SH {b1 b2 : Bool} {z ti to i1 i2 c1 c2 : Addr} {k : Nat} {xs ys : Array Value} {Q : Option Value → Shared → Prop} (hh : A.handled = none) (D : ZA z ti to i1 i2 c1 c2) (st : qc6 b1 b2 z ti to i1 i2 c1 c2 k s.heap) (l1 : KB b1 c1 xs s.heap) (l2 : KB b2 c2 ys s.heap) (hend : xs[k]? = none ∨ ys[k]? = none)
  (hQ : ∀ h',(∀ c o,c ∉ [z,to,i1,i2] → s.heap.get? c = some o → h'.get? c = some o) → Q none { s with heap := h' }) : wpAny (model P w) A (pyNext (.ref z)) Q E s := by
 obtain ⟨hz,hi,⟨a,b,ho⟩,p1,p2⟩ := st
 have ty : s.TypeIs (.ref z) "zip" := ⟨_,hz,rfl⟩
 unfold pyNext
 refine wpAny_bind (wpAny_attempt (wpAny_callSpecial?_slot (name := Str.ofString "__next__") ty F.slot_zip_next (wpAny_call_entry F.slot_zip_next ty F.entry_zip_next
  (qhK hh (zB b1 i1 c1) (zB b2 i2 c2) D hz hi ho p1 p2 l1 l2 hend fun h' e hk ⟨o,q1,q2⟩ => ?_) (F.args_zip_next_1 _))))
 exact wpAny_bind (wpAny_isInstance (T := "StopIteration") (b := true) ⟨o,q1,q2⟩ isSubtype_stop (wpAny_pure (hQ _ hk)))
end
def SqB (K : PySem.W.Frag) (b : Bool) (H : Hp) (a : Addr) (xs : List V) : Prop := match b with | true => SqL K H a xs | false => SqT K H a xs
theorem SqB.get {X : Cx} {pins : List (Addr × Obj)} {σ : L2.St} {H : Hp} {s : Shared} {b : Bool} {a : Addr} {xs : List V} (I : Inv X pins σ H s) (h : SqB X.K b H a xs) : ∃ its : List Value,zO xs its∧KB b a its.toArray s.heap∧xs.length ≤ sizeLine := by
 cases b
 ·obtain ⟨its,r,p,hz⟩ := I.tuple (show SqT X.K H a xs from h)
  exact ⟨its,r,(show s.heap.IsTuple a its.toArray from p),hz⟩
 ·obtain ⟨its,r,p,hz⟩ := I.list (show SqL X.K H a xs from h)
  exact ⟨its,r,p.isList,hz⟩
theorem SqB.inj {X : Cx} {pins : List (Addr × Obj)} {σ : L2.St} {H : Hp} {s : Shared} {b : Bool} {a : Addr} {xs ys : List V} (I : Inv X pins σ H s) (h : SqB X.K b H a xs) (h' : SqB X.K b H a ys) : xs = ys := by
 cases b
 ·exact I.tuple_inj h h'
 ·exact I.list_inj h h'
def Itz (K : PySem.W.Frag) (b1 b2 : Bool) (c1 c2 : Addr) : It :=
  ⟨fun i H => ∃ xs ys x y,SqB K b1 H c1 xs∧SqB K b2 H c2 ys∧xs[i]? = some x∧ys[i]? = some y,
   fun i H v H' => ∃ p x y,H p = none∧v = .ref p∧H' = upd H p (.tup [x,y])∧(∀ xs,SqB K b1 H c1 xs → xs[i]? = some x)∧(∀ ys,SqB K b2 H c2 ys → ys[i]? = some y),
   fun i H => ∃ xs ys,SqB K b1 H c1 xs∧SqB K b2 H c2 ys∧(xs.length ≤ i ∨ ys.length ≤ i)⟩
theorem qhB {b : Bool} {c : Addr} {xs : Array Value} {h : Heap} (q : KB b c xs h) : c < h.objs.size := by
 cases b
 ·obtain ⟨o,e,_⟩ := (show h.IsTuple c xs from q);exact Heap.lt_size e
 ·obtain ⟨o,e,_⟩ := (show h.IsList c xs from q);exact Heap.lt_size e
theorem qcz {P : Program} {w : World} {K : PySem.W.Frag} {es : List Expr} {k1 : Nat} {pt : Pos} {b1 b2 : Bool} {z ti to i1 i2 c1 c2 : Addr} (D : ZA z ti to i1 i2 c1 c2) : Turn P w K (.Tuple es k1 pt) (Itz K b1 b2 c1 c2) [z,ti,to,i1,i2] z (qc6 b1 b2 z ti to i1 i2 c1 c2) where
 mem := by simp
 obj := fun i h ⟨hz,hi,⟨a,b,ho⟩,p1,p2⟩ c hc => by
  simp only [List.mem_cons,List.not_mem_nil,or_false] at hc
  rcases hc with rfl | rfl | rfl | rfl | rfl
  ·exact ⟨_,hz,fun v q => by cases q⟩
  ·exact ⟨_,hi,fun v q => by cases q⟩
  ·exact ⟨_,ho,fun v q => by cases q⟩
  ·exact (zB (P := P) (w := w) b1 c c1).obj p1
  ·exact (zB (P := P) (w := w) b2 c c2).obj p2
 keep := fun i h h' ⟨hz,hi,⟨a,b,ho⟩,p1,p2⟩ k =>
  ⟨k z (by simp) _ hz,k ti (by simp) _ hi,⟨a,b,k to (by simp) _ ho⟩,(zB (P := P) (w := w) b1 i1 c1).keep p1 fun o e => k i1 (by simp) o e,(zB (P := P) (w := w) b2 i2 c2).keep p2 fun o e => k i2 (by simp) o e⟩
 item := by
  intro X hP hw hK hc i pins s σ H E I hf st hg
  subst hP hw hK
  obtain ⟨xs,ys,x,y,sq1,sq2,hx,hy⟩ := hg
  obtain ⟨its1,rv1,l1,z1⟩ := sq1.get I
  obtain ⟨its2,rv2,l2,z2⟩ := sq2.get I
  obtain ⟨u1,hu1,ru1⟩ := rv1.get hx
  obtain ⟨u2,hu2,ru2⟩ := rv2.get hy
  refine qcV D st l1 l2 (x := u1) (y := u2) (by simpa using hu1) (by simpa using hu2) fun h' hz hi ho p1 p2 hp hk => ?_
  have hfr : H s.heap.objs.size = none := I.fresh
  have free : ∀ b ∈ [z,ti,to,i1,i2],H b = none := fun b hb => (hf b hb).1
  refine ⟨_,rfl,wpAny_letOwnedTupleGo_zip hz fun h2 hz2 s2 => ?_⟩
  have zlt : z < s.heap.objs.size := Heap.lt_size st.1
  have hp2 : IsPair h2 s.heap.objs.size u1 u2 := (s2.2 _ (Nat.ne_of_gt zlt)).trans hp
  have ne := D.ne
  simp only [List.nodup_cons,List.mem_cons,List.not_mem_nil,not_or,or_false] at ne
  have up : ∀ c o,c ≠ z → h'.get? c = some o → h2.get? c = some o := fun c o hc e => (s2.2 c hc).trans e
  have kk : ∀ c o,c ∉ [z,to,i1,i2] → s.heap.get? c = some o → h2.get? c = some o := fun c o hc e => up c o (fun q => hc (by simp [q])) (hk c o hc e)
  have I3 : Inv X pins σ (upd H s.heap.objs.size (.tup [x,y])) { s with heap := h2 } := by
   refine I.step (g' := s.gens) (d' := s.drawn) (t' := s.toks) (ch := [z,to,i1,i2]) (fun b hb => ?_) (fun b o _ _ hcb e _ => kk b o hcb e) (fun b o _ _ hcb e _ => ⟨o.slots,kk b o hcb e⟩) (fun b o _ e n => by rw [qC (Nat.ne_of_lt (Heap.lt_size e))];exact n) (fun b o hcb e => ⟨o,kk b o hcb e⟩)
    (fun b _ e => by rw [qC (qw e hfr)];exact e) (fun b _ _ e => by rw [qC (qw e hfr)];exact e) (fun b ps e => ⟨#[],by rw [qC (qw e hfr),e];simp⟩) (fun m hm => ?_) (fun b u e => ?_) I.bare
   ·obtain ⟨f0,f1,f2,f3,f4,f5⟩ := hf b (by simp only [List.mem_cons,List.not_mem_nil,or_false] at hb ⊢;rcases hb with q | q | q | q <;> simp [q])
    exact ⟨f3,f1,f4,f5⟩
   ·obtain ⟨o,es',ep,ho',r⟩ := hm
    refine ⟨o,es',ep,kk _ o (fun q => ?_) ho',r⟩
    obtain ⟨f0,f1,_⟩ := hf X.env.locals (by simp only [List.mem_cons,List.not_mem_nil,or_false] at q ⊢;rcases q with q | q | q | q <;> simp [q])
    exact f1 rfl
   ·by_cases hb : b = s.heap.objs.size
    ·subst hb
     rw [zd] at e
     cases e
     exact ⟨by show 2 ≤ sizeLine;decide,[u1,u2],.cons ru1 (.cons ru2 .nil),⟨_,hp2,rfl,_,rfl⟩⟩
    ·rw [qC hb] at e
     refine (I.hok b u e).stay (fun c v hcb q => kk c v (fun m => ?_) q) (fun _ q => by rw [qC (qw q hfr)];exact q) fun _ _ q => by rw [qC (qw q hfr)];exact q
     have hn := free c (by simp only [List.mem_cons,List.not_mem_nil,or_false] at m ⊢;rcases m with q | q | q | q <;> simp [q])
     rcases hcb with q | q
     ·rw [q] at hn;rw [hn] at e;cases e
     ·rw [hn] at q;cases q
  refine ⟨.ref s.heap.objs.size,_,I3,rfl,⟨_,x,y,hfr,rfl,rfl,fun zs q => by rw [q.inj I sq1];exact hx,fun zs q => by rw [q.inj I sq2];exact hy⟩,⟨hz2,up _ _ (Ne.symm ne.1.1) hi,let ⟨a,b,q⟩ := ho;⟨a,b,up _ _ (Ne.symm ne.1.2.1) q⟩,(zB (P := X.prog) (w := X.w) b1 i1 c1).keep p1 fun o e => up _ o (Ne.symm ne.1.2.2.1) e,(zB (P := X.prog) (w := X.w) b2 i2 c2).keep p2 fun o e => up _ o (Ne.symm ne.1.2.2.2) e⟩,fun b hb => ?_⟩
  rw [qC (fun q => ?_)]
  ·exact free b hb
  ·subst q
   obtain ⟨hz0,hi0,⟨a0,b0,ho0⟩,q1,q2⟩ := st
   simp only [List.mem_cons,List.not_mem_nil,or_false] at hb
   rcases hb with q | q | q | q | q
   ·exact absurd q (Nat.ne_of_gt zlt)
   ·exact absurd q (Nat.ne_of_gt (Heap.lt_size hi0))
   ·exact absurd q (Nat.ne_of_gt (Heap.lt_size ho0))
   ·obtain ⟨o,e,_⟩ := (zB (P := X.prog) (w := X.w) b1 i1 c1).obj q1
    exact absurd q (Nat.ne_of_gt (Heap.lt_size e))
   ·obtain ⟨o,e,_⟩ := (zB (P := X.prog) (w := X.w) b2 i2 c2).obj q2
    exact absurd q (Nat.ne_of_gt (Heap.lt_size e))
 done := by
  intro X hP hw hK hc i pins s σ H E I hf st hg
  subst hP hw hK
  obtain ⟨xs,ys,sq1,sq2,hend⟩ := hg
  obtain ⟨its1,rv1,l1,z1⟩ := sq1.get I
  obtain ⟨its2,rv2,l2,z2⟩ := sq2.get I
  have e1 := rv1.length
  have e2 := rv2.length
  refine SH (I.ok.hd hc) D st l1 l2 (by rcases hend with q | q;exact .inl (by simp;omega);exact .inr (by simp;omega)) fun h' hk => ⟨rfl,?_⟩
  have free : ∀ b ∈ [z,ti,to,i1,i2],H b = none := fun b hb => (hf b hb).1
  refine I.step (g' := s.gens) (d' := s.drawn) (t' := s.toks) (ch := [z,to,i1,i2]) (fun b hb => ?_) (fun b o _ _ hcb e _ => hk b o hcb e) (fun b o _ _ hcb e _ => ⟨o.slots,hk b o hcb e⟩) (fun _ _ _ _ n => n) (fun b o hcb e => ⟨o,hk b o hcb e⟩) (fun _ _ e => e) (fun _ _ _ e => e) (fun b ps e => ⟨#[],by rw [e];simp⟩) (fun m hm => ?_) (fun b u e => ?_) I.bare
  ·obtain ⟨f0,f1,f2,f3,f4,f5⟩ := hf b (by simp only [List.mem_cons,List.not_mem_nil,or_false] at hb ⊢;rcases hb with q | q | q | q <;> simp [q])
   exact ⟨f3,f1,f4,f5⟩
  ·obtain ⟨o,es',ep,ho',r⟩ := hm
   refine ⟨o,es',ep,hk _ o (fun q => ?_) ho',r⟩
   obtain ⟨f0,f1,_⟩ := hf X.env.locals (by simp only [List.mem_cons,List.not_mem_nil,or_false] at q ⊢;rcases q with q | q | q | q <;> simp [q])
   exact f1 rfl
  ·refine (I.hok b u e).stay (fun c v hcb q => hk c v (fun m => ?_) q) (fun _ q => q) fun _ _ q => q
   have hn := free c (by simp only [List.mem_cons,List.not_mem_nil,or_false] at m ⊢;rcases m with q | q | q | q <;> simp [q])
   rcases hcb with q | q
   ·rw [q] at hn;rw [hn] at e;cases e
   ·rw [hn] at q;cases q
 self := fun A i s Q E st h => wpAny_pyIter_zip st.1 h
end L3
namespace L3
open PySem PySem.Spec PyProof.Rows L2
theorem qiO {n c1 c2 : Addr} (h1 : c1 < n) (h2 : c2 < n) : ZA (n + 4) (n + 2) (n + 3) n (n + 1) c1 c2 := by
 have k : ∀ n c : Nat,c < n → c ≠ n + 4∧c ≠ n + 3∧c ≠ n∧c ≠ n + 1 := fun n c h => by omega
 have d : ∀ n : Nat,(([n + 4,n + 2,n + 3,n,n + 1] : List Nat)).Nodup := fun n => by
  simp only [List.nodup_cons,List.mem_cons,List.not_mem_nil,not_or,or_false,List.nodup_nil,and_true,not_false_eq_true]
  omega
 refine ⟨d n,?_,?_⟩
 ·simp only [List.mem_cons,List.not_mem_nil,not_or,or_false];exact k n c1 h1
 ·simp only [List.mem_cons,List.not_mem_nil,not_or,or_false];exact k n c2 h2
section
variable {X : Cx} {a b e l : Expr} {es : List Expr} {pos : Pos}
theorem qh3 {p pt : Pos} {k1 : Nat} {ta : TA} (hg : Gl X "zip") (hm : X.mg "zip" = none) (ha : PA X [a,b] ta) (hs : starEach [a,b] X.env = [(false,eval a X.env),(false,eval b X.env)] := by rfl) (hs2 : starEach [b] X.env = [(false,eval b X.env)] := by rfl) :
  PI X (.Tuple es k1 pt) (.Call (.Name "zip" p) [a,b] [] pos) (fun σ H R => ta σ H fun vs H1 => ∃ b1 b2 c1 c2 xs ys,vs = [.ref c1,.ref c2]∧SqB X.K b1 H1 c1 xs∧SqB X.K b2 H1 c2 ys∧R (Itz X.K b1 b2 c1 c2) H1) := by
 intro pins s σ H R I h
 refine Call_ (WE I hg hm PyProof.Rows.boot_zip (PyProof.Rows.callWith_type1 (thn (ha pos pins s σ H _ I h) fun us s1 ⟨vs,H1,I1,r1,q1⟩ => ?_) (by rw [hs,hs2]) (by rw [hs2];rfl)))
 obtain ⟨b1,b2,c1,c2,xs,ys,rfl,sq1,sq2,q⟩ := q1
 obtain ⟨u1,u2,rfl,e1,e2⟩ := qaZ r1
 cases (show u1 = Value.ref c1 from e1)
 cases (show u2 = Value.ref c2 from e2)
 obtain ⟨its1,rv1,l1,z1⟩ := sq1.get I1
 obtain ⟨its2,rv2,l2,z2⟩ := sq2.get I1
 refine qdc l1 l2 fun h' st hk => wpAny_pyIter_zip st.1 ?_
 refine ⟨s1.heap.objs.size + 4,[s1.heap.objs.size + 4,s1.heap.objs.size + 2,s1.heap.objs.size + 3,s1.heap.objs.size,s1.heap.objs.size + 1],_,_,H1,rfl,I1.kept (t' := s1.toks) hk,qcz (qiO (qhB l1) (qhB l2)),st,fun c hc => ?_,q⟩
 have hle : s1.heap.objs.size ≤ c := by
  simp only [List.mem_cons,List.not_mem_nil,or_false] at hc
  rcases hc with rfl | rfl | rfl | rfl | rfl <;> first | exact Nat.le_refl _ | exact Nat.le_add_right _ _
 exact I1.fpOk hle (I1.hok.fresh hle)
end
def jc (G : Gp) : T → Option (List T)
 | .tup xs => some xs
 | .ref p => getL G p
 | _ => none
theorem qca {K : PySem.W.Frag} {G0 : Gp} {H0 : Hp} {x : T} {v : V} {us : List T} (hr0 : HR K G0 H0) (rx : Rp K H0 x v) (h : jc G0 x = some us) :
  ∃ b c,v = .ref c∧∀ G H,HR K G H → Kp G0 H0 G H → jc G x = some us → ∃ vs,SqB K b H c vs∧Rps K H us vs := by
 cases rx with
 | tup hs rs =>
  cases h
  exact ⟨false,_,rfl,fun G H hr k _ => ⟨_,(C6 hr0 k hs : SqT K H _ _),rs.keep hr0 k⟩⟩
 | ref a => exact ⟨true,a,rfl,fun G H hr k hq => let ⟨vs,h1,h2⟩ := zA hr (show getL G a = some us from hq);⟨vs,h1,h2⟩⟩
 | _ => cases h
def qco (us vs : List T) : List T := (us.zip vs).map fun p => .tup [p.1,p.2]
theorem CS {us vs : List T} {i : Nat} {x : T} (h : (qco us vs)[i]? = some x) : ∃ a b,us[i]? = some a∧vs[i]? = some b∧x = .tup [a,b] := by
 unfold qco at h
 rw [List.getElem?_map] at h
 cases e : (us.zip vs)[i]? with
 | none => rw [e] at h;cases h
 | some p =>
  rw [e] at h
  have := List.getElem?_zip_eq_some.mp e
  exact ⟨p.1,p.2,this.1,this.2,by simpa using h.symm⟩
theorem qmc {K : PySem.W.Frag} {b1 b2 : Bool} {c1 c2 : Addr} {x y : T} {us vs : List T} {G0 : Gp} {H0 : Hp}
  (f1 : ∀ G H,HR K G H → Kp G0 H0 G H → jc G x = some us → ∃ vs,SqB K b1 H c1 vs∧Rps K H us vs) (f2 : ∀ G H,HR K G H → Kp G0 H0 G H → jc G y = some vs → ∃ ws,SqB K b2 H c2 ws∧Rps K H vs ws) :
  qhU K (Itz K b1 b2 c1 c2) (qco us vs) (fun G => jc G x = some us∧jc G y = some vs) G0 H0 := by
 intro G H hr k ⟨h1,h2⟩
 obtain ⟨p,sp,rp⟩ := f1 G H hr k h1
 obtain ⟨q,sq,rq⟩ := f2 G H hr k h2
 refine ⟨fun i z hz => ?_,fun i z v H' hz hy => ?_,⟨p,q,sp,sq,?_⟩⟩
 ·obtain ⟨a,b,ha,hb,_⟩ := CS hz
  obtain ⟨v,hv,_⟩ := rp.get ha
  obtain ⟨w,hw,_⟩ := rq.get hb
  exact ⟨p,q,v,w,sp,sq,hv,hw⟩
 ·obtain ⟨a,b,ha,hb,rfl⟩ := CS hz
  obtain ⟨t,v1,v2,ht,rfl,rfl,g1,g2⟩ := hy
  obtain ⟨v,hv,rv⟩ := rp.get ha
  obtain ⟨w,hw,rw'⟩ := rq.get hb
  have e1 := (g1 p sp).symm.trans hv
  have e2 := (g2 q sq).symm.trans hw
  obtain rfl : v1 = v := Option.some.inj e1
  obtain rfl : v2 = w := Option.some.inj e2
  have kk : Kp G H G (upd H t (.tup [v1,v2])) := Kp.laid ht
  exact ⟨.tup (SqT.of zd) (.cons (rv.keep hr kk) (.cons (rw'.keep hr kk) .nil)),hr.laid ht,kk⟩
 ·rw [← rp.length,← rq.length,show (qco us vs).length = min us.length vs.length by simp [qco]]
  omega
def N2 (ta : TA3) : TI3 := fun τ G r => ta τ G fun xs G1 => match xs with
 | [x,y] => (match jc G1 x,jc G1 y with | some us,some vs => r (qco us vs) (fun G => jc G x = some us∧jc G y = some vs) G1 | _,_ => False)
 | _ => False
section
variable {X : Cx} {a b e l : Expr} {es : List Expr} {pos : Pos} {t : TA3}
theorem qm6 {p pt : Pos} {k1 : Nat} (hg : Gl X "zip") (hm : X.mg "zip" = none) (ha : A3 X [a,b] t) (hs : starEach [a,b] X.env = [(false,eval a X.env),(false,eval b X.env)] := by rfl) (hs2 : starEach [b] X.env = [(false,eval b X.env)] := by rfl) :
  I3 X (.Tuple es k1 pt) (.Call (.Name "zip" p) [a,b] [] pos) (N2 t) :=
 qh0 (qh3 hg hm ha hs hs2) fun σ H R ⟨τ,G,r,rl,h,af⟩ => JW rl h fun xs G1 h1 vs H1 rs hr1 k1 rl1 => by
  split at h1
  ·rename_i x y
   split at h1
   ·rename_i us ws e1 e2
    obtain ⟨v,u,rfl,r1,r2⟩ := qmI rs
    obtain ⟨b1,c1,rfl,f1⟩ := qca hr1 r1 e1
    obtain ⟨b2,c2,rfl,f2⟩ := qca hr1 r2 e2
    obtain ⟨p,sp,_⟩ := f1 G1 H1 hr1 Kp.refl e1
    obtain ⟨q,sq,_⟩ := f2 G1 H1 hr1 Kp.refl e2
    exact ⟨b1,b2,c1,c2,p,q,rfl,sp,sq,af _ _ G1 h1 _ H1 hr1 k1 (qmc f1 f2)⟩
   ·exact h1.elim
  ·exact h1.elim
def qaj : List T → Gp → Q3 → Prop := fun xs G q => match xs with
 | [.ref p] => (match getL G p with | some ys => (match qfV ys with | some k => q (.bl k) G | none => False) | none => False)
 | _ => False
theorem qaJ {K : PySem.W.Frag} {H : Hp} : ∀ {ys : List T} {vs : List V} {k : Bool},Rps K H ys vs → qfV ys = some k → ∃ ks : List Bool,vs = ks.map V.bl∧ks.all id = k
 | _,_,_,.nil,h => by cases h;exact ⟨[],rfl,rfl⟩
 | y :: ys,_,k,.cons a b,h => by
  unfold qfV at h
  split at h
  ·rename_i e;cases e
  ·rename_i j r e
   cases e
   split at h
   ·rename_i i ei
    obtain ⟨ks,rfl,hk⟩ := qaJ b ei
    cases a
    cases h
    exact ⟨j :: ks,rfl,by rw [List.all_cons,hk];rfl⟩
   ·cases h
  ·cases h
theorem LO {K : PySem.W.Frag} : M7 K qaj (fun xs H Q => ∃ (p : Addr) (ks : List Bool),xs = [.ref p]∧SqL K H p (ks.map V.bl)∧Q (.bl (ks.all id)) H) := fun xs vs G H q Q hr rs h af => by
 unfold qaj at h
 split at h
 ·rename_i p
  obtain ⟨v,rfl,r⟩ := SE rs
  cases r
  split at h
  ·rename_i ys e0
   split at h
   ·rename_i k e1
    obtain ⟨us,hs,r2⟩ := zA hr e0
    obtain ⟨ks,rfl,hk⟩ := qaJ r2 e1
    exact ⟨p,ks,rfl,hs,by rw [hk];exact af _ G h _ H (.bl _) hr Kp.refl⟩
   ·exact h.elim
  ·exact h.elim
 ·exact h.elim
end
end L3
namespace L3
open PySem PySem.Spec PyProof.Rows L2
def qni : Value → Bool
 | .type t => t == "list"
 | _ => false
def EN : List (Addr × Obj) → Bool
 | [] => true
 | p :: r => if qni p.2.cls then false else EN r
theorem XX : ∀ {K : List (Addr × Obj)} {a : Addr} {o : Obj},EN K = true → K.lookup a = some o → o.cls ≠ .type "list"
 | [],_,_,_,e => by simp at e
 | (b,x) :: r,a,o,h,e => by
  unfold EN at h
  split at h
  ·cases h
  ·rename_i hx
   rw [List.lookup_cons] at e
   split at e
   ·cases e
    intro z
    rw [z] at hx
    exact hx rfl
   ·exact XX h e
theorem qaa {K : PySem.W.Frag} {H : Hp} {a : Addr} {ns : List Int} (hK : EN K = true) (hO : qmO H) (hS : SqL K H a (ns.map V.int)) : ∃ o,H a = some (.frz o (.lst (ns.map V.int))) := by
 rcases hS with (h | h) | ⟨o,its,n,h1,h2,_⟩
 ·rcases hO a with z | ⟨o,xs,z⟩ <;> (rw [h] at z;cases z)
 ·exact h
 ·exact absurd h2 (XX hK h1)
def only (a : Addr) (ns : List Int) : Gp := fun b => if b = a then some (.frz (ns.map T.int)) else none
theorem qhl {K : PySem.W.Frag} {H : Hp} {a : Addr} {ns : List Int} (h : ∃ o,H a = some (.frz o (.lst (ns.map V.int)))) : HR K (only a ns) H := fun b o e => by
 unfold only at e
 split at e
 ·rename_i hb;subst hb;cases e;exact ⟨_,h,Rps.ints ns⟩
 ·cases e
def CJ : Sp3 := fun ts G q => ∃ (a : Addr) (ns : List Int),ts = [.ref a]∧G a = some (.frz (ns.map T.int))∧ns.length ≤ 63∧∀ G',q (.bl true) G'
theorem qn8 {l : PySem.W.OpenLaw} {k : Nat} {q : Program} {loose : List Str} {XP : (Str → Option Value) → Heap → Prop} {YP : World → Heap → Prop} {d : DefRec} {K : Params → PySem.W.Frag} {x : Str} (hn : l.most = some 63) (hdf : d.params.defaults = []) (hr : Room k callerA)
  (hY : ∀ (w : World) (h : Heap),YP w h → (K w.params).In h) (hK : ∀ w : World,EN (K w.params) = true)
  (F : ∀ (w : World) (mg : Str → Option Value) (fa : Addr) (h : Heap),(K w.params).In h → h.Ns mainGlobals mg → mg d.name = some (.ref fa) →
   ∃ fd : FuncData,(∀ (s : Shared) (u : Value),BindsTo s fd ⟨[u],[]⟩ [(x,u)])∧∀ base : Heap,(K w.params).In base → base.Ns mainGlobals mg → FnOk l.prog w (K w.params) mg base CX0 k fa fd [x] (lSp (K w.params) CJ)) :
  PySem.W.WalkO q loose XP YP l.row.toRowW d [] (fun f vs => PySem.call f vs) :=
 L2.qf1 (n := 63) (k := k) (x := x) (CX := fun _ => CX0) (sp := fun w => lSp (K w.params) CJ) hn (by decide) hdf hr hY F
  (fun w H a ns hl hO hS => ⟨[.ref a],only a ns,fun t _ => t = .bl true,qhl (qaa (hK w) hO hS),.cons (.ref a) .nil,⟨a,ns,rfl,by simp [only],hl,fun _ => rfl⟩,fun t G' e v H' r _ _ => by subst e;cases r;rfl⟩) fun _ _ _ _ _ z => z
theorem qhH {P : Program} {w : World} {K : PySem.W.Frag} {mg : Str → Option Value} {base : Heap} {x qual : Str} {st : Stmt} {f : Addr} {fd : FuncData} {N ps : List Str} {k : Nat} {sp : Sp3} {t3 : TS3} (F : Fun K x qual st f fd) (S : FnScope N ps (qi st))
  (body : ∀ (cdv : Value) (A : Around) (outer : List Env) (s : Shared) (H : Hp) (E : XK),Room k (A.deeper (envOfC qual (qi st) s.heap.objs.size f cdv)) →
   B3 (qcm CX0 P w K mg base N qual (qi st) f cdv A outer s H E).nox (jj st) t3)
  (read : ∀ ts G q,sp ts G q → ts.length = ps.length∧t3 { nx := fun _ G' => q .non G',rt := q } (qs N ts) G) : FnOk P w K mg base CX0 (k + 1) f fd ps (lSp K sp) := by
 refine F.ok S (fun vs H Q E ⟨ts,G,q,h1,h2,h3,h4⟩ => by rw [← h2.length];exact (read ts G q h3).1) fun cdv A outer s H vs Q E hr ⟨ts,G,q,h1,h2,h3,h4⟩ => ?_
 refine ⟨_,body cdv A outer s H E hr,qs N ts,G,_,TL h1 h2,(read ts G q h3).2,⟨fun τ' G' h' σ' H' rl' k' => h4 _ G' h' _ H' .non rl'.hp k',h4,fun _ _ z => z.elim,fun _ _ z => z.elim⟩⟩
end L3
namespace L3
open PySem PySem.Spec PyProof.Rows L2
abbrev eh1 (h : Heap) (o1 : Obj) : Heap := h.push o1
abbrev eh2 (h : Heap) (o1 : Obj) : Heap := (eh1 h o1).push { cls := .type "enumerate",data := .fields #[.none,.bool false,.ref h.objs.size,rawInt 0,.none,.none] }
theorem qab (c : Addr) (o1 : Obj) (ob : Obj) :
  Meets (Builtin.«enumerate.__new__» ⟨[.type "enumerate",.ref c],[]⟩) (fun _ R s => s.heap.get? c = some ob ∧
   (∀ (P : Program) (w : World) (A : Around) (Q : Value → Shared → Prop) (E : Value → Shared → Prop),Q (.ref s.heap.objs.size) { s with heap := eh1 s.heap o1 } → wpAny (model P w) A (pyIter (.ref c)) Q E s) ∧
   R (.ok (.ret (.ref (eh1 s.heap o1).objs.size))) { s with heap := eh2 s.heap o1 }) :=
 .of_wp fun prog w A R s h => by
  obtain ⟨hp,g,d,tk,os⟩ := s
  obtain ⟨hl,h1,h⟩ := h
  have hsub := sub_enumerate
  have k1 := fun A Q E => h1 prog w A Q E
  wp_walk using wpAny_loadPart' hl
  refine wpAny_stack_any fun st => wpAny_pure ?_
  split
  ·rename_i c _ _ _ _ _
   cases (c == Value.type "enumerate")
   ·wp_walk using wpAny_loadPart' hl,k1 _ _ _
    exact ⟨_,rfl,h⟩
   ·wp_walk using wpAny_loadPart' hl,k1 _ _ _
    exact ⟨_,rfl,h⟩
  ·wp_walk using wpAny_loadPart' hl,k1 _ _ _
   exact ⟨_,rfl,h⟩
theorem qcU {b : Bool} {c : Addr} {xs : Array Value} {h : Heap} (q : KB b c xs h) : ∃ o,h.get? c = some o := by
 cases b
 ·obtain ⟨o,e,_⟩ := (show h.IsTuple c xs from q);exact ⟨o,e⟩
 ·obtain ⟨o,e,_⟩ := (show h.IsList c xs from q);exact ⟨o,e⟩
section
variable {P : Program} {w : World} {A : Around} {s : Shared} {E : Value → Shared → Prop}
theorem qaK {b : Bool} {c : Addr} {xs : Array Value} {Q : Value → Shared → Prop} (h1 : KB b c xs s.heap)
  (q : ∀ h',IsEnum h' (s.heap.objs.size + 1) s.heap.objs.size 0 .none → qdf b s.heap.objs.size c 0 h' → (∀ c o,s.heap.get? c = some o → h'.get? c = some o) → Q (.ref (s.heap.objs.size + 1)) { s with heap := h' }) :
  wpAny (model P w) A (call (.type "enumerate") [.ref c]) Q E s := by
 obtain ⟨ob,hob⟩ := qcU h1
 refine callType_new F.called_enumerate (by decide) (F.typeCall_enumerate_1 _) (F.newCall_enumerate_1 _) (fun obj => F.args_object_init_2 obj _) F.entry_enumerate_new
  (qab c (zx b c) ob) ⟨hob,fun P w A Q E q => K2 h1 q,?_⟩
 have e1 : (eh1 s.heap (zx b c)).objs.size = s.heap.objs.size + 1 := Heap.size_push ..
 have g2 : (eh2 s.heap (zx b c)).get? (eh1 s.heap (zx b c)).objs.size = some _ := Heap.get?_push_size _ rfl
 have g1 : (eh2 s.heap (zx b c)).get? s.heap.objs.size = some (zx b c) := Heap.get?_push_of_some _ (Heap.get?_push_size _ rfl)
 show _∧_
 rw [e1] at g2 ⊢
 refine ⟨⟨_,g2,rfl⟩,q _ g2 ?_ fun c o e => Heap.get?_push_of_some _ (Heap.get?_push_of_some _ e)⟩
 cases b <;> exact ⟨_,g1,rfl,rfl⟩
end
theorem qc0 {P : Program} {w : World} {A : Around} (hh : A.handled = none) (b : Bool) (it c : Addr) (hne : c ≠ it) (xs : Array Value) :
  Draws P w A it [it,c] xs.size (fun i v => xs[i]? = some v) (fun i h => qdf b it c i h∧KB b c xs h) where
 live := fun i h st => let ⟨o,e,_⟩ := (zB (P := P) (w := w) b it c).obj st.1;⟨o,e⟩
 frame := fun i h h' st hk => ⟨(zB (P := P) (w := w) b it c).keep st.1 fun o e => hk it (by simp) o e,(zB (P := P) (w := w) b it c).hkeep st.2 fun o e => hk c (by simp) o e⟩
 item := fun i s Q E hi st hQ => by
  refine (zB (P := P) (w := w) b it c).item st.1 st.2 (x := xs[i]) (by simp [hi]) fun h' st' sb => ?_
  exact hQ _ h' s.toks (by simp [hi]) ⟨st',(zB (P := P) (w := w) b it c).hkeep st.2 fun o e => (sb.2 c hne).trans e⟩ sb
 done := fun s Q E st hE => (zB (P := P) (w := w) b it c).done hh st.1 st.2 (by simp) hE
theorem RD {P : Program} {w : World} {A : Around} {s : Shared} {E : Value → Shared → Prop} {b : Bool} {e it c : Addr} {i : Nat} {xs : Array Value} {old : Value} {Q : Option Value → Shared → Prop} (hh : A.handled = none) (he : IsEnum s.heap e it i old) (p1 : qdf b it c i s.heap) (l1 : KB b c xs s.heap) (hx : xs[i]? = none)
  (hQ : ∀ h',Heap.ExtBut it s.heap h' → Q none { s with heap := h' }) : wpAny (model P w) A (pyNext (.ref e)) Q E s := by
 have hT : s.TypeIs (.ref e) "enumerate" := ⟨_,he,rfl⟩
 unfold pyNext
 refine wpAny_bind (wpAny_attempt (wpAny_callSpecial?_slot (name := Str.ofString "__next__") hT F.slot_enumerate_next
  (wpAny_call_entry F.slot_enumerate_next hT F.entry_enumerate_next ?_ (F.args_enumerate_next_1 _))))
 show wpAny _ _ (field (.ref e) 2 >>= _) _ _ _
 refine wpAny_bind (wpAny_field he rfl (x := .ref it) rfl ?_)
 refine wpAny_bind ((zB (P := P) (w := w) b it c).done (show A.in1.handled = none from hh) p1 l1 hx fun h' x he' hx' => ?_)
 obtain ⟨o,ho,hc⟩ := hx'
 refine wpAny_bind (wpAny_isInstance (T := "StopIteration") (b := true) ⟨o,ho,hc⟩ isSubtype_stop ?_)
 exact wpAny_pure (hQ _ he')
def Ite (K : PySem.W.Frag) (b : Bool) (c : Addr) : It :=
  ⟨fun i H => ∃ xs x,SqB K b H c xs∧xs[i]? = some x,
   fun i H v H' => ∃ p x,H p = none∧v = .ref p∧H' = upd H p (.tup [.int i,x])∧(∀ xs,SqB K b H c xs → xs[i]? = some x),
   fun i H => ∃ xs,SqB K b H c xs∧xs.length ≤ i⟩
def qkN (b : Bool) (e it c : Addr) (k : Nat) (h : Heap) : Prop := (∃ old,IsEnum h e it k old)∧qdf b it c k h
theorem qam {P : Program} {w : World} {K : PySem.W.Frag} {es : List Expr} {k1 : Nat} {pt : Pos} {b : Bool} {e it c : Addr} (n1 : e ≠ it) (n2 : c ≠ e) (n3 : c ≠ it) : Turn P w K (.Tuple es k1 pt) (Ite K b c) [e,it] e (qkN b e it c) where
 mem := by simp
 obj := fun i h ⟨⟨old,he⟩,p1⟩ d hd => by
  simp only [List.mem_cons,List.not_mem_nil,or_false] at hd
  rcases hd with rfl | rfl
  ·exact ⟨_,he,fun v q => by cases q⟩
  ·exact (zB (P := P) (w := w) b d c).obj p1
 keep := fun i h h' ⟨⟨old,he⟩,p1⟩ k => ⟨⟨old,k e (by simp) _ he⟩,(zB (P := P) (w := w) b it c).keep p1 fun o e => k it (by simp) o e⟩
 item := by
  intro X hP hw hK hc i pins s σ H E I hf st hg
  subst hP hw hK
  obtain ⟨xs,x,sq,hx⟩ := hg
  obtain ⟨its,rv,l1,z1⟩ := sq.get I
  obtain ⟨u,hu,ru⟩ := rv.get hx
  obtain ⟨⟨old,he⟩,p1⟩ := st
  have hil : i < its.toArray.size := by have := (List.getElem?_eq_some_iff.mp hu).1;simpa using this
  refine wpAny_pyNext_enum_itemD (qc0 (show X.A.in1.handled = none from I.ok.hd hc) b it c n3 its.toArray) he ⟨p1,l1⟩ hil n1 (by simp only [List.mem_cons,List.not_mem_nil,or_false,not_or];exact ⟨n1,Ne.symm n2⟩) fun y h' tk hy ho st' ht hsz hk => ?_
  have hy' : y = u := by
   have : its.toArray[i]? = some u := by simpa using hu
   rw [this] at hy;exact (Option.some.inj hy).symm
  subst hy'
  have hfr : H s.heap.objs.size = none := I.fresh
  have free : ∀ b ∈ [e,it],H b = none := fun b hb => (hf b hb).1
  refine ⟨_,rfl,wpAny_letOwnedTupleGo_enum ho fun h2 hz2 s2 => ?_⟩
  have elt : e < s.heap.objs.size := Heap.lt_size he
  have hp2 : h2.get? s.heap.objs.size = some { cls := .type "tuple",data := .seq #[.int i tk,y] } := (s2.2 _ (Nat.ne_of_gt elt)).trans ht
  have up : ∀ c o,c ≠ e → h'.get? c = some o → h2.get? c = some o := fun c o hc e => (s2.2 c hc).trans e
  have kk : ∀ c o,c ∉ [e,it] → s.heap.get? c = some o → h2.get? c = some o := fun c o hc q => by
   simp only [List.mem_cons,List.not_mem_nil,or_false,not_or] at hc
   exact up c o hc.1 (hk c o hc.1 hc.2 q)
  have I3 : Inv X pins σ (upd H s.heap.objs.size (.tup [.int i,x])) { s with heap := h2,toks := tk + 1 } := by
   refine I.step (g' := s.gens) (d' := s.drawn) (t' := tk + 1) (ch := [e,it]) (fun b hb => ?_) (fun b o _ _ hcb e _ => kk b o hcb e) (fun b o _ _ hcb e _ => ⟨o.slots,kk b o hcb e⟩) (fun b o _ e n => by rw [qC (Nat.ne_of_lt (Heap.lt_size e))];exact n) (fun b o hcb e => ⟨o,kk b o hcb e⟩)
    (fun b _ e => by rw [qC (qw e hfr)];exact e) (fun b _ _ e => by rw [qC (qw e hfr)];exact e) (fun b ps e => ⟨#[],by rw [qC (qw e hfr),e];simp⟩) (fun m hm => ?_) (fun b u e => ?_) I.bare
   ·obtain ⟨f0,f1,f2,f3,f4,f5⟩ := hf b hb
    exact ⟨f3,f1,f4,f5⟩
   ·obtain ⟨o,es',ep,ho',r⟩ := hm
    refine ⟨o,es',ep,kk _ o (fun q => ?_) ho',r⟩
    obtain ⟨f0,f1,_⟩ := hf X.env.locals q
    exact f1 rfl
   ·by_cases hb : b = s.heap.objs.size
    ·subst hb
     rw [zd] at e
     cases e
     exact ⟨by show 2 ≤ sizeLine;decide,[.int i tk,y],.cons ⟨tk,rfl⟩ (.cons ru .nil),⟨_,hp2,rfl,_,rfl⟩⟩
    ·rw [qC hb] at e
     refine (I.hok b u e).stay (fun c v hcb q => kk c v (fun m => ?_) q) (fun _ q => by rw [qC (qw q hfr)];exact q) fun _ _ q => by rw [qC (qw q hfr)];exact q
     have hn := free c m
     rcases hcb with q | q
     ·rw [q] at hn;rw [hn] at e;cases e
     ·rw [hn] at q;cases q
  refine ⟨.ref s.heap.objs.size,_,I3,rfl,⟨_,x,hfr,rfl,rfl,fun zs q => by rw [q.inj I sq];exact hx⟩,⟨⟨_,by push_cast;exact hz2⟩,(zB (P := X.prog) (w := X.w) b it c).keep st'.1 fun o e => up _ o (Ne.symm n1) e⟩,fun b hb => ?_⟩
  rw [qC (fun q => ?_)]
  ·exact free b hb
  ·subst q
   simp only [List.mem_cons,List.not_mem_nil,or_false] at hb
   rcases hb with q | q
   ·exact absurd q (Nat.ne_of_gt elt)
   ·obtain ⟨o,e,_⟩ := (zB (P := X.prog) (w := X.w) b it c).obj p1
    exact absurd q (Nat.ne_of_gt (Heap.lt_size e))
 done := by
  intro X hP hw hK hc i pins s σ H E I hf st hg
  subst hP hw hK
  obtain ⟨xs,sq,hend⟩ := hg
  obtain ⟨its,rv,l1,z1⟩ := sq.get I
  obtain ⟨⟨old,he⟩,p1⟩ := st
  have e1 := rv.length
  have free : ∀ b ∈ [e,it],H b = none := fun b hb => (hf b hb).1
  refine RD (I.ok.hd hc) he p1 l1 (by simp;omega) fun h' hk0 => ⟨rfl,?_⟩
  have hk : ∀ c o,c ∉ [e,it] → s.heap.get? c = some o → h'.get? c = some o := fun c o hcb q => hk0 c o (by simp only [List.mem_cons,List.not_mem_nil,or_false,not_or] at hcb;exact hcb.2) q
  refine I.step (g' := s.gens) (d' := s.drawn) (t' := s.toks) (ch := [e,it]) (fun b hb => ?_) (fun b o _ _ hcb e _ => hk b o hcb e) (fun b o _ _ hcb e _ => ⟨o.slots,hk b o hcb e⟩) (fun _ _ _ _ n => n) (fun b o hcb e => ⟨o,hk b o hcb e⟩) (fun _ _ e => e) (fun _ _ _ e => e) (fun b ps e => ⟨#[],by rw [e];simp⟩) (fun m hm => ?_) (fun b u e => ?_) I.bare
  ·obtain ⟨f0,f1,f2,f3,f4,f5⟩ := hf b hb
   exact ⟨f3,f1,f4,f5⟩
  ·obtain ⟨o,es',ep,ho',r⟩ := hm
   refine ⟨o,es',ep,hk _ o (fun q => ?_) ho',r⟩
   obtain ⟨f0,f1,_⟩ := hf X.env.locals q
   exact f1 rfl
  ·refine (I.hok b u e).stay (fun c v hcb q => hk c v (fun m => ?_) q) (fun _ q => q) fun _ _ q => q
   have hn := free c m
   rcases hcb with q | q
   ·rw [q] at hn;rw [hn] at e;cases e
   ·rw [hn] at q;cases q
 self := fun A i s Q E st h => let ⟨⟨old,he⟩,_⟩ := st;wpAny_pyIter_enum he h
section
variable {X : Cx} {a b e l : Expr} {es : List Expr} {pos : Pos}
theorem qhk {p pt : Pos} {k1 : Nat} {ta : TA} (hg : Gl X "enumerate") (hm : X.mg "enumerate" = none) (ha : PA X [a] ta) (hs : starEach [a] X.env = [(false,eval a X.env)] := by rfl) :
  PI X (.Tuple es k1 pt) (.Call (.Name "enumerate" p) [a] [] pos) (fun σ H R => ta σ H fun vs H1 => ∃ b1 c1 xs,vs = [.ref c1]∧SqB X.K b1 H1 c1 xs∧R (Ite X.K b1 c1) H1) := by
 intro pins s σ H R I h
 refine Call_ (WE I hg hm PyProof.Rows.boot_enumerate (PyProof.Rows.callWith_type1 (thn (ha pos pins s σ H _ I h) fun us s1 ⟨vs,H1,I1,r1,q1⟩ => ?_) (by rw [hs];rfl) (by rfl)))
 obtain ⟨b1,c1,xs,rfl,sq1,q⟩ := q1
 obtain ⟨u1,rfl,e1⟩ := XR r1
 cases (show u1 = Value.ref c1 from e1)
 obtain ⟨its1,rv1,l1,z1⟩ := sq1.get I1
 refine qaK l1 fun h' he hit hk => wpAny_pyIter_enum he ?_
 have lt := qhB l1
 have ne3 : ∀ n c : Nat,c < n → n + 1 ≠ n∧c ≠ n + 1∧c ≠ n := fun n c h => by omega
 obtain ⟨m1,m2,m3⟩ := ne3 _ _ lt
 refine ⟨s1.heap.objs.size + 1,[s1.heap.objs.size + 1,s1.heap.objs.size],_,_,H1,rfl,I1.kept (t' := s1.toks) hk,qam m1 m2 m3,⟨⟨_,he⟩,hit⟩,fun c hc => ?_,q⟩
 have hle : s1.heap.objs.size ≤ c := by
  simp only [List.mem_cons,List.not_mem_nil,or_false] at hc
  rcases hc with rfl | rfl <;> first | exact Nat.le_refl _ | exact Nat.le_add_right _ _
 exact I1.fpOk hle (I1.hok.fresh hle)
end
def jX (k : Nat) : List T → List T
 | [] => []
 | x :: r => .tup [.int (k : Int),x] :: jX (k + 1) r
def qc7 (us : List T) : List T := jX 0 us
theorem E8 : ∀ {us : List T} {k i : Nat} {x : T},(jX k us)[i]? = some x → ∃ a,us[i]? = some a∧x = .tup [.int ((k + i : Nat) : Int),a]
 | [],_,_,_,h => by simp [jX] at h
 | u :: us,k,0,x,h => by simp [jX] at h;exact ⟨u,rfl,by simp [← h]⟩
 | u :: us,k,i + 1,x,h => by
  simp [jX] at h
  obtain ⟨a,ha,hx⟩ := E8 h
  exact ⟨a,by simpa using ha,by rw [hx];congr 4;omega⟩
theorem EY : ∀ (us : List T) (k : Nat),(jX k us).length = us.length
 | [],_ => rfl
 | u :: us,k => by simp [jX,EY us]
theorem qbw (us : List T) : (qc7 us).length = us.length := EY us 0
theorem TJ {us : List T} {i : Nat} {x : T} (h : (qc7 us)[i]? = some x) : ∃ a,us[i]? = some a∧x = .tup [.int (i : Int),a] := by
 obtain ⟨a,ha,hx⟩ := E8 h
 exact ⟨a,ha,by rw [hx];congr 4;omega⟩
theorem qkL {K : PySem.W.Frag} {b1 : Bool} {c1 : Addr} {x : T} {us : List T} {G0 : Gp} {H0 : Hp}
  (f1 : ∀ G H,HR K G H → Kp G0 H0 G H → jc G x = some us → ∃ vs,SqB K b1 H c1 vs∧Rps K H us vs) :
  qhU K (Ite K b1 c1) (qc7 us) (fun G => jc G x = some us) G0 H0 := by
 intro G H hr k h1
 obtain ⟨p,sp,rp⟩ := f1 G H hr k h1
 refine ⟨fun i z hz => ?_,fun i z v H' hz hy => ?_,⟨p,sp,?_⟩⟩
 ·obtain ⟨a,ha,_⟩ := TJ hz
  obtain ⟨v,hv,_⟩ := rp.get ha
  exact ⟨p,v,sp,hv⟩
 ·obtain ⟨a,ha,rfl⟩ := TJ hz
  obtain ⟨t,v1,ht,rfl,rfl,g1⟩ := hy
  obtain ⟨v,hv,rv⟩ := rp.get ha
  have e1 := (g1 p sp).symm.trans hv
  obtain rfl : v1 = v := Option.some.inj e1
  have kk : Kp G H G (upd H t (.tup [.int i,v1])) := Kp.laid ht
  exact ⟨.tup (SqT.of zd) (.cons (.int _) (.cons (rv.keep hr kk) .nil)),hr.laid ht,kk⟩
 ·rw [← rp.length,qbw]
  exact Nat.le_refl _
def SI (ta : TA3) : TI3 := fun τ G r => ta τ G fun xs G1 => match xs with
 | [x] => (match jc G1 x with | some us => r (qc7 us) (fun G => jc G x = some us) G1 | _ => False)
 | _ => False
section
variable {X : Cx} {a b e l : Expr} {es : List Expr} {pos : Pos} {t : TA3}
theorem qim {p pt : Pos} {k1 : Nat} (hg : Gl X "enumerate") (hm : X.mg "enumerate" = none) (ha : A3 X [a] t) (hs : starEach [a] X.env = [(false,eval a X.env)] := by rfl) :
  I3 X (.Tuple es k1 pt) (.Call (.Name "enumerate" p) [a] [] pos) (SI t) :=
 qh0 (qhk hg hm ha hs) fun σ H R ⟨τ,G,r,rl,h,af⟩ => JW rl h fun xs G1 h1 vs H1 rs hr1 k1 rl1 => by
  split at h1
  ·rename_i x
   split at h1
   ·rename_i us e1
    obtain ⟨v,rfl,r1⟩ := SE rs
    obtain ⟨b1,c1,rfl,f1⟩ := qca hr1 r1 e1
    obtain ⟨p,sp,_⟩ := f1 G1 H1 hr1 Kp.refl e1
    exact ⟨b1,c1,p,rfl,sp,af _ _ G1 h1 _ H1 hr1 k1 (qkL f1)⟩
   ·exact h1.elim
  ·exact h1.elim
end
end L3
namespace L3
open PySem PySem.Spec PyProof.Rows L2
section
variable {X : Cx} {a b c e : Expr} {es : List Expr} {ta tb tc te : TE3} {t : TA3} {pos : Pos}
def qoU (i : Nat) (r : R3) (te : TE3) : TS3 := fun d τ G => match τ[i]? with
 | some (some x) => te τ G fun y G1 => r x y G1 fun z G2 => d.nx (τ.set i (some z)) G2
 | _ => False
def CZ : List T → Option (List Int)
 | [] => some []
 | .int i :: r => (match CZ r with | some ns => some (i :: ns) | none => none)
 | _ => none
theorem DP (ns : List Int) : CZ (ns.map T.int) = some ns := by
 induction ns with
 | nil => rfl
 | cons n r ih => simp [CZ,ih]
theorem DJ : ∀ {xs : List T} {ns : List Int},CZ xs = some ns → xs = ns.map T.int
 | [],_,h => by simp [CZ] at h;subst h;rfl
 | x :: r,ns,h => by
  unfold CZ at h
  split at h
  ·rename_i e;cases e
  ·rename_i i r' e
   cases e
   split at h
   ·rename_i ms e2
    cases h
    rw [DJ e2];rfl
   ·cases h
  ·cases h
theorem DG {K : PySem.W.Frag} {H : Hp} : ∀ {ns : List Int} {vs : List V},Rps K H (ns.map T.int) vs → vs = ns.map V.int
 | [],_,r => by cases r;rfl
 | n :: ns,_,r => by
  cases r with
  | cons a b => cases a;rw [DG b];rfl
def qoV : List T → Gp → Q3 → Prop := fun xs G q => match xs with
 | [.ref p] => (match getL G p with | some ys => (match qmY ys with | some k => q (.bl k) G | none => False) | none => False)
 | _ => False
end
end L3
namespace L3
open PySem PySem.Spec PyProof.Rows L2
section
variable {X : Cx}
theorem qg7 {elt tg iter : Expr} {ifs : List Expr} {scope : Scope} {pos cpos : Pos} {N' : List Str} {m : List (Option Nat)} {wi : TI} {g : TG} {tif : TT} {te : TE} {use : Option (Value → Sem Unit)} {Qc : Value → Shared → Prop} {QD : Addr → Hp → Prop} (hc : X.calm = true) (hi : PI X tg iter wi)
  (hg : ∀ s H fp,PG (qk X N' scope s H fp) tg g) (hf : ∀ s H fp,PF (qk X N' scope s H fp) ifs tif) (he : ∀ s H fp,PE (qk X N' scope s H fp) elt te)
  (hsc : qai X.env.scope scope = true) (hcap : VX X.N N' scope m = true) (hs : ∀ x,foldedSetIterable iter X.env x = pure x) {pins : List (Addr × Obj)} {s : Shared} {σ : L2.St} {H : Hp} (I : Inv X pins σ H s)
  (h : wi σ H fun J H1 => ∀ D,H1 D = none →
   ∃ W : Nat → Nat → L2.St → Hp → Prop,(∃ n,W 0 n (cap m σ) (upd H1 D (.lst [])))∧∀ i n σ H,W i n σ H →
    (J.stop i H∧QD D H) ∨ (J.go i H∧∀ x H',J.yld i H x H' → g x σ H' fun σ2 H2 => tif σ2 H2 fun k H3 =>
     if k = true then te σ2 H3 fun y H4 => ∃ zs,H4 D = some (.lst zs)∧zs.length < sizeLine∧∃ n',n' < n∧W (i + 1) n' σ2 (upd H4 D (.lst (zs ++ [y])))
     else ∃ n',n' < n∧W (i + 1) n' σ2 H3))
  (fin : ∀ (D : Addr) (s3 : Shared) (H3 : Hp) (fp : List Addr) (s6 : Shared) (H6 : Hp) (σ6 : L2.St) (r : Flow),Inv X pins σ H3 s3 → (∀ b ∈ fp,TK X pins H3 b) → Inv (qk X N' scope s3 H3 fp) [] σ6 H6 s6 → QD D H6 → compPost (model X.prog X.w) X.A X.xe use Qc (.ref D) s3.heap.objs.size (.ok r) s6) :
  wpAny (model X.prog X.w) X.A (comprehension (.ListComp elt [⟨tg,iter,ifs,0⟩] scope pos) scope X.env cpos (newList []) false (eval iter X.env) use) Qc X.xe s := by
 have sc := EG hsc
 have hcl : ∀ y ∈ scope.names,y.2 = .free → ∃ c,X.env.cells.lookup y.1 = some c := fun y hy e => by
  rcases (sc.free y hy e).2 with z | z
  ·exact I.ok.has y.1 (.inl z)
  ·exact I.ok.has y.1 (.inr z)
 refine wpAny_comprehension_free (g := ⟨tg,iter,ifs,0⟩) (gs := []) rfl hs (JC hcl) sc.kind sc.loc ?_
 show wpAny _ _ (eval iter X.env) _ _ s
 refine thn (hi pins s σ H _ I h) fun v s1 h1 => thn h1 fun itv s2 h2 => ?_
 obtain ⟨it,fp,tn,J,H2,rfl,I2,T,st2,f2,hW⟩ := h2
 refine wpAny_newObj_type ?_
 have hD : H2 s2.heap.objs.size = none := I2.fresh
 obtain ⟨W,⟨n0,w0⟩,turn⟩ := hW _ hD
 generalize hDe : s2.heap.objs.size = D at *
 have I3 : Inv X pins σ (upd H2 D (.lst [])) { s2 with heap := s2.heap.push { cls := .type "list",dict := none,data := .seq ([] : List Value).toArray } } := by
  subst hDe
  exact I2.laid (t' := s2.toks) (fun b u e => Heap.get?_push_of_some _ e) (Nat.le_refl _) ⟨Nat.zero_le _,[],0,.nil,Heap.get?_push_size _ rfl⟩
 have ob2 := T.obj 0 _ st2
 have ob3 : ∀ b ∈ fp,∃ o,(s2.heap.push { cls := .type "list",dict := none,data := .seq ([] : List Value).toArray }).get? b = some o := fun b hb => let ⟨o,e,_⟩ := ob2 b hb;⟨o,Heap.get?_push_of_some _ e⟩
 have f3 : ∀ b ∈ fp,TK X pins (upd H2 D (.lst [])) b := fun b hb => by
  obtain ⟨o,e,_⟩ := ob2 b hb
  have : b ≠ D := by rw [← hDe];exact Nat.ne_of_lt (Heap.lt_size e)
  exact ⟨by rw [qC this];exact (f2 b hb).1,(f2 b hb).2⟩
 have k23 : ∀ b o,s2.heap.get? b = some o → (s2.heap.push { cls := .type "list",dict := none,data := .seq ([] : List Value).toArray }).get? b = some o := fun b o e => Heap.get?_push_of_some _ e
 generalize hH3 : upd H2 D (.lst []) = H3 at *
 generalize hs3 : ({ s2 with heap := s2.heap.push { cls := .type "list",dict := none,data := .seq ([] : List Value).toArray } } : Shared) = s3 at *
 have ob3 : ∀ b ∈ fp,∃ o,s3.heap.get? b = some o := by rw [← hs3];exact ob3
 have k23 : ∀ b o,s2.heap.get? b = some o → s3.heap.get? b = some o := by rw [← hs3];exact k23
 refine jT fun h₁ hns hk hown => ?_
 have I4 : Inv (qk X N' scope s3 H3 fp) [] (cap m σ) H3 { s3 with heap := h₁ } := R9 hc I3 sc hcap f3 ob3 hns hk hown
 have tn4 : tn 0 h₁ := T.keep _ _ _ st2 fun b hb o e => hk b o (k23 b o e)
 have fr4 : ∀ b ∈ fp,H3 b = none := fun b hb => (f3 b hb).1
 have stat : ∀ {H' : Hp},(∀ b ∈ fp,H' b = none) → ∀ b ∈ fp,TK (qk X N' scope s3 H3 fp) [] H' b := fun hn b hb => by
  refine ⟨hn b hb,I4.ok.exf b hb |>.1,I4.ok.exfs b hb,.inl hb,fun x c e => (I4.ok.exf b hb).2 x c e,fun p hp => absurd (show p ∈ ([] : List (Addr × Obj)) from hp) (by simp)⟩
 show codeAny (model X.prog X.w) X.A (.compStart (.ListComp elt [⟨tg,iter,ifs,0⟩] scope pos) 0 (.ref it) (.ref D) (qk X N' scope s3 H3 fp).env) (compPost (model X.prog X.w) X.A X.xe use Qc (.ref D) s3.heap.objs.size) { s3 with heap := h₁ }
 have loop : codeAny (model X.prog X.w) X.A (.compLoop (.ListComp elt [⟨tg,iter,ifs,0⟩] scope pos) 0 (.ref it) (.ref D) (qk X N' scope s3 H3 fp).env) (compPost (model X.prog X.w) X.A X.xe use Qc (.ref D) s3.heap.objs.size) { s3 with heap := h₁ } := by
  refine codeAny_loop rfl (fun n s' => ∃ i σ' H',Inv (qk X N' scope s3 H3 fp) [] σ' H' s'∧tn i s'.heap∧(∀ b ∈ fp,H' b = none)∧W i n σ' H') (fun n s' hI => ?_) n0 ⟨0,cap m σ,H3,I4,tn4,fr4,w0⟩
  show wpAny _ X.A ((compTurn (.ListComp elt [⟨tg,iter,ifs,0⟩] scope pos) 0 (.ref it) (.ref D) (qk X N' scope s3 H3 fp).env).onRaise (fun x => do noteFrame x (qk X N' scope s3 H3 fp).env;theTreesLotGoes x)) _ _ s'
  refine wpAny_noted ?_
  rw [compTurn_list]
  refine wpAny_bind (wpAny_standAt (wpAny_bind ?_))
  obtain ⟨i,σ5,H5,I5,st5,fr5,w5⟩ := hI
  rcases turn i n σ5 H5 w5 with ⟨stop,q⟩ | ⟨go,step⟩
  ·refine thn (T.done (qk X N' scope s3 H3 fp) rfl rfl rfl rfl i [] s' σ5 H5 _ I5 (stat fr5) st5 stop) fun r s6 ⟨hr,I6⟩ => ?_
   subst hr
   refine wpAny_pure ?_
   exact fin D s3 H3 fp s6 H5 σ5 _ I3 f3 I6 q
  ·refine thn (T.item (qk X N' scope s3 H3 fp) rfl rfl rfl rfl i [] s' σ5 H5 _ I5 (stat fr5) st5 go) fun r s6 ⟨u,hr,h6⟩ => ?_
   subst hr
   refine wpAny_bind (thn h6 fun _ s7 ⟨x,H7,I7,r7,y7,st7,fr7⟩ => ?_)
   have I7' := I7.pinned (stat fr7) (T.obj _ _ st7)
   have again : ∀ {σ8 : L2.St} {H8 : Hp} {s8 : Shared},Inv (qk X N' scope s3 H3 fp) ([] ++ E6 fp s7.heap) σ8 H8 s8 → (∃ n',n' < n∧W (i + 1) n' σ8 H8) →
     ∃ m',m' < n∧∃ i σ' H',Inv (qk X N' scope s3 H3 fp) [] σ' H' s8∧tn i s8.heap∧(∀ b ∈ fp,H' b = none)∧W i m' σ' H' := fun {σ8 H8 s8} I8 ⟨n',hn,w8⟩ => by
    refine ⟨n',hn,i + 1,σ8,H8,I8.unpinned,T.keep _ _ _ st7 fun b hb o e => (I8.pin (b,o) (List.mem_append_right _ (List.mem_append_right _ (zt hb e)))).1,fun b hb => ?_,w8⟩
    obtain ⟨o,e,d⟩ := T.obj _ _ st7 b hb
    exact (I8.pin (b,o) (List.mem_append_right _ (List.mem_append_right _ (zt hb e)))).2.1
   refine wpAny_bind (wpAny_mono (hg s3 H3 fp _ s7 σ5 H7 x u _ I7' r7 (step x H7 y7)) (fun _ s8 ⟨σ8,H8,I8,q8⟩ => ?_) fun _ _ z => z.elim)
   refine wpAny_bind (wpAny_mono (hf s3 H3 fp _ s8 σ8 H8 _ I8 q8) (fun k s9 ⟨H9,I9,q9⟩ => ?_) fun _ _ z => z.elim)
   cases k with
   | false =>
    rw [if_neg Bool.false_ne_true] at q9
    exact wpAny_pure ⟨rfl,again I9 q9⟩
   | true =>
    rw [if_pos rfl] at q9
    refine wpAny_bind (wpAny_bind (wpAny_mono (he s3 H3 fp _ s9 σ8 H9 _ I9 q9) (fun w s10 ⟨y,H10,I10,r10,q10⟩ => ?_) fun _ _ z => z.elim))
    obtain ⟨zs,hz,hl,q10⟩ := q10
    refine wpAny_bind (wpAny_mono (UW (X := qk X N' scope s3 H3 fp) _ s10 σ8 H10 (.ref D) [y] (.ref D) [w] (fun _ H11 => H11 = upd H10 D (.lst (zs ++ [y]))) I10 rfl (.cons r10 .nil) ⟨D,zs,y,rfl,rfl,hz,hl,rfl⟩) (fun _ s11 ⟨_,H11,I11,_,e11⟩ => ?_) fun _ _ z => z.elim)
    subst e11
    exact wpAny_pure (wpAny_pure ⟨rfl,again I11 q10⟩)
 exact codeAny_compStart_list loop (T.self X.A 0 _ _ _ tn4 loop)
theorem qdB {i : Nat} {y : Str} {py spos : Pos} {elt tg iter : Expr} {ifs : List Expr} {scope : Scope} {pos : Pos} {N' : List Str} {m : List (Option Nat)} {wi : TI} {g : TG} {tif : TT} {te : TE} (hc : X.calm = true) (hN : X.N.Nodup) (hi : PI X tg iter wi)
  (hg : ∀ s H fp,PG (qk X N' scope s H fp) tg g) (hf : ∀ s H fp,PF (qk X N' scope s H fp) ifs tif) (he : ∀ s H fp,PE (qk X N' scope s H fp) elt te)
  (hsc : qai X.env.scope scope = true) (hcap : VX X.N N' scope m = true) (hs : ∀ x,foldedSetIterable iter X.env x = pure x) (hiy : X.N[i]? = some y) (hl : X.env.scope.names.lookup y = some .local)
  (hsw : swapsWith (.ListComp elt [⟨tg,iter,ifs,0⟩] scope pos) (some (.Name y py)) spos.line X.env = pure true) :
  PS X (.Assign [.Name y py] (.ListComp elt [⟨tg,iter,ifs,0⟩] scope pos) spos) (qnY (tLC wi g tif te m) (qgR i)) := by
 intro pins s σ H D I h
 rw [exec_Assign_Name_used _ _ _ _ hsw]
 refine wpAny_bind (wpAny_standAt (wpAny_bind ?_))
 show wpAny _ X.A (do let _ ← comprehension (.ListComp elt [⟨tg,iter,ifs,0⟩] scope pos) scope X.env _ (newList []) false (eval iter X.env) (some (assign (.Name y py) X.env))) _ _ s
 refine wpAny_bind (wpAny_mono (qg7 (use := some (assign (.Name y py) X.env)) (QD := fun D' H' => D.nx (σ.set i (some (.ref D'))) H') (Qc := fun _ s' => ∃ σ' H',Inv X pins σ' H' s'∧D.nx σ' H') hc hi hg hf he hsc hcap hs I h fun D' s3 H3 fp s6 H6 σ6 r I3 f3 I6 q => ?_) (fun _ s' hq => wpAny_pure (wpAny_pure hq)) fun _ _ e => e)
 have I7 : Inv X pins σ H6 s6 := EA (h2 := s6.heap) I3 f3 I6 ⟨rfl,fun _ _ => rfl⟩
 obtain ⟨mm,hn6,_⟩ := I6.loc
 have hfC : TK X pins H6 s3.heap.objs.size := I3.fpOk (Nat.le_refl _) I6.free
 obtain ⟨f0,f1,f2,f3',f4,f5⟩ := hfC
 show wpAny _ X.A (assign (.Name y py) X.env (.ref D')) _ _ _
 refine wpAny_assign_Name (SM I7 hN hiy (.inl hl) (v := .ref D') rfl (fun s8 I8 hch => ?_) (.inr hl))
 obtain ⟨a,sb,ha⟩ := hch
 have hne : s3.heap.objs.size ≠ a := by
  rcases ha with rfl | ha
  ·exact f1
  ·exact Ne.symm (f4 _ _ ha)
 refine ⟨mm,hn6.sameBut sb hne,fun h' sb' => ⟨_,_,I8.turned (t' := s8.toks) (fun b o hb e => (sb'.2 b hb).trans e) f0 f1 f3' f4 f5,q⟩⟩
end
theorem qoJ {K : PySem.W.Frag} {m : List (Option Nat)} {wi : TI3} {g : TG3} {tif : TT3} {te : TE3} {σ : L2.St} {H : Hp} {Q : VK} (hh : lE K (lc3 wi g tif te m) σ H Q) : tLC (lI K wi) (lG K g) (lT K tif) (lE K te) m σ H Q := by
  obtain ⟨τ,G,q,rl,h,af⟩ := hh
  refine ⟨τ,G,_,rl,h,fun items stay G1 h1 J H1 hr1 k1 ok D hD => ?_⟩
  have gD : G1 D = none := hr1.free hD
  refine ⟨fun i n σ' H' => n = items.length - i∧i ≤ items.length∧∃ τ' G' ys vs,Rel K τ' G' σ' H'∧Kp G1 H1 G' H'∧H' D = some (.lst vs)∧Rps K H' ys vs∧G' D = none∧ND stay g tif te q (items.drop i) ys τ' G',
   ⟨_,rfl,Nat.zero_le _,cap m τ,G1,[],[],((rl.next hr1 k1).cap m).next (hr1.laid hD) (Kp.laid hD),Kp.laid hD,zd,.nil,gD,by simpa using h1⟩,?_⟩
  rintro i n σ' H' ⟨rfl,hi,τ',G',ys,vs,rl',k',hDl,rys,gD',h'⟩
  by_cases hlt : i < items.length
  ·rw [List.drop_eq_getElem_cons hlt] at h'
   obtain ⟨hst,h'⟩ := h'
   obtain ⟨go,yld,_⟩ := ok G' H' rl'.hp k' hst
   have hx : items[i]? = some items[i] := List.getElem?_eq_getElem hlt
   refine .inr ⟨go i _ hx,fun v H2 y => ?_⟩
   obtain ⟨rv,hr2,k2⟩ := yld i _ v H2 hx y
   have nxt : ∀ {τ4 : St3} {G4 : Gp} {σ4 : L2.St} {H4 : Hp} {ys4 : List T} {vs4 : List V},Rel K τ4 G4 σ4 H4 → Kp G1 H1 G4 H4 → H4 D = some (.lst vs4) → Rps K H4 ys4 vs4 → G4 D = none → ND stay g tif te q (items.drop (i + 1)) ys4 τ4 G4 →
     ∃ n',n' < items.length - i∧(n' = items.length - (i + 1)∧i + 1 ≤ items.length∧∃ τ' G' ys vs,Rel K τ' G' σ4 H4∧Kp G1 H1 G' H4∧H4 D = some (.lst vs)∧Rps K H4 ys vs∧G' D = none∧ND stay g tif te q (items.drop (i + 1)) ys τ' G') :=
    fun {τ4 G4 σ4 H4 ys4 vs4} a b c d e f => ⟨_,by omega,rfl,hlt,τ4,G4,ys4,vs4,a,b,c,d,e,f⟩
   refine ⟨_,τ',G',_,rv,rl'.next hr2 k2,h',fun τ3 G3 h3 σ3 H3 rl3 k3 => ⟨τ3,G3,_,rl3,h3,fun k G4 h4 H4 hr4 k4 => ?_⟩⟩
   have kk := (k2.trans k3).trans k4
   obtain ⟨hD4,gD4⟩ := kk D _ hDl gD'
   have rys4 := rys.keep rl'.hp kk
   cases k with
   | false =>
    rw [if_neg Bool.false_ne_true] at h4
    refine qmJ ?_
    exact nxt (rl3.next hr4 k4) (k'.trans kk) hD4 rys4 gD4 h4
   | true =>
    rw [if_pos rfl] at h4
    refine qmH ?_
    refine ⟨τ3,G4,_,rl3.next hr4 k4,h4,fun z G5 h5 w H5 rw5 hr5 k5 => ?_⟩
    obtain ⟨hD5,gD5⟩ := k5 D _ hD4 gD4
    have rys5 := rys4.keep hr4 k5
    exact ⟨vs,hD5,by rw [← rys.length];exact h5.1,nxt (((rl3.next hr4 k4).next hr5 k5).wrD hD5 gD5) (((k'.trans kk).trans k5).wrD hD) zd ((rys5.append (.cons rw5 .nil)).wrD hD5) gD5 h5.2⟩
  ·have e : i = items.length := by omega
   subst e
   rw [List.drop_length] at h'
   obtain ⟨_,_,stop⟩ := ok G' H' rl'.hp k' h'.1
   refine .inl ⟨stop,af _ _ (h'.2 D gD') _ H' (.ref D) (fun a o e => ?_) fun a o e ga => ?_⟩
   ·by_cases ha : a = D
    ·subst ha
     rw [qE] at e;cases e
     exact ⟨vs,hDl,rys⟩
    ·rw [jR ha] at e
     exact rl'.hp a o e
   ·obtain ⟨e1,g1⟩ := k1 a o e ga
    obtain ⟨e2,g2⟩ := k' a o e1 g1
    exact ⟨e2,by rw [jR (qw e1 hD)];exact g2⟩
theorem qhJ {X : Cx} {py spos : Pos} {elt tg iter : Expr} {ifs : List Expr} {scope : Scope} {pos : Pos} {y : Str} (i : Nat) (N' : List Str) (m : List (Option Nat)) {wi : TI3} {g : TG3} {tif : TT3} {te : TE3} (hc : X.calm = true) (hN : X.N.Nodup) (hi : I3 X tg iter wi)
  (hg : ∀ s H fp,G3 (qk X N' scope s H fp) tg g) (hf : ∀ s H fp,F3 (qk X N' scope s H fp) ifs tif) (he : ∀ s H fp,E3 (qk X N' scope s H fp) elt te)
  (hsc : qai X.env.scope scope = true) (hcap : VX X.N N' scope m = true) (hl : X.env.scope.names.lookup y = some .local) (hsw : swapsWith (.ListComp elt [⟨tg,iter,ifs,0⟩] scope pos) (some (.Name y py)) spos.line X.env = pure true) (hiy : X.N[i]? = some y := by rfl) (hs : ∀ x,foldedSetIterable iter X.env x = pure x := by intro _;rfl) :
  S3 X (.Assign [.Name y py] (.ListComp elt [⟨tg,iter,ifs,0⟩] scope pos) spos) (zm (lc3 wi g tif te m) (gn3 i)) :=
 qdt (qdB (g := lG X.K g) (tif := lT X.K tif) (te := lE X.K te) hc hN hi hg hf he hsc hcap hs hiy hl hsw) fun _ σ H ⟨τ,G,d,rl,h,af⟩ =>
  qoJ ⟨τ,G,_,rl,h,fun x G1 h1 v H1 rx hr1 k1 => af.nx _ G1 h1 _ H1 ((rl.next hr1 k1).set i rx) k1⟩
end L3
set_option autoImplicit true
namespace L3
open PySem PySem.Spec PyProof.Rows L2
structure jE3 (X : Cx) (e : Expr) (t : TE3) : Prop where h : E3 X e t
structure jC3 (X : Cx) (e : Expr) (t : TT3) : Prop where h : C3 X e t
structure jW3 (X : Cx) (e : Expr) (t : TT3) : Prop where h : W3 X e t
structure jA3 (X : Cx) (e : List Expr) (t : TA3) : Prop where h : A3 X e t
structure jP3 (X : Cx) (e : Option Expr) (t : TO3) : Prop where h : P3 X e t
structure jS3 (X : Cx) (e : Stmt) (t : TS3) : Prop where h : S3 X e t
structure jB3 (X : Cx) (e : List Stmt) (t : TS3) : Prop where h : B3 X e t
structure jG3 (X : Cx) (e : Expr) (t : TG3) : Prop where h : G3 X e t
structure jGs3 (X : Cx) (e : List Expr) (t : KD) : Prop where h : Gs3 X e t
structure jI3 (X : Cx) (tg e : Expr) (t : TI3) : Prop where h : I3 X tg e t
structure jF3 (X : Cx) (e : List Expr) (t : TT3) : Prop where h : F3 X e t
theorem qb {X : Cx} (i : Nat) {x : Str} {pos : Pos} (hN : X.N[i]? = some x := by rfl) (hv : Vis X.env.scope x := by first | exact Or.inl rfl | exact Or.inr (Or.inl rfl) | exact Or.inr (Or.inr rfl)) (hd : (x == ("__debug__" : Str)) = false := by decide)
  (hcd : (x == ("__classdict__" : Str)) = false := by decide) : jE3 X (.Name x pos) (v3 i) :=
 ⟨qnK (i := i) (hN := hN) (hv := hv) (hd := hd) (hcd := hcd)⟩
theorem qe {X : Cx} {i : Int} {j pos} : jE3 X (.Constant (.int i) j pos) (c3 (.int i)) :=
 ⟨qoB ⟩
theorem qaV {X : Cx} {b : Bool} {j pos} : jE3 X (.Constant (.bool b) j pos) (c3 (.bl b)) :=
 ⟨qpT ⟩
theorem EU {X : Cx} {j pos} : jE3 X (.Constant .none j pos) (c3 .non) :=
 ⟨qoK ⟩
theorem zg {X : Cx} {x : Str} {j pos} : jE3 X (.Constant (.str x) j pos) (c3 (.str x)) :=
 ⟨qnE ⟩
theorem Q0 {ta : TE3} {tb : TE3} {pos : Pos} {a : Expr} {b : Expr} {X : Cx} {op : CmpOp} {r3 : R3} {r : R2} (ho : OpR X (compareOp op) r) (hr : WA X.K r3 r) (ha : jE3 X a ta) (hb : jE3 X b tb) (hm : behindInMarks op b = false) : jE3 X (.Compare a [op] [b] pos) (o3 r3 ta tb) :=
 ⟨qov (ho := ho) (hr := hr) (ha := ha.h) (hb := hb.h) (hm := hm)⟩
theorem qO {ta : TE3} {tb : TE3} {pos : Pos} {a : Expr} {b : Expr} {X : Cx} {op : CmpOp} {r3 : R3} {r : R2} (ho : OpR X (compareOp op) r) (hr : WA X.K r3 r) (ha : jE3 X a ta) (hb : jE3 X b tb) (hm : behindInMarks op b = false) : jC3 X (.Compare a [op] [b] pos) (tb3 (o3 r3 ta tb)) :=
 ⟨qot (ho := ho) (hr := hr) (ha := ha.h) (hb := hb.h) (hm := hm)⟩
theorem MU {ta : TE3} {tb : TE3} {tc : TE3} {pos : Pos} {a : Expr} {b : Expr} {c : Expr} {X : Cx} {op op' : CmpOp} {r3 r3' : R3} {r r' : R2} (ho : OpR X (compareOp op) r) (hr : WA X.K r3 r) (ho' : OpR X (compareOp op') r') (hr' : WA X.K r3' r') (ha : jE3 X a ta) (hb : jE3 X b tb) (hc : jE3 X c tc)
  (hm : lastMarks [op,op'] [b,c] = false := by with_unfolding_all rfl) : jE3 X (.Compare a [op,op'] [b,c] pos) (ch3 r3 r3' ta tb tc) :=
 ⟨qhL (ho := ho) (hr := hr) (ho' := ho') (hr' := hr') (ha := ha.h) (hb := hb.h) (hc := hc.h) (hm := hm)⟩
theorem EW {ta : TE3} {tb : TE3} {pos : Pos} {a : Expr} {b : Expr} {X : Cx} (ha : jE3 X a ta) (hb : jE3 X b tb) : jE3 X (.BinOp a .Sub b pos) (o3 (iI (· - ·)) ta tb) :=
 ⟨qn2 (ha := ha.h) (hb := hb.h)⟩
theorem zu {ta : TE3} {tb : TE3} {pos : Pos} {a : Expr} {b : Expr} {X : Cx} (ha : jE3 X a ta) (hb : jE3 X b tb) : jE3 X (.BinOp a .Mult b pos) (o3 (iC QP (· * ·)) ta tb) :=
 ⟨qnN (ha := ha.h) (hb := hb.h)⟩
theorem UK {ta : TE3} {tb : TE3} {pos : Pos} {a : Expr} {b : Expr} {X : Cx} (ha : jE3 X a ta) (hb : jE3 X b tb) : jE3 X (.BinOp a .Mod b pos) (o3 (iC (fun _ j => 0 < j) (· % ·)) ta tb) :=
 ⟨qoz (ha := ha.h) (hb := hb.h)⟩
theorem NA {ta : TE3} {tb : TE3} {pos : Pos} {a : Expr} {b : Expr} {X : Cx} (ha : jE3 X a ta) (hb : jE3 X b tb) : jE3 X (.BinOp a .FloorDiv b pos) (o3 (iC qht (· / ·)) ta tb) :=
 ⟨qnl (ha := ha.h) (hb := hb.h)⟩
theorem qlq {ta : TE3} {tb : TE3} {pos : Pos} {a : Expr} {b : Expr} {X : Cx} (ha : jE3 X a ta) (hb : jE3 X b tb) : jE3 X (.BinOp a .Pow b pos) (o3 (iC KF (fun i j => i ^ j.toNat)) ta tb) :=
 ⟨qnH (ha := ha.h) (hb := hb.h)⟩
theorem qay {ta : TE3} {tb : TE3} {pos : Pos} {a : Expr} {b : Expr} {X : Cx} (ha : jE3 X a ta) (hb : jE3 X b tb) : jE3 X (.BinOp a .LShift b pos) (o3 (iC KF (fun i j => i * 2 ^ j.toNat)) ta tb) :=
 ⟨qn4 (ha := ha.h) (hb := hb.h)⟩
theorem EZ {ta : TE3} {pos : Pos} {a : Expr} {X : Cx} (ha : jE3 X a ta) : jE3 X (.UnaryOp .USub a pos) (u3 KY ta) :=
 ⟨qnC (ha := ha.h)⟩
theorem qg4 {tA : TT3} {pos : Pos} {a : Expr} {X : Cx} (ha : jC3 X a tA) : jW3 X (.BoolOp .And [a] pos) tA :=
 ⟨qlD (ha := ha.h)⟩
theorem qdL {tA : TT3} {pos : Pos} {a : Expr} {X : Cx} (ha : jC3 X a tA) : jW3 X (.BoolOp .Or [a] pos) tA :=
 ⟨qnZ (ha := ha.h)⟩
theorem qi1 {ZJ : List Expr} {tA : TT3} {tB : TT3} {pos : Pos} {a : Expr} {X : Cx} (ha : jC3 X a tA) (hb : jW3 X (.BoolOp .And (b :: ZJ) pos) tB) : jW3 X (.BoolOp .And (a :: b :: ZJ) pos) (qgg tA tB) :=
 ⟨qnR (ha := ha.h) (hb := hb.h)⟩
theorem qiS {ZJ : List Expr} {tA : TT3} {tB : TT3} {pos : Pos} {a : Expr} {X : Cx} (ha : jC3 X a tA) (hb : jW3 X (.BoolOp .Or (b :: ZJ) pos) tB) : jW3 X (.BoolOp .Or (a :: b :: ZJ) pos) (or3 tA tB) :=
 ⟨qp2 (ha := ha.h) (hb := hb.h)⟩
theorem S0 {tA : TT3} {pos : Pos} {a : Expr} {X : Cx} (ha : jC3 X a tA) : jC3 X (.UnaryOp .Not a pos) (N8 tA) :=
 ⟨qnW (ha := ha.h)⟩
theorem EV {X : Cx} {e : Expr} {t : TE3} (h : jE3 X e t) (he : ∀ whole,isTrue e X.env whole = (do let v ← whole;standAt e.pos;holding [v] (truthy v)) := by intro _;rfl) : jC3 X e (tb3 t) :=
 ⟨qof (h := h.h) (he := he)⟩
theorem UZ {ta : TE3} {pos : Pos} {a : Expr} {X : Cx} {op} (h : jE3 X a ta) : jE3 X (.BoolOp op [a] pos) ta :=
 ⟨qom (h := h.h)⟩
theorem ZN {ZJ : List Expr} {ta : TE3} {tb : TE3} {pos : Pos} {a : Expr} {X : Cx} (ha : jE3 X a ta) (hb : jE3 X (.BoolOp .And (b :: ZJ) pos) tb) : jE3 X (.BoolOp .And (a :: b :: ZJ) pos) (jY ta tb) :=
 ⟨qoM (ha := ha.h) (hb := hb.h)⟩
theorem qeK {ta : TE3} {pos : Pos} {a : Expr} {X : Cx} (ha : jE3 X a ta) : jE3 X (.UnaryOp .Not a pos) (K8 ta) :=
 ⟨qoy (ha := ha.h)⟩
theorem qcx {tA : TT3} {ta : TE3} {tb : TE3} {pos : Pos} {a : Expr} {b : Expr} {X : Cx} {c : Expr} (hc : jC3 X c tA) (ha : jE3 X a ta) (hb : jE3 X b tb) : jE3 X (.IfExp c a b pos) (if3 tA ta tb) :=
 ⟨qpW (hc := hc.h) (ha := ha.h) (hb := hb.h)⟩
theorem qd {X : Cx}  : jA3 X [] qj :=
 ⟨qnj ⟩
theorem qa {te : TE3} {t : TA3} {es : List Expr} {X : Cx} (ha : jE3 X e te) (hr : jA3 X es t) (hs : starEach (e :: es) X.env = (false,eval e X.env) :: starEach es X.env := by rfl) : jA3 X (e :: es) (qc te t) :=
 ⟨qiT (ha := ha.h) (hr := hr.h) (hs := hs)⟩
theorem qJ {t : TA3} {pos : Pos} {es : List Expr} {X : Cx} {x1} (h : jA3 X es t) : jE3 X (.Tuple es x1 pos) (jr t) :=
 ⟨qnO (h := h.h)⟩
theorem QH {t : TA3} {pos : Pos} {es : List Expr} {X : Cx} (h : jA3 X es t) : jE3 X (.List es pos) (VF t) :=
 ⟨qnI (h := h.h)⟩
theorem qA {t : TA3} {pos : Pos} {es : List Expr} {X : Cx} {x : Str} {p : Pos} {id : String} {r3 : List T → Gp → Q3 → Prop} {r : List V → Hp → VK → Prop} (hc : J0 X (.builtin id) r) (hr : M7 X.K r3 r) (hg : Gl X x) (hm : X.mg x = none) (hv : bootBuiltins x = some (.builtin id)) (ha : jA3 X (e :: es) t) (hn : x ≠ "__name__" := by decide) (hdb : (x == ("__debug__" : Str)) = false := by decide)
  (he : starEach (e :: es) X.env = (false,eval e X.env) :: starEach es X.env := by rfl) (hpl : (backTo pos (starEach es X.env)).any (·.1) = false := by rfl) : jE3 X (.Call (.Name x p) (e :: es) [] pos) (cb3 r3 t) :=
 ⟨qhC (hc := hc) (hr := hr) (hg := hg) (hm := hm) (hv := hv) (ha := ha.h) (hn := hn) (hdb := hdb) (he := he) (hpl := hpl)⟩
theorem jd {t : TA3} {pos : Pos} {es : List Expr} {X : Cx} {x : Str} {p : Pos} {ty : String} {r3 : List T → Gp → Q3 → Prop} {r : List V → Hp → VK → Prop} (hc : J0 X (.type ty) r) (hr : M7 X.K r3 r) (hg : Gl X x) (hm : X.mg x = none) (hv : bootBuiltins x = some (.type ty)) (ha : jA3 X (e :: es) t) (hn : x ≠ "__name__" := by decide) (hdb : (x == ("__debug__" : Str)) = false := by decide)
  (he : starEach (e :: es) X.env = (false,eval e X.env) :: starEach es X.env := by rfl) (hpl : (backTo pos (starEach es X.env)).any (·.1) = false := by rfl) : jE3 X (.Call (.Name x p) (e :: es) [] pos) (cb3 r3 t) :=
 ⟨qdr (hc := hc) (hr := hr) (hg := hg) (hm := hm) (hv := hv) (ha := ha.h) (hn := hn) (hdb := hdb) (he := he) (hpl := hpl)⟩
theorem qr {ta : TE3} {tb : TE3} {pos : Pos} {a : Expr} {b : Expr} {X : Cx} (ha : jE3 X a ta) (hb : jE3 X b tb) (hs : U9 b := by intro _ _;rfl) : jE3 X (.Subscript a b pos) (o3 ix3 ta tb) :=
 ⟨qpu (ha := ha.h) (hb := hb.h) (hs := hs)⟩
theorem KW {X : Cx}  : jP3 X none np3 :=
 ⟨qkv ⟩
theorem VS {te : TE3} {e : Expr} {X : Cx} (h : jE3 X e te) : jP3 X (some e) (sp3 te) :=
 ⟨qic (h := h.h)⟩
theorem UC {te : TE3} {pos : Pos} {e : Expr} {X : Cx} {lo hi : Option Expr} {tl th : TO3} {p2 : Pos} (he : jE3 X e te) (hl : jP3 X lo tl) (hu : jP3 X hi th) : jE3 X (.Subscript e (.Slice lo hi none p2) pos) (qcl te tl th) :=
 ⟨qhm (he := he.h) (hl := hl.h) (hu := hu.h)⟩
theorem qG {ta : TE3} {tb : TE3} {pos : Pos} {a : Expr} {b : Expr} {X : Cx} (ha : jE3 X a ta) (hb : jE3 X b tb) : jE3 X (.BinOp a .Add b pos) (o3 z9 ta tb) :=
 ⟨qjX (ha := ha.h) (hb := hb.h)⟩
theorem qaq {t : TA3} {e : Expr} {X : Cx} {o : Expr} {to : TE3} {apos cpos : Pos} (ho : jE3 X o to) (ha : jA3 X [e] t)
  (hbase : attributeBase o "append" X.env (eval o X.env) = eval o X.env := by rfl)
  (hfew : ((backTo cpos (starEach [e] X.env)).all (fun x => !x.1) && (backToKw cpos (keywordEach [] X.env)).all (fun x => x.1.isSome)
   && decide (([e] : List Expr).length + ([] : List Keyword).length + (if ([] : List Keyword).isEmpty then 0 else 1) < 30)) = true := by rfl)
  (hline : (apos.endLine == cpos.line) = true := by rfl) (hs : starEach [e] X.env = (false,eval e X.env) :: starEach [] X.env := by rfl) (hplain : (backTo cpos (starEach [] X.env)).any (·.1) = false := by rfl) : jE3 X (.Call (.Attribute o "append" apos) [e] [] cpos) (bm3 qe7 to t) :=
 ⟨qcK (ho := ho.h) (ha := ha.h) (hbase := hbase) (hfew := hfew) (hline := hline) (hs := hs) (hplain := hplain)⟩
theorem SZ {t : TA3} {e : Expr} {X : Cx} {o : Expr} {to : TE3} {apos cpos : Pos} (ho : jE3 X o to) (ha : jA3 X [e] t)
  (hbase : attributeBase o "extend" X.env (eval o X.env) = eval o X.env := by rfl)
  (hfew : ((backTo cpos (starEach [e] X.env)).all (fun x => !x.1) && (backToKw cpos (keywordEach [] X.env)).all (fun x => x.1.isSome)
   && decide (([e] : List Expr).length + ([] : List Keyword).length + (if ([] : List Keyword).isEmpty then 0 else 1) < 30)) = true := by rfl)
  (hline : (apos.endLine == cpos.line) = true := by rfl) (hs : starEach [e] X.env = (false,eval e X.env) :: starEach [] X.env := by rfl) (hplain : (backTo cpos (starEach [] X.env)).any (·.1) = false := by rfl) : jE3 X (.Call (.Attribute o "extend" apos) [e] [] cpos) (bm3 qcj to t) :=
 ⟨qcL (ho := ho.h) (ha := ha.h) (hbase := hbase) (hfew := hfew) (hline := hline) (hs := hs) (hplain := hplain)⟩
theorem J3 {te : TE3} {pos : Pos} {e : Expr} {X : Cx} {tn : Str} {ty : String} {p p2 : Pos} (he : jE3 X e te) (hg : Gl X "isinstance") (hm : X.mg "isinstance" = none) (hg2 : Gl X tn) (hm2 : X.mg tn = none) (hv : bootBuiltins tn = some (.type ty)) (hmem : ty ∈ QL := by decide) (hn : tn ≠ "__name__" := by decide) (hdb : (tn == ("__debug__" : Str)) = false := by decide)
  (hs : starEach [e,.Name tn p2] X.env = (false,eval e X.env) :: starEach [.Name tn p2] X.env := by rfl) (hs2 : starEach [.Name tn p2] X.env = (false,eval (.Name tn p2) X.env) :: starEach [] X.env := by rfl) (hpl : (backTo pos (starEach [.Name tn p2] X.env)).any (·.1) = false := by rfl) : jE3 X (.Call (.Name "isinstance" p) [e,.Name tn p2] [] pos) (W8 (fun t => ZU t ty) te) :=
 ⟨qnn (he := he.h) (hg := hg) (hm := hm) (hg2 := hg2) (hm2 := hm2) (hv := hv) (hmem := hmem) (hn := hn) (hdb := hdb) (hs := hs) (hs2 := hs2) (hpl := hpl)⟩
theorem qaU {te : TE3} {pos : Pos} {e : Expr} {X : Cx} {tn tn' : Str} {ty ty' : String} {p p2 p3 p4 : Pos} {x1} (he : jE3 X e te) (hg : Gl X "isinstance") (hm : X.mg "isinstance" = none) (hg2 : Gl X tn) (hm2 : X.mg tn = none) (hv : bootBuiltins tn = some (.type ty)) (hg3 : Gl X tn') (hm3 : X.mg tn' = none) (hv3 : bootBuiltins tn' = some (.type ty'))
  (hmem : ty ∈ QL := by decide) (hn : tn ≠ "__name__" := by decide) (hdb : (tn == ("__debug__" : Str)) = false := by decide) (hmem3 : ty' ∈ QL := by decide) (hn3 : tn' ≠ "__name__" := by decide) (hdb3 : (tn' == ("__debug__" : Str)) = false := by decide)
  (hs : starEach [e,.Tuple [.Name tn p2,.Name tn' p3] x1 p4] X.env = (false,eval e X.env) :: starEach [.Tuple [.Name tn p2,.Name tn' p3] x1 p4] X.env := by rfl) (hs2 : starEach [.Tuple [.Name tn p2,.Name tn' p3] x1 p4] X.env = (false,eval (.Tuple [.Name tn p2,.Name tn' p3] x1 p4) X.env) :: starEach [] X.env := by rfl)
  (hs3 : starEach [.Name tn p2,.Name tn' p3] X.env = (false,eval (.Name tn p2) X.env) :: starEach [.Name tn' p3] X.env := by rfl) (hs4 : starEach [.Name tn' p3] X.env = (false,eval (.Name tn' p3) X.env) :: starEach [] X.env := by rfl)
  (hpl : (backTo pos (starEach [.Tuple [.Name tn p2,.Name tn' p3] x1 p4] X.env)).any (·.1) = false := by rfl) : jE3 X (.Call (.Name "isinstance" p) [e,.Tuple [.Name tn p2,.Name tn' p3] x1 p4] [] pos) (W8 (fun t => ZU t ty || ZU t ty') te) :=
 ⟨qik (he := he.h) (hg := hg) (hm := hm) (hg2 := hg2) (hm2 := hm2) (hv := hv) (hg3 := hg3) (hm3 := hm3) (hv3 := hv3) (hmem := hmem) (hn := hn) (hdb := hdb) (hmem3 := hmem3) (hn3 := hn3) (hdb3 := hdb3) (hs := hs) (hs2 := hs2) (hs3 := hs3) (hs4 := hs4) (hpl := hpl)⟩
theorem qP {X : Cx}  : jB3 X [] qL :=
 ⟨qn0 ⟩
theorem qg {ZJ : List Stmt} {st : Stmt} {t1 : TS3} {t2 : TS3} {X : Cx} (h1 : jS3 X st t1) (h2 : jB3 X ZJ t2) : jB3 X (st :: ZJ) (qM t1 t2) :=
 ⟨qls (h1 := h1.h) (h2 := h2.h)⟩
theorem ql {st : Stmt} {t1 : TS3} {X : Cx} (h1 : jS3 X st t1) : jB3 X [st] t1 :=
 ⟨qm9 (h1 := h1.h)⟩
theorem K3 {te : TE3} {pos : Pos} {e : Expr} {X : Cx} (he : jE3 X e te) (hs : swapsWith e none pos.line X.env = pure false := by rfl) : jS3 X (.Expr e pos) (W9 te) :=
 ⟨qkp (he := he.h) (hs := hs)⟩
theorem qo {te : TE3} {pos : Pos} {e : Expr} {X : Cx} (he : jE3 X e te) : jS3 X (.Return (some e) pos) (qR te) :=
 ⟨qnv (he := he.h)⟩
theorem zM {tA : TT3} {t1 : TS3} {t2 : TS3} {pos : Pos} {X : Cx} {c : Expr} {ba bb : List Stmt} (hc : jC3 X c tA) (ha : jB3 X ba t1) (hb : jB3 X bb t2) : jS3 X (.If c ba bb pos) (jq tA t1 t2) :=
 ⟨qpS (hc := hc.h) (ha := ha.h) (hb := hb.h)⟩
theorem qdj {X : Cx} {sts : List Stmt} : jB3 X sts qhX :=
 ⟨qf2 ⟩
theorem qv {pos : Pos} {X : Cx} {i : Nat} {x : Str} (hN : X.N.Nodup) (hi : X.N[i]? = some x := by rfl) (hx : Loc X.env.scope x := by first | exact Or.inl rfl | exact Or.inr rfl) (hf : X.fn x = true ∨ X.env.scope.names.lookup x = some .local := by first | exact .inl rfl | exact .inr rfl) : jG3 X (.Name x pos) (gn3 i) :=
 ⟨qlN (hN := hN) (hi := hi) (hx := hx) (hf := hf)⟩
theorem zQ {X : Cx}  : jGs3 X [] je :=
 ⟨qnL ⟩
theorem qp {es : List Expr} {X : Cx} {tg : TG3} {tgs : KD} (h1 : jG3 X e tg) (h2 : jGs3 X es tgs) (hs : (assignEach (e :: es) X.env).map (·.2) = assign e X.env :: (assignEach es X.env).map (·.2) := by rfl) : jGs3 X (e :: es) (qu tg tgs) :=
 ⟨qj1 (h1 := h1.h) (h2 := h2.h) (hs := hs)⟩
theorem zR {pos : Pos} {es : List Expr} {X : Cx} {k : Nat} {tgs : KD} {n : Nat} (hc : X.calm = true) (h : jGs3 X es tgs) (hn : (assignEach es X.env).length = n := by rfl) (hst : (assignEach es X.env).findIdx? (·.1) = none := by rfl) : jG3 X (.Tuple es k pos) (jm n tgs) :=
 ⟨qoc (hc := hc) (h := h.h) (hn := hn) (hst := hst)⟩
theorem qfo {pos : Pos} {X : Cx} {o i : Expr} {to ti : TE3} (ho : jE3 X o to) (hi : jE3 X i ti) (ha : ∀ v,assign (.Subscript o i pos) X.env v = (do
      let ov ← holding [v] (eval o X.env)
      let iv ← holding [v,ov] (eval i X.env)
      standAt pos
      holding [v,ov,iv] (setItem ov iv v)
      release [v,ov,iv] []) := by intro _;rfl) : jG3 X (.Subscript o i pos) (D9 to ti) :=
  ⟨qnB (ho := ho.h) (hi := hi.h) (ha := ha)⟩
theorem ZE {te : TE3} {pos : Pos} {X : Cx} {tg e : Expr} {g : TG3} (he : jE3 X e te) (hg : jG3 X tg g) (hs : swapsWithSole [tg] e pos.line X.env = pure false := by rfl) (hw : swappedStores [tg] e X.env = pure none := by rfl)
  (h1 : (assignEach [tg] X.env).map (·.2) = [assign tg X.env] := by rfl) : jS3 X (.Assign [tg] e pos) (zm te g) :=
 ⟨qnQ (he := he.h) (hg := hg.h) (hs := hs) (hw := hw) (h1 := h1)⟩
theorem qX {te : TE3} {pos : Pos} {X : Cx} (i : Nat) {x : Str} {e : Expr} {pos' : Pos} (hN : X.N.Nodup) (he : jE3 X e te) (hi : X.N[i]? = some x := by rfl) (hx : Loc X.env.scope x := by first | exact Or.inl rfl | exact Or.inr rfl) (hs : swapsWith e (some (.Name x pos')) pos.line X.env = pure false := by rfl) (hf : X.fn x = true ∨ X.env.scope.names.lookup x = some .local := by first | exact .inl rfl | exact .inr rfl) : jS3 X (.Assign [.Name x pos'] e pos) (zm te (gn3 i)) :=
 ⟨qnc (i := i) (hN := hN) (he := he.h) (hi := hi) (hx := hx) (hs := hs) (hf := hf)⟩
theorem WF {pos : Pos} {X : Cx} {i j : Nat} {x y : Str} {a b : Expr} {tt : TA3} {px py pt : Pos} {kt k2 pt2} (hc : X.calm = true) (hN : X.N.Nodup) (hi : X.N[i]? = some x) (hj : X.N[j]? = some y) (hij : i ≠ j)
  (hx : X.env.scope.names.lookup x = some .local) (hy : X.env.scope.names.lookup y = some .local) (ha : jA3 X [a,b] tt)
  (hw : swappedStores [.Tuple [.Name x px,.Name y py] kt pt] (.Tuple [a,b] k2 pt2) X.env = pure (some [x,y]) := by rfl)
  (hs : swapsWithSole [.Tuple [.Name x px,.Name y py] kt pt] (.Tuple [a,b] k2 pt2) pos.line X.env = pure false := by rfl) : jS3 X (.Assign [.Tuple [.Name x px,.Name y py] kt pt] (.Tuple [a,b] k2 pt2) pos) (CY i j tt) :=
 ⟨qm3 (hc := hc) (hN := hN) (hi := hi) (hj := hj) (hij := hij) (hx := hx) (hy := hy) (ha := ha.h) (hw := hw) (hs := hs)⟩
theorem VG {te : TE3} {X : Cx} {tg : Expr} {l : Expr} (hl : jE3 X l te) : jI3 X tg l (U6 te) :=
 ⟨qm1 (hl := hl.h)⟩
theorem zD {t : TA3} {pos : Pos} {a : Expr} {X : Cx} {tg : Expr} {p : Pos} (hg : Gl X "range") (hm : X.mg "range" = none) (ha : jA3 X [a] t) (hs : starEach [a] X.env = [(false,eval a X.env)] := by rfl) (h1 : ∀ τ G q,t τ G q → t τ G fun xs G => q xs G∧xs.length = 1) : jI3 X tg (.Call (.Name "range" p) [a] [] pos) (jO t) :=
 ⟨qcG (hg := hg) (hm := hm) (ha := ha.h) (hs := hs) (h1 := h1)⟩
theorem YJ {t : TA3} {pos : Pos} {a : Expr} {b : Expr} {X : Cx} {tg : Expr} {p : Pos} (hg : Gl X "range") (hm : X.mg "range" = none) (ha : jA3 X [a,b] t) (hs : starEach [a,b] X.env = [(false,eval a X.env),(false,eval b X.env)] := by rfl) (hs2 : starEach [b] X.env = [(false,eval b X.env)] := by rfl) (h1 : ∀ τ G q,t τ G q → t τ G fun xs G => q xs G∧xs.length = 2) : jI3 X tg (.Call (.Name "range" p) [a,b] [] pos) (jO t) :=
 ⟨qdg (hg := hg) (hm := hm) (ha := ha.h) (hs := hs) (hs2 := hs2) (h1 := h1)⟩
theorem VH {pos : Pos} {X : Cx} {tg : Expr} {iter : Expr} {body : List Stmt} {wi : TI3} {g : TG3} {tb : TS3} (hp : PassesOwn (model X.prog X.w) X.A X.env X.xe) (hc : X.calm = true) (hi : jI3 X tg iter wi) (hg : jG3 X tg g) (hb : jB3 X body tb)
  (hs : ∀ x,foldedSetIterable iter X.env x = pure x := by intro _;rfl) : jS3 X (.For tg iter body [] pos) (RK wi g tb) :=
 ⟨qnG (hp := hp) (hc := hc) (hi := hi.h) (hg := hg.h) (hb := hb.h) (hs := hs)⟩
theorem qcB {pos : Pos} {X : Cx} {c : Expr} {body : List Stmt} {tc : TT3} {tb : TS3} (hp : PassesOwn (model X.prog X.w) X.A X.env X.xe) (hc : jC3 X c tc) (hb : jB3 X body tb) : jS3 X (.While c body [] pos) (M1 tc tb) :=
 ⟨qgD (hp := hp) (hc := hc.h) (hb := hb.h)⟩
theorem qh {t : TA3} {pos : Pos} {es : List Expr} {X : Cx} {k : Nat} {x : Str} {p : Pos} {sp : Sp3} (F : Fn3 X.prog X.w X.K X.mg X.base k x sp) (hr : Room k X.A) (hg : Gl X x) (ha : jA3 X (e :: es) t) (hdb : (x == ("__debug__" : Str)) = false := by decide)
  (he : starEach (e :: es) X.env = (false,eval e X.env) :: starEach es X.env := by rfl) (hpl : (backTo pos (starEach es X.env)).any (·.1) = false := by rfl) : jE3 X (.Call (.Name x p) (e :: es) [] pos) (cb3 sp t) :=
 ⟨qiA (F := F) (hr := hr) (hg := hg) (ha := ha.h) (hdb := hdb) (he := he) (hpl := hpl)⟩
theorem VP {X : Cx} {elt tg iter : Expr} {ifs : List Expr} {scope : Scope} {pos : Pos} (N' : List Str) (m : List (Option Nat)) {wi : TI3} {g : TG3} {tif : TT3} {te : TE3} (hc : X.calm = true) (hi : jI3 X tg iter wi)
  (hg : ∀ s H fp,jG3 (qk X N' scope s H fp) tg g) (hf : ∀ s H fp,jF3 (qk X N' scope s H fp) ifs tif) (he : ∀ s H fp,jE3 (qk X N' scope s H fp) elt te)
  (hsc : qai X.env.scope scope = true) (hcap : VX X.N N' scope m = true) (hs : ∀ x,foldedSetIterable iter X.env x = pure x := by intro _;rfl) : jE3 X (.ListComp elt [⟨tg,iter,ifs,0⟩] scope pos) (lc3 wi g tif te m) :=
 ⟨qp1 (N' := N') (m := m) (hc := hc) (hi := hi.h) (hg := (fun s H fp => (hg s H fp).h)) (hf := (fun s H fp => (hf s H fp).h)) (he := (fun s H fp => (he s H fp).h)) (hsc := hsc) (hcap := hcap) (hs := hs)⟩
theorem jk {X : Cx} : jF3 X [] tt3 :=
 ⟨qoG ⟩
theorem qlh {X : Cx} {c : Expr} {t : TT3} (h : jC3 X c t) : jF3 X [c] t :=
 ⟨qm0 (h := h.h)⟩
theorem qfC {t : TA3} {pos : Pos} {es : List Expr} {a : Expr} {b : Expr} {X : Cx} {p pt : Pos} {k1 : Nat} (hg : Gl X "zip") (hm : X.mg "zip" = none) (ha : jA3 X [a,b] t) (hs : starEach [a,b] X.env = [(false,eval a X.env),(false,eval b X.env)] := by rfl) (hs2 : starEach [b] X.env = [(false,eval b X.env)] := by rfl) : jI3 X (.Tuple es k1 pt) (.Call (.Name "zip" p) [a,b] [] pos) (N2 t) :=
 ⟨qm6 (hg := hg) (hm := hm) (ha := ha.h) (hs := hs) (hs2 := hs2)⟩
theorem qaW {t : TA3} {pos : Pos} {es : List Expr} {a : Expr} {X : Cx} {p pt : Pos} {k1 : Nat} (hg : Gl X "enumerate") (hm : X.mg "enumerate" = none) (ha : jA3 X [a] t) (hs : starEach [a] X.env = [(false,eval a X.env)] := by rfl) : jI3 X (.Tuple es k1 pt) (.Call (.Name "enumerate" p) [a] [] pos) (SI t) :=
 ⟨qim (hg := hg) (hm := hm) (ha := ha.h) (hs := hs)⟩
theorem qcs {X : Cx} {py spos : Pos} {elt tg iter : Expr} {ifs : List Expr} {scope : Scope} {pos : Pos} {y : Str} (i : Nat) (N' : List Str) (m : List (Option Nat)) {wi : TI3} {g : TG3} {tif : TT3} {te : TE3} (hc : X.calm = true) (hN : X.N.Nodup) (hi : jI3 X tg iter wi)
  (hg : ∀ s H fp,jG3 (qk X N' scope s H fp) tg g) (hf : ∀ s H fp,jF3 (qk X N' scope s H fp) ifs tif) (he : ∀ s H fp,jE3 (qk X N' scope s H fp) elt te)
  (hsc : qai X.env.scope scope = true) (hcap : VX X.N N' scope m = true) (hl : X.env.scope.names.lookup y = some .local) (hsw : swapsWith (.ListComp elt [⟨tg,iter,ifs,0⟩] scope pos) (some (.Name y py)) spos.line X.env = pure true) (hiy : X.N[i]? = some y := by rfl) (hs : ∀ x,foldedSetIterable iter X.env x = pure x := by intro _;rfl) : jS3 X (.Assign [.Name y py] (.ListComp elt [⟨tg,iter,ifs,0⟩] scope pos) spos) (zm (lc3 wi g tif te m) (gn3 i)) :=
 ⟨qhJ (i := i) (N' := N') (m := m) (hc := hc) (hN := hN) (hi := hi.h) (hg := (fun s H fp => (hg s H fp).h)) (hf := (fun s H fp => (hf s H fp).h)) (he := (fun s H fp => (he s H fp).h)) (hsc := hsc) (hcap := hcap) (hl := hl) (hsw := hsw) (hiy := hiy) (hs := hs)⟩
theorem jpt {X : Cx} {e : Expr} {t : TT3} (h : jW3 X e t) : jC3 X e t := ⟨PW.pt h.h⟩
theorem qy {P : Program} {w : World} {K : PySem.W.Frag} {mg : Str → Option Value} {base : Heap} {x qual : Str} {st : Stmt} {f : Addr} {fd : FuncData} {N ps : List Str} {k : Nat} {sp : Sp3} {t3 : TS3} (F : Fun K x qual st f fd) (S : FnScope N ps (qi st)) (bd : zb K fd ps []) (hm : mg x = some (.ref f))
  (body : ∀ (cdv : Value) (A : Around) (outer : List Env) (s : Shared) (H : Hp) (E : XK),Room k (A.deeper (envOfC qual (qi st) s.heap.objs.size f cdv)) →
   jB3 (qcm CX0 P w K mg base N qual (qi st) f cdv A outer s H E).nox (jj st) t3)
  (read : ∀ ts G q,sp ts G q → ts.length = ps.length∧t3 { nx := fun _ G' => q .non G',rt := q } (qs N ts) G) : Fn3 P w K mg base (k + 1) x sp :=
 qmn F S bd hm (fun cdv A outer s H E hr => (body cdv A outer s H E hr).h) read
theorem qdw {P : Program} {w : World} {K : PySem.W.Frag} {mg : Str → Option Value} {base : Heap} {x qual : Str} {st : Stmt} {f : Addr} {fd : FuncData} {N ps : List Str} {k : Nat} {sp : Sp3} {t3 : TS3} (F : Fun K x qual st f fd) (S : FnScope N ps (qi st))
  (body : ∀ (cdv : Value) (A : Around) (outer : List Env) (s : Shared) (H : Hp) (E : XK),Room k (A.deeper (envOfC qual (qi st) s.heap.objs.size f cdv)) →
   jB3 (qcm CX0 P w K mg base N qual (qi st) f cdv A outer s H E).nox (jj st) t3)
  (read : ∀ ts G q,sp ts G q → ts.length = ps.length∧t3 { nx := fun _ G' => q .non G',rt := q } (qs N ts) G) : FnOk P w K mg base CX0 (k + 1) f fd ps (lSp K sp) :=
 qhH F S (fun cdv A outer s H E hr => (body cdv A outer s H E hr).h) read
end L3
namespace L3
open PySem PySem.Spec PyProof.Rows L2
open PySem.SeqAt
def Ex (G G' : Gp) : Prop := ∀ b o,G b = some o → G' b = some o
theorem Ex.refl {G : Gp} : Ex G G := fun _ _ e => e
theorem Ex.trans {G G1 G2 : Gp} (a : Ex G G1) (b : Ex G1 G2) : Ex G G2 := fun x o e => b x o (a x o e)
theorem UR {G : Gp} {p : Addr} {o : O} (hp : G p = none) : Ex G (gu G p o) := fun b ob e => by
 rw [jR (by rintro rfl;rw [hp] at e;cases e)];exact e
mutual
inductive Dp (G : Gp) : T → PyData → Prop
 | non : Dp G .non .none
 | bl (b : Bool) : Dp G (.bl b) (.bool b)
 | int (i : Int) : Dp G (.int i) (.int i)
 | str (x : Str) : Dp G (.str x) (.str x)
 | tup {xs : List T} {ds : List PyData} : Dps G xs ds → Dp G (.tup xs) (.tuple ds)
 | lst {p : Addr} {xs : List T} {ds : List PyData} : getL G p = some xs → Dps G xs ds → Dp G (.ref p) (.list ds)
inductive Dps (G : Gp) : List T → List PyData → Prop
 | nil : Dps G [] []
 | cons {x : T} {d : PyData} {xs : List T} {ds : List PyData} : Dp G x d → Dps G xs ds → Dps G (x :: xs) (d :: ds)
end
theorem Ex.getL {G G' : Gp} (e : Ex G G') {p : Addr} {xs : List T} (h : getL G p = some xs) : getL G' p = some xs := by
 unfold L3.getL at h ⊢
 split at h
 ·rename_i ys g;cases h;rw [e _ _ g]
 ·rename_i ys g;cases h;rw [e _ _ g]
 ·cases h
mutual
theorem Dp.up {G G' : Gp} (e : Ex G G') : ∀ {x : T} {d : PyData},Dp G x d → Dp G' x d
 | _,_,.non => .non
 | _,_,.bl b => .bl b
 | _,_,.int i => .int i
 | _,_,.str x => .str x
 | _,_,.tup h => .tup (Dps.up e h)
 | _,_,.lst h1 h2 => .lst (e.getL h1) (Dps.up e h2)
theorem Dps.up {G G' : Gp} (e : Ex G G') : ∀ {x : List T} {d : List PyData},Dps G x d → Dps G' x d
 | _,_,.nil => .nil
 | _,_,.cons a b => .cons (Dp.up e a) (Dps.up e b)
end
theorem Dps.length {G : Gp} : ∀ {xs : List T} {ds : List PyData},Dps G xs ds → xs.length = ds.length
 | _,_,.nil => rfl
 | _,_,.cons _ b => by simp [Dps.length b]
theorem Dps.get {G : Gp} : ∀ {xs : List T} {ds : List PyData} {i : Nat} {x : T},Dps G xs ds → xs[i]? = some x → ∃ d,ds[i]? = some d∧Dp G x d
 | _,_,_,_,.nil,e => by simp at e
 | _,_,0,_,.cons r _,e => by simp at e;subst e;exact ⟨_,rfl,r⟩
 | _,_,i + 1,x,.cons _ t,e => by
  obtain ⟨u,h1,h2⟩ := Dps.get (i := i) (x := x) t (by simpa using e)
  exact ⟨u,by simpa using h1,h2⟩
mutual
inductive DV (K : PySem.W.Frag) (H : Hp) : V → PyData → Prop
 | non : DV K H .non .none
 | bl (b : Bool) : DV K H (.bl b) (.bool b)
 | int (i : Int) : DV K H (.int i) (.int i)
 | str (x : Str) : DV K H (.str x) (.str x)
 | tup {a : Addr} {vs : List V} {ds : List PyData} : SqT K H a vs → DVs K H vs ds → DV K H (.ref a) (.tuple ds)
 | lst {a : Addr} {vs : List V} {ds : List PyData} : SqL K H a vs → DVs K H vs ds → DV K H (.ref a) (.list ds)
inductive DVs (K : PySem.W.Frag) (H : Hp) : List V → List PyData → Prop
 | nil : DVs K H [] []
 | cons {x : V} {d : PyData} {xs : List V} {ds : List PyData} : DV K H x d → DVs K H xs ds → DVs K H (x :: xs) (d :: ds)
end
mutual
theorem Dp.dv {K : PySem.W.Frag} {G : Gp} {H : Hp} (hr : HR K G H) : ∀ {x : T} {d : PyData} {v : V},Dp G x d → Rp K H x v → DV K H v d
 | _,_,_,.non,.non => .non
 | _,_,_,.bl b,.bl _ => .bl b
 | _,_,_,.int i,.int _ => .int i
 | _,_,_,.str x,.str _ => .str x
 | _,_,_,.tup h,.tup hs rs => .tup hs (Dps.dv hr h rs)
 | _,_,_,.lst g h,r => by
  cases r
  obtain ⟨_,hs,rs⟩ := zA hr g
  exact .lst hs (Dps.dv hr h rs)
theorem Dps.dv {K : PySem.W.Frag} {G : Gp} {H : Hp} (hr : HR K G H) : ∀ {x : List T} {d : List PyData} {v : List V},Dps G x d → Rps K H x v → DVs K H v d
 | _,_,_,.nil,.nil => .nil
 | _,_,_,.cons a b,.cons c d => .cons (Dp.dv hr a c) (Dps.dv hr b d)
end
mutual
def ZP : PyData → PyData → Option Bool
 | .none,.none => some true
 | .bool a,.bool b => some (a == b)
 | .int a,.int b => some (a == b)
 | .str a,.str b => some (a == b)
 | .list xs,.list ys => VZ xs ys
 | .tuple xs,.tuple ys => VZ xs ys
 | _,_ => none
def VZ : List PyData → List PyData → Option Bool
 | [],[] => some true
 | x :: xs,y :: ys => match ZP x y,VZ xs ys with | some a,some b => some (a && b) | _,_ => none
 | _,_ => some false
end
mutual
def dpt : PyData → Nat
 | .list xs => qcS xs + 1
 | .tuple xs => qcS xs + 1
 | _ => 0
def qcS : List PyData → Nat
 | [] => 0
 | x :: xs => max (dpt x) (qcS xs)
end
section
variable {X : Cx} {pins : List (Addr × Obj)} {σ : L2.St} {H : Hp} {s : Shared}
mutual
theorem DV.inj (I : Inv X pins σ H s) : ∀ {v : V} {d e : PyData},DV X.K H v d → DV X.K H v e → d = e
 | _,_,_,.non,.non => rfl
 | _,_,_,.bl _,.bl _ => rfl
 | _,_,_,.int _,.int _ => rfl
 | _,_,_,.str _,.str _ => rfl
 | _,_,_,.tup h hs,.tup k ks => by
  have := I.tuple_inj h k
  subst this
  rw [DVs.inj I hs ks]
 | _,_,_,.lst h hs,.lst k ks => by
  have := I.list_inj h k
  subst this
  rw [DVs.inj I hs ks]
 | _,_,_,.tup h hs,.lst k ks => by
  obtain ⟨i1,_,p1,_⟩ := I.tuple h
  obtain ⟨i2,_,p2,_⟩ := I.list k
  exact absurd rfl (ne_of_list_tuple p2.isList (show s.heap.IsTuple _ i1.toArray from p1))
 | _,_,_,.lst k ks,.tup h hs => by
  obtain ⟨i1,_,p1,_⟩ := I.tuple h
  obtain ⟨i2,_,p2,_⟩ := I.list k
  exact absurd rfl (ne_of_list_tuple p2.isList (show s.heap.IsTuple _ i1.toArray from p1))
theorem DVs.inj (I : Inv X pins σ H s) : ∀ {v : List V} {d e : List PyData},DVs X.K H v d → DVs X.K H v e → d = e
 | _,_,_,.nil,.nil => rfl
 | _,_,_,.cons a b,.cons c d => by rw [DV.inj I a c,DVs.inj I b d]
end
mutual
theorem SN : ∀ {d : PyData} {b : Bool},ZP d d = some b → b = true
 | .none,_,h => by simp [ZP] at h;exact h
 | .bool _,_,h => by simp [ZP] at h;exact h
 | .int _,_,h => by simp [ZP] at h;exact h
 | .str _,_,h => by simp [ZP] at h;exact h
 | .list xs,_,h => by simp only [ZP] at h;exact EC h
 | .tuple xs,_,h => by simp only [ZP] at h;exact EC h
 | .dict _,_,h => by simp [ZP] at h
theorem EC : ∀ {d : List PyData} {b : Bool},VZ d d = some b → b = true
 | [],_,h => by simp [VZ] at h;exact h
 | x :: xs,b,h => by
  simp only [VZ] at h
  split at h
  ·rename_i a c e1 e2
   rw [SN e1,EC e2] at h
   simpa using h.symm
  ·cases h
end
theorem YE : ∀ {xs ys : List PyData} {b : Bool},VZ xs ys = some b → xs.length = ys.length → ∃ e : Nat → Bool,(∀ (j : Nat) x y,xs[j]? = some x → ys[j]? = some y → ZP x y = some (e j))∧b = (List.range xs.length).all e
 | [],[],b,h,_ => by simp [VZ] at h;exact ⟨fun _ => true,by simp,by simp [h]⟩
 | x :: xs,y :: ys,b,h,hl => by
  simp only [VZ] at h
  split at h
  ·rename_i a c e1 e2
   obtain ⟨e,h1,h2⟩ := YE e2 (by simpa using hl)
   refine ⟨fun j => match j with | 0 => a | j + 1 => e j,fun j u v hu hv => ?_,?_⟩
   ·cases j with
    | zero => simp at hu hv;subst hu;subst hv;exact e1
    | succ j => exact h1 j u v (by simpa using hu) (by simpa using hv)
   ·rw [List.length_cons,List.range_succ_eq_map,List.all_cons,List.all_map]
    cases h
    rw [h2]
    rfl
  ·cases h
 | [],_ :: _,_,_,hl => by simp at hl
 | _ :: _,[],_,_,hl => by simp at hl
theorem J7 : ∀ {xs ys : List PyData} {b : Bool},VZ xs ys = some b → xs.length ≠ ys.length → b = false∧∃ e : Nat → Bool,∀ (j : Nat) x y,xs[j]? = some x → ys[j]? = some y → ZP x y = some (e j)
 | [],[],_,_,hl => by simp at hl
 | [],_ :: _,b,h,_ => by simp [VZ] at h;exact ⟨h,fun _ => true,by simp⟩
 | _ :: _,[],b,h,_ => by simp [VZ] at h;exact ⟨h,fun _ => true,by simp⟩
 | x :: xs,y :: ys,b,h,hl => by
  simp only [VZ] at h
  split at h
  ·rename_i a c e1 e2
   obtain ⟨h0,e,h1⟩ := J7 e2 (by simpa using hl)
   subst h0
   refine ⟨by simpa using h.symm,fun j => match j with | 0 => a | j + 1 => e j,fun j u v hu hv => ?_⟩
   cases j with
   | zero => simp at hu hv;subst hu;subst hv;exact e1
   | succ j => exact h1 j u v (by simpa using hu) (by simpa using hv)
  ·cases h
theorem UM : ∀ {xs : List PyData} {x : PyData},x ∈ xs → dpt x ≤ qcS xs
 | [],_,h => by simp at h
 | y :: ys,x,h => by
  simp only [qcS]
  rcases List.mem_cons.mp h with e | e
  ·subst e;omega
  ·have := UM e;omega
theorem DVs.get {K : PySem.W.Frag} {H : Hp} : ∀ {xs : List V} {ds : List PyData} {i : Nat} {x : V},DVs K H xs ds → xs[i]? = some x → ∃ d,ds[i]? = some d∧DV K H x d
 | _,_,_,_,.nil,e => by simp at e
 | _,_,0,_,.cons r _,e => by simp at e;subst e;exact ⟨_,rfl,r⟩
 | _,_,i + 1,x,.cons _ t,e => by
  obtain ⟨u,h1,h2⟩ := DVs.get (i := i) (x := x) t (by simpa using e)
  exact ⟨u,by simpa using h1,h2⟩
theorem DVs.length {K : PySem.W.Frag} {H : Hp} : ∀ {xs : List V} {ds : List PyData},DVs K H xs ds → xs.length = ds.length
 | _,_,.nil => rfl
 | _,_,.cons _ b => by simp [DVs.length b]
theorem JY {vs : List V} {us : List Value} (r : zO vs us) {j : Nat} (h : j < us.toArray.size) : ∃ v,vs[j]? = some v∧js v us.toArray[j] := by
 have hj : j < vs.length := by rw [r.length];simpa using h
 obtain ⟨u,hu,ru⟩ := r.get (List.getElem?_eq_getElem hj)
 refine ⟨vs[j],List.getElem?_eq_getElem hj,?_⟩
 have hj2 : j < us.length := by simpa using h
 rw [List.getElem?_eq_getElem hj2] at hu
 have : us[j] = u := Option.some.inj hu
 simpa [this] using ru
theorem C2 (I : Inv X pins σ H s) : ∀ (n : Nat) {v u : V} {d e : PyData} {b : Bool} {x y : Value} {A : Around},DV X.K H v d → DV X.K H u e → ZP d e = some b → dpt d ≤ n → A.units + n < cLine → js v x → js u y →
  RcAt A s x y b∧EqAt A s x y b := by
 intro n
 induction n with
 | zero =>
  intro v u d e b x y A hv hu h hd hn rx ry
  cases hv with
  | non => cases hu <;> simp [ZP] at h;subst h;cases (show x = Value.none from rx);cases (show y = Value.none from ry);exact ⟨RcAt.none_none,EqAt.same _⟩
  | bl a => cases hu <;> simp [ZP] at h;subst h;cases (show x = Value.bool _ from rx);cases (show y = Value.bool _ from ry);exact ⟨RcAt.bool_bool _ _,EqAt.bool_bool _ _⟩
  | int a => cases hu <;> simp [ZP] at h;subst h;obtain ⟨t,rfl⟩ := (show ∃ t,x = Value.int _ t from rx);obtain ⟨t',rfl⟩ := (show ∃ t,y = Value.int _ t from ry);exact ⟨RcAt.int_int _ _ _ _,EqAt.int_int _ _ _ _⟩
  | str a => cases hu <;> simp [ZP] at h;subst h;obtain ⟨t,rfl⟩ := (show ∃ t,x = Value.str _ t from rx);obtain ⟨t',rfl⟩ := (show ∃ t,y = Value.str _ t from ry);exact ⟨RcAt.str_str _ _ _ _,EqAt.str_str _ _ _ _⟩
  | tup => simp [dpt] at hd
  | lst => simp [dpt] at hd
 | succ n ih =>
  intro v u d e b x y A hv hu h hd hn rx ry
  have fin : ∀ {l l' : Addr} {k : Bool},x = .ref l → y = .ref l' → v = .ref l → u = .ref l' → b = k → RcAt A s x y k → RcAt A s x y b∧EqAt A s x y b := by
   rintro l l' k rfl rfl rfl rfl rfl rc
   refine ⟨rc,?_⟩
   by_cases hll : l = l'
   ·subst hll
    have := DV.inj I hv hu
    subst this
    rw [SN h]
    exact EqAt.same _
   ·exact EqAt.of_refs hll rc
  cases hv with
  | non => cases hu <;> simp [ZP] at h;subst h;cases (show x = Value.none from rx);cases (show y = Value.none from ry);exact ⟨RcAt.none_none,EqAt.same _⟩
  | bl a => cases hu <;> simp [ZP] at h;subst h;cases (show x = Value.bool _ from rx);cases (show y = Value.bool _ from ry);exact ⟨RcAt.bool_bool _ _,EqAt.bool_bool _ _⟩
  | int a => cases hu <;> simp [ZP] at h;subst h;obtain ⟨t,rfl⟩ := (show ∃ t,x = Value.int _ t from rx);obtain ⟨t',rfl⟩ := (show ∃ t,y = Value.int _ t from ry);exact ⟨RcAt.int_int _ _ _ _,EqAt.int_int _ _ _ _⟩
  | str a => cases hu <;> simp [ZP] at h;subst h;obtain ⟨t,rfl⟩ := (show ∃ t,x = Value.str _ t from rx);obtain ⟨t',rfl⟩ := (show ∃ t,y = Value.str _ t from ry);exact ⟨RcAt.str_str _ _ _ _,EqAt.str_str _ _ _ _⟩
  | tup hq hs =>
   cases hu with
   | tup kq ks =>
    rename_i a1 vs1 ds1 a2 vs2 ds2
    simp only [ZP] at h
    obtain ⟨i1,r1,p1,z1⟩ := I.tuple hq
    obtain ⟨i2,r2,p2,z2⟩ := I.tuple kq
    have l1 := hs.length;have l2 := ks.length;have m1 := r1.length;have m2 := r2.length
    have el : ∀ (e : Nat → Bool),(∀ (j : Nat) x y,ds1[j]? = some x → ds2[j]? = some y → ZP x y = some (e j)) → ∀ j (h1 : j < i1.toArray.size) (h2 : j < i2.toArray.size),EqAt A.in1 s i1.toArray[j] i2.toArray[j] (e j) := fun e he j h1 h2 => by
     obtain ⟨w1,g1,q1⟩ := JY r1 h1
     obtain ⟨w2,g2,q2⟩ := JY r2 h2
     obtain ⟨d1,f1,dv1⟩ := hs.get g1
     obtain ⟨d2,f2,dv2⟩ := ks.get g2
     have := UM (List.mem_of_getElem? f1)
     exact (ih dv1 dv2 (he j d1 d2 f1 f2) (by simp only [dpt] at hd;omega) (show A.units + 1 + n < cLine by omega) q1 q2).2
    cases (show x = Value.ref a1 from rx)
    cases (show y = Value.ref a2 from ry)
    by_cases hl : ds1.length = ds2.length
    ·obtain ⟨e,he,hb⟩ := YE h hl
     refine fin rfl rfl rfl rfl (k := (List.range (min i1.toArray.size i2.toArray.size)).all e && i1.toArray.size == i2.toArray.size) ?_ (RcAt.tuples (show s.heap.IsTuple a1 i1.toArray from p1) (show s.heap.IsTuple a2 i2.toArray from p2) (by omega) (el e he))
     have e1 : i1.toArray.size = ds1.length := by rw [List.size_toArray];omega
     have e2 : i2.toArray.size = ds1.length := by rw [List.size_toArray];omega
     rw [e1,e2,hb];simp
    ·obtain ⟨hb,e,he⟩ := J7 h hl
     refine fin rfl rfl rfl rfl (k := (List.range (min i1.toArray.size i2.toArray.size)).all e && i1.toArray.size == i2.toArray.size) ?_ (RcAt.tuples (show s.heap.IsTuple a1 i1.toArray from p1) (show s.heap.IsTuple a2 i2.toArray from p2) (by omega) (el e he))
     have e1 : i1.toArray.size ≠ i2.toArray.size := by rw [List.size_toArray,List.size_toArray];omega
     rw [hb];simp [e1]
     intro;omega
   | _ => simp [ZP] at h
  | lst hq hs =>
   cases hu with
   | lst kq ks =>
    rename_i a1 vs1 ds1 a2 vs2 ds2
    simp only [ZP] at h
    obtain ⟨i1,r1,p1,z1⟩ := I.list hq
    obtain ⟨i2,r2,p2,z2⟩ := I.list kq
    have l1 := hs.length;have l2 := ks.length;have m1 := r1.length;have m2 := r2.length
    have el : ∀ (e : Nat → Bool),(∀ (j : Nat) x y,ds1[j]? = some x → ds2[j]? = some y → ZP x y = some (e j)) → ∀ j (h1 : j < i1.toArray.size) (h2 : j < i2.toArray.size),EqAt A.in1 s i1.toArray[j] i2.toArray[j] (e j) := fun e he j h1 h2 => by
     obtain ⟨w1,g1,q1⟩ := JY r1 h1
     obtain ⟨w2,g2,q2⟩ := JY r2 h2
     obtain ⟨d1,f1,dv1⟩ := hs.get g1
     obtain ⟨d2,f2,dv2⟩ := ks.get g2
     have := UM (List.mem_of_getElem? f1)
     exact (ih dv1 dv2 (he j d1 d2 f1 f2) (by simp only [dpt] at hd;omega) (show A.units + 1 + n < cLine by omega) q1 q2).2
    cases (show x = Value.ref a1 from rx)
    cases (show y = Value.ref a2 from ry)
    by_cases hl : ds1.length = ds2.length
    ·obtain ⟨e,he,hb⟩ := YE h hl
     refine fin rfl rfl rfl rfl (k := (List.range i1.toArray.size).all e) ?_ (RcAt.lists p1.isList p2.isList (by rw [List.size_toArray,List.size_toArray];omega) (by omega) (el e he))
     have e1 : i1.toArray.size = ds1.length := by rw [List.size_toArray];omega
     rw [e1,hb]
    ·obtain ⟨hb,e,he⟩ := J7 h hl
     refine fin rfl rfl rfl rfl (k := false) hb (RcAt.lists_lengths p1.isList p2.isList (by rw [List.size_toArray,List.size_toArray];simp;omega) (by omega))
   | _ => simp [ZP] at h
theorem qgV (I : Inv X pins σ H s) {n : Nat} {v u : V} {d e : PyData} {b : Bool} {x y : Value} {A : Around} (hv : DV X.K H v d) (hu : DV X.K H u e) (h : ZP d e = some b) (hd : dpt d ≤ n + 1) (hn : A.units + (n + 1) < cLine) (rx : js v x) (ry : js u y) (hs : dpt d ≠ 0) : RcNeAt A s x y (!b) := by
 cases hv with
 | tup hq hs' =>
  cases hu with
  | tup kq ks =>
   rename_i a1 vs1 ds1 a2 vs2 ds2
   simp only [ZP] at h
   obtain ⟨i1,r1,p1,z1⟩ := I.tuple hq
   obtain ⟨i2,r2,p2,z2⟩ := I.tuple kq
   have l1 := hs'.length;have l2 := ks.length;have m1 := r1.length;have m2 := r2.length
   have el : ∀ (e : Nat → Bool),(∀ (j : Nat) x y,ds1[j]? = some x → ds2[j]? = some y → ZP x y = some (e j)) → ∀ j (h1 : j < i1.toArray.size) (h2 : j < i2.toArray.size),EqAt A.in1 s i1.toArray[j] i2.toArray[j] (e j) := fun e he j h1 h2 => by
    obtain ⟨w1,g1,q1⟩ := JY r1 h1
    obtain ⟨w2,g2,q2⟩ := JY r2 h2
    obtain ⟨d1,f1,dv1⟩ := hs'.get g1
    obtain ⟨d2,f2,dv2⟩ := ks.get g2
    have := UM (List.mem_of_getElem? f1)
    exact (C2 I n dv1 dv2 (he j d1 d2 f1 f2) (by simp only [dpt] at hd;omega) (show A.units + 1 + n < cLine by omega) q1 q2).2
   cases (show x = Value.ref a1 from rx)
   cases (show y = Value.ref a2 from ry)
   by_cases hl : ds1.length = ds2.length
   ·obtain ⟨e,he,hb⟩ := YE h hl
    have := RcNeAt.tuples (show s.heap.IsTuple a1 i1.toArray from p1) (show s.heap.IsTuple a2 i2.toArray from p2) (A := A) (by omega) (el e he)
    have e1 : i1.toArray.size = ds1.length := by rw [List.size_toArray];omega
    have e2 : i2.toArray.size = ds1.length := by rw [List.size_toArray];omega
    rw [e1,e2] at this
    rw [hb];simpa using this
   ·obtain ⟨hb,e,he⟩ := J7 h hl
    have := RcNeAt.tuples (show s.heap.IsTuple a1 i1.toArray from p1) (show s.heap.IsTuple a2 i2.toArray from p2) (A := A) (by omega) (el e he)
    have e1 : (i1.toArray.size == i2.toArray.size) = false := by rw [List.size_toArray,List.size_toArray];simp;omega
    rw [e1] at this
    rw [hb];simpa using this
  | _ => simp [ZP] at h
 | lst hq hs' =>
  cases hu with
  | lst kq ks =>
   rename_i a1 vs1 ds1 a2 vs2 ds2
   simp only [ZP] at h
   obtain ⟨i1,r1,p1,z1⟩ := I.list hq
   obtain ⟨i2,r2,p2,z2⟩ := I.list kq
   have l1 := hs'.length;have l2 := ks.length;have m1 := r1.length;have m2 := r2.length
   have el : ∀ (e : Nat → Bool),(∀ (j : Nat) x y,ds1[j]? = some x → ds2[j]? = some y → ZP x y = some (e j)) → ∀ j (h1 : j < i1.toArray.size) (h2 : j < i2.toArray.size),EqAt A.in1 s i1.toArray[j] i2.toArray[j] (e j) := fun e he j h1 h2 => by
    obtain ⟨w1,g1,q1⟩ := JY r1 h1
    obtain ⟨w2,g2,q2⟩ := JY r2 h2
    obtain ⟨d1,f1,dv1⟩ := hs'.get g1
    obtain ⟨d2,f2,dv2⟩ := ks.get g2
    have := UM (List.mem_of_getElem? f1)
    exact (C2 I n dv1 dv2 (he j d1 d2 f1 f2) (by simp only [dpt] at hd;omega) (show A.units + 1 + n < cLine by omega) q1 q2).2
   cases (show x = Value.ref a1 from rx)
   cases (show y = Value.ref a2 from ry)
   by_cases hl : ds1.length = ds2.length
   ·obtain ⟨e,he,hb⟩ := YE h hl
    have := RcNeAt.lists p1.isList p2.isList (A := A) (by rw [List.size_toArray,List.size_toArray];omega) (by omega) (el e he)
    have e1 : i1.toArray.size = ds1.length := by rw [List.size_toArray];omega
    rw [e1] at this
    rw [hb];exact this
   ·obtain ⟨hb,e,he⟩ := J7 h hl
    rw [hb]
    exact RcNeAt.lists_lengths p1.isList p2.isList (by rw [List.size_toArray,List.size_toArray];simp;omega) (by omega)
  | _ => simp [ZP] at h
 | _ => simp [dpt] at hs
def qhV (K : PySem.W.Frag) (neg : Bool) : R2 := fun x y H Q => ∃ d e b,DV K H x d∧DV K H y e∧ZP d e = some b∧dpt d ≤ 40∧dpt d ≠ 0∧Q (.bl (if neg then !b else b)) H
theorem qkD (hu : X.A.units + 64 < cLine) : OpR X (compareOp .Eq) (qhV X.K false) := by
 intro pins s σ H x y v u Q I rx ry h
 obtain ⟨d,e,b,hx,hy,hb,hd,_,q⟩ := h
 exact (C2 I 40 hx hy hb hd (by omega) rx ry).1 X.prog X.w X.xe _ ⟨.bl b,H,I,rfl,q⟩
theorem ql6 (hu : X.A.units + 64 < cLine) : OpR X (compareOp .NotEq) (qhV X.K true) := by
 intro pins s σ H x y v u Q I rx ry h
 obtain ⟨d,e,b,hx,hy,hb,hd,hs,q⟩ := h
 exact qgV I (n := 40) hx hy hb (by omega) (by omega) rx ry hs X.prog X.w X.xe _ ⟨.bl (!b),H,I,rfl,q⟩
end
def jQ (neg : Bool) : R3 := fun x y G q => match JM x y with
 | some k => q (.bl (if neg then !k else k)) G
 | none => ∃ d e b,Dp G x d∧Dp G y e∧ZP d e = some b∧dpt d ≤ 40∧dpt d ≠ 0∧q (.bl (if neg then !b else b)) G
theorem qH {K : PySem.W.Frag} : WA K (jQ false) (fun x y H Q => rEq x y H Q ∨ qhV K false x y H Q) := fun x y v u G H q Q hr rx ry h af => by
 unfold jQ at h
 split at h
 ·rename_i k e
  obtain ⟨h1,h2⟩ := MI rx ry e
  refine .inl ⟨h1,?_⟩
  rw [h2]
  exact af _ G h _ H (.bl _) hr Kp.refl
 ·obtain ⟨d,e,b,h1,h2,h3,h4,h5,h6⟩ := h
  exact .inr ⟨d,e,b,h1.dv hr rx,h2.dv hr ry,h3,h4,h5,af _ G h6 _ H (.bl _) hr Kp.refl⟩
theorem LV {K : PySem.W.Frag} : WA K (jQ true) (fun x y H Q => rNe x y H Q ∨ qhV K true x y H Q) := fun x y v u G H q Q hr rx ry h af => by
 unfold jQ at h
 split at h
 ·rename_i k e
  obtain ⟨h1,h2⟩ := MI rx ry e
  refine .inl ⟨h1,?_⟩
  rw [h2]
  exact af _ G h _ H (.bl _) hr Kp.refl
 ·obtain ⟨d,e,b,h1,h2,h3,h4,h5,h6⟩ := h
  exact .inr ⟨d,e,b,h1.dv hr rx,h2.dv hr ry,h3,h4,h5,af _ G h6 _ H (.bl _) hr Kp.refl⟩
theorem za {X : Cx} (hu : X.A.units + 64 < cLine) : OpR X (compareOp .Eq) (fun x y H Q => rEq x y H Q ∨ qhV X.K false x y H Q) := qoH.or (qkD hu)
theorem qce {X : Cx} (hu : X.A.units + 64 < cLine) : OpR X (compareOp .NotEq) (fun x y H Q => rNe x y H Q ∨ qhV X.K true x y H Q) := qnh.or (ql6 hu)
end L3
namespace L3
open PySem PySem.Spec PyProof.Rows L2
section
variable {X : Cx} {pins : List (Addr × Obj)} {σ : L2.St} {H : Hp} {s : Shared}
end
end L3
namespace L3
open PySem PySem.Spec PyProof.Rows L2
section
variable {X : Cx}
end
end L3
namespace L3
open PySem PySem.Spec PyProof.Rows L2
section
variable {prog : Program} {w : World} {A : Around} {R : Result → Shared → Prop} {s : Shared}
theorem RE (elt t1 i1 t2 i2 : Expr) (f1 f2 : List Expr) (scope : Scope) (pos : Pos) (it acc : Value) (env : Env) :
  compTurn (.ListComp elt [⟨t1,i1,f1,0⟩,⟨t2,i2,f2,0⟩] scope pos) 0 it acc env = (do
   standAt i1.pos
   match ← pyNext it with
   | none => pure (.done .next)
   | some v =>
    letOwnedTupleGo t1 it v
    assign t1 env v
    let mut ok := true
    for c in f1 do
     if ok then ok ← isTrue c env (eval c env)
    if ok then
     let x ← eval i2 env
     standAt i2.pos
     let x ← foldedSetIterable i2 env x
     let _ ← runOwn (.compStart (.ListComp elt [⟨t1,i1,f1,0⟩,⟨t2,i2,f2,0⟩] scope pos) 1 (← holding [x] (pyIter x)) acc env) env
    again (.compLoop (.ListComp elt [⟨t1,i1,f1,0⟩,⟨t2,i2,f2,0⟩] scope pos) 0 it acc env)) := by rfl
theorem RZ (elt t1 i1 t2 i2 : Expr) (f1 f2 : List Expr) (scope : Scope) (pos : Pos) (it acc : Value) (env : Env) :
  compTurn (.ListComp elt [⟨t1,i1,f1,0⟩,⟨t2,i2,f2,0⟩] scope pos) 1 it acc env = (do
   standAt i2.pos
   match ← pyNext it with
   | none => pure (.done .next)
   | some v =>
    letOwnedTupleGo t2 it v
    assign t2 env v
    let mut ok := true
    for c in f2 do
     if ok then ok ← isTrue c env (eval c env)
    if ok then
     (do let _ ← call (.builtin "list.append") [acc,← eval elt env])
    again (.compLoop (.ListComp elt [⟨t1,i1,f1,0⟩,⟨t2,i2,f2,0⟩] scope pos) 1 it acc env)) := by rfl
theorem JS {elt t1 i1 t2 i2 : Expr} {f1 f2 : List Expr} {scope : Scope} {pos : Pos} {it acc : Value} {env : Env}
  (h0 : codeAny (model prog w) A (.compLoop (.ListComp elt [⟨t1,i1,f1,0⟩,⟨t2,i2,f2,0⟩] scope pos) 1 it acc env) R s)
  (h : wpAny (model prog w) A (pyIter it) (fun it' s' => codeAny (model prog w) A (.compLoop (.ListComp elt [⟨t1,i1,f1,0⟩,⟨t2,i2,f2,0⟩] scope pos) 1 it' acc env) R s')
   (notedBy (model prog w) A env fun x s' => R (.error x) s') s) :
  codeAny (model prog w) A (.compStart (.ListComp elt [⟨t1,i1,f1,0⟩,⟨t2,i2,f2,0⟩] scope pos) 1 it acc env) R s := by
 refine codeAny_of_tree ?_
 show wpAny _ _ ((compStart (.ListComp elt [⟨t1,i1,f1,0⟩,⟨t2,i2,f2,0⟩] scope pos) 1 it acc env).onRaise (fun x => do noteFrame x env;standAt theWindowsPlace)) _ _ s
 refine wpAny_notedAt ?_
 unfold compStart
 show wpAny _ _ (ask >>= _) _ _ s
 refine wpAny_bind (wpAny_askSetting (wpAny_ite ?_))
 split
 ·first
   | exact wpAny_bind (wpAny_pure (wpAny_pure (And.intro rfl h0)))
   | exact wpAny_pure (And.intro rfl h0)
 ·first
   | exact wpAny_bind (wpAny_rule (wpAny_bind (wpAny_standAt (wpAny_bind (wpAny_mono h (fun it' s' h' => wpAny_pure (And.intro rfl h')) fun _ _ x => x)))))
   | (refine wpAny_bind (wpAny_rule ?_);show wpAny _ _ (standAt i2.pos >>= _) _ _ s;exact wpAny_bind (wpAny_standAt (wpAny_bind (wpAny_mono h (fun it' s' h' => wpAny_pure (And.intro rfl h')) fun _ _ x => x))))
end
def tIn (wi : TI) (g : TG) (tif : TT) (te : TE) (D : Addr) (N : L2.St → Hp → Prop) (σ : L2.St) (H : Hp) : Prop := wi σ H fun J H1 =>
 ∃ W : Nat → Nat → L2.St → Hp → Prop,(∃ n,W 0 n σ H1)∧∀ i n σ H,W i n σ H →
  (J.stop i H∧N σ H) ∨ (J.go i H∧∀ x H',J.yld i H x H' → g x σ H' fun σ2 H2 => tif σ2 H2 fun k H3 =>
   if k = true then te σ2 H3 fun y H4 => ∃ zs,H4 D = some (.lst zs)∧zs.length < sizeLine∧∃ n',n' < n∧W (i + 1) n' σ2 (upd H4 D (.lst (zs ++ [y])))
   else ∃ n',n' < n∧W (i + 1) n' σ2 H3)
section
variable {X : Cx}
theorem qjh {elt t1 i1 t2 i2 : Expr} {f1 f2 : List Expr} {scope : Scope} {pos : Pos} {wi : TI} {g : TG} {tif : TT} {te : TE} {D : Addr} {N : L2.St → Hp → Prop} (hc : X.calm = true) (hx : ∀ v s,¬ X.xe v s) (hi : PI X t2 i2 wi) (hg : PG X t2 g) (hf : PF X f2 tif) (he : PE X elt te)
    (hs : ∀ x,foldedSetIterable i2 X.env x = pure x) {pins : List (Addr × Obj)} {s : Shared} {σ : L2.St} {H : Hp} {E : Value → Shared → Prop} {α : Type} {kk : Sem α} {Q : α → Shared → Prop} (I : Inv X pins σ H s) (h : tIn wi g tif te D N σ H) (hk : ∀ s' σ' H',Inv X pins σ' H' s' → N σ' H' → wpAny (model X.prog X.w) X.A kk Q E s') :
    wpAny (model X.prog X.w) X.A (do
            let x ← eval i2 X.env
            standAt i2.pos
            let x ← foldedSetIterable i2 X.env x
            let _ ← runOwn (.compStart (.ListComp elt [⟨t1,i1,f1,0⟩,⟨t2,i2,f2,0⟩] scope pos) 1 (← holding [x] (pyIter x)) (.ref D) X.env) X.env
            kk) Q E s := by
  refine wpAny_bind (wpAny_mono (hi pins s σ H _ I h) (fun v s1 h1 => ?_) fun _ _ z => (hx _ _ z).elim)
  refine wpAny_bind (wpAny_standAt (wpAny_bind (wpAny_of_eq (hs v) ?_)))
  refine wpAny_bind (wpAny_holding (wpAny_mono h1 (fun itv s2 h2 => ?_) fun _ _ z => (hx _ _ z).elim))
  obtain ⟨it,fp,tn,J,H2,rfl,I2,T,st2,f2',W,⟨n0,w0⟩,turn⟩ := h2
  have stat : ∀ {H' : Hp},(∀ b ∈ fp,H' b = none) → ∀ b ∈ fp,TK X pins H' b := fun hn b hb => ⟨hn b hb,(f2' b hb).2⟩
  refine wpAny_bind (wpAny_runOwn ?_)
  show codeAny (model X.prog X.w) X.A (.compStart (.ListComp elt [⟨t1,i1,f1,0⟩,⟨t2,i2,f2,0⟩] scope pos) 1 (.ref it) (.ref D) X.env) _ s2
  have loop : codeAny (model X.prog X.w) X.A (.compLoop (.ListComp elt [⟨t1,i1,f1,0⟩,⟨t2,i2,f2,0⟩] scope pos) 1 (.ref it) (.ref D) X.env) (fun r s' => match r with
      | .ok f => wpAny (model X.prog X.w) X.A kk Q E s'
      | .error e => cameBackBy (model X.prog X.w) X.A X.env E e s') s2 := by
    refine codeAny_loop rfl (fun n s' => ∃ i σ' H',Inv X pins σ' H' s'∧tn i s'.heap∧(∀ b ∈ fp,H' b = none)∧W i n σ' H') (fun n s' hI => ?_) n0 ⟨0,σ,H2,I2,st2,fun b hb => (f2' b hb).1,w0⟩
    show wpAny _ X.A ((compTurn (.ListComp elt [⟨t1,i1,f1,0⟩,⟨t2,i2,f2,0⟩] scope pos) 1 (.ref it) (.ref D) X.env).onRaise (fun x => do noteFrame x X.env;theTreesLotGoes x)) _ _ s'
    refine wpAny_noted ?_
    rw [RZ]
    refine wpAny_bind (wpAny_standAt (wpAny_bind ?_))
    obtain ⟨i,σ5,H5,I5,st5,fr5,w5⟩ := hI
    rcases turn i n σ5 H5 w5 with ⟨stop,q⟩ | ⟨go,step⟩
    · refine thn (T.done X rfl rfl rfl hc i pins s' σ5 H5 _ I5 (stat fr5) st5 stop) fun r s6 ⟨hr,I6⟩ => ?_
      subst hr
      exact wpAny_pure (hk _ σ5 H5 I6 q)
    · refine thn (T.item X rfl rfl rfl hc i pins s' σ5 H5 _ I5 (stat fr5) st5 go) fun r s6 ⟨u,hr,h6⟩ => ?_
      subst hr
      refine wpAny_bind (thn h6 fun _ s7 ⟨x,H7,I7,r7,y7,st7,fr7⟩ => ?_)
      have I7' := I7.pinned (stat fr7) (T.obj _ _ st7)
      have again : ∀ {σ8 : L2.St} {H8 : Hp} {s8 : Shared},Inv X (pins ++ E6 fp s7.heap) σ8 H8 s8 → (∃ n',n' < n∧W (i + 1) n' σ8 H8) →
          ∃ m',m' < n∧∃ i σ' H',Inv X pins σ' H' s8∧tn i s8.heap∧(∀ b ∈ fp,H' b = none)∧W i m' σ' H' := fun {σ8 H8 s8} I8 ⟨n',hn,w8⟩ => by
        refine ⟨n',hn,i + 1,σ8,H8,I8.unpinned,T.keep _ _ _ st7 fun b hb o e => (I8.pin (b,o) (List.mem_append_right _ (List.mem_append_right _ (zt hb e)))).1,fun b hb => ?_,w8⟩
        obtain ⟨o,e,d⟩ := T.obj _ _ st7 b hb
        exact (I8.pin (b,o) (List.mem_append_right _ (List.mem_append_right _ (zt hb e)))).2.1
      refine wpAny_bind (wpAny_mono (hg _ s7 σ5 H7 x u _ I7' r7 (step x H7 y7)) (fun _ s8 ⟨σ8,H8,I8,q8⟩ => ?_) fun _ _ z => (hx _ _ z).elim)
      refine wpAny_bind (wpAny_mono (hf _ s8 σ8 H8 _ I8 q8) (fun k s9 ⟨H9,I9,q9⟩ => ?_) fun _ _ z => (hx _ _ z).elim)
      cases k with
      | false =>
        rw [if_neg Bool.false_ne_true] at q9
        exact wpAny_pure ⟨rfl,again I9 q9⟩
      | true =>
        rw [if_pos rfl] at q9
        refine wpAny_bind (wpAny_bind (wpAny_mono (he _ s9 σ8 H9 _ I9 q9) (fun w s10 ⟨y,H10,I10,r10,q10⟩ => ?_) fun _ _ z => (hx _ _ z).elim))
        obtain ⟨zs,hz,hl,q10⟩ := q10
        refine wpAny_bind (wpAny_mono (UW (X := X) _ s10 σ8 H10 (.ref D) [y] (.ref D) [w] (fun _ H11 => H11 = upd H10 D (.lst (zs ++ [y]))) I10 rfl (.cons r10 .nil) ⟨D,zs,y,rfl,rfl,hz,hl,rfl⟩) (fun _ s11 ⟨_,H11,I11,_,e11⟩ => ?_) fun _ _ z => (hx _ _ z).elim)
        subst e11
        exact wpAny_pure (wpAny_pure ⟨rfl,again I11 q10⟩)
  exact JS loop (T.self X.A 0 _ _ _ st2 loop)
def qp9 (wi : TI) (g : TG) (tif : TT) (wi2 : TI) (g2 : TG) (tif2 : TT) (te : TE) (m : List (Option Nat)) : TE := fun σ H Q => wi σ H fun J H1 => ∀ D,H1 D = none →
 ∃ W : Nat → Nat → L2.St → Hp → Prop,(∃ n,W 0 n (cap m σ) (upd H1 D (.lst [])))∧∀ i n σ H,W i n σ H →
  (J.stop i H∧Q (.ref D) H) ∨ (J.go i H∧∀ x H',J.yld i H x H' → g x σ H' fun σ2 H2 => tif σ2 H2 fun k H3 =>
   if k = true then tIn wi2 g2 tif2 te D (fun σ4 H4 => ∃ n',n' < n∧W (i + 1) n' σ4 H4) σ2 H3
   else ∃ n',n' < n∧W (i + 1) n' σ2 H3)
theorem qka {elt tg iter t2 i2 : Expr} {ifs f2 : List Expr} {scope : Scope} {pos : Pos} {N' : List Str} {m : List (Option Nat)} {wi : TI} {g : TG} {tif : TT} {wi2 : TI} {g2 : TG} {tif2 : TT} {te : TE} (hc : X.calm = true) (hi : PI X tg iter wi)
  (hg : ∀ s H fp,PG (qk X N' scope s H fp) tg g) (hf : ∀ s H fp,PF (qk X N' scope s H fp) ifs tif) (hi2 : ∀ s H fp,PI (qk X N' scope s H fp) t2 i2 wi2) (hg2 : ∀ s H fp,PG (qk X N' scope s H fp) t2 g2) (hf2 : ∀ s H fp,PF (qk X N' scope s H fp) f2 tif2) (he : ∀ s H fp,PE (qk X N' scope s H fp) elt te)
  (hsc : qai X.env.scope scope = true) (hcap : VX X.N N' scope m = true) (hs : ∀ x,foldedSetIterable iter X.env x = pure x := by intro _;rfl) (hs2 : ∀ s H fp x,foldedSetIterable i2 (qk X N' scope s H fp).env x = pure x := by intro _ _ _ _;rfl) :
  PE X (.ListComp elt [⟨tg,iter,ifs,0⟩,⟨t2,i2,f2,0⟩] scope pos) (qp9 wi g tif wi2 g2 tif2 te m) := by
 intro pins s σ H Q I h
 have sc := EG hsc
 have hcl : ∀ y ∈ scope.names,y.2 = .free → ∃ c,X.env.cells.lookup y.1 = some c := fun y hy e => by
  rcases (sc.free y hy e).2 with z | z
  ·exact I.ok.has y.1 (.inl z)
  ·exact I.ok.has y.1 (.inr z)
 rw [eval_ListComp]
 refine wpAny_comprehension_free (use := none) (g := ⟨tg,iter,ifs,0⟩) (gs := [⟨t2,i2,f2,0⟩]) rfl hs (JC hcl) sc.kind sc.loc ?_
 show wpAny _ _ (eval iter X.env) _ _ s
 refine thn (hi pins s σ H _ I h) fun v s1 h1 => thn h1 fun itv s2 h2 => ?_
 obtain ⟨it,fp,tn,J,H2,rfl,I2,T,st2,fF2,hW⟩ := h2
 refine wpAny_newObj_type ?_
 have hD : H2 s2.heap.objs.size = none := I2.fresh
 obtain ⟨W,⟨n0,w0⟩,turn⟩ := hW _ hD
 generalize hDe : s2.heap.objs.size = D at *
 have I3 : Inv X pins σ (upd H2 D (.lst [])) { s2 with heap := s2.heap.push { cls := .type "list",dict := none,data := .seq ([] : List Value).toArray } } := by
  subst hDe
  exact I2.laid (t' := s2.toks) (fun b u e => Heap.get?_push_of_some _ e) (Nat.le_refl _) ⟨Nat.zero_le _,[],0,.nil,Heap.get?_push_size _ rfl⟩
 have ob2 := T.obj 0 _ st2
 have ob3 : ∀ b ∈ fp,∃ o,(s2.heap.push { cls := .type "list",dict := none,data := .seq ([] : List Value).toArray }).get? b = some o := fun b hb => let ⟨o,e,_⟩ := ob2 b hb;⟨o,Heap.get?_push_of_some _ e⟩
 have f3 : ∀ b ∈ fp,TK X pins (upd H2 D (.lst [])) b := fun b hb => by
  obtain ⟨o,e,_⟩ := ob2 b hb
  have : b ≠ D := by rw [← hDe];exact Nat.ne_of_lt (Heap.lt_size e)
  exact ⟨by rw [qC this];exact (fF2 b hb).1,(fF2 b hb).2⟩
 have k23 : ∀ b o,s2.heap.get? b = some o → (s2.heap.push { cls := .type "list",dict := none,data := .seq ([] : List Value).toArray }).get? b = some o := fun b o e => Heap.get?_push_of_some _ e
 generalize hH3 : upd H2 D (.lst []) = H3 at *
 generalize hs3 : ({ s2 with heap := s2.heap.push { cls := .type "list",dict := none,data := .seq ([] : List Value).toArray } } : Shared) = s3 at *
 have ob3 : ∀ b ∈ fp,∃ o,s3.heap.get? b = some o := by rw [← hs3];exact ob3
 have k23 : ∀ b o,s2.heap.get? b = some o → s3.heap.get? b = some o := by rw [← hs3];exact k23
 refine jT fun h₁ hns hk hown => ?_
 have I4 : Inv (qk X N' scope s3 H3 fp) [] (cap m σ) H3 { s3 with heap := h₁ } := R9 hc I3 sc hcap f3 ob3 hns hk hown
 have tn4 : tn 0 h₁ := T.keep _ _ _ st2 fun b hb o e => hk b o (k23 b o e)
 have fr4 : ∀ b ∈ fp,H3 b = none := fun b hb => (f3 b hb).1
 have stat : ∀ {H' : Hp},(∀ b ∈ fp,H' b = none) → ∀ b ∈ fp,TK (qk X N' scope s3 H3 fp) [] H' b := fun hn b hb => by
  refine ⟨hn b hb,I4.ok.exf b hb |>.1,I4.ok.exfs b hb,.inl hb,fun x c e => (I4.ok.exf b hb).2 x c e,fun p hp => absurd (show p ∈ ([] : List (Addr × Obj)) from hp) (by simp)⟩
 show codeAny (model X.prog X.w) X.A (.compStart (.ListComp elt [⟨tg,iter,ifs,0⟩,⟨t2,i2,f2,0⟩] scope pos) 0 (.ref it) (.ref D) (qk X N' scope s3 H3 fp).env) (compPost (model X.prog X.w) X.A X.xe none (EP X pins σ Q) (.ref D) s3.heap.objs.size) { s3 with heap := h₁ }
 have loop : codeAny (model X.prog X.w) X.A (.compLoop (.ListComp elt [⟨tg,iter,ifs,0⟩,⟨t2,i2,f2,0⟩] scope pos) 0 (.ref it) (.ref D) (qk X N' scope s3 H3 fp).env) (compPost (model X.prog X.w) X.A X.xe none (EP X pins σ Q) (.ref D) s3.heap.objs.size) { s3 with heap := h₁ } := by
  refine codeAny_loop rfl (fun n s' => ∃ i σ' H',Inv (qk X N' scope s3 H3 fp) [] σ' H' s'∧tn i s'.heap∧(∀ b ∈ fp,H' b = none)∧W i n σ' H') (fun n s' hI => ?_) n0 ⟨0,cap m σ,H3,I4,tn4,fr4,w0⟩
  show wpAny _ X.A ((compTurn (.ListComp elt [⟨tg,iter,ifs,0⟩,⟨t2,i2,f2,0⟩] scope pos) 0 (.ref it) (.ref D) (qk X N' scope s3 H3 fp).env).onRaise (fun x => do noteFrame x (qk X N' scope s3 H3 fp).env;theTreesLotGoes x)) _ _ s'
  refine wpAny_noted ?_
  rw [RE]
  refine wpAny_bind (wpAny_standAt (wpAny_bind ?_))
  obtain ⟨i,σ5,H5,I5,st5,fr5,w5⟩ := hI
  rcases turn i n σ5 H5 w5 with ⟨stop,q⟩ | ⟨go,step⟩
  ·refine thn (T.done (qk X N' scope s3 H3 fp) rfl rfl rfl rfl i [] s' σ5 H5 _ I5 (stat fr5) st5 stop) fun r s6 ⟨hr,I6⟩ => ?_
   subst hr
   refine wpAny_pure ?_
   obtain ⟨mm,hn6,_⟩ := I6.loc
   exact ⟨mm,hn6,fun h' sb => ⟨.ref D,H5,EA I3 f3 I6 sb,rfl,q⟩⟩
  ·refine thn (T.item (qk X N' scope s3 H3 fp) rfl rfl rfl rfl i [] s' σ5 H5 _ I5 (stat fr5) st5 go) fun r s6 ⟨u,hr,h6⟩ => ?_
   subst hr
   refine wpAny_bind (thn h6 fun _ s7 ⟨x,H7,I7,r7,y7,st7,fr7⟩ => ?_)
   have I7' := I7.pinned (stat fr7) (T.obj _ _ st7)
   have again : ∀ {σ8 : L2.St} {H8 : Hp} {s8 : Shared},Inv (qk X N' scope s3 H3 fp) ([] ++ E6 fp s7.heap) σ8 H8 s8 → (∃ n',n' < n∧W (i + 1) n' σ8 H8) →
     ∃ m',m' < n∧∃ i σ' H',Inv (qk X N' scope s3 H3 fp) [] σ' H' s8∧tn i s8.heap∧(∀ b ∈ fp,H' b = none)∧W i m' σ' H' := fun {σ8 H8 s8} I8 ⟨n',hn,w8⟩ => by
    refine ⟨n',hn,i + 1,σ8,H8,I8.unpinned,T.keep _ _ _ st7 fun b hb o e => (I8.pin (b,o) (List.mem_append_right _ (List.mem_append_right _ (zt hb e)))).1,fun b hb => ?_,w8⟩
    obtain ⟨o,e,d⟩ := T.obj _ _ st7 b hb
    exact (I8.pin (b,o) (List.mem_append_right _ (List.mem_append_right _ (zt hb e)))).2.1
   refine wpAny_bind (wpAny_mono (hg s3 H3 fp _ s7 σ5 H7 x u _ I7' r7 (step x H7 y7)) (fun _ s8 ⟨σ8,H8,I8,q8⟩ => ?_) fun _ _ z => z.elim)
   refine wpAny_bind (wpAny_mono (hf s3 H3 fp _ s8 σ8 H8 _ I8 q8) (fun k s9 ⟨H9,I9,q9⟩ => ?_) fun _ _ z => z.elim)
   cases k with
   | false =>
    rw [if_neg Bool.false_ne_true] at q9
    exact wpAny_pure ⟨rfl,again I9 q9⟩
   | true =>
    rw [if_pos rfl] at q9
    refine qjh (X := qk X N' scope s3 H3 fp) rfl (fun _ _ z => z) (hi2 s3 H3 fp) (hg2 s3 H3 fp) (hf2 s3 H3 fp) (he s3 H3 fp) (hs2 s3 H3 fp) I9 q9 fun s10 σ10 H10 I10 q10 => ?_
    exact wpAny_pure ⟨rfl,again I10 q10⟩
 exact codeAny_compStart_list loop (T.self X.A 0 _ _ _ tn4 loop)
end
end L3
namespace L3
open PySem PySem.Spec PyProof.Rows L2
def qhR (D : Addr) (stay : Gp → Prop) (g : TG3) (tif : TT3) (te : TE3) (N : St3 → Gp → Prop) : List T → St3 → Gp → Prop
 | [],τ,G => stay G∧N τ G
 | x :: r,τ,G => stay G∧g x τ G fun τ2 G2 => tif τ2 G2 fun k G3 =>
  if k = true then te τ2 G3 fun y G4 => (match G4 D with | some (.lst ys) => ys.length < sizeLine∧qhR D stay g tif te N r τ2 (gu G4 D (.lst (ys ++ [y]))) | _ => False) else qhR D stay g tif te N r τ2 G3
def qcf (D : Addr) (stay : Gp → Prop) (g : TG3) (tif : TT3) (wi2 : TI3) (g2 : TG3) (tif2 : TT3) (te : TE3) (q : Q3) : List T → St3 → Gp → Prop
 | [],_,G => stay G∧q (.ref D) G
 | x :: r,τ,G => stay G∧g x τ G fun τ2 G2 => tif τ2 G2 fun k G3 =>
  if k = true then wi2 τ2 G3 fun items2 stay2 G4 => qhR D stay2 g2 tif2 te (fun τ' G' => qcf D stay g tif wi2 g2 tif2 te q r τ' G') items2 τ2 G4 else qcf D stay g tif wi2 g2 tif2 te q r τ2 G3
def qlI (wi : TI3) (g : TG3) (tif : TT3) (wi2 : TI3) (g2 : TG3) (tif2 : TT3) (te : TE3) (m : List (Option Nat)) : TE3 := fun τ G q => wi τ G fun items stay G1 => ∀ D,G1 D = none → qcf D stay g tif wi2 g2 tif2 te q items (cap m τ) (gu G1 D (.lst []))
section
variable {K : PySem.W.Frag}
theorem qgn {wi2 : TI3} {g2 : TG3} {tif2 : TT3} {te : TE3} {D : Addr} {N3 : St3 → Gp → Prop} {N : L2.St → Hp → Prop} {τ : St3} {G : Gp} {σ : L2.St} {H : Hp} {Gb : Gp} {Hb : Hp} (rl : Rel K τ G σ H) (kb : Kp Gb Hb G H) (h : wi2 τ G fun items stay G1 => qhR D stay g2 tif2 te N3 items τ G1)
  (hN : ∀ τ' G' σ' H',Rel K τ' G' σ' H' → Kp Gb Hb G' H' → N3 τ' G' → N σ' H') : tIn (lI K wi2) (lG K g2) (lT K tif2) (lE K te) D N σ H := by
 refine ⟨τ,G,_,rl,h,fun items stay G1 h1 J H1 hr1 k1 ok => ?_⟩
 refine ⟨fun i n σ' H' => n = items.length - i∧i ≤ items.length∧∃ τ' G',Rel K τ' G' σ' H'∧Kp G1 H1 G' H'∧qhR D stay g2 tif2 te N3 (items.drop i) τ' G',⟨_,rfl,Nat.zero_le _,τ,G1,rl.next hr1 k1,Kp.refl,by simpa using h1⟩,?_⟩
 rintro i n σ' H' ⟨rfl,hi,τ',G',rl',k',h'⟩
 by_cases hlt : i < items.length
 ·rw [List.drop_eq_getElem_cons hlt] at h'
  obtain ⟨hst,h'⟩ := h'
  obtain ⟨go,yld,_⟩ := ok G' H' rl'.hp k' hst
  have hx : items[i]? = some items[i] := List.getElem?_eq_getElem hlt
  refine .inr ⟨go i _ hx,fun v H2 y => ?_⟩
  obtain ⟨rv,hr2,k2⟩ := yld i _ v H2 hx y
  refine ⟨_,τ',G',_,rv,rl'.next hr2 k2,h',fun τ3 G3 h3 σ3 H3 rl3 k3 => ⟨τ3,G3,_,rl3,h3,fun k G4 h4 H4 hr4 k4 => ?_⟩⟩
  have kk := (k2.trans k3).trans k4
  cases k with
  | false =>
   rw [if_neg Bool.false_ne_true] at h4
   refine qmJ ?_
   exact ⟨_,by omega,rfl,hlt,τ3,G4,rl3.next hr4 k4,k'.trans kk,h4⟩
  | true =>
   rw [if_pos rfl] at h4
   refine qmH ?_
   refine ⟨τ3,G4,_,rl3.next hr4 k4,h4,fun z G5 h5 w H5 rw5 hr5 k5 => ?_⟩
   split at h5
   ·rename_i ys e1
    obtain ⟨vs,g1,r1⟩ := hr5.lst e1
    exact ⟨vs,g1,by rw [← r1.length];exact h5.1,_,by omega,rfl,hlt,τ3,_,((rl3.next hr4 k4).next hr5 k5).next (hr5.wr e1 (r1.append (.cons rw5 .nil))) (Kp.wr e1),((k'.trans kk).trans k5).trans (Kp.wr e1),h5.2⟩
   ·exact h5.elim
 ·have e : i = items.length := by omega
  subst e
  rw [List.drop_length] at h'
  obtain ⟨_,_,stop⟩ := ok G' H' rl'.hp k' h'.1
  exact .inl ⟨stop,hN _ _ _ _ rl' ((kb.trans k1).trans k') h'.2⟩
end
section
variable {X : Cx}
theorem qnr {elt tg iter t2 i2 : Expr} {ifs f2 : List Expr} {scope : Scope} {pos : Pos} (N' : List Str) (m : List (Option Nat)) {wi : TI3} {g : TG3} {tif : TT3} {wi2 : TI3} {g2 : TG3} {tif2 : TT3} {te : TE3} (hc : X.calm = true) (hi : I3 X tg iter wi)
  (hg : ∀ s H fp,G3 (qk X N' scope s H fp) tg g) (hf : ∀ s H fp,F3 (qk X N' scope s H fp) ifs tif) (hi2 : ∀ s H fp,I3 (qk X N' scope s H fp) t2 i2 wi2) (hg2 : ∀ s H fp,G3 (qk X N' scope s H fp) t2 g2) (hf2 : ∀ s H fp,F3 (qk X N' scope s H fp) f2 tif2) (he : ∀ s H fp,E3 (qk X N' scope s H fp) elt te)
  (hsc : qai X.env.scope scope = true) (hcap : VX X.N N' scope m = true) (hs : ∀ x,foldedSetIterable iter X.env x = pure x := by intro _;rfl) (hs2 : ∀ s H fp x,foldedSetIterable i2 (qk X N' scope s H fp).env x = pure x := by intro _ _ _ _;rfl) :
  E3 X (.ListComp elt [⟨tg,iter,ifs,0⟩,⟨t2,i2,f2,0⟩] scope pos) (qlI wi g tif wi2 g2 tif2 te m) :=
 WP (qka (g := lG X.K g) (tif := lT X.K tif) (wi2 := lI X.K wi2) (g2 := lG X.K g2) (tif2 := lT X.K tif2) (te := lE X.K te) hc hi hg hf hi2 hg2 hf2 he hsc hcap hs hs2) fun σ H Q ⟨τ,G,q,rl,h,af⟩ => by
  refine ⟨τ,G,_,rl,h,fun items stay G1 h1 J H1 hr1 k1 ok D hD => ?_⟩
  have gD : G1 D = none := hr1.free hD
  have h1 := h1 D gD
  have hr1' : HR X.K (gu G1 D (.lst [])) (upd H1 D (.lst [])) := HR.newL hr1 hD .nil
  have k1' : Kp G1 H1 (gu G1 D (.lst [])) (upd H1 D (.lst [])) := Kp.newL hD
  refine ⟨fun i n σ' H' => n = items.length - i∧i ≤ items.length∧∃ τ' G',Rel X.K τ' G' σ' H'∧Kp G1 H1 G' H'∧qcf D stay g tif wi2 g2 tif2 te q (items.drop i) τ' G',
   ⟨_,rfl,Nat.zero_le _,cap m τ,_,((rl.next hr1 k1).cap m).next hr1' k1',k1',by simpa using h1⟩,?_⟩
  rintro i n σ' H' ⟨rfl,hi,τ',G',rl',k',h'⟩
  by_cases hlt : i < items.length
  ·rw [List.drop_eq_getElem_cons hlt] at h'
   obtain ⟨hst,h'⟩ := h'
   obtain ⟨go,yld,_⟩ := ok G' H' rl'.hp k' hst
   have hx : items[i]? = some items[i] := List.getElem?_eq_getElem hlt
   refine .inr ⟨go i _ hx,fun v H2 y => ?_⟩
   obtain ⟨rv,hr2,k2⟩ := yld i _ v H2 hx y
   refine ⟨_,τ',G',_,rv,rl'.next hr2 k2,h',fun τ3 G3 h3 σ3 H3 rl3 k3 => ⟨τ3,G3,_,rl3,h3,fun k G4 h4 H4 hr4 k4 => ?_⟩⟩
   have kk := (k2.trans k3).trans k4
   cases k with
   | false =>
    rw [if_neg Bool.false_ne_true] at h4
    refine qmJ ?_
    exact ⟨_,by omega,rfl,hlt,τ3,G4,rl3.next hr4 k4,k'.trans kk,h4⟩
   | true =>
    rw [if_pos rfl] at h4
    refine qmH ?_
    exact qgn (rl3.next hr4 k4) (k'.trans kk) h4 fun τ5 G5 σ5 H5 rl5 k5 h5 => ⟨_,by omega,rfl,hlt,τ5,G5,rl5,k5,h5⟩
  ·have e : i = items.length := by omega
   subst e
   rw [List.drop_length] at h'
   obtain ⟨_,_,stop⟩ := ok G' H' rl'.hp k' h'.1
   exact .inl ⟨stop,af _ _ h'.2 _ H' (.ref D) rl'.hp (k1.trans k')⟩
theorem qeH {elt tg iter t2 i2 : Expr} {ifs f2 : List Expr} {scope : Scope} {pos : Pos} (N' : List Str) (m : List (Option Nat)) {wi : TI3} {g : TG3} {tif : TT3} {wi2 : TI3} {g2 : TG3} {tif2 : TT3} {te : TE3} (hc : X.calm = true) (hi : jI3 X tg iter wi)
  (hg : ∀ s H fp,jG3 (qk X N' scope s H fp) tg g) (hf : ∀ s H fp,jF3 (qk X N' scope s H fp) ifs tif) (hi2 : ∀ s H fp,jI3 (qk X N' scope s H fp) t2 i2 wi2) (hg2 : ∀ s H fp,jG3 (qk X N' scope s H fp) t2 g2) (hf2 : ∀ s H fp,jF3 (qk X N' scope s H fp) f2 tif2) (he : ∀ s H fp,jE3 (qk X N' scope s H fp) elt te)
  (hsc : qai X.env.scope scope = true) (hcap : VX X.N N' scope m = true) (hs : ∀ x,foldedSetIterable iter X.env x = pure x := by intro _;rfl) (hs2 : ∀ s H fp x,foldedSetIterable i2 (qk X N' scope s H fp).env x = pure x := by intro _ _ _ _;rfl) :
  jE3 X (.ListComp elt [⟨tg,iter,ifs,0⟩,⟨t2,i2,f2,0⟩] scope pos) (qlI wi g tif wi2 g2 tif2 te m) :=
 ⟨qnr N' m hc hi.h (fun s H fp => (hg s H fp).h) (fun s H fp => (hf s H fp).h) (fun s H fp => (hi2 s H fp).h) (fun s H fp => (hg2 s H fp).h) (fun s H fp => (hf2 s H fp).h) (fun s H fp => (he s H fp).h) hsc hcap hs hs2⟩
end
end L3
namespace L3
open PySem PySem.Spec PyProof.Rows L2
section
variable {X : Cx}
theorem XU : ∀ {its : List Value} {ns : List Int},zO (ns.map V.int) its → IntsAre its ns
 | _,[],h => by cases h;exact .nil
 | _,n :: ns,h => by
  cases h with
  | cons r t =>
   obtain ⟨k,rfl⟩ := r
   exact .cons n k (XU t)
end
end L3
namespace L3
open PySem PySem.Spec PyProof.Rows L2
section
variable {X : Cx} {tg a b c : Expr} {pos : Pos}
end
end L3
namespace L3
open PySem PySem.Spec PyProof.Rows L2
section
variable {X : Cx}
end
end L3
namespace L3
open PySem PySem.Spec PyProof.Rows L2
end L3
namespace L3
open PySem PySem.Spec PyProof.Rows L2
section
variable {X : Cx} {a b : Expr} {ta tb : TE3} {pos : Pos}
end
end L3
namespace HT
open PySem PySem.Spec PyProof.Rows
section
variable {prog : Program} {w : World} {A : Around} {E : Value → Shared → Prop} {s : Shared}
end
end HT
namespace L3
open PySem PySem.Spec PyProof.Rows L2
section
variable {X : Cx} {e ek : Expr} {p2 pos : Pos}
end
end L3
namespace L3
open PySem PySem.Spec PyProof.Rows L2
section
variable {X : Cx} {a b : Expr} {ta tb : TE3} {pos : Pos}
end
end L3
namespace L3
open PySem PySem.Spec PyProof.Rows L2
abbrev Rd (sp : Sp3) (n : Nat) (t : TS3) (N : List Str) : Prop := ∀ ts G q,sp ts G q → ts.length = n∧t { nx := fun _ G' => q .non G',rt := q } (qs N ts) G
theorem jgn {pos : Pos} {X : Cx} {x : Str} (i : Nat) (hN : decide X.N.Nodup = true := by kernel_rfl) (hi : X.N[i]? = some x := by rfl) (hx : Loc X.env.scope x := by first | exact Or.inl rfl | exact Or.inr rfl) (hf : X.fn x = true ∨ X.env.scope.names.lookup x = some .local := by first | exact .inl rfl | exact .inr rfl) : jG3 X (.Name x pos) (gn3 i) :=
 qv (of_decide_eq_true hN) hi hx hf
end L3
namespace L2
open PySem PySem.Spec PyProof.Rows
section
variable {X : Cx} {pos : Pos}
end
end L2
namespace L3
open PySem PySem.Spec PyProof.Rows L2
section
variable {X : Cx} {pos : Pos}
end
end L3
namespace L3
open PySem PySem.Spec PyProof.Rows L2
section
variable {X : Cx} {K : PySem.W.Frag} {w : World} {mg : Str → Option Value}
inductive Ents (K : PySem.W.Frag) (w : World) : List DictEntry → List (Str × T) → Prop
 | nil : Ents K w [] []
 | cons {x : Str} {tk : Tok} {u : Value} {v : V} {t : T} {es : List DictEntry} {tab : List (Str × T)} : js v u → (∀ H,Rp K H t v) → Ents K w es tab → Ents K w (⟨PyData.keyHash w.params x,.str x tk,u⟩ :: es) ((x,t) :: tab)
def jt : List (Str × T) → Str → Option T
 | [],_ => none
 | (y,t) :: r,x => if y = x then some t else jt r x
structure Tb (K : PySem.W.Frag) (mg : Str → Option Value) (w : World) (x : Str) (tab : List (Str × T)) : Prop where
 at_ : ∃ (d : Addr) (es : Array DictEntry) (ep : Nat),mg x = some (.ref d)∧K.lookup d = some ⟨.type "dict",none,.dict es ep,#[]⟩∧(d == sysModules) = false∧Ents K w es.toList tab
theorem Ents.keys {P : Program} : ∀ {es : List DictEntry} {tab : List (Str × T)},Ents K w es tab → ∀ e ∈ es,∃ k,(PySem.strKind P w).is k e.key = true∧e.hash = (PySem.strKind P w).hash k
 | _,_,.nil,e,h => by cases h
 | _,_,.cons (x := x) a b t,e,h => by
  rcases List.mem_cons.mp h with rfl | h
  ·exact ⟨x,by show (x == x) = true;simp,rfl⟩
  ·exact Ents.keys t e h
theorem Ents.find : ∀ {es : List DictEntry} {tab : List (Str × T)} (x : Str),Ents K w es tab →
    (match jt tab x with
     | some t => ∃ (u : Value) (v : V),(es.find? fun e => Value.isStrOf x e.key).map (·.val) = some u∧js v u∧∀ H,Rp K H t v
     | none => (es.find? fun e => Value.isStrOf x e.key).map (·.val) = none)
  | _,_,x,.nil => by simp [jt]
  | _,_,x,.cons (x := y) (tk := tk) (u := u) (v := v) (t := t) (es := es) (tab := tab) a b r => by
    by_cases e : y = x
    · have : Value.isStrOf x (Value.str y tk) = true := by show (y == x) = true;simp [e]
      simp only [jt,e,if_true,List.find?_cons,this]
      subst e
      simp only [this]
      exact ⟨u,v,rfl,a,b⟩
    · have : Value.isStrOf x (Value.str y tk) = false := by show (y == x) = false;simp [e]
      have ih := Ents.find x r
      simp only [jt,e,if_false,List.find?_cons,this]
      exact ih
theorem Ents.map {P : Program} {h : Heap} {d : Addr} {es : Array DictEntry} {ep : Nat} {tab : List (Str × T)} (hd : h.get? d = some ⟨.type "dict",none,.dict es ep,#[]⟩) (en : Ents K w es.toList tab) :
  Heap.MapOf (PySem.strKind P w) h d (fun x => findBy Value.isStrOf es x) :=
 ⟨_,es,ep,hd,⟨rfl,rfl,rfl⟩,rfl,fun e he => en.keys e (by simpa using he),fun _ => rfl⟩
def qpx (K : PySem.W.Frag) (d : Addr) (tab : List (Str × T)) : R2 := fun x y H Q => x = .ref d∧∃ s t,y = .str s∧jt tab s = some t∧∀ v,Rp K H t v → Q v H
theorem qiJ {d : Addr} {es : Array DictEntry} {ep : Nat} {tab : List (Str × T)} (hk : X.K.lookup d = some ⟨.type "dict",none,.dict es ep,#[]⟩) (en : Ents X.K X.w es.toList tab) : IxR X (qpx X.K d tab) := by
 intro value slice pins s σ H x y v u Q I rx ry h hs
 obtain ⟨rfl,z,t,rfl,ht,q⟩ := h
 cases rx
 obtain ⟨tk,rfl⟩ := ry
 have hd := I.kIn _ _ hk
 have f := en.find z
 rw [ht] at f
 obtain ⟨u,v,hf,rv,rp⟩ := f
 have hf' : findBy Value.isStrOf es z = some u := by
  unfold findBy
  rw [← Array.find?_toList]
  exact hf
 refine subscriptTail_builtinR (x := u) ⟨_,hd,rfl⟩ PySem.F.slot_dict_getitem.lookup (wpAny_getItem_of (knd := PySem.strKind X.prog X.w) (Q := fun r s' => r = u∧EP X pins σ Q r s') (k := z) (by show (z == z) = true;simp) (en.map hd) hf' ⟨rfl,v,H,I.tok _,rv,q v (rp H)⟩) hs
def qcv (tab : List (Str × T)) (te : TE3) : TE3 := fun τ G q => te τ G fun x G1 => match x with | .str s => (match jt tab s with | some t => q t G1 | none => False) | _ => False
theorem qhE {x : Str} {e : Expr} {te : TE3} {tab : List (Str × T)} {p1 pos : Pos} (tb : Tb X.K X.mg X.w x tab) (hg : Gl X x) (he : jE3 X e te) (hs : U9 e) (hd : (x == ("__debug__" : Str)) = false := by decide) : jE3 X (.Subscript (.Name x p1) e pos) (qcv tab te) := by
 obtain ⟨d,es,ep,hm,hk,hn,en⟩ := tb.at_
 exact ⟨WP (qmB (qiJ hk en) (qhh hg hm (v := .ref d) rfl hd) he.h hs) fun _ _ _ ⟨τ,G,q,rl,h,af⟩ => zv rl h fun y G1 h1 v H1 rx hr1 k1 rl1 => by
  cases y <;> try exact h1.elim
  case str z =>
   cases rx
   unfold qcv at h
   simp only at h1
   split at h1
   ·rename_i t ht
    exact ⟨rfl,z,t,rfl,ht,fun v rv => af.back k1 _ _ h1 _ _ rv hr1 Kp.refl⟩
   ·exact h1.elim⟩
theorem UL (hc : X.calm = true) : J0 X (.builtin "min") (fun xs H Q => ∃ (p : Addr) (ns : List Int),xs = [.ref p]∧SqL X.K H p (ns.map V.int)∧ns ≠ []∧∀ m ∈ ns,(∀ a ∈ ns,m ≤ a) → Q (.int m) H) := by
 intro pins s σ H xs us Q I r h
 obtain ⟨p,ns,rfl,hq,hne,q⟩ := h
 obtain ⟨u,rfl,rp⟩ := XR r
 cases (show u = Value.ref p from rp)
 obtain ⟨its,rv,pl,hz⟩ := I.list hq
 have hlen : its.length = ns.length := by have := rv.length;simp at this;omega
 have hpos : 0 < ns.length := List.length_pos_iff.mpr hne
 have hp : p < s.heap.objs.size := by obtain ⟨o,n,e,_⟩ := pl;exact Heap.lt_size e
 have vals : ∀ (i : Nat) (v : Value),its.toArray[i]? = some v → ∃ t,v = Value.int (ns.getD i 0) t := fun i v hv => by
  have hv' : its[i]? = some v := by simpa using hv
  obtain ⟨hi,_⟩ := List.getElem?_eq_some_iff.mp hv'
  have hi' : i < ns.length := by omega
  obtain ⟨u,hu,ru⟩ := rv.get (i := i) (show (ns.map V.int)[i]? = some (V.int (ns[i])) by simp [hi'])
  rw [hv'] at hu;cases hu
  obtain ⟨t,rfl⟩ := ru
  exact ⟨t,by show Value.int ns[i] t = Value.int (ns.getD i 0) t;rw [List.getD_eq_getElem?_getD,List.getElem?_eq_getElem hi'];rfl⟩
 refine call_min_walk (wpAny_pyIter_list pl.isList ⟨s.heap.objs.size,_,_,_,_,_,_,rfl,Walks.list (A := X.A.in1) (show X.A.in1.handled = none from I.ok.hd hc) s.heap.objs.size p (Nat.ne_of_lt hp) its.toArray,⟨⟨_,Heap.get?_push_size _ rfl,rfl,rfl⟩,?_⟩,fun b hb => ?_,by rw [List.size_toArray];omega,CmpOf.ints_lt (fun i => ns.getD i 0) vals,fun v h' tk hP hk => ?_⟩)
 ·obtain ⟨o,n,e,c,_,d⟩ := pl
  exact ⟨o,Heap.get?_push_of_some _ e,c,n,d⟩
 ·have lt1 : ∀ n c : Nat,c < n → c < n + 1 := fun n c h => by omega
  rw [show (({ s with heap := s.heap.push _ } : Shared).heap.objs.size) = s.heap.objs.size + 1 from Heap.size_push ..]
  simp only [List.mem_cons,List.not_mem_nil,or_false] at hb
  rcases hb with rfl | rfl
  ·exact Nat.lt_succ_self _
  ·exact lt1 _ _ hp
 ·obtain ⟨b1,b2⟩ := argBest_lt (fun i => ns.getD i 0) (its.toArray.size - 1)
  obtain ⟨t,rfl⟩ := vals _ _ hP
  rw [List.size_toArray] at b1 b2 ⊢
  have gd : ∀ j,j < ns.length → ns.getD j 0 ∈ ns := fun j hj => by rw [List.getD_eq_getElem?_getD,List.getElem?_eq_getElem hj];exact List.getElem_mem hj
  refine ⟨.int _,H,I.kept (h' := h') (t' := tk) fun b o e => hk b o (by simp;exact Nat.ne_of_lt (Heap.lt_size e)) (Heap.get?_push_of_some _ e),⟨_,rfl⟩,q _ (gd _ (by omega)) fun a ha => ?_⟩
  obtain ⟨j,hj,rfl⟩ := List.mem_iff_getElem.mp ha
  have := b2 j (by omega)
  have e : ns.getD j 0 = ns[j] := by rw [List.getD_eq_getElem?_getD,List.getElem?_eq_getElem hj];rfl
  rw [e] at this
  exact this
def SG : List T → Gp → Q3 → Prop := fun xs G q => match xs with
 | [.ref p] => (match getL G p with | some ys => (match CZ ys with | some ns => ns ≠ []∧∀ m ∈ ns,(∀ a ∈ ns,m ≤ a) → q (.int m) G | none => False) | none => False)
 | _ => False
theorem DF {K : PySem.W.Frag} : M7 K SG (fun xs H Q => ∃ (p : Addr) (ns : List Int),xs = [.ref p]∧SqL K H p (ns.map V.int)∧ns ≠ []∧∀ m ∈ ns,(∀ a ∈ ns,m ≤ a) → Q (.int m) H) := fun xs vs G H q Q hr rs h af => by
 unfold SG at h
 split at h
 ·rename_i p
  obtain ⟨v,rfl,r⟩ := SE rs
  cases r
  split at h
  ·rename_i ys e0
   split at h
   ·rename_i ns e1
    obtain ⟨us,hs,r2⟩ := zA hr e0
    have := DJ e1
    subst this
    have := DG r2
    subst this
    exact ⟨p,ns,rfl,hs,h.1,fun m hm ha => af _ _ (h.2 m hm ha) _ _ (.int _) hr Kp.refl⟩
   ·exact h.elim
  ·exact h.elim
 ·exact h.elim
theorem US (hc : X.calm = true) : J0 X (.builtin "max") (fun xs H Q => ∃ (p : Addr) (ns : List Int),xs = [.ref p]∧SqL X.K H p (ns.map V.int)∧ns ≠ []∧∀ m ∈ ns,(∀ a ∈ ns,a ≤ m) → Q (.int m) H) := by
 intro pins s σ H xs us Q I r h
 obtain ⟨p,ns,rfl,hq,hne,q⟩ := h
 obtain ⟨u,rfl,rp⟩ := XR r
 cases (show u = Value.ref p from rp)
 obtain ⟨its,rv,pl,hz⟩ := I.list hq
 have hlen : its.length = ns.length := by have := rv.length;simp at this;omega
 have hpos : 0 < ns.length := List.length_pos_iff.mpr hne
 have hp : p < s.heap.objs.size := by obtain ⟨o,n,e,_⟩ := pl;exact Heap.lt_size e
 have vals : ∀ (i : Nat) (v : Value),its.toArray[i]? = some v → ∃ t,v = Value.int (ns.getD i 0) t := fun i v hv => by
  have hv' : its[i]? = some v := by simpa using hv
  obtain ⟨hi,_⟩ := List.getElem?_eq_some_iff.mp hv'
  have hi' : i < ns.length := by omega
  obtain ⟨u,hu,ru⟩ := rv.get (i := i) (show (ns.map V.int)[i]? = some (V.int (ns[i])) by simp [hi'])
  rw [hv'] at hu;cases hu
  obtain ⟨t,rfl⟩ := ru
  exact ⟨t,by show Value.int ns[i] t = Value.int (ns.getD i 0) t;rw [List.getD_eq_getElem?_getD,List.getElem?_eq_getElem hi'];rfl⟩
 refine call_max_walk (wpAny_pyIter_list pl.isList ⟨s.heap.objs.size,_,_,_,_,_,_,rfl,Walks.list (A := X.A.in1) (show X.A.in1.handled = none from I.ok.hd hc) s.heap.objs.size p (Nat.ne_of_lt hp) its.toArray,⟨⟨_,Heap.get?_push_size _ rfl,rfl,rfl⟩,?_⟩,fun b hb => ?_,by rw [List.size_toArray];omega,CmpOf.ints_gt (fun i => ns.getD i 0) vals,fun v h' tk hP hk => ?_⟩)
 ·obtain ⟨o,n,e,c,_,d⟩ := pl
  exact ⟨o,Heap.get?_push_of_some _ e,c,n,d⟩
 ·have lt1 : ∀ n c : Nat,c < n → c < n + 1 := fun n c h => by omega
  rw [show (({ s with heap := s.heap.push _ } : Shared).heap.objs.size) = s.heap.objs.size + 1 from Heap.size_push ..]
  simp only [List.mem_cons,List.not_mem_nil,or_false] at hb
  rcases hb with rfl | rfl
  ·exact Nat.lt_succ_self _
  ·exact lt1 _ _ hp
 ·obtain ⟨b1,b2⟩ := argBest_gt (fun i => ns.getD i 0) (its.toArray.size - 1)
  obtain ⟨t,rfl⟩ := vals _ _ hP
  rw [List.size_toArray] at b1 b2 ⊢
  have gd : ∀ j,j < ns.length → ns.getD j 0 ∈ ns := fun j hj => by rw [List.getD_eq_getElem?_getD,List.getElem?_eq_getElem hj];exact List.getElem_mem hj
  refine ⟨.int _,H,I.kept (h' := h') (t' := tk) fun b o e => hk b o (by simp;exact Nat.ne_of_lt (Heap.lt_size e)) (Heap.get?_push_of_some _ e),⟨_,rfl⟩,q _ (gd _ (by omega)) fun a ha => ?_⟩
  obtain ⟨j,hj,rfl⟩ := List.mem_iff_getElem.mp ha
  have := b2 j (by omega)
  have e : ns.getD j 0 = ns[j] := by rw [List.getD_eq_getElem?_getD,List.getElem?_eq_getElem hj];rfl
  rw [e] at this
  exact this
def TU : List T → Gp → Q3 → Prop := fun xs G q => match xs with
 | [.ref p] => (match getL G p with | some ys => (match CZ ys with | some ns => ns ≠ []∧∀ m ∈ ns,(∀ a ∈ ns,a ≤ m) → q (.int m) G | none => False) | none => False)
 | _ => False
theorem DA {K : PySem.W.Frag} : M7 K TU (fun xs H Q => ∃ (p : Addr) (ns : List Int),xs = [.ref p]∧SqL K H p (ns.map V.int)∧ns ≠ []∧∀ m ∈ ns,(∀ a ∈ ns,a ≤ m) → Q (.int m) H) := fun xs vs G H q Q hr rs h af => by
 unfold TU at h
 split at h
 ·rename_i p
  obtain ⟨v,rfl,r⟩ := SE rs
  cases r
  split at h
  ·rename_i ys e0
   split at h
   ·rename_i ns e1
    obtain ⟨us,hs,r2⟩ := zA hr e0
    have := DJ e1
    subst this
    have := DG r2
    subst this
    exact ⟨p,ns,rfl,hs,h.1,fun m hm ha => af _ _ (h.2 m hm ha) _ _ (.int _) hr Kp.refl⟩
   ·exact h.elim
  ·exact h.elim
 ·exact h.elim
end
end L3
namespace L3
open PySem PySem.Spec PyProof.Rows L2
inductive Cv : List Str → List V → List (Value × Value) → Prop
 | nil : Cv [] [] []
 | cons {k : Str} {tk : Tok} {v : V} {u : Value} {ks : List Str} {xs : List V} {vs : List (Value × Value)} : js v u → Cv ks xs vs → Cv (k :: ks) (v :: xs) ((.str k tk,u) :: vs)
structure jD3 (X : Cx) (keys : List (Option Expr)) (values : List Expr) (ks : List Str) (t : TA3) : Prop where
 h : ∀ (pos : Pos) (pins : List (Addr × Obj)) (s : Shared) (σ : L2.St) (H : Hp) (Q : List V → Hp → Prop),Inv X pins σ H s → lA X.K t σ H Q →
  wpAny (model X.prog X.w) X.A (evalPairs (pairTrees keys values X.env pos)) (fun vs s' => ∃ xs H',Inv X pins σ H' s'∧Cv ks xs vs∧Q xs H') X.xe s
 len : keys.length = values.length
 all : (keys.all fun x => x.isSome) = true
section
variable {X : Cx}
theorem qli : jD3 X [] [] [] qj :=
 ⟨fun pos pins s σ H Q I ⟨τ,G,q,rl,h,af⟩ => by
  show wpAny _ _ (evalPairs []) _ _ _
  exact wpAny_pure ⟨[],H,I,.nil,af _ _ h _ _ .nil rl.hp Kp.refl⟩,rfl,rfl⟩
theorem DS {k : Str} {j : Nat} {kp : Pos} {v : Expr} {tv : TE3} {keys : List (Option Expr)} {values : List Expr} {ks : List Str} {t : TA3} (hv : jE3 X v tv) (r : jD3 X keys values ks t) :
  jD3 X (some (.Constant (.str k) j kp) :: keys) (v :: values) (k :: ks) (qc tv t) :=
 ⟨fun pos pins s σ H Q I ⟨τ,G,q,rl,h,af⟩ => by
  show wpAny _ _ (evalPairs ((eval (.Constant (.str k) j kp) X.env,do let x ← eval v X.env;standAt pos;pure x) :: pairTrees keys values X.env pos)) _ _ _
  refine evalPairs_cons (thn (qe8 (X := X) (x := k) (j := j) (pos := kp) pins s σ H (fun y H' => y = .str k∧H' = H) I ⟨rfl,rfl⟩) fun kv s1 ⟨y,H1,I1,ry,ey,eH⟩ => ?_)
  subst ey;subst eH
  obtain ⟨tk,rfl⟩ := ry
  refine wpAny_bind (thn (hv.h pins s1 σ H1 (fun x H2 => lA X.K t σ H2 fun xs H3 => Q (x :: xs) H3) I1 (zv rl h fun x G1 h1 v H2 rx hr1 k1 rl1 => ⟨τ,G1,_,rl1,h1,fun xs G2 h2 vs H3 rs hr2 k2 => af _ _ h2 _ _ (.cons (rx.keep hr1 k2) rs) hr2 (k1.trans k2)⟩)) fun u s2 ⟨x,H2,I2,rx,q2⟩ => ?_)
  refine wpAny_bind (wpAny_standAt (wpAny_pure ?_))
  exact thn (r.h pos pins s2 σ H2 _ I2 q2) fun vs s3 ⟨xs,H3,I3,cv,q3⟩ => ⟨x :: xs,H3,I3,.cons rx cv,q3⟩,by simp [r.len],by simpa using r.all⟩
theorem Cv.carries {P : Program} {w : World} : ∀ {ks : List Str} {xs : List V} {vs : List (Value × Value)},Cv ks xs vs → Carries (PySem.strKind P w) vs (ks.zip (vs.map (·.2)))
 | _,_,_,.nil => True.intro
 | _,_,_,.cons (k := k) r t => ⟨by show (k == k) = true;simp,rfl,t.carries⟩
theorem Cv.len : ∀ {ks : List Str} {xs : List V} {vs : List (Value × Value)},Cv ks xs vs → ks.length = vs.length
 | _,_,_,.nil => rfl
 | _,_,_,.cons _ t => by simp [t.len]
def qcX : List Str → List V → Str → Option V
 | k :: ks,v :: vs,x => if k = x then some v else qcX ks vs x
 | _,_,_ => none
theorem Cv.get : ∀ {ks : List Str} {xs : List V} {vs : List (Value × Value)} {x : Str} {v : V},Cv ks xs vs → qcX ks xs x = some v → ∃ u,valueAt (ks.zip (vs.map (·.2))) x = some u∧js v u
 | _,_,_,x,v,.nil,h => by simp [qcX] at h
 | _,_,_,x,v,.cons (k := k) (u := u) r t,h => by
  by_cases e : k = x
  ·simp [qcX,e] at h
   subst h
   exact ⟨u,by simp [valueAt,e],r⟩
  ·simp [qcX,e] at h
   obtain ⟨u',h1,h2⟩ := Cv.get t h
   exact ⟨u',by simpa [valueAt,e] using h1,h2⟩
def qnA (ks : List Str) (tv : TA) (te : TE) : TE := fun σ H Q => tv σ H fun xs H1 => te σ H1 fun y H2 => ∃ k v,y = .str k∧qcX ks xs k = some v∧Q v H2
theorem qgN {keys : List (Option Expr)} {values : List Expr} {ks : List Str} {t : TA3} {e : Expr} {te : TE} {p1 pos : Pos} (hd : jD3 X keys values ks t) (he : PE X e te) (hs : U9 e) (nd : ks.Nodup) (ne : keys ≠ []) (h15 : keys.length ≤ 15) :
  PE X (.Subscript (.Dict keys values p1) e pos) (qnA ks (lA X.K t) te) := by
 intro pins s σ H Q I hl
 refine Subscript_ ?_
 refine wpAny_Dict_walk (knd := PySem.strKind X.prog X.w) hd.all hd.len ne h15 ?_
 have hsz := I.sz
 have hlt := I.lt
 have I0 : Inv X pins σ H { s with heap := s.heap.push { cls := .type "dict",data := .dict #[] } } := I.kept (t' := s.toks) fun b o e => Heap.get?_push_of_some _ e
 have ok0 : H s.heap.objs.size = none∧s.heap.objs.size ≠ X.env.locals∧s.heap.objs.size ∉ X.fs := ⟨I.fresh,fun z => Nat.lt_irrefl _ (z ▸ hlt),I.nofs (Nat.le_refl _)⟩
 have hcell : ∀ x c,X.env.cells.lookup x = some c → c ≠ s.heap.objs.size := fun x c e z => by
  obtain ⟨v,o,ho,_⟩ := I.cell x c e
  have := Heap.lt_size ho
  rw [z] at this
  exact Nat.lt_irrefl _ this
 have hpin : ∀ p ∈ X.pn ++ pins,p.1 ≠ s.heap.objs.size := fun p hp z => by
  have := Heap.lt_size (I.pin p hp).1
  rw [z] at this
  exact Nat.lt_irrefl _ this
 have Ip : Inv X (pins ++ [(s.heap.objs.size,{ cls := .type "dict",data := .dict #[] })]) σ H { s with heap := s.heap.push { cls := .type "dict",data := .dict #[] } } := I0.pins_of fun p hp => by
  rcases List.mem_append.mp hp with z | z
  ·exact I0.pin p (List.mem_append_right _ z)
  ·simp only [List.mem_singleton] at z
   subst z
   exact ⟨Heap.get?_push_size _ rfl,ok0.1,ok0.2.1,ok0.2.2,fun v => by simp⟩
 refine thn (hd.h p1 _ _ σ H _ Ip hl) fun vs s1 ⟨xs,H1,I1,cv,q1⟩ => ?_
 have p1' := I1.pin (s.heap.objs.size,{ cls := .type "dict",data := .dict #[] }) (by simp)
 have hkeys : (List.map (fun x => x.fst) (ks.zip (vs.map (·.2)))) = ks := by
  have := cv.len
  rw [List.map_fst_zip (by simp;omega)]
 refine ⟨ks.zip (vs.map (·.2)),cv.carries,⟨_,#[],0,p1'.1,⟨rfl,rfl,rfl⟩,rfl,fun e he => by simp at he,by first | exact True.intro | constructor,by simp⟩,fun h' hd' hsame => ?_⟩
 rw [merged_nil_of_nodup _ (by rw [hkeys];exact nd)] at hd'
 have I1u : Inv X pins σ H1 s1 := I1.unpinned
 have I2 : Inv X pins σ H1 { heap := h',gens := s1.gens,drawn := s1.drawn,toks := s1.toks + vs.length,os := s1.os } :=
  I1u.turned (it := s.heap.objs.size) (fun b o hb e => by rw [hsame.2 b hb];exact e) p1'.2.1 ok0.2.1 (.inr hsz) hcell hpin
 obtain ⟨o,es,ep,ho,hx,hdata,hk,hp,hn⟩ := hd'
 have I3 : Inv X (pins ++ [(s.heap.objs.size,o)]) σ H1 { heap := h',gens := s1.gens,drawn := s1.drawn,toks := s1.toks + vs.length,os := s1.os } := I2.pins_of fun p hp => by
  rcases List.mem_append.mp hp with z | z
  ·exact I2.pin p (List.mem_append_right _ z)
  ·simp only [List.mem_singleton] at z
   subst z
   exact ⟨ho,p1'.2.1,ok0.2.1,ok0.2.2,fun v => by rw [hdata];simp⟩
 refine thn (he _ _ σ H1 _ I3 q1) fun u s2 ⟨y,H2,I4,ry,k,v,ey,hg,q2⟩ => ?_
 subst ey
 obtain ⟨tk,rfl⟩ := ry
 have po := I4.pin (s.heap.objs.size,o) (by simp)
 have dd : s2.heap.DictOf (PySem.strKind X.prog X.w) s.heap.objs.size (ks.zip (vs.map (·.2))) := ⟨o,es,ep,po.1,hx,hdata,hk,hp,hn⟩
 obtain ⟨u,hu,ru⟩ := cv.get hg
 exact subscriptTail_builtinR (x := u) ⟨_,po.1,hx.1⟩ PySem.F.slot_dict_getitem.lookup (wpAny_getItem_of (knd := PySem.strKind X.prog X.w) (Q := fun r s' => r = u∧EP X pins σ Q r s') (k := k) (by show (k == k) = true;simp) dd.mapOf hu ⟨rfl,v,H2,I4.unpinned.tok _,ru,q2⟩) (hs _ _)
def qg8 (ks : List Str) (t : TA3) (te : TE3) : TE3 := fun τ G q => t τ G fun xs G1 => te τ G1 fun y G2 => match y with | .str k => (match jt (ks.zip xs) k with | some x => q x G2 | none => False) | _ => False
theorem qbn {K : PySem.W.Frag} {H : Hp} : ∀ {ks : List Str} {xs : List T} {vs : List V} {k : Str} {x : T},Rps K H xs vs → jt (ks.zip xs) k = some x → ∃ v,qcX ks vs k = some v∧Rp K H x v
 | [],_,_,k,x,_,h => by simp [jt] at h
 | _ :: _,_,_,k,x,.nil,h => by simp [jt] at h
 | y :: ks,_,_,k,x,.cons (v := v) r t,h => by
  by_cases e : y = k
  ·simp [jt,e] at h
   subst h
   exact ⟨v,by simp [qcX,e],r⟩
  ·simp [jt,e] at h
   obtain ⟨v,h1,h2⟩ := qbn t h
   exact ⟨v,by simpa [qcX,e] using h1,h2⟩
theorem qg6 {keys : List (Option Expr)} {values : List Expr} {ks : List Str} {t : TA3} {e : Expr} {te : TE3} {p1 pos : Pos} (hd : jD3 X keys values ks t) (he : jE3 X e te) (hs : U9 e := by intro _ _;rfl) (nd : ks.Nodup := by decide) (ne : keys ≠ [] := by simp) (h15 : keys.length ≤ 15 := by decide) :
  jE3 X (.Subscript (.Dict keys values p1) e pos) (qg8 ks t te) :=
 ⟨WP (qgN hd he.h hs nd ne h15) fun σ H Q ⟨τ,G,q,rl,h,af⟩ =>
  ⟨τ,G,_,rl,h,fun xs G1 h1 vs H1 rs hr1 k1 => zv (rl.next hr1 k1) h1 fun y G2 h2 v H2 ry hr2 k2 rl2 => by
   cases y <;> try exact h2.elim
   case str k =>
    cases ry
    simp only at h2
    split at h2
    ·rename_i x hx
     obtain ⟨v,hv,rv⟩ := qbn (rs.keep hr1 k2) hx
     exact ⟨k,v,rfl,hv,af _ _ h2 _ _ rv hr2 (k1.trans k2)⟩
    ·exact h2.elim⟩⟩
end
theorem MQ {K : PySem.W.Frag} {p : Addr} {od : Option Addr} {n : Nat} {sl : Array (Option Value)} {i j : Int} {ti tj : Tok} (h : K.lookup p = some ⟨.type "tuple",od,.seq #[.int i ti,.int j tj] n,sl⟩) : ∀ H,Rp K H (.tup [.int i,.int j]) (.ref p) := fun H =>
 .tup (vs := [.int i,.int j]) (.inr ⟨_,_,_,h,rfl,rfl,by show 2 ≤ sizeLine;decide,.cons ⟨_,rfl⟩ (.cons ⟨_,rfl⟩ .nil)⟩) (.cons (.int _) (.cons (.int _) .nil))
def UH : List (Str × T) := [("row",.tup [.int 0,.int 1]),("column",.tup [.int 1,.int 0]),("slant",.tup [.int 1,.int 1]),("back",.tup [.int 1,.int (-1)])]
end L3
namespace L3
open PySem PySem.Spec PyProof.Rows L2
open PySem.SeqAt
def qck (dx : PyData) : List PyData → Option Bool
 | [] => some false
 | d :: ds => (match ZP d dx,qck dx ds with | some b,some c => some (b || c) | _,_ => none)
theorem L8 {dx : PyData} : ∀ {ds : List PyData} {b : Bool},qck dx ds = some b → ∃ bs : List Bool,bs.length = ds.length∧(∀ (j : Nat) d,ds[j]? = some d → ∃ c,bs[j]? = some c∧ZP d dx = some c)∧b = bs.any id
 | [],b,h => by simp [qck] at h;subst h;exact ⟨[],rfl,fun j d hd => by simp at hd,rfl⟩
 | d :: ds,b,h => by
  unfold qck at h
  split at h
  ·rename_i b1 c1 e1 e2
   cases h
   obtain ⟨bs,hl,ha,hb⟩ := L8 e2
   refine ⟨b1 :: bs,by simp [hl],fun j d' hd => ?_,by simp [hb]⟩
   cases j with
   | zero => simp at hd;subst hd;exact ⟨b1,rfl,e1⟩
   | succ j => simpa using ha j d' (by simpa using hd)
  ·cases h
section
variable {X : Cx} {pins : List (Addr × Obj)} {σ : L2.St} {H : Hp} {s : Shared}
theorem qaM (I : Inv X pins σ H s) {x : V} {dx : PyData} {v : Value} {xs : List V} {ds : List PyData} {its : List Value} {b : Bool} (hu : X.A.units + 64 < cLine) (hx : DV X.K H x dx) (rx : js x v) (hs : DVs X.K H xs ds) (rs : zO xs its) (hb : qck dx ds = some b) (hd : ∀ d ∈ ds,dpt d ≤ 40) :
  ∃ e : Value → Bool,(∀ y ∈ its,EqAt X.A.in1 s y v (e y))∧its.any e = b := by
 obtain ⟨bs,hl,ha,rfl⟩ := L8 hb
 have un : X.A.in1.units + 40 < cLine := by
  have : X.A.in1.units ≤ X.A.units + 8 := by first | (show X.A.units + 1 ≤ _;omega) | (show X.A.units ≤ _;omega) | (simp [Around.in1];omega)
  omega
 have at_ : ∀ (j : Nat) y,its[j]? = some y → ∃ c,bs[j]? = some c∧EqAt X.A.in1 s y v c := fun j y hj => by
  obtain ⟨hj1,_⟩ := List.getElem?_eq_some_iff.mp hj
  have hxl : j < xs.length := by rw [rs.length];exact hj1
  obtain ⟨u,hu',ru⟩ := rs.get (List.getElem?_eq_getElem hxl)
  rw [hj] at hu';cases hu'
  obtain ⟨d,hd1,hd2⟩ := hs.get (List.getElem?_eq_getElem hxl)
  obtain ⟨c,hc1,hc2⟩ := ha j d hd1
  exact ⟨c,hc1,(C2 I 40 hd2 hx hc2 (hd d (List.mem_of_getElem? hd1)) un ru rx).2⟩
 classical
 refine ⟨fun y => decide (∃ j : Nat,its[j]? = some y∧bs[j]? = some true),fun y hy => ?_,?_⟩
 ·by_cases he : ∃ j : Nat,its[j]? = some y∧bs[j]? = some true
  ·obtain ⟨j,h1,h2⟩ := id he
   obtain ⟨c,hc,eq⟩ := at_ j y h1
   rw [h2] at hc;cases hc
   simpa [he] using eq
  ·obtain ⟨j,hj,e⟩ := List.mem_iff_getElem.mp hy
   have hj' : its[j]? = some y := by rw [List.getElem?_eq_getElem hj,e]
   obtain ⟨c,hc,eq⟩ := at_ j y hj'
   cases c with
   | true => exact absurd ⟨j,hj',hc⟩ he
   | false => simpa [he] using eq
 ·rw [Bool.eq_iff_iff,List.any_eq_true,List.any_eq_true]
  constructor
  ·rintro ⟨y,_,hy⟩
   obtain ⟨j,_,h2⟩ := of_decide_eq_true hy
   exact ⟨true,List.mem_of_getElem? h2,rfl⟩
  ·rintro ⟨c,hc,e⟩
   have : c = true := e
   subst this
   obtain ⟨j,hj,ej⟩ := List.mem_iff_getElem.mp hc
   have hl2 : its.length = bs.length := by rw [← rs.length,hs.length,hl]
   have hj2 : j < its.length := by omega
   exact ⟨its[j],List.getElem_mem hj2,decide_eq_true ⟨j,List.getElem?_eq_getElem hj2,by rw [List.getElem?_eq_getElem hj,ej]⟩⟩
def qo3 (K : PySem.W.Frag) (neg : Bool) : R2 := fun x y H Q => ∃ p xs dx ds b,y = .ref p∧(SqL K H p xs ∨ SqT K H p xs)∧DV K H x dx∧DVs K H xs ds∧qck dx ds = some b∧(∀ d ∈ ds,dpt d ≤ 40)∧Q (.bl (if neg then !b else b)) H
theorem qbg (hu : X.A.units + 64 < cLine) : OpR X (compareOp .NotIn) (qo3 X.K true) := by
 intro pins s σ H x y v u Q I rx ry h
 obtain ⟨p,xs,dx,ds,b,rfl,hq,hx,hs,hb,hd,q⟩ := h
 cases ry
 rcases hq with hq | hq
 ·obtain ⟨its,r,pl,hz⟩ := I.list hq
  obtain ⟨e,he,ha⟩ := qaM I hu hx rx hs r hb hd
  refine SeqAt.notIn_listAt e pl.isList (fun w hw => he w (by simpa using hw)) ⟨.bl _,H,I,rfl,?_⟩
  rw [show its.toArray.any e = its.any e by simp,ha]
  exact q
 ·obtain ⟨its,r,pl,hz⟩ := I.tuple hq
  obtain ⟨e,he,ha⟩ := qaM I hu hx rx hs r hb hd
  refine SeqAt.notIn_tupleAt e pl (fun w hw => he w (by simpa using hw)) ⟨.bl _,H,I,rfl,?_⟩
  rw [show its.toArray.any e = its.any e by simp,ha]
  exact q
end
def qo4 (neg : Bool) : R3 := fun x y G q => ∃ ys dx ds b,jc G y = some ys∧Dp G x dx∧Dps G ys ds∧qck dx ds = some b∧(∀ d ∈ ds,dpt d ≤ 40)∧q (.bl (if neg then !b else b)) G
theorem qgJ {K : PySem.W.Frag} {neg : Bool} : WA K (qo4 neg) (qo3 K neg) := fun x y v u G H q Q hr rx ry h af => by
 obtain ⟨ys,dx,ds,b,h1,h2,h3,h4,h5,h6⟩ := h
 cases y with
 | tup zs =>
  simp [jc] at h1
  subst h1
  cases ry with
  | tup hs rs => exact ⟨_,_,dx,ds,b,rfl,.inr hs,h2.dv hr rx,h3.dv hr rs,h4,h5,af _ G h6 _ H (.bl _) hr Kp.refl⟩
 | ref p =>
  simp [jc] at h1
  cases ry
  obtain ⟨us,hs,rs⟩ := zA hr h1
  exact ⟨_,_,dx,ds,b,rfl,.inl hs,h2.dv hr rx,h3.dv hr rs,h4,h5,af _ G h6 _ H (.bl _) hr Kp.refl⟩
 | _ => simp [jc] at h1
end L3
namespace HT
open PySem PySem.Spec PyProof.Rows L2
section
open PySem.SeqAt
open PySem.MeetsSeq PySem.MeetsSeq2 PySem.MeetsSeq3
end
section
variable {prog : Program} {w : World} {A : Around} {E : Value → Shared → Prop} {s : Shared}
end
end HT
namespace L3
open PySem PySem.Spec PyProof.Rows L2
end L3
namespace L3
open PySem PySem.Spec PyProof.Rows L2
section
variable {X : Cx}
def qej (K : PySem.W.Frag) : V → List V → Hp → VK → Prop := fun x vs H Q => ∃ l ns k,x = .ref l∧vs = [.int k]∧SqL K H l (ns.map V.int)∧(PyData.list (List.map PyData.int ns)).layable0 = true∧k ∈ ns∧Q (.int (List.idxOf k ns : Nat)) H
theorem qcO : MtR X "list.index" (qej X.K) := by
 intro pins s σ H x vs v us Q I rx rv h
 obtain ⟨l,ns,k,rfl,rfl,hq,hl,hk,q⟩ := h
 cases rx
 obtain ⟨u,rfl,ru⟩ := rv.one
 obtain ⟨t,rfl⟩ := ru
 obtain ⟨its,rv',pl,hz⟩ := I.list hq
 exact index_list_ints pl.isList (XU rv') hl hk ⟨.int _,H,I.tok _,⟨_,rfl⟩,q⟩
def qfF : T → List T → Gp → Q3 → Prop := fun x xs G q => match x,xs with
 | .ref l,[.int k] => (match getL G l with | some ys => (match CZ ys with | some ns => (PyData.list (List.map PyData.int ns)).layable0 = true∧k ∈ ns∧q (.int (List.idxOf k ns : Nat)) G | none => False) | none => False)
 | _,_ => False
theorem qg2 {K : PySem.W.Frag} : qmQ K qfF (qej K) := fun x xs v vs G H q Q hr rx rs h af => by
 unfold qfF at h
 split at h
 ·rename_i l k
  split at h
  ·rename_i ys e0
   split at h
   ·rename_i ns e1
    cases rx
    obtain ⟨u,rfl,r⟩ := SE rs
    cases r
    obtain ⟨us,hs,r2⟩ := zA hr e0
    have := DJ e1
    subst this
    have := DG r2
    subst this
    exact ⟨l,ns,k,rfl,rfl,hs,h.1,h.2.1,af _ _ h.2.2 _ _ (.int _) hr Kp.refl⟩
   ·exact h.elim
  ·exact h.elim
 ·exact h.elim
theorem qdn {t : TA3} {e : Expr} {o : Expr} {to : TE3} {apos cpos : Pos} (ho : jE3 X o to) (ha : jA3 X [e] t)
  (hbase : attributeBase o "index" X.env (eval o X.env) = eval o X.env := by rfl)
  (hfew : ((backTo cpos (starEach [e] X.env)).all (fun x => !x.1) && (backToKw cpos (keywordEach [] X.env)).all (fun x => x.1.isSome)
   && decide (([e] : List Expr).length + ([] : List Keyword).length + (if ([] : List Keyword).isEmpty then 0 else 1) < 30)) = true := by rfl)
  (hline : (apos.endLine == cpos.line) = true := by rfl) (hs : starEach [e] X.env = (false,eval e X.env) :: starEach [] X.env := by rfl) (hplain : (backTo cpos (starEach [] X.env)).any (·.1) = false := by rfl) :
  jE3 X (.Call (.Attribute o "index" apos) [e] [] cpos) (bm3 qfF to t) := ⟨qol PySem.F.slot_list_index PySem.F.type_list_index qcO qg2 ho.h ha.h hbase hfew hline hs hplain⟩
end
end L3
namespace L3
open PySem PySem.Spec PyProof.Rows L2
def qbU : Sp3 := fun _ _ _ => False
theorem JI {P : Program} {w : World} {K : PySem.W.Frag} {mg : Str → Option Value} {base : Heap} {x qual : Str} {st : Stmt} {f : Addr} {fd : FuncData} {ps : List Str} (F : Fun K x qual st f fd) (bd : zb K fd ps []) (hm : mg x = some (.ref f)) : Fn3 P w K mg base 0 x qbU :=
 ⟨f,fd,ps,⟨fun vs H Q E ⟨_,_,_,_,_,h,_⟩ => h.elim,fun A outer s H args us vs Q E _ _ _ _ ⟨_,_,_,_,_,h,_⟩ => h.elim⟩,bd,F.kp,hm⟩
theorem ixT (xs : List T) (i : Int) (G : Gp) (q : Q3) : ix3 (.tup xs) (.int i) G q = (match L2.atI xs i with | some z => q z G | none => False) := rfl
theorem ixR (p : Addr) (i : Int) (G : Gp) (q : Q3) : ix3 (.ref p) (.int i) G q = (match getL G p with | some xs => (match L2.atI xs i with | some z => q z G | none => False) | none => False) := rfl
theorem ML {α : Type} {xs : List α} {i : Int} (h0 : 0 ≤ i) (h1 : i < (xs.length : Int)) : L2.atI xs i = xs[i.toNat]? := by
 unfold L2.atI ixN
 have e1 : i.toNat < xs.length := by omega
 simp [h0,e1,h1]
theorem CV : ¬ Str.ofString "skew" = Str.ofString "rests" := by decide
theorem T2 : ¬ Str.ofString "skew" = Str.ofString "bits" := by decide
theorem RY : ¬ Str.ofString "skew" = Str.ofString "table" := by decide
theorem XD : ¬ Str.ofString "skew" = Str.ofString "joined" := by decide
theorem R7 : ¬ Str.ofString "rests" = Str.ofString "skew" := by decide
theorem RQ : ¬ Str.ofString "rests" = Str.ofString "bits" := by decide
theorem XM : ¬ Str.ofString "rests" = Str.ofString "table" := by decide
theorem WC : ¬ Str.ofString "rests" = Str.ofString "joined" := by decide
theorem RT : ¬ Str.ofString "table" = Str.ofString "bits" := by decide
theorem XF : ¬ Str.ofString "joined" = Str.ofString "bits" := by decide
theorem WR : ¬ Str.ofString "joined" = Str.ofString "table" := by decide
theorem TN : ¬ Str.ofString "row" = Str.ofString "block" := by decide
theorem L6 : ¬ Str.ofString "row" = Str.ofString "step" := by decide
theorem S6 : ¬ Str.ofString "row" = Str.ofString "cells" := by decide
theorem WI : ¬ Str.ofString "column" = Str.ofString "block" := by decide
theorem XG : ¬ Str.ofString "column" = Str.ofString "step" := by decide
theorem DT : ¬ Str.ofString "column" = Str.ofString "cells" := by decide
theorem XE : ¬ Str.ofString "slant" = Str.ofString "block" := by decide
theorem RM : ¬ Str.ofString "slant" = Str.ofString "step" := by decide
theorem XQ : ¬ Str.ofString "slant" = Str.ofString "cells" := by decide
theorem SA : ¬ Str.ofString "back" = Str.ofString "block" := by decide
theorem SQ : ¬ Str.ofString "back" = Str.ofString "step" := by decide
theorem CU : ¬ Str.ofString "back" = Str.ofString "cells" := by decide
theorem VI : ¬ Str.ofString "block" = Str.ofString "cells" := by decide
theorem UE : ¬ Str.ofString "step" = Str.ofString "block" := by decide
theorem V6 : ¬ Str.ofString "step" = Str.ofString "cells" := by decide
theorem cm {i j : Int} (h1 : -1000000 < j) (h2 : j < 1000000) : QP i j := .inr ⟨by omega,by omega⟩
theorem qcq {stay : Gp → Prop} {g : TG3} {tif : TT3} {te : TE3} {q : Q3} (items : List T) (Pv : Nat → List T → St3 → Gp → Prop) {τ : St3} {G : Gp} (h0 : Pv 0 [] τ G) (hst : ∀ i ys τ G,i ≤ items.length → Pv i ys τ G → stay G)
  (hs : ∀ i x ys τ G (R : List T → St3 → Gp → Prop),items[i]? = some x → Pv i ys τ G → (∀ ys' τ' G',Pv (i + 1) ys' τ' G' → R ys' τ' G') →
   g x τ G fun τ2 G2 => tif τ2 G2 fun k G3 => if k = true then te τ2 G3 fun y G4 => ys.length < sizeLine∧R (ys ++ [y]) τ2 G4 else R ys τ2 G3)
  (hd : ∀ ys τ G,Pv items.length ys τ G → ∀ p,G p = none → q (.ref p) (gu G p (.lst ys))) : ND stay g tif te q items [] τ G := by
 have key : ∀ (r : List T) (i : Nat) ys τ G,items.drop i = r → i ≤ items.length → Pv i ys τ G → ND stay g tif te q r ys τ G := by
  intro r
  induction r with
  | nil =>
   intro i ys τ G e hi p
   have : i = items.length := by have := congrArg List.length e;simp at this;omega
   subst this
   exact ⟨hst _ ys τ G hi p,hd ys τ G p⟩
  | cons x r ih =>
   intro i ys τ G e hi p
   have hl : i < items.length := by
    apply Classical.byContradiction
    intro z
    rw [List.drop_eq_nil_of_le (by omega)] at e
    cases e
   have e' := List.drop_eq_getElem_cons hl
   rw [e] at e'
   injection e' with e1 e2
   exact ⟨hst i ys τ G hi p,hs i x ys τ G _ (by rw [List.getElem?_eq_getElem hl,e1]) p fun ys2 τ2 G2 p2 => ih (i + 1) ys2 τ2 G2 e2.symm hl p2⟩
 exact key items 0 [] τ G (by simp) (Nat.zero_le _) h0
theorem qbr {lo : Int} {n i : Nat} {x : T} (h : (NW lo n)[i]? = some x) : i < n∧x = T.int (lo + (i : Int)) := by
 unfold NW at h
 rw [List.getElem?_map] at h
 cases e : (List.range n)[i]? with
 | none => rw [e] at h;cases h
 | some k =>
  rw [e] at h
  obtain ⟨hi,hk⟩ := List.getElem?_eq_some_iff.mp e
  simp at hi hk
  subst hk
  exact ⟨hi,by simpa using h.symm⟩
theorem qbC (lo : Int) (n : Nat) : (NW lo n).length = n := by simp [NW]
end L3
namespace Bk
open PySem L2 L3
def JJ : TS3 := (qR (jY (W8 (fun t => ZU t "int") (v3 0)) (K8 (W8 (fun t => ZU t "bool") (v3 0)))))
def UA (S_is_number : Sp3) : TS3 := (qR (jY (W8 (fun t => ZU t "tuple") (v3 0)) (jY (o3 (jQ false) (cb3 DC (qc (v3 0) qj)) (c3 (.int 2))) (jY (cb3 S_is_number (qc (o3 ix3 (v3 0) (c3 (.int 0))) qj)) (cb3 S_is_number (qc (o3 ix3 (v3 0) (c3 (.int 1))) qj))))))
def UD (S_size_of : Sp3) : TS3 := (qM (zm (o3 ix3 (v3 0) (c3 (.int 0))) (gn3 1)) (qM (jq (tb3 (o3 (jQ false) (v3 1) (c3 (.str "bits")))) (qR (jr (qc (o3 (iC KF (fun i j => i * 2 ^ j.toNat)) (c3 (.int 1)) (o3 ix3 (v3 0) (c3 (.int 1)))) (qc (o3 (iC KF (fun i j => i * 2 ^ j.toNat)) (c3 (.int 1)) (o3 ix3 (v3 0) (c3 (.int 2)))) (qc (o3 (iC KF (fun i j => i * 2 ^ j.toNat)) (c3 (.int 1)) (cb3 DC (qc (o3 ix3 (v3 0) (c3 (.int 3))) qj))) qj))))) qL) (qM (jq (tb3 (o3 (jQ false) (v3 1) (c3 (.str "table")))) (qR (jr (qc (cb3 DC (qc (o3 ix3 (v3 0) (c3 (.int 2))) qj)) (qc (cb3 DC (qc (o3 ix3 (o3 ix3 (v3 0) (c3 (.int 2))) (c3 (.int 0))) qj)) (qc (o3 ix3 (v3 0) (c3 (.int 1))) qj))))) qL) (qM (jq (tb3 (o3 (jQ false) (v3 1) (c3 (.str "joined")))) (qM (zm (cb3 S_size_of (qc (o3 ix3 (v3 0) (c3 (.int 1))) qj)) (jm 3 (qu (gn3 2) (qu (gn3 3) (qu (gn3 4) je))))) (qM (zm (cb3 S_size_of (qc (o3 ix3 (v3 0) (c3 (.int 2))) qj)) (jm 3 (qu (gn3 5) (qu (gn3 6) (qu (gn3 7) je))))) (qR (jr (qc (o3 (iC QP (· * ·)) (v3 2) (v3 5)) (qc (o3 (iC QP (· * ·)) (v3 3) (v3 6)) (qc (o3 (iC QP (· * ·)) (v3 4) (v3 7)) qj))))))) qL) (qR (jr (qc (o3 ix3 (v3 0) (c3 (.int 1))) (qc (o3 ix3 (v3 0) (c3 (.int 2))) (qc (o3 ix3 (v3 0) (c3 (.int 3))) qj)))))))))
def JF (S_size_of : Sp3) : TS3 := (qM (zm (cb3 S_size_of (qc (v3 0) qj)) (jm 3 (qu (gn3 2) (qu (gn3 3) (qu (gn3 4) je))))) (qR (o3 z9 (o3 (iC QP (· * ·)) (o3 ix3 (v3 1) (c3 (.int 0))) (v3 3)) (o3 ix3 (v3 1) (c3 (.int 1))))))
def UQ (S_is_pair : Sp3) (S_size_of : Sp3) : TS3 := (qM (jq (N8 (tb3 (cb3 S_is_pair (qc (v3 1) qj)))) (qR (c3 (.bl false))) qL) (qM (zm (cb3 S_size_of (qc (v3 0) qj)) (jm 3 (qu (gn3 2) (qu (gn3 3) (qu (gn3 4) je))))) (qR (jY (ch3 (iB fun i j => decide (i ≤ j)) (iB fun i j => decide (i < j)) (c3 (.int 0)) (o3 ix3 (v3 1) (c3 (.int 0))) (v3 2)) (ch3 (iB fun i j => decide (i ≤ j)) (iB fun i j => decide (i < j)) (c3 (.int 0)) (o3 ix3 (v3 1) (c3 (.int 1))) (v3 3))))))
def UJ (S_number_of : Sp3) (S_bits_bank : Sp3) (S_joined_bank : Sp3) : TS3 := (qM (zm (o3 ix3 (v3 0) (c3 (.int 0))) (gn3 2)) (qM (jq (tb3 (o3 (jQ false) (v3 2) (c3 (.str "skew")))) (qR (o3 (iC (fun _ j => 0 < j) (· % ·)) (o3 z9 (o3 (iC QP (· * ·)) (o3 ix3 (v3 0) (c3 (.int 4))) (o3 ix3 (v3 1) (c3 (.int 0)))) (o3 (iC QP (· * ·)) (o3 ix3 (v3 0) (c3 (.int 5))) (o3 ix3 (v3 1) (c3 (.int 1))))) (o3 ix3 (v3 0) (c3 (.int 3))))) qL) (qM (jq (tb3 (o3 (jQ false) (v3 2) (c3 (.str "rests")))) (qR (o3 (iC (fun _ j => 0 < j) (· % ·)) (cb3 S_number_of (qc (v3 0) (qc (v3 1) qj))) (o3 ix3 (v3 0) (c3 (.int 3))))) qL) (qM (jq (tb3 (o3 (jQ false) (v3 2) (c3 (.str "bits")))) (qR (cb3 S_bits_bank (qc (o3 ix3 (v3 0) (c3 (.int 3))) (qc (cb3 S_number_of (qc (v3 0) (qc (v3 1) qj))) qj)))) qL) (qM (jq (tb3 (o3 (jQ false) (v3 2) (c3 (.str "table")))) (qR (o3 ix3 (o3 ix3 (o3 ix3 (v3 0) (c3 (.int 2))) (o3 ix3 (v3 1) (c3 (.int 0)))) (o3 ix3 (v3 1) (c3 (.int 1))))) qL) (qR (cb3 S_joined_bank (qc (o3 ix3 (v3 0) (c3 (.int 1))) (qc (o3 ix3 (v3 0) (c3 (.int 2))) (qc (v3 1) qj))))))))))
def V7 : TS3 := (qM (zm (o3 (iC (fun _ j => 0 < j) (· % ·)) (o3 (iC QP (· * ·)) (o3 z9 (o3 z9 (o3 (iC (fun _ j => 0 < j) (· % ·)) (v3 0) (c3 (.int 2147483629))) (o3 (iC QP (· * ·)) (o3 (iC QP (· * ·)) (v3 1) (v3 1)) (c3 (.int 7919)))) (c3 (.int 11))) (c3 (.int 48271))) (c3 (.int 2147483647))) (gn3 2)) (qR (o3 (iC (fun _ j => 0 < j) (· % ·)) (o3 (iC QP (· * ·)) (v3 2) (v3 2)) (c3 (.int 1999999973)))))
def YU : TS3 := (qM (zm (if3 (tb3 (o3 (iB fun i j => decide (i < j)) (v3 1) (cb3 DC (qc (v3 0) qj)))) (o3 ix3 (v3 0) (v3 1)) (c3 (.int 0))) (gn3 2)) (qM (zm (if3 (tb3 (o3 (iB fun i j => decide (j ≤ i)) (cb3 qhN (qc (v3 2) qj)) (o3 (iC KF (fun i j => i ^ j.toNat)) (c3 (.int 10)) (c3 (.int 18))))) (cb3 qhN (qc (v3 2) qj)) (c3 (.int 0))) (gn3 3)) (qR (VF (qc (v3 3) (qc (o3 z9 (v3 2) (o3 (iC QP (· * ·)) (c3 (.int 1000003)) (v3 1))) (qc (c3 (.int 0)) qj)))))))
def YM (S_law_mix : Sp3) : TS3 := (qM (zm (o3 z9 (o3 ix3 (v3 0) (c3 (.int 2))) (c3 (.int 1))) (D9 (v3 0) (c3 (.int 2)))) (qM (jq (tb3 (o3 (iB fun i j => decide (j < i)) (o3 ix3 (v3 0) (c3 (.int 0))) (c3 (.int 0)))) (qM (zm (o3 (iC (fun _ j => 0 < j) (· % ·)) (o3 ix3 (v3 0) (c3 (.int 0))) (v3 1)) (gn3 2)) (qM (zm (o3 (iC qht (· / ·)) (o3 ix3 (v3 0) (c3 (.int 0))) (v3 1)) (D9 (v3 0) (c3 (.int 0)))) (qR (v3 2)))) qL) (qR (o3 (iC (fun _ j => 0 < j) (· % ·)) (o3 (iC qht (· / ·)) (cb3 S_law_mix (qc (cb3 S_law_mix (qc (o3 ix3 (v3 0) (c3 (.int 1))) (qc (o3 ix3 (v3 0) (c3 (.int 2))) qj))) (qc (o3 z9 (o3 ix3 (v3 0) (c3 (.int 2))) (c3 (.int 64))) qj))) (c3 (.int 64))) (v3 1)))))
def JO (S_law_pick : Sp3) : TS3 := (qM (zm (o3 ix3 (VF (qc (c3 (.int 6)) (qc (c3 (.int 6)) (qc (c3 (.int 6)) (qc (c3 (.int 16)) qj))))) (cb3 S_law_pick (qc (v3 0) (qc (c3 (.int 4)) qj)))) (gn3 1)) (qM (CY 2 3 (qc (o3 z9 (c3 (.int 1)) (cb3 S_law_pick (qc (v3 0) (qc (v3 1) qj)))) (qc (o3 z9 (c3 (.int 1)) (cb3 S_law_pick (qc (v3 0) (qc (v3 1) qj)))) qj))) (qR (o3 ix3 (VF (qc (jr (qc (v3 2) (qc (v3 3) qj))) (qc (jr (qc (v3 2) (qc (v3 3) qj))) (qc (jr (qc (v3 2) (qc (v3 3) qj))) (qc (jr (qc (v3 2) (qc (v3 2) qj))) qj))))) (cb3 S_law_pick (qc (v3 0) (qc (c3 (.int 4)) qj)))))))
def UN : TS3 := (qM (M1 (tb3 (o3 (iB fun i j => decide (j < i)) (v3 1) (c3 (.int 0)))) (CY 0 1 (qc (v3 1) (qc (o3 (iC (fun _ j => 0 < j) (· % ·)) (v3 0) (v3 1)) qj)))) (qR (v3 0)))
def Y9 (S_law_sides : Sp3) (S_law_pick : Sp3) : TS3 := (qM (zm (cb3 S_law_sides (qc (v3 0) qj)) (jm 2 (qu (gn3 1) (qu (gn3 2) je)))) (qM (zm (o3 z9 (c3 (.int 1)) (cb3 S_law_pick (qc (v3 0) (qc (o3 ix3 (VF (qc (c3 (.int 8)) (qc (c3 (.int 8)) (qc (c3 (.int 17)) (qc (c3 (.int 32)) qj))))) (cb3 S_law_pick (qc (v3 0) (qc (c3 (.int 4)) qj)))) qj)))) (gn3 3)) (qM (zm (o3 ix3 (VF (qc (v3 3) (qc (c3 (.int 10)) (qc (c3 (.int 100)) qj)))) (cb3 S_law_pick (qc (v3 0) (qc (c3 (.int 3)) qj)))) (gn3 4)) (qR (jr (qc (c3 (.str "skew")) (qc (v3 1) (qc (v3 2) (qc (v3 3) (qc (cb3 S_law_pick (qc (v3 0) (qc (v3 4) qj))) (qc (cb3 S_law_pick (qc (v3 0) (qc (v3 4) qj))) qj)))))))))))
def Z0 (S_law_sides : Sp3) (S_law_pick : Sp3) (S_law_gcd : Sp3) : TS3 := (qM (zm (cb3 S_law_sides (qc (v3 0) qj)) (jm 2 (qu (gn3 1) (qu (gn3 2) je)))) (qM (zm (o3 z9 (c3 (.int 1)) (cb3 S_law_pick (qc (v3 0) (qc (o3 ix3 (VF (qc (c3 (.int 8)) (qc (c3 (.int 17)) (qc (c3 (.int 32)) qj)))) (cb3 S_law_pick (qc (v3 0) (qc (c3 (.int 3)) qj)))) qj)))) (gn3 3)) (qM (zm (o3 z9 (u3 KY (o3 (iC qht (· / ·)) (o3 (iC QP (· * ·)) (u3 KY (v3 1)) (v3 2)) (v3 3))) (cb3 S_law_pick (qc (v3 0) (qc (c3 (.int 4)) qj)))) (gn3 4)) (qM (RK (jO (qc (c3 (.int 32)) qj)) (gn3 5) (jq (tb3 (o3 (iB fun i j => decide (j < i)) (cb3 S_law_gcd (qc (v3 3) (qc (v3 4) qj))) (c3 (.int 1)))) (zm (o3 z9 (v3 4) (c3 (.int 1))) (gn3 4)) qL)) (qR (jr (qc (c3 (.str "rests")) (qc (v3 1) (qc (v3 2) (qc (v3 3) (qc (v3 4) qj)))))))))))
def ET (S_law_same : Sp3) : TS3 := (qM (jq (tb3 (W8 (fun t => ZU t "list" || ZU t "tuple") (v3 1))) (qM (jq (or3 (tb3 (o3 (jQ true) (W8 (fun t => ZU t "list") (v3 0)) (W8 (fun t => ZU t "list") (v3 1)))) (tb3 (o3 (jQ true) (W8 (fun t => ZU t "tuple") (v3 0)) (W8 (fun t => ZU t "tuple") (v3 1))))) (qR (c3 (.bl false))) qL) (qR (jY (o3 (jQ false) (cb3 DC (qc (v3 0) qj)) (cb3 DC (qc (v3 1) qj))) (cb3 qaj (qc (lc3 (N2 (qc (v3 0) (qc (v3 1) qj))) (jm 2 (qu (gn3 0) (qu (gn3 1) je))) tt3 (cb3 S_law_same (qc (v3 0) (qc (v3 1) qj))) [none,none]) qj))))) qL) (qM (jq (or3 (tb3 (o3 (qbd false) (v3 1) (c3 .non))) (tb3 (W8 (fun t => ZU t "str" || ZU t "bool") (v3 1)))) (qR (jY (o3 (jQ false) (v3 0) (v3 1)) (jY (o3 (jQ false) (W8 (fun t => ZU t "bool") (v3 0)) (W8 (fun t => ZU t "bool") (v3 1))) (o3 (jQ false) (o3 (qbd false) (v3 0) (c3 .non)) (o3 (qbd false) (v3 1) (c3 .non)))))) qL) (qR (jY (W8 (fun t => ZU t "int") (v3 0)) (jY (K8 (W8 (fun t => ZU t "bool") (v3 0))) (o3 (jQ false) (v3 0) (v3 1)))))))
end Bk
namespace Bk
open PySem L2 L3
inductive Dl where
 | skew (r c b x y : Int)
 | rests (r c b p : Int)
 | bits (h l : Nat) (ms : List Int)
 | table (b : Int) (cells : List (List Int))
 | joined (d e : Dl)
def qpl (r : List Int) : T := .tup (r.map T.int)
def Dl.t : Dl → T
 | .skew r c b x y => .tup [.str "skew",.int r,.int c,.int b,.int x,.int y]
 | .rests r c b p => .tup [.str "rests",.int r,.int c,.int b,.int p]
 | .bits h l ms => .tup [.str "bits",.int h,.int l,.tup (ms.map T.int)]
 | .table b cells => .tup [.str "table",.int b,.tup (cells.map qpl)]
 | .joined d e => .tup [.str "joined",d.t,e.t]
def Dl.R : Dl → Int
 | .skew r _ _ _ _ => r
 | .rests r _ _ _ => r
 | .bits h _ _ => 2 ^ h
 | .table _ cells => cells.length
 | .joined d e => d.R * e.R
def Dl.C : Dl → Int
 | .skew _ c _ _ _ => c
 | .rests _ c _ _ => c
 | .bits _ l _ => 2 ^ l
 | .table _ cells => ((cells[0]?).getD []).length
 | .joined d e => d.C * e.C
def Dl.B : Dl → Int
 | .skew _ _ b _ _ => b
 | .rests _ _ b _ => b
 | .bits _ _ ms => 2 ^ ms.length
 | .table b _ => b
 | .joined d e => d.B * e.B
def Dl.Ok : Dl → Prop
 | .skew r c b x y => 1 ≤ r∧r ≤ 60∧1 ≤ c∧c ≤ 60∧1 ≤ b∧b ≤ 1000∧0 ≤ x∧x ≤ 1000∧0 ≤ y∧y ≤ 1000
 | .rests r c b p => 1 ≤ r∧r ≤ 60∧1 ≤ c∧c ≤ 60∧1 ≤ b∧b ≤ 1000∧1 ≤ p∧p ≤ 100000∧Int.gcd b p = 1∧r * c ≤ b * p
 | .bits h l ms => h ≤ 4∧l ≤ 4∧ms.length ≤ 5∧∀ m ∈ ms,0 ≤ m∧m < 2 ^ (h + l)
 | .table b cells => 1 ≤ b∧b ≤ 1000∧1 ≤ cells.length∧cells.length ≤ 60∧∃ c,1 ≤ c∧c ≤ 60∧∀ row ∈ cells,row.length = c∧∀ x ∈ row,0 ≤ x∧x < b
 | .joined d e => d.Ok∧e.Ok∧d.R * e.R ≤ 4096∧d.C * e.C ≤ 4096∧d.B * e.B ≤ 4096
def Dl.dep : Dl → Nat
 | .joined d e => max d.dep e.dep + 1
 | _ => 0
theorem p2 (n : Nat) : ((2 : Int) ^ n) = ((2 ^ n : Nat) : Int) := by simp
theorem qa7 (n : Nat) : (1 : Int) ≤ 2 ^ n := by
 rw [p2];have := Nat.one_le_two_pow (n := n);omega
theorem qgC {n k : Nat} (h : n ≤ k) : (2 : Int) ^ n ≤ 2 ^ k := by
 rw [p2,p2];have := Nat.pow_le_pow_right (n := 2) (by omega) h;omega
structure Lims (d : Dl) : Prop where
 r1 : 1 ≤ d.R
 r2 : d.R ≤ 4096
 c1 : 1 ≤ d.C
 c2 : d.C ≤ 4096
 b1 : 1 ≤ d.B
 b2 : d.B ≤ 4096
theorem YW {a b : Int} (h1 : 1 ≤ a) (h2 : 1 ≤ b) : 1 ≤ a * b := by
 have := Int.mul_le_mul (a := 1) (b := 1) (c := a) (d := b) h1 h2 (by omega) (by omega)
 omega
theorem Dl.lims : ∀ {d : Dl},d.Ok → Lims d
 | .skew r c b x y,⟨h1,h2,h3,h4,h5,h6,_⟩ => ⟨h1,by simp [Dl.R];omega,h3,by simp [Dl.C];omega,h5,by simp [Dl.B];omega⟩
 | .rests r c b x,⟨h1,h2,h3,h4,h5,h6,_⟩ => ⟨h1,by simp [Dl.R];omega,h3,by simp [Dl.C];omega,h5,by simp [Dl.B];omega⟩
 | .bits h l ms,⟨h1,h2,h3,_⟩ => by
  have e1 := qgC h1;have e2 := qgC h2;have e3 := qgC h3
  refine ⟨qa7 _,?_,qa7 _,?_,qa7 _,?_⟩ <;> simp [Dl.R,Dl.C,Dl.B] <;> omega
 | .table b cells,⟨h1,h2,h3,h4,c,h5,h6,h7⟩ => by
  have e0 : cells[0]? = some cells[0] := List.getElem?_eq_getElem (by omega)
  have e1 := (h7 cells[0] (List.getElem_mem _)).1
  have e2 : (Dl.table b cells).C = c := by simp [Dl.C,e0,e1]
  exact ⟨by simp [Dl.R];omega,by simp [Dl.R];omega,by rw [e2];omega,by rw [e2];omega,h1,by simp [Dl.B];omega⟩
 | .joined d e,⟨h1,h2,h3,h4,h5⟩ => by
  have a := Dl.lims h1;have b := Dl.lims h2
  exact ⟨YW a.r1 b.r1,h3,YW a.c1 b.c1,h4,YW a.b1 b.b1,h5⟩
abbrev qdv (q : Q3) : Ends3 := { nx := fun _ G' => q .non G',rt := q }
theorem jU {A B : TS3} {d : Ends3} {τ : St3} {G : Gp} (h : ∀ nx,nx = B d → A { d with nx := nx } τ G) : qM A B d τ G := h _ rfl
end Bk
namespace Bk
open PySem L2 L3
end Bk
namespace Bk
open PySem L2 L3
def Lf (G : Gp) (a : Addr) (n : Int) : Prop := ∃ o c m,G a = some (.lst [.int o,.int c,.int m])∧0 ≤ o∧0 ≤ m∧m ≤ n
def Ext (a : Addr) (G G' : Gp) : Prop := ∀ b o,b ≠ a → G b = some o → G' b = some o
theorem Lf.ne {G : Gp} {a p : Addr} {n : Int} (h : Lf G a n) (hp : G p = none) : p ≠ a := by
 rintro rfl
 obtain ⟨o,c,m,e,_⟩ := h
 rw [hp] at e;cases e
theorem Lf.new {G : Gp} {a p : Addr} {n : Int} {ob : O} (h : Lf G a n) (hp : p ≠ a) : Lf (gu G p ob) a n := by
 obtain ⟨o,c,m,e,r⟩ := h
 exact ⟨o,c,m,by rw [jR (Ne.symm hp)];exact e,r⟩
theorem Lf.mono {G : Gp} {a : Addr} {n k : Int} (h : Lf G a n) (hk : n ≤ k) : Lf G a k := by
 obtain ⟨o,c,m,e,h1,h2,h3⟩ := h
 exact ⟨o,c,m,e,h1,h2,by omega⟩
theorem Lf.ex {G G' : Gp} {a : Addr} {n : Int} (h : Lf G a n) (e : Ex G G') : Lf G' a n := by
 obtain ⟨o,c,m,e1,h1⟩ := h
 exact ⟨o,c,m,e _ _ e1,h1⟩
theorem Ext.trans {a : Addr} {G G1 G2 : Gp} (x : Ext a G G1) (y : Ext a G1 G2) : Ext a G G2 := fun b o hb e => y b o hb (x b o hb e)
theorem YA {a p : Addr} {G : Gp} {ob : O} (hp : G p = none) : Ext a G (gu G p ob) := fun b o _ e => by
 rw [jR (by rintro rfl;rw [hp] at e;cases e)];exact e
theorem T3 {a : Addr} {G G' : Gp} (h : Ex G G') : Ext a G G' := fun b o _ e => h b o e
def CB : Sp3 := fun ts G q => ∃ c k,ts = [.int c,.int k]∧0 ≤ k∧k < 4294967296∧∀ m,0 ≤ m → m < 1999999973 → q (.int m) G
def JG : Sp3 := fun ts G q => ∃ (a : Addr) (k : Int) (ns : List Int),ts = [.ref a,.int k]∧G a = some (.frz (ns.map T.int))∧ns.length ≤ 63∧0 ≤ k∧k ≤ 63∧∀ p o c,G p = none → 0 ≤ o → q (.ref p) (gu G p (.lst [.int o,.int c,.int 0]))
def qQ : Sp3 := fun ts G q => ∃ a n many,ts = [.ref a,.int many]∧1 ≤ many∧many < 1073741824∧Lf G a n∧n < 1073741824∧∀ d G',0 ≤ d → d < many → Lf G' a (n + 1) → Ext a G G' → q (.int d) G'
def jP : Sp3 := fun ts G q => ∃ a n,ts = [.ref a]∧Lf G a n∧n < 100000000∧∀ r c G',1 ≤ r → r ≤ 16 → 1 ≤ c → c ≤ 16 → Lf G' a (n + 4) → Ext a G G' → q (.tup [.int r,.int c]) G'
def CG : Sp3 := fun ts G q => ∃ x y : Int,ts = [.int x,.int y]∧0 ≤ x∧0 ≤ y∧q (.int (Int.gcd x y : Nat)) G
structure Dr (d : Dl) (r c b : Int) : Prop where
 ok : d.Ok
 r2 : d.R ≤ r
 c2 : d.C ≤ c
 b2 : d.B ≤ b
def QV : Sp3 := fun ts G q => ∃ a n,ts = [.ref a]∧Lf G a n∧n < 10000000∧∀ r c b p G',Dr (.rests r c b p) 16 16 32 → Lf G' a (n + 10) → Ext a G G' → q (Dl.rests r c b p).t G'
theorem zZ {a : Addr} {n many : Int} {G : Gp} {q : Q3} (hL : Lf G a n) (h1 : 1 ≤ many) (h2 : many < 1073741824) (hn : n < 1073741824) (h : ∀ d G',0 ≤ d → d < many → Lf G' a (n + 1) → Ext a G G' → q (.int d) G') : qQ [.ref a,.int many] G q := ⟨a,n,many,rfl,h1,h2,hL,hn,h⟩
theorem NQ : ∀ ts G q,CB ts G q → ts.length = 2∧V7 (qdv q) (qs ["_law_cell","_law_k","_law_m"] ts) G := by
 rintro ts G q ⟨c,k,rfl,h1,h2,h⟩
 refine ⟨rfl,?_⟩
 simp only [V7,qM,zm,o3,v3,qs,List.map_cons,List.map_nil,List.length_cons,List.length_nil,Nat.zero_add,Nat.reduceAdd,Nat.reduceSub,List.replicate_one,List.cons_append,List.nil_append,Nat.zero_lt_succ,getElem?_pos,List.getElem_cons_zero,c3,iC,Int.reduceLT,Nat.reduceLT,List.getElem_cons_succ,z9,gn3,qR,List.set_cons_succ,List.set_cons_zero,Nat.lt_add_one,true_and]
 exact ⟨.inl ⟨by omega,by omega⟩,cm (by omega) (by omega),cm (by omega) (by omega),.inl ⟨by omega,by omega⟩,h _ (Int.emod_nonneg _ (by omega)) (Int.emod_lt_of_pos _ (by omega))⟩
theorem cp : KF 10 18 := ⟨by decide,by decide,by decide⟩
theorem LH : ∀ ts G q,JG ts G q → ts.length = 2∧YU (qdv q) (qs ["_law_script","_law_k","_law_cell","_law_own"] ts) G := by
 rintro ts G q ⟨a,k,ns,rfl,hG,hl,h1,h2,h⟩
 refine ⟨rfl,?_⟩
 simp only [YU,qM,zm,if3,tb3,o3,v3,qs,List.map_cons,List.map_nil,List.length_cons,List.length_nil,Nat.zero_add,Nat.reduceAdd,Nat.reduceSub,List.reduceReplicate,List.cons_append,List.nil_append,Nat.reduceLT,getElem?_pos,List.getElem_cons_succ,List.getElem_cons_zero,cb3,qc,Nat.zero_lt_succ,qj,DC,getL,hG,iB,List.length_map,decide_eq_true_eq,gn3,List.set_cons_succ,List.set_cons_zero,qhN,c3,iC,Int.reduceToNat,Int.reducePow,qR,VF,Nat.lt_add_one,z9,ne_eq,sizeLine_eq,Nat.reduceLeDiff,true_and,gu,ixR,atI,ixN,List.getElem?_map,Int.lt_irrefl,↓reduceIte,Int.reduceLE,decide_false,Bool.false_eq_true,Int.zero_add]
 have ck : QP 1000003 k := cm (by omega) (by omega)
 by_cases hk : k < ns.length
 ·have hk' : k.toNat < ns.length := by omega
  simp [hk,h1,hk',cp,ck]
  split
  ·split
   ·exact fun p hp => h p (-ns[k.toNat]) _ hp (by omega)
   ·exact fun p hp => h p 0 _ hp (by omega)
  ·split
   ·exact fun p hp => h p ns[k.toNat] _ hp (by omega)
   ·exact fun p hp => h p 0 _ hp (by omega)
 ·simp [hk,cp,ck]
  exact fun p hp => h p 0 _ hp (by omega)
theorem KQ : ∀ ts G q,qQ ts G q → ts.length = 2∧YM CB (qdv q) (qs ["_law_left_here","_law_many","_law_digit"] ts) G := by
 rintro ts G q ⟨a,n,many,rfl,m1,m2,⟨o,c,m,hG,ho,hm,hn⟩,h3,h⟩
 refine ⟨rfl,?_⟩
 unfold YM
 refine jU fun nx1 q1 => ?_
 simp only [zm,o3,v3,qs,List.map_cons,List.map_nil,List.length_cons,List.length_nil,Nat.zero_add,Nat.reduceAdd,Nat.reduceSub,List.replicate_one,List.cons_append,List.nil_append,Nat.zero_lt_succ,getElem?_pos,List.getElem_cons_zero,c3,z9,ne_eq,sizeLine_eq,D9,qcM,ixN,Int.zero_le_ofNat,↓reduceIte,Int.reduceToNat,tb3,iB,decide_eq_true_eq,Nat.reduceLT,List.getElem_cons_succ,iC,gn3,List.set_cons_succ,List.set_cons_zero,Std.le_refl,Int.natCast_pos,Int.toNat_zero,qR,Nat.lt_add_one,ixR,getL,atI,qL,cb3,qc,qj,Int.toNat_one,List.length_set,hG,Int.cast_ofNat_Int,Int.reduceLT,Option.bind_some,qE]
 rw [q1]
 clear q1
 refine jU fun nx2 q2 => ?_
 simp only [jq,zm,o3,v3,qs,List.map_cons,List.map_nil,List.length_cons,List.length_nil,Nat.zero_add,Nat.reduceAdd,Nat.reduceSub,List.replicate_one,List.cons_append,List.nil_append,Nat.zero_lt_succ,getElem?_pos,List.getElem_cons_zero,c3,z9,ne_eq,sizeLine_eq,D9,qcM,ixN,Int.zero_le_ofNat,↓reduceIte,Int.reduceToNat,tb3,iB,decide_eq_true_eq,Nat.reduceLT,List.getElem_cons_succ,iC,gn3,List.set_cons_succ,List.set_cons_zero,Std.le_refl,Int.natCast_pos,Int.toNat_zero,qR,Nat.lt_add_one,ixR,getL,atI,qL,cb3,qc,qj,Int.toNat_one,List.length_set,hG,Int.cast_ofNat_Int,Int.reduceLT,Option.bind_some,qE]
 split
 ·simp only [qM,zm,o3,v3,List.length_cons,List.length_nil,Nat.zero_add,Nat.reduceAdd,Nat.zero_lt_succ,getElem?_pos,List.getElem_cons_zero,c3,Nat.reduceLT,List.getElem_cons_succ,iC,gn3,List.set_cons_succ,List.set_cons_zero,D9,qcM,ixN,Std.le_refl,↓reduceIte,Int.natCast_pos,Int.toNat_zero,qR,Nat.lt_add_one,ixR,getL,atI,qE,Int.cast_ofNat_Int,Int.reduceLT,Option.bind_some]
  refine ⟨by omega,⟨by omega,m2⟩,h _ _ (Int.emod_nonneg _ (by omega)) (Int.emod_lt_of_pos _ (by omega)) ⟨o / many,c,m + 1,qE,Int.ediv_nonneg ho (by omega),by omega,by omega⟩ fun b ob hb e => ?_⟩
  rw [jR hb,jR hb];exact e
 ·rw [q2]
  clear q2
  simp only [zm,o3,v3,qs,List.map_cons,List.map_nil,List.length_cons,List.length_nil,Nat.zero_add,Nat.reduceAdd,Nat.reduceSub,List.replicate_one,List.cons_append,List.nil_append,Nat.zero_lt_succ,getElem?_pos,List.getElem_cons_zero,c3,z9,ne_eq,sizeLine_eq,D9,qcM,ixN,Int.zero_le_ofNat,↓reduceIte,Int.reduceToNat,tb3,iB,decide_eq_true_eq,Nat.reduceLT,List.getElem_cons_succ,iC,gn3,List.set_cons_succ,List.set_cons_zero,Std.le_refl,Int.natCast_pos,Int.toNat_zero,qR,Nat.lt_add_one,ixR,getL,atI,qL,cb3,qc,qj,Int.toNat_one,List.length_set,hG,Int.cast_ofNat_Int,Int.reduceLT,Option.bind_some,qE]
  refine ⟨c,m + 1,rfl,by omega,by omega,fun u u1 u2 => ?_⟩
  simp only [zm,o3,v3,qs,List.map_cons,List.map_nil,List.length_cons,List.length_nil,Nat.zero_add,Nat.reduceAdd,Nat.reduceSub,List.replicate_one,List.cons_append,List.nil_append,Nat.zero_lt_succ,getElem?_pos,List.getElem_cons_zero,c3,z9,ne_eq,sizeLine_eq,D9,qcM,ixN,Int.zero_le_ofNat,↓reduceIte,Int.reduceToNat,tb3,iB,decide_eq_true_eq,Nat.reduceLT,List.getElem_cons_succ,iC,gn3,List.set_cons_succ,List.set_cons_zero,Std.le_refl,Int.natCast_pos,Int.toNat_zero,qR,Nat.lt_add_one,ixR,getL,atI,qL,cb3,qc,qj,Int.toNat_one,List.length_set,hG,Int.cast_ofNat_Int,Int.reduceLT,Option.bind_some,qE]
  refine ⟨u,m + 1 + 64,rfl,by omega,by omega,fun v v1 v2 => ?_⟩
  refine ⟨⟨by omega,by omega⟩,by omega,h _ _ (Int.emod_nonneg _ (by omega)) (Int.emod_lt_of_pos _ (by omega)) ⟨o,c,m + 1,qE,ho,by omega,by omega⟩ fun b ob hb e => ?_⟩
  rw [jR hb];exact e
theorem qdb {x y : Int} (hy : 0 < y) : Int.gcd y (x % y) = Int.gcd x y := by
 rw [Int.emod_def,Int.gcd_comm x y]
 simp
theorem N6 : ∀ ts G q,CG ts G q → ts.length = 2∧UN (qdv q) (qs ["_law_one","_law_other"] ts) G := by
 rintro ts G q ⟨x,y,rfl,hx,hy,h⟩
 refine ⟨rfl,?_⟩
 simp only [UN,qM,M1,qs,List.map_cons,List.map_nil,List.length_cons,List.length_nil,Nat.zero_add,Nat.reduceAdd,Nat.sub_self,List.replicate_zero,List.append_nil,tb3,o3,v3,c3,iB,decide_eq_true_eq,CY,qc,iC,qj,qR]
 refine ⟨fun n τ G' => G' = G∧∃ u v : Int,τ = [some (.int u),some (.int v)]∧n = v.toNat∧0 ≤ u∧0 ≤ v∧Int.gcd u v = Int.gcd x y,⟨_,rfl,x,y,rfl,rfl,hx,hy,rfl⟩,?_⟩
 rintro n τ G' ⟨eG,u,v,rfl,rfl,hu,hv,e⟩
 simp
 by_cases h0 : 0 < v
 ·simp [h0]
  refine ⟨fun τ' G' => G' = G∧∃ x' y' : Int,τ' = [some (.int x'),some (.int y')]∧y'.toNat < v.toNat∧0 ≤ x'∧0 ≤ y'∧Int.gcd x' y' = Int.gcd x y,fun τ' G' ⟨e1,x',y',e2,e3,e4,e5,e6⟩ => ⟨y'.toNat,by omega,e1,x',y',e2,rfl,e4,e5,e6⟩,eG,v,u % v,rfl,?_,hv,Int.emod_nonneg _ (by omega),by rw [qdb h0,e]⟩
  have := Int.emod_lt_of_pos u h0
  omega
 ·have : v = 0 := by omega
  subst this
  simp at e
  simp [eG]
  have : u = (Int.gcd x y : Nat) := by omega
  rw [this]
  exact h
theorem qpp {d : Int} (h1 : 0 ≤ d) (h2 : d < 4) {x0 x1 x2 x3 : T} {P : T → Prop} (p0 : P x0) (p1 : P x1) (p2 : P x2) (p3 : P x3) : ∃ x,L2.atI [x0,x1,x2,x3] d = some x∧P x := by
 have : d = 0 ∨ d = 1 ∨ d = 2 ∨ d = 3 := by omega
 rcases this with rfl | rfl | rfl | rfl
 ·exact ⟨x0,rfl,p0⟩
 ·exact ⟨x1,rfl,p1⟩
 ·exact ⟨x2,rfl,p2⟩
 ·exact ⟨x3,rfl,p3⟩
theorem qfF {d : Int} (h1 : 0 ≤ d) (h2 : d < 3) {x0 x1 x2 : T} {P : T → Prop} (p0 : P x0) (p1 : P x1) (p2 : P x2) : ∃ x,L2.atI [x0,x1,x2] d = some x∧P x := by
 have : d = 0 ∨ d = 1 ∨ d = 2 := by omega
 rcases this with rfl | rfl | rfl
 ·exact ⟨x0,rfl,p0⟩
 ·exact ⟨x1,rfl,p1⟩
 ·exact ⟨x2,rfl,p2⟩
theorem SK : ∀ ts G q,jP ts G q → ts.length = 1∧JO qQ (qdv q) (qs ["_law_left_here","_law_wide","_law_rows","_law_columns"] ts) G := by
 rintro ts G q ⟨a,n,rfl,hL,hn,h⟩
 refine ⟨rfl,?_⟩
 unfold JO
 refine jU fun nx1 q1 => ?_
 simp only [zm,o3,VF,qc,c3,qj,List.length_cons,List.length_nil,Nat.zero_add,Nat.reduceAdd,sizeLine_eq,Nat.reduceLeDiff,cb3,v3,qs,List.map_cons,List.map_nil,Nat.add_one_sub_one,List.reduceReplicate,List.cons_append,List.nil_append,Nat.zero_lt_succ,getElem?_pos,List.getElem_cons_zero,gn3,List.set_cons_succ,List.set_cons_zero,true_and]
 intro p hp
 have hpa := hL.ne hp
 refine zZ (hL.new hpa) (by decide) (by decide) (by omega) fun d G1 d1 d2 L1 E1 => ?_
 have g1 := E1 p _ hpa qE
 obtain ⟨w,hw,w',rfl,w1,w2⟩ := qpp d1 d2 (P := fun t => ∃ w,t = T.int w∧1 ≤ w∧w ≤ 16) ⟨6,rfl,by decide⟩ ⟨6,rfl,by decide⟩ ⟨6,rfl,by decide⟩ ⟨16,rfl,by decide⟩
 simp only [ixR,getL,g1,hw]
 rw [q1]
 clear q1
 refine jU fun nx2 q2 => ?_
 simp only [CY,qc,o3,c3,cb3,v3,List.length_cons,List.length_nil,Nat.zero_add,Nat.reduceAdd,Nat.zero_lt_succ,getElem?_pos,List.getElem_cons_zero,Nat.reduceLT,List.getElem_cons_succ,qj,z9,ne_eq,sizeLine_eq,List.set_cons_succ,List.set_cons_zero]
 refine zZ L1 w1 (by omega) (by omega) fun r G2 r1 r2 L2' E2 => ?_
 simp only [iI,qM,zm,o3,VF,qc,c3,qj,List.length_cons,List.length_nil,Nat.zero_add,Nat.reduceAdd,sizeLine_eq,Nat.reduceLeDiff,cb3,v3,qs,List.map_cons,List.map_nil,Nat.add_one_sub_one,List.reduceReplicate,List.cons_append,List.nil_append,Nat.zero_lt_succ,getElem?_pos,List.getElem_cons_zero,gn3,CY,List.set_cons_succ,List.set_cons_zero,Nat.reduceLT,List.getElem_cons_succ,z9,ne_eq,qR,jr,Nat.lt_add_one,true_and,gu]
 refine zZ L2' w1 (by omega) (by omega) fun c G3 c1 c2 L3' E3 => ?_
 simp only [iI,qM,zm,o3,VF,qc,c3,qj,List.length_cons,List.length_nil,Nat.zero_add,Nat.reduceAdd,sizeLine_eq,Nat.reduceLeDiff,cb3,v3,qs,List.map_cons,List.map_nil,Nat.add_one_sub_one,List.reduceReplicate,List.cons_append,List.nil_append,Nat.zero_lt_succ,getElem?_pos,List.getElem_cons_zero,gn3,CY,List.set_cons_succ,List.set_cons_zero,Nat.reduceLT,List.getElem_cons_succ,z9,ne_eq,qR,jr,Nat.lt_add_one,true_and,gu]
 rw [q2]
 clear q2
 simp only [qR,o3,VF,qc,jr,v3,List.length_cons,List.length_nil,Nat.zero_add,Nat.reduceAdd,Nat.reduceLT,getElem?_pos,List.getElem_cons_succ,List.getElem_cons_zero,Nat.lt_add_one,qj,sizeLine_eq,Nat.reduceLeDiff,cb3,Nat.zero_lt_succ,c3,true_and]
 intro p2 hp2
 have hpa2 := L3'.ne hp2
 refine zZ (L3'.new hpa2) (by decide) (by decide) (by omega) fun e G4 e1 e2 L4 E4 => ?_
 have g4 := E4 p2 _ hpa2 qE
 have x1 : 1 ≤ 1 + r := by omega
 have x2 : 1 + r ≤ 16 := by omega
 have x3 : 1 ≤ 1 + c := by omega
 have x4 : 1 + c ≤ 16 := by omega
 obtain ⟨t,ht,r',c',rfl,z1,z2,z3,z4⟩ := qpp e1 e2 (P := fun t => ∃ r' c',t = T.tup [.int r',.int c']∧1 ≤ r'∧r' ≤ 16∧1 ≤ c'∧c' ≤ 16) ⟨1 + r,1 + c,rfl,x1,x2,x3,x4⟩ ⟨1 + r,1 + c,rfl,x1,x2,x3,x4⟩ ⟨1 + r,1 + c,rfl,x1,x2,x3,x4⟩ ⟨1 + r,1 + r,rfl,x1,x2,x1,x2⟩
 simp only [ixR,getL,g4,ht]
 exact h r' c' G4 z1 z2 z3 z4 (L4.mono (by omega)) ((((YA hp).trans E1).trans (E2.trans E3)).trans ((YA hp2).trans E4))
theorem cop {b p : Int} (hb : 1 ≤ b) : ∃ k : Nat,(k : Int) < b∧Int.gcd b (p + k) = 1 := by
 refine ⟨((1 - p) % b).toNat,?_,?_⟩
 ·have := Int.emod_nonneg (1 - p) (show b ≠ 0 by omega)
  have := Int.emod_lt_of_pos (1 - p) (show 0 < b by omega)
  omega
 ·have h1 := Int.emod_nonneg (1 - p) (show b ≠ 0 by omega)
  have h2 := Int.emod_add_mul_ediv (1 - p) b
  have e : p + (((1 - p) % b).toNat : Int) = 1 + b * (-((1 - p) / b)) := by
   rw [Int.toNat_of_nonneg h1,Int.mul_neg];omega
  rw [e];simp
structure Plc (b p0 pl : Int) (i : Nat) : Prop where
 lo : p0 ≤ pl
 hi : pl ≤ p0 + i
 at_ : Int.gcd b pl = 1 ∨ (pl = p0 + i∧∀ k : Nat,k < i → Int.gcd b (p0 + k) ≠ 1)
theorem Plc.done {b p0 pl : Int} {n : Nat} (h : Plc b p0 pl n) (hb : 1 ≤ b) (hn : b ≤ n) : Int.gcd b pl = 1 := by
 rcases h.at_ with h | ⟨_,h⟩
 ·exact h
 ·obtain ⟨k,h1,h2⟩ := cop (p := p0) hb
  exact absurd h2 (h k (by omega))
theorem Plc.next {b p0 pl : Int} {i : Nat} (h : Plc b p0 pl i) (hb : 1 ≤ b) (hp : 1 ≤ p0) (hg : (1 : Int) < (Int.gcd b pl : Nat)) : Plc b p0 (pl + 1) (i + 1) := by
 rcases h.at_ with z | ⟨z1,z2⟩
 ·rw [z] at hg;simp at hg
 ·refine ⟨by have := h.lo;omega,by omega,.inr ⟨by omega,fun k hk => ?_⟩⟩
  rcases Nat.lt_or_ge k i with q | q
  ·exact z2 k q
  ·have : k = i := by omega
   subst this
   rw [← z1]
   omega
theorem Plc.stay {b p0 pl : Int} {i : Nat} (h : Plc b p0 pl i) (hb : 1 ≤ b) (hp : 1 ≤ p0) (hg : ¬ (1 : Int) < (Int.gcd b pl : Nat)) : Plc b p0 pl (i + 1) := by
 have g0 : 0 < Int.gcd b pl := Int.gcd_pos_of_ne_zero_left _ (by omega)
 exact ⟨h.lo,by have := h.hi;omega,.inl (by omega)⟩
theorem qkf {r c b : Int} (hr : 1 ≤ r) (hc : 1 ≤ c) (hb : 1 ≤ b) : 1 ≤ -(-r * c / b)∧r * c ≤ b * -(-r * c / b)∧-(-r * c / b) ≤ r * c := by
 have h1 := YW hr hc
 have e : -r * c = -(r * c) := Int.neg_mul ..
 rw [e]
 have h2 := Int.ediv_neg_of_neg_of_pos (a := -(r * c)) (b := b) (by omega) (by omega)
 have h3 := Int.mul_ediv_self_le (x := -(r * c)) (k := b) (by omega)
 have h4 : -(r * c) ≤ -(r * c) / b := by
  have := Int.le_ediv_of_mul_le (a := -(r * c)) (b := -(r * c)) (c := b) (by omega) (by
   have := Int.mul_le_mul_of_nonneg_left hb (show (0 : Int) ≤ r * c by omega)
   rw [Int.neg_mul];omega)
  exact this
 rw [Int.mul_neg]
 omega
theorem SJ : ∀ ts G q,QV ts G q → ts.length = 1∧Z0 jP qQ CG (qdv q) (qs ["_law_left_here","_law_rows","_law_columns","_law_banks","_law_places","_law_turn"] ts) G := by
 rintro ts G q ⟨a,n,rfl,hL,hn,h⟩
 refine ⟨rfl,?_⟩
 unfold Z0
 refine jU fun nx1 q1 => ?_
 simp only [zm,cb3,qc,v3,qs,List.map_cons,List.map_nil,List.length_cons,List.length_nil,Nat.zero_add,Nat.reduceAdd,Nat.add_one_sub_one,List.reduceReplicate,List.cons_append,List.nil_append,Nat.zero_lt_succ,getElem?_pos,List.getElem_cons_zero,qj,jm,qu,gn3,je,List.set_cons_succ,List.set_cons_zero]
 refine ⟨a,n,rfl,hL,by omega,fun r c G1 r1 r2 c1 c2 L1 E1 => ?_⟩
 simp only [List.length_cons,List.length_nil,Nat.zero_add,Nat.reduceAdd,true_and]
 rw [q1]
 clear q1
 refine jU fun nx2 q2 => ?_
 simp only [zm,o3,c3,cb3,qc,v3,List.length_cons,List.length_nil,Nat.zero_add,Nat.reduceAdd,Nat.zero_lt_succ,getElem?_pos,List.getElem_cons_zero,VF,qj,sizeLine_eq,Nat.reduceLeDiff,z9,ne_eq,gn3,List.set_cons_succ,List.set_cons_zero,true_and]
 intro p hp
 have hpa := L1.ne hp
 refine zZ (L1.new hpa) (by decide) (by decide) (by omega) fun d G2 d1 d2 L2' E2 => ?_
 have g2 := E2 p _ hpa qE
 obtain ⟨w,hw,w',rfl,w1,w2⟩ := qfF d1 d2 (P := fun t => ∃ w,t = T.int w∧1 ≤ w∧w ≤ 32) ⟨8,rfl,by decide⟩ ⟨17,rfl,by decide⟩ ⟨32,rfl,by decide⟩
 simp only [ixR,getL,g2,hw]
 refine zZ L2' w1 (by omega) (by omega) fun b G3 b1 b2 L3' E3 => ?_
 simp [qM,zm,gn3,qR,qh1,jq,W9,qhX,qL,v3,c3,o3,u3,KY,L3.ixT,L3.ixR,z9,iI,iC,iB,jQ,JM,qbd,tb3,qgg,or3,N8,jY,qoQ,K8,if3,ch3,cb3,qc,qj,W8,tyT,ZU,jr,VF,qcl,np3,sp3,jm,qu,je,D9,qcM,CY,qs,bm3,qe7,qcj,DC,qhN,qhj,qph,qah,VJ,XC,qaj,qoV,qoU,SF,HT.sIx,getL,in3,ED,eqF,gu,sizeLine_eq,List.getElem?_cons_zero,List.getElem?_cons_succ]
 rw [q2]
 clear q2
 refine jU fun nx3 q3 => ?_
 simp only [zm,o3,u3,v3,List.length_cons,List.length_nil,Nat.zero_add,Nat.reduceAdd,Nat.reduceLT,getElem?_pos,List.getElem_cons_succ,List.getElem_cons_zero,KY,iC,cb3,qc,Nat.zero_lt_succ,c3,qj,z9,ne_eq,sizeLine_eq,gn3,List.set_cons_succ,List.set_cons_zero]
 refine ⟨cm (by omega) (by omega),⟨by omega,by omega⟩,zZ L3' (by omega) (by omega) (by omega) fun e G4 e1 e2 L4 E4 => ?_⟩
 obtain ⟨u1,u2,u3⟩ := qkf r1 c1 (show 1 ≤ 1 + b by omega)
 have rc : r * c ≤ 16 * 16 := Int.mul_le_mul r2 c2 (by omega) (by omega)
 simp [qM,zm,gn3,qR,qh1,jq,W9,qhX,qL,v3,c3,o3,u3,KY,L3.ixT,L3.ixR,z9,iI,iC,iB,jQ,JM,qbd,tb3,qgg,or3,N8,jY,qoQ,K8,if3,ch3,cb3,qc,qj,W8,tyT,ZU,jr,VF,qcl,np3,sp3,jm,qu,je,D9,qcM,CY,qs,bm3,qe7,qcj,DC,qhN,qhj,qph,qah,VJ,XC,qaj,qoV,qoU,SF,HT.sIx,getL,in3,ED,eqF,gu,sizeLine_eq,List.getElem?_cons_zero,List.getElem?_cons_succ]
 rw [q3]
 clear q3
 simp only [qM,RK,jO,qc,c3,qj,Int.reducePow,Int.reduceNeg,Int.neg_ofNat_le_ofNat,Int.reduceLT,and_self,Int.reduceToNat,true_and]
 obtain ⟨p0,hp0⟩ : ∃ p0,p0 = -(-r * c / (1 + b)) + e := ⟨_,rfl⟩
 refine WX _ (fun i τ G' => G' = G4∧∃ (pl : Int) (x : Option T),τ = [some (.ref a),some (.int r),some (.int c),some (.int (1 + b)),some (.int pl),x]∧Plc (1 + b) p0 pl i) ⟨rfl,_,none,by rw [← hp0],⟨by omega,by omega,.inr ⟨by omega,by omega⟩⟩⟩ (fun _ _ _ _ _ => True.intro) ?_ ?_
 ·rintro i x τ G' nx hx ⟨rfl,pl,y,rfl,P⟩ hn
  simp only [gn3,jq,tb3,o3,cb3,qc,v3,List.set_cons_succ,List.set_cons_zero,List.length_cons,List.length_nil,Nat.zero_add,Nat.reduceAdd,Nat.reduceLT,getElem?_pos,List.getElem_cons_succ,List.getElem_cons_zero,qj,c3,iB,decide_eq_true_eq,zm,z9,qL]
  refine ⟨1 + b,pl,rfl,by omega,by have := P.lo;omega,?_⟩
  simp
  split
  ·rename_i hg
   exact hn _ _ ⟨rfl,_,_,rfl,P.next (by omega) (by omega) (by omega)⟩
  ·rename_i hg
   exact hn _ _ ⟨rfl,_,_,rfl,P.stay (by omega) (by omega) (by omega)⟩
 ·rintro τ G' ⟨rfl,pl,x,rfl,P⟩
  simp only [qR,jr,qc,c3,v3,List.length_cons,List.length_nil,Nat.zero_add,Nat.reduceAdd,Nat.reduceLT,getElem?_pos,List.getElem_cons_succ,List.getElem_cons_zero,qj,sizeLine_eq,Nat.reduceLeDiff,true_and]
  rw [qbC] at P
  have lo := P.lo;have hi := P.hi
  have m1 : (1 + b) * -(-r * c / (1 + b)) ≤ (1 + b) * pl := Int.mul_le_mul_of_nonneg_left (by omega) (by omega)
  exact h r c (1 + b) pl G' ⟨⟨r1,by omega,c1,by omega,by omega,by omega,by omega,by omega,P.done (by omega) (by omega),by omega⟩,r2,c2,by show 1 + b ≤ 32;omega⟩ (L4.mono (by omega)) (E1.trans (((YA hp).trans E2).trans (E3.trans E4)))
end Bk
namespace Bk
open PySem L2 L3
def JZ : Nat → PyData → Prop
 | _,.none => True
 | _,.bool _ => True
 | _,.int _ => True
 | _,.str _ => True
 | n + 1,.list ds => ds.length ≤ 1000000∧∀ d ∈ ds,JZ n d
 | n + 1,.tuple ds => ds.length ≤ 1000000∧∀ d ∈ ds,JZ n d
 | _,_ => False
def jw : Nat → Sp3
 | 0 => qbU
 | n + 1 => fun ts G q => ∃ (x y : T) (d : PyData),ts = [x,y]∧Dp G x d∧Dp G y d∧JZ n d∧∀ G',Ex G G' → q (.bl true) G'
theorem MG {G G' : Gp} (e : Ex G G') {x : T} {us : List T} (h : jc G x = some us) : jc G' x = some us := by
 cases x <;> simp [jc] at h ⊢
 ·exact h
 ·exact e.getL h
theorem qcJ (n : Nat) : qfV (List.replicate n (.bl true)) = some true := by
 induction n with
 | zero => rfl
 | succ n ih => rw [List.replicate_succ];simp [qfV,ih]
theorem MR {G : Gp} {n : Nat} {x y : T} {us vs : List T} {ds : List PyData} {q : Q3} (hx : jc G x = some us) (hy : jc G y = some vs) (du : Dps G us ds) (dv : Dps G vs ds) (hl : us.length ≤ 1000000) (hd : ∀ d ∈ ds,∃ m,n = m + 1∧JZ m d) (h : ∀ G',Ex G G' → q (.bl true) G') :
  ND (fun G => jc G x = some us∧jc G y = some vs) (jm 2 (qu (gn3 0) (qu (gn3 1) je))) tt3 (cb3 (jw n) (qc (v3 0) (qc (v3 1) qj))) (fun x G1 => qaj [x] G1 q) (qco us vs) [] [none,none] G := by
 have e1 := du.length
 have e2 := dv.length
 refine qcq _ (fun i ys τ G' => Ex G G'∧ys = List.replicate i (.bl true)∧∃ x0 x1,τ = [x0,x1]) ⟨Ex.refl,rfl,none,none,rfl⟩ (fun i ys τ G' _ hp => ⟨MG hp.1 hx,MG hp.1 hy⟩) ?_ ?_
 ·rintro i z ys τ G' R hz ⟨E,rfl,x0,x1,rfl⟩ hR
  obtain ⟨a,b,ha,hb,rfl⟩ := CS hz
  obtain ⟨d,hd1,da⟩ := du.get ha
  obtain ⟨d',hd2,db⟩ := dv.get hb
  rw [hd1] at hd2;cases hd2
  obtain ⟨m,rfl,dl⟩ := hd d (List.mem_of_getElem? hd1)
  have hi := (List.getElem?_eq_some_iff.mp ha).1
  simp only [jm,List.length_cons,List.length_nil,Nat.zero_add,Nat.reduceAdd,qu,gn3,je,tt3,↓reduceIte,cb3,qc,v3,List.set_cons_zero,List.set_cons_succ,Nat.zero_lt_succ,getElem?_pos,List.getElem_cons_zero,Nat.lt_add_one,List.getElem_cons_succ,qj,List.length_replicate,sizeLine_eq,true_and]
  refine ⟨a,b,d,rfl,da.up E,db.up E,dl,fun G2 E2 => ⟨by omega,hR _ _ _ ⟨E.trans E2,?_,_,_,rfl⟩⟩⟩
  rw [List.replicate_succ']
 ·rintro ys τ G' ⟨E,rfl,x0,x1,rfl⟩ p hp
  simp [qaj,getL,qE,qcJ]
  exact h _ (E.trans (UR hp))
theorem qcQ {n : Nat} {ds : List PyData} (h : JZ n (.list ds)) : ds.length ≤ 1000000∧∀ d ∈ ds,∃ m,n = m + 1∧JZ m d := by
 cases n with
 | zero => exact h.elim
 | succ n => exact ⟨h.1,fun d hd => ⟨n,rfl,h.2 d hd⟩⟩
theorem qaF {n : Nat} {ds : List PyData} (h : JZ n (.tuple ds)) : ds.length ≤ 1000000∧∀ d ∈ ds,∃ m,n = m + 1∧JZ m d := by
 cases n with
 | zero => exact h.elim
 | succ n => exact ⟨h.1,fun d hd => ⟨n,rfl,h.2 d hd⟩⟩
theorem qmz {x : T} {G : Gp} {q : Q3} (h : JM x x = some true) (k : q (.bl true) G) : jQ false x x G q := by
 unfold jQ;rw [h];exact k
theorem qax {ta tb : TE3} {e : Ends3} {τ : St3} {G : Gp} {x : T} (h : ∀ q',q' x G → ta τ G q') (k : x = .bl true) (h2 : tb τ G e.rt) : qR (jY ta tb) e τ G := h _ (by subst k;exact h2)
theorem qoS {ta tb : TE3} {τ : St3} {G : Gp} {x : T} (ha : ∀ q',q' x G → ta τ G q') (hb : ∀ q',q' x G → tb τ G q') (h : JM x x = some true) : ∀ q',q' (.bl true) G → o3 (jQ false) ta tb τ G q' := fun q' k => ha _ (hb _ (qmz h k))
theorem NK {c : TT3} {a b : TS3} {e : Ends3} {τ : St3} {G : Gp} (h : ∀ A,A = a → jq c A b e τ G) : jq c a b e τ G := h _ rfl
theorem QK (n : Nat) : ∀ ts G q,jw (n + 1) ts G q → ts.length = 2∧ET (jw n) (qdv q) (qs ["_law_found","_law_due"] ts) G := by
 rintro ts G q ⟨x,y,d,rfl,hx,hy,hd,h⟩
 refine ⟨rfl,?_⟩
 have h0 := h G Ex.refl
 cases hx with
 | non => cases hy;exact h0
 | bl b => cases hy;cases b <;> exact h0
 | int i => cases hy;exact qmz (x := .int i) (by simp [JM]) h0
 | str s =>
  cases hy
  refine jU fun nx1 q1 => ?_
  refine NK fun A1 hA => ?_
  clear hA
  show nx1 _ _
  rw [q1];clear q1
  refine jU fun nx2 q2 => ?_
  refine NK fun A2 hA => ?_
  show A2 _ _ _
  rw [hA]
  exact qax (qoS (x := .str s) (fun _ k => k) (fun _ k => k) (by simp [JM])) rfl h0
 | tup dx =>
  cases hy with
  | tup dy =>
   rename_i xs ds ys
   have e1 := dx.length
   have e2 := dy.length
   obtain ⟨l1,l2⟩ := qaF hd
   have key := MR (n := n) (x := .tup xs) (y := .tup ys) (us := xs) (vs := ys) (q := q) rfl rfl dx dy (by omega) l2 h
   have e3 : xs.length = ys.length := by omega
   refine jU fun nx1 q1 => ?_
   clear q1
   refine NK fun A1 hA => ?_
   show A1 _ _ _
   rw [hA];clear hA
   refine jU fun nx2 q2 => ?_
   refine NK fun A2 hA => ?_
   show nx2 _ _
   rw [q2];clear q2
   exact qax (qoS (x := .int ys.length) (fun _ k => by rw [← e3] at k;exact k) (fun _ k => k) (by simp [JM])) rfl key
 | lst gx dx =>
  cases hy with
  | lst gy dy =>
   rename_i p1 xs ds p2 ys
   have e1 := dx.length
   have e2 := dy.length
   obtain ⟨l1,l2⟩ := qcQ hd
   have key := MR (n := n) (x := .ref p1) (y := .ref p2) (us := xs) (vs := ys) (q := q) gx gy dx dy (by omega) l2 h
   have e3 : xs.length = ys.length := by omega
   refine jU fun nx1 q1 => ?_
   clear q1
   refine NK fun A1 hA => ?_
   simp only [jq,tb3,W8,v3,qs,List.map_cons,List.map_nil,List.length_cons,List.length_nil,Nat.zero_add,Nat.reduceAdd,Nat.sub_self,List.replicate_zero,List.append_nil,Nat.lt_add_one,getElem?_pos,List.getElem_cons_succ,List.getElem_cons_zero,tyT,gx,gy,Option.isSome_some,↓reduceIte,ZU,BEq.rfl,String.reduceBEq,Bool.and_self,Bool.or_false,Bool.or_self,or3,o3,Nat.zero_lt_succ,jQ,JM,decide_true,Bool.not_true,Bool.false_eq_true,qL]
   rw [hA];clear hA
   refine jU fun nx2 q2 => ?_
   refine NK fun A2 hA => ?_
   clear hA
   simp only [jq,tb3,W8,v3,qs,List.map_cons,List.map_nil,List.length_cons,List.length_nil,Nat.zero_add,Nat.reduceAdd,Nat.sub_self,List.replicate_zero,List.append_nil,Nat.lt_add_one,getElem?_pos,List.getElem_cons_succ,List.getElem_cons_zero,tyT,gx,gy,Option.isSome_some,↓reduceIte,ZU,BEq.rfl,String.reduceBEq,Bool.and_self,Bool.or_false,Bool.or_self,or3,o3,Nat.zero_lt_succ,jQ,JM,decide_true,Bool.not_true,Bool.false_eq_true,qL]
   rw [q2];clear q2
   simp only [jc,qaj,qs,List.map_cons,List.map_nil,List.length_cons,List.length_nil,Nat.zero_add,Nat.reduceAdd,Nat.sub_self,List.replicate_zero,List.append_nil,Nat.lt_add_one,getElem?_pos,List.getElem_cons_succ,List.getElem_cons_zero,gy,↓reduceIte,o3,v3,Nat.zero_lt_succ,gx,jQ,JM,decide_true,Bool.false_eq_true,qR,jY,cb3,qc,qj,DC,e3,lc3,N2,cap] at key ⊢
   exact key
end Bk
namespace Bk
open PySem L2 L3
theorem qnF {α : Type} {x : α} {xs : List α} : L2.atI (x :: xs) 0 = some x := by simp [L2.atI,ixN]
theorem qnf {α : Type} {x y : α} {xs : List α} : L2.atI (x :: y :: xs) 1 = some y := by
 rw [ML (by omega) (by simp;omega)];rfl
end Bk
namespace Bk
open PySem L2 L3
end Bk
namespace Bk
open PySem L2 L3
theorem KH {a b x y : Int} (h0 : 1 ≤ a) (h1 : a ≤ x) (h2 : 1 ≤ b) (h3 : b ≤ y) : a * b ≤ x * y := Int.mul_le_mul h1 h3 (by omega) (by omega)
theorem Dr.join {d e : Dl} {r c b r' c' b' : Int} (D : Dr d r c b) (E : Dr e r' c' b') (h1 : r * r' ≤ 4096) (h2 : c * c' ≤ 4096) (h3 : b * b' ≤ 4096) : Dr (.joined d e) (r * r') (c * c') (b * b') := by
 have Ld := Dl.lims D.ok
 have Le := Dl.lims E.ok
 have a1 := KH Ld.r1 D.r2 Le.r1 E.r2
 have a2 := KH Ld.c1 D.c2 Le.c1 E.c2
 have a3 := KH Ld.b1 D.b2 Le.b1 E.b2
 exact ⟨⟨D.ok,E.ok,by omega,by omega,by omega⟩,a1,a2,a3⟩
end Bk
namespace Bk
open PySem L2 L3
end Bk
namespace Bk
open PySem L2 L3
theorem _root_.L3.Dps.append {G : Gp} : ∀ {xs ys : List T} {ds es : List PyData},Dps G xs ds → Dps G ys es → Dps G (xs ++ ys) (ds ++ es)
 | _,_,_,_,.nil,b => b
 | _,_,_,_,.cons a t,b => .cons a (L3.Dps.append t b)
theorem _root_.L3.Dps.take {G : Gp} : ∀ {xs : List T} {ds : List PyData} (i : Nat),Dps G xs ds → Dps G (xs.take i) (ds.take i)
 | _,_,0,_ => .nil
 | _,_,_ + 1,.nil => .nil
 | _,_,i + 1,.cons a t => .cons a (L3.Dps.take i t)
theorem _root_.L3.Dps.drop {G : Gp} : ∀ {xs : List T} {ds : List PyData} (i : Nat),Dps G xs ds → Dps G (xs.drop i) (ds.drop i)
 | _,_,0,h => h
 | _,_,_ + 1,.nil => .nil
 | _,_,i + 1,.cons a t => L3.Dps.drop i t
end Bk
namespace Bk
open PySem L2 L3
end Bk
namespace Bk
open PySem L2 L3
def DI : TS3 := (qR (lc3 (jO (qc (v3 2) qj)) (gn3 0) tt3 (jr (qc (o3 (iC QP (· * ·)) (v3 0) (v3 1)) (qc (o3 (iC QP (· * ·)) (v3 0) (v3 2)) qj))) [none,some 0,some 1]))
def VE (S_strung : Sp3) : TS3 := (qM (zm (o3 ix3 (v3 0) (c3 (.int 0))) (gn3 1)) (qM (jq (tb3 (o3 (jQ false) (v3 1) (c3 (.str "cells")))) (qR (cb3 XC (qc (o3 ix3 (v3 0) (c3 (.int 1))) qj))) qL) (qM (jq (tb3 (o3 (jQ false) (v3 1) (c3 (.str "block")))) (qR (qlI (jO (qc (o3 ix3 (v3 0) (c3 (.int 1))) qj)) (gn3 0) tt3 (jO (qc (o3 ix3 (v3 2) (c3 (.int 2))) qj)) (gn3 1) tt3 (jr (qc (v3 0) (qc (v3 1) qj))) [none,none,some 0])) qL) (qM (jq (tb3 (o3 (jQ false) (v3 1) (c3 (.str "step")))) (qR (cb3 S_strung (qc (o3 ix3 (v3 0) (c3 (.int 1))) (qc (o3 ix3 (v3 0) (c3 (.int 2))) (qc (o3 ix3 (v3 0) (c3 (.int 3))) qj))))) qL) (qM (zm (qcv UH (v3 1)) (jm 2 (qu (gn3 2) (qu (gn3 3) je)))) (qR (cb3 S_strung (qc (v3 2) (qc (v3 3) (qc (o3 ix3 (v3 0) (c3 (.int 1))) qj))))))))))
def DK (S_size_of : Sp3) (S_cells_of : Sp3) : TS3 := (qM (zm (cb3 S_size_of (qc (v3 0) qj)) (jm 3 (qu (gn3 2) (qu (gn3 3) (qu (gn3 4) je))))) (qM (zm (cb3 S_cells_of (qc (v3 1) qj)) (gn3 5)) (qM (zm (lc3 (U6 (v3 5)) (jm 2 (qu (gn3 0) (qu (gn3 1) je))) tt3 (v3 0) [none,none]) (gn3 6)) (qM (zm (lc3 (U6 (v3 5)) (jm 2 (qu (gn3 0) (qu (gn3 1) je))) tt3 (v3 1) [none,none]) (gn3 7)) (qR (qlI (jO (qc (u3 KY (cb3 SG (qc (v3 6) qj))) (qc (o3 (iI (· - ·)) (v3 2) (cb3 TU (qc (v3 6) qj))) qj))) (gn3 0) tt3 (jO (qc (u3 KY (cb3 SG (qc (v3 3) qj))) (qc (o3 (iI (· - ·)) (v3 2) (cb3 TU (qc (v3 3) qj))) qj))) (gn3 1) tt3 (jr (qc (v3 0) (qc (v3 1) qj))) [none,none,some 3,some 7]))))))
def YO (S_law_pick : Sp3) : TS3 := (qR (o3 z9 (c3 (.int 1)) (cb3 S_law_pick (qc (v3 0) (qc (o3 ix3 (VF (qc (c3 (.int 5)) (qc (c3 (.int 5)) (qc (c3 (.int 5)) (qc (c3 (.int 5)) (qc (c3 (.int 5)) (qc (c3 (.int 5)) (qc (c3 (.int 8)) (qc (c3 (.int 16)) qj))))))))) (cb3 S_law_pick (qc (v3 0) (qc (c3 (.int 8)) qj)))) qj)))))
def VD (S_law_pick : Sp3) (S_law_many : Sp3) : TS3 := (qM (zm (cb3 S_law_pick (qc (v3 0) (qc (c3 (.int 9)) qj))) (gn3 1)) (qM (jq (tb3 (o3 (iB fun i j => decide (i < j)) (v3 1) (c3 (.int 4)))) (qR (jr (qc (o3 ix3 (VF (qc (c3 (.str "row")) (qc (c3 (.str "column")) (qc (c3 (.str "slant")) (qc (c3 (.str "back")) qj))))) (v3 1)) (qc (cb3 S_law_many (qc (v3 0) qj)) qj)))) qL) (qM (jq (tb3 (o3 (iB fun i j => decide (i < j)) (v3 1) (c3 (.int 6)))) (qM (CY 2 3 (qc (cb3 S_law_pick (qc (v3 0) (qc (c3 (.int 2)) qj))) (qc (o3 z9 (c3 (.int 1)) (cb3 S_law_pick (qc (v3 0) (qc (c3 (.int 4)) qj)))) qj))) (qM (zm (o3 z9 (c3 (.int 1)) (cb3 S_law_pick (qc (v3 0) (qc (o3 (iC qht (· / ·)) (c3 (.int 16)) (v3 3)) qj)))) (gn3 4)) (qR (o3 ix3 (VF (qc (jr (qc (c3 (.str "block")) (qc (v3 3) (qc (v3 4) qj)))) (qc (jr (qc (c3 (.str "block")) (qc (v3 4) (qc (v3 3) qj)))) qj))) (v3 2))))) qL) (qM (jq (tb3 (o3 (iB fun i j => decide (i < j)) (v3 1) (c3 (.int 8)))) (qM (CY 5 6 (qc (o3 (iI (· - ·)) (cb3 S_law_pick (qc (v3 0) (qc (c3 (.int 7)) qj))) (c3 (.int 3))) (qc (o3 (iI (· - ·)) (cb3 S_law_pick (qc (v3 0) (qc (c3 (.int 9)) qj))) (c3 (.int 4))) qj))) (qM (jq (tb3 (o3 (jQ false) (cb3 S_law_pick (qc (v3 0) (qc (c3 (.int 6)) qj))) (c3 (.int 0)))) (qR (jr (qc (c3 (.str "step")) (qc (o3 (iC QP (· * ·)) (c3 (.int 5)) (v3 5)) (qc (o3 z9 (o3 (iC QP (· * ·)) (c3 (.int 3)) (v3 6)) (cb3 qah (qc (jY (o3 (jQ false) (v3 5) (c3 (.int 0))) (o3 (jQ false) (v3 6) (c3 (.int 0)))) qj))) (qc (o3 z9 (c3 (.int 1)) (cb3 S_law_pick (qc (v3 0) (qc (c3 (.int 4)) qj)))) qj)))))) qL) (qR (jr (qc (c3 (.str "step")) (qc (v3 5) (qc (o3 z9 (v3 6) (cb3 qah (qc (jY (o3 (jQ false) (v3 5) (c3 (.int 0))) (o3 (jQ false) (v3 6) (c3 (.int 0)))) qj))) (qc (cb3 S_law_many (qc (v3 0) qj)) qj)))))))) qL) (qM (CY 7 8 (qc (VF qj) (qc (o3 z9 (c3 (.int 1)) (o3 (iC QP (· * ·)) (c3 (.int 4)) (cb3 qah (qc (o3 (jQ false) (cb3 S_law_pick (qc (v3 0) (qc (c3 (.int 5)) qj))) (c3 (.int 0))) qj)))) qj))) (qM (RK (jO (qc (cb3 S_law_many (qc (v3 0) qj)) qj)) (gn3 9) (qM (zm (jr (qc (o3 (iC QP (· * ·)) (v3 8) (o3 (iI (· - ·)) (cb3 S_law_pick (qc (v3 0) (qc (c3 (.int 6)) qj))) (c3 (.int 2)))) (qc (o3 (iC QP (· * ·)) (v3 8) (o3 (iI (· - ·)) (cb3 S_law_pick (qc (v3 0) (qc (c3 (.int 6)) qj))) (c3 (.int 2)))) qj))) (gn3 10)) (jq (tb3 (o3 (qo4 true) (v3 10) (v3 7))) (W9 (bm3 qe7 (v3 7) (qc (v3 10) qj))) qL))) (qR (jr (qc (c3 (.str "cells")) (qc (cb3 VJ (qc (v3 7) qj)) qj))))))))))
def JQ : TS3 := (qM (jq (tb3 (o3 (jQ false) (o3 ix3 (v3 0) (c3 (.int 0))) (c3 (.str "cells")))) (qR (cb3 XC (qc (o3 ix3 (v3 0) (c3 (.int 1))) qj))) qL) (qM (jq (tb3 (o3 (jQ false) (o3 ix3 (v3 0) (c3 (.int 0))) (c3 (.str "block")))) (qM (zm (VF qj) (gn3 1)) (qM (RK (jO (qc (o3 ix3 (v3 0) (c3 (.int 1))) qj)) (gn3 2) (W9 (bm3 qcj (v3 1) (qc (lc3 (jO (qc (o3 ix3 (v3 0) (c3 (.int 2))) qj)) (gn3 0) tt3 (jr (qc (v3 1) (qc (v3 0) qj))) [none,some 2]) qj)))) (qR (v3 1)))) qL) (qM (zm (qg8 ["row","column","slant","back","step"] (qc (jr (qc (c3 (.int 0)) (qc (c3 (.int 1)) qj))) (qc (jr (qc (c3 (.int 1)) (qc (c3 (.int 0)) qj))) (qc (jr (qc (c3 (.int 1)) (qc (c3 (.int 1)) qj))) (qc (jr (qc (c3 (.int 1)) (qc (u3 KY (c3 (.int 1))) qj))) (qc (qcl (v3 0) (sp3 (c3 (.int 1))) (sp3 (c3 (.int 3)))) qj))))) (o3 ix3 (v3 0) (c3 (.int 0)))) (jm 2 (qu (gn3 3) (qu (gn3 4) je)))) (qR (lc3 (jO (qc (o3 ix3 (v3 0) (u3 KY (c3 (.int 1)))) qj)) (gn3 0) tt3 (jr (qc (o3 (iC QP (· * ·)) (v3 0) (v3 1)) (qc (o3 (iC QP (· * ·)) (v3 0) (v3 2)) qj))) [none,some 3,some 4])))))
def j0 : TS3 := (qM (RK (jO (qc (cb3 DC (qc (v3 0) qj)) qj)) (gn3 1) (RK (jO (qc (o3 z9 (v3 1) (c3 (.int 1))) (qc (cb3 DC (qc (v3 0) qj)) qj))) (gn3 2) (jq (tb3 (o3 (jQ false) (o3 ix3 (v3 0) (v3 1)) (o3 ix3 (v3 0) (v3 2)))) (qR (jr (qc (v3 1) (qc (v3 2) qj)))) qL))) (qR (c3 .non)))
def UU (S_cells_of : Sp3) : TS3 := (qR (lc3 (U6 (cb3 S_cells_of (qc (v3 0) qj))) (jm 2 (qu (gn3 0) (qu (gn3 1) je))) tt3 (jr (qc (o3 z9 (o3 ix3 (v3 2) (c3 (.int 0))) (v3 0)) (qc (o3 z9 (o3 ix3 (v3 2) (c3 (.int 1))) (v3 1)) qj))) [none,none,some 1]))
def YN (S_shifted : Sp3) (S_is_word : Sp3) (S_is_pair : Sp3) : TS3 := (qR (jY (cb3 S_is_pair (qc (v3 2) qj)) (cb3 qaj (qc (lc3 (U6 (cb3 S_shifted (qc (v3 1) (qc (v3 2) qj)))) (gn3 0) tt3 (cb3 S_is_word (qc (v3 1) (qc (v3 0) qj))) [none,some 0]) qj))))
def YV (S_is_start : Sp3) (S_shifted : Sp3) : TS3 := (qM (jq (N8 (tb3 (cb3 S_is_start (qc (v3 0) (qc (v3 1) (qc (v3 2) qj)))))) qhX qL) (qR (cb3 S_shifted (qc (v3 1) (qc (v3 2) qj)))))
def QZ (S_words_of : Sp3) (S_bank_in : Sp3) : TS3 := (qR (lc3 (U6 (cb3 S_words_of (qc (v3 0) (qc (v3 1) (qc (v3 2) qj))))) (gn3 0) tt3 (cb3 S_bank_in (qc (v3 1) (qc (v3 0) qj))) [none,some 0]))
def CP (S_starts : Sp3) (S_banks_from : Sp3) (S_first_alike : Sp3) : TS3 := (qM (RK (U6 (cb3 S_starts (qc (v3 0) (qc (v3 1) qj)))) (gn3 2) (qM (zm (cb3 S_first_alike (qc (cb3 S_banks_from (qc (v3 0) (qc (v3 1) (qc (v3 2) qj)))) qj)) (gn3 3)) (jq (tb3 (o3 (qbd true) (v3 3) (c3 .non))) (qR (jr (qc (v3 2) (qc (o3 ix3 (v3 3) (c3 (.int 0))) (qc (o3 ix3 (v3 3) (c3 (.int 1))) qj))))) qL))) (qR (c3 .non)))
def QX (S_law_size : Sp3) (S_law_cells : Sp3) : TS3 := (qM (zm (cb3 S_law_size (qc (v3 0) qj)) (jm 3 (qu (gn3 2) (qu (gn3 3) (qu (gn3 4) je))))) (qM (zm (cb3 S_law_cells (qc (v3 1) qj)) (gn3 5)) (qM (CY 6 7 (qc (lc3 (U6 (v3 5)) (jm 2 (qu (gn3 0) (qu (gn3 1) je))) tt3 (v3 0) [none,none]) (qc (lc3 (U6 (v3 5)) (jm 2 (qu (gn3 0) (qu (gn3 1) je))) tt3 (v3 1) [none,none]) qj))) (qM (zm (VF qj) (gn3 8)) (qM (RK (jO (qc (u3 KY (cb3 SG (qc (v3 6) qj))) (qc (o3 (iI (· - ·)) (v3 2) (cb3 TU (qc (v3 6) qj))) qj))) (gn3 9) (W9 (bm3 qcj (v3 8) (qc (lc3 (jO (qc (u3 KY (cb3 SG (qc (v3 7) qj))) (qc (o3 (iI (· - ·)) (v3 3) (cb3 TU (qc (v3 7) qj))) qj))) (gn3 0) tt3 (jr (qc (v3 1) (qc (v3 0) qj))) [none,some 9]) qj)))) (qR (v3 8)))))))
theorem JP {G : Gp} {p : Addr} {xs : List T} (h : G p = some (.lst xs)) : getL G p = some xs := by unfold getL;rw [h]
theorem qgb {xs : List T} {d : Int} (h0 : 0 ≤ d) (h1 : d < (xs.length : Int)) : ∃ z,L2.atI xs d = some z∧z ∈ xs := by
 rw [ML h0 h1]
 have : d.toNat < xs.length := by omega
 exact ⟨xs[d.toNat],List.getElem?_eq_getElem this,List.getElem_mem this⟩
inductive Wk where
 | line (k m : Nat)
 | block (h w : Nat)
 | step (d a : Int) (m : Nat)
 | cells (ps : List (Int × Int))
def YL : Nat → Str
 | 0 => "row" | 1 => "column" | 2 => "slant" | _ => "back"
def lnD : Nat → Int
 | 0 => 0 | _ => 1
def lnA : Nat → Int
 | 0 => 1 | 1 => 0 | 2 => 1 | _ => -1
def pT (p : Int × Int) : T := .tup [.int p.1,.int p.2]
def Wk.t : Wk → T
 | .line k m => .tup [.str (YL k),.int m]
 | .block h w => .tup [.str "block",.int h,.int w]
 | .step d a m => .tup [.str "step",.int d,.int a,.int m]
 | .cells ps => .tup [.str "cells",.tup (ps.map pT)]
def ji (d a : Int) (m : Nat) : List (Int × Int) := (List.range m).map fun (t : Nat) => ((t : Int) * d,(t : Int) * a)
def zS (h w : Nat) : List (Int × Int) := (List.range h).flatMap fun (p : Nat) => (List.range w).map fun (q : Nat) => ((p : Int),(q : Int))
def Wk.pc : Wk → List (Int × Int)
 | .line k m => ji (lnD k) (lnA k) m
 | .block h w => zS h w
 | .step d a m => ji d a m
 | .cells ps => ps
def Wk.Ok : Wk → Prop
 | .line k m => k < 4∧1 ≤ m∧m ≤ 16
 | .block h w => 1 ≤ h∧1 ≤ w∧h ≤ 16∧w ≤ 16∧h * w ≤ 16
 | .step d a m => (-16 ≤ d∧d ≤ 16)∧(-16 ≤ a∧a ≤ 16)∧1 ≤ m∧m ≤ 16
 | .cells ps => 1 ≤ ps.length∧ps.length ≤ 16∧ps.Nodup∧∀ p ∈ ps,(-16 ≤ p.1∧p.1 ≤ 16)∧(-16 ≤ p.2∧p.2 ≤ 16)
theorem CH (h w : Nat) : zS (h + 1) w = zS h w ++ (List.range w).map fun (q : Nat) => ((h : Int),(q : Int)) := by
 simp [zS,List.range_succ]
theorem V9 (h w : Nat) : (zS h w).length = h * w := by
 induction h with
 | zero => simp [zS]
 | succ h ih => rw [CH,List.length_append,ih,List.length_map,List.length_range,Nat.succ_mul]
theorem qfw {w : Wk} (ok : w.Ok) : 1 ≤ w.pc.length∧w.pc.length ≤ 16 := by
 cases w with
 | line k m => simp only [Wk.pc,ji,List.length_map,List.length_range];exact ok.2
 | block h v =>
  obtain ⟨h1,h2,h3,h4,h5⟩ := ok
  simp only [Wk.pc,V9]
  exact ⟨Nat.mul_le_mul h1 h2,h5⟩
 | step d a m => simp only [Wk.pc,ji,List.length_map,List.length_range];exact ok.2.2
 | cells ps => exact ⟨ok.1,ok.2.1⟩
end Bk
namespace Bk
open PySem L2 L3
def V2 : Sp3 := fun ts G q => ∃ a n,ts = [.ref a]∧Lf G a n∧n < 10000000∧∀ (m : Nat) G',1 ≤ m → m ≤ 16 → Lf G' a (n + 2) → Ext a G G' → q (.int m) G'
theorem KM : ∀ ts G q,V2 ts G q → ts.length = 1∧YO qQ (qdv q) (qs ["_law_left_here"] ts) G := by
 rintro ts G q ⟨a,n,rfl,hL,hn,h⟩
 refine ⟨rfl,?_⟩
 simp only [YO,qR,o3,c3,cb3,qc,v3,qs,List.map_cons,List.map_nil,List.length_cons,List.length_nil,Nat.zero_add,Nat.sub_self,List.replicate_zero,List.append_nil,Nat.lt_add_one,getElem?_pos,List.getElem_cons_zero,VF,qj,Nat.reduceAdd,sizeLine_eq,Nat.reduceLeDiff,z9,ne_eq,true_and]
 intro p hp
 have np := hL.ne hp
 refine zZ (hL.new np) (by omega) (by omega) (by omega) fun d G1 d0 d1 L1 E1 => ?_
 have g := JP (E1 _ _ np qE)
 obtain ⟨z,hz,hm⟩ := qgb (xs := [T.int 5,.int 5,.int 5,.int 5,.int 5,.int 5,.int 8,.int 16]) d0 (by simpa using d1)
 simp only [L3.ixR,g,hz]
 have : ∃ k : Int,z = .int k∧1 ≤ k∧k ≤ 16 := by
  simp only [List.mem_cons,List.not_mem_nil,or_false] at hm
  rcases hm with rfl | rfl | rfl | rfl | rfl | rfl | rfl | rfl <;> exact ⟨_,rfl,by omega,by omega⟩
 obtain ⟨k,rfl,k1,k2⟩ := this
 refine zZ L1 (by omega) (by omega) (by omega) fun e G2 e0 e1 L2' E2 => ?_
 simp
 obtain ⟨e',rfl⟩ := Int.eq_ofNat_of_zero_le e0
 have := h (e' + 1) G2 (by omega) (by omega) (L2'.mono (by omega)) ((YA hp).trans (E1.trans E2))
 rw [show (1 : Int) + (e' : Int) = ((e' + 1 : Nat) : Int) by omega]
 exact this
def pD (p : Int × Int) : PyData := .tuple [.int p.1,.int p.2]
theorem qis (G : Gp) (p : Int × Int) : Dp G (pT p) (pD p) := .tup (.cons (.int _) (.cons (.int _) .nil))
theorem qew (G : Gp) : ∀ ps : List (Int × Int),Dps G (ps.map pT) (ps.map pD)
 | [] => .nil
 | p :: ps => .cons (qis G p) (qew G ps)
theorem qnD (p r : Int × Int) : ZP (pD p) (pD r) = some (decide (p = r)) := by
 obtain ⟨a,b⟩ := p
 obtain ⟨c,d⟩ := r
 simp only [pD,ZP,VZ]
 by_cases h : a = c <;> by_cases h' : b = d <;> simp [h,h']
theorem pIn (r : Int × Int) : ∀ ps : List (Int × Int),qck (pD r) (ps.map pD) = some (decide (r ∈ ps))
 | [] => by simp [qck]
 | p :: ps => by
  simp only [List.map_cons,qck,qnD,pIn r ps]
  by_cases h : p = r
  ·subst h;simp
  ·have h' : ¬ r = p := fun z => h z.symm
   simp [h,h']
theorem qjb (p : Int × Int) : dpt (pD p) ≤ 40 := by simp [pD,dpt,qcS]
def JD : Sp3 := fun ts G q => ∃ a n,ts = [.ref a]∧Lf G a n∧n < 1000000∧∀ (w : Wk) G',w.Ok → Lf G' a (n + 60) → Ext a G G' → q w.t G'
theorem LA : ∀ ts G q,JD ts G q → ts.length = 1∧VD qQ V2 (qdv q) (qs ["_law_left_here","_law_way","_law_lying","_law_high","_law_wide","_law_down","_law_along","_law_pairs","_law_far","_law_turn","_law_pair"] ts) G := by
 rintro ts G q ⟨a,n,rfl,hL,hn,h⟩
 refine ⟨rfl,?_⟩
 unfold VD
 refine jU fun nx1 q1 => ?_
 simp only [zm,cb3,qc,v3,qs,List.map_cons,List.map_nil,List.length_cons,List.length_nil,Nat.zero_add,Nat.reduceAdd,Nat.add_one_sub_one,List.reduceReplicate,List.cons_append,List.nil_append,Nat.zero_lt_succ,getElem?_pos,List.getElem_cons_zero,c3,qj,gn3,List.set_cons_succ,List.set_cons_zero]
 refine zZ hL (by omega) (by omega) (by omega) fun way G1 w0 w1 L1 E1 => ?_
 try simp
 rw [q1]
 clear q1
 refine jU fun nx2 q2 => ?_
 by_cases lt : way < 4
 ·simp only [jq,tb3,o3,v3,List.length_cons,List.length_nil,Nat.zero_add,Nat.reduceAdd,Nat.reduceLT,getElem?_pos,List.getElem_cons_succ,List.getElem_cons_zero,c3,iB,lt,decide_true,↓reduceIte,qR,jr,qc,VF,qj,sizeLine_eq,Nat.reduceLeDiff,cb3,Nat.zero_lt_succ,true_and,ixR]
  intro p hp
  have np := L1.ne hp
  have L3' := L1.new np (ob := .lst [.str "row",.str "column",.str "slant",.str "back"])
  obtain ⟨k,rfl⟩ := Int.eq_ofNat_of_zero_le w0
  have hk : k < 4 := by omega
  have e1 : L2.atI [T.str (Str.ofString "row"),.str (Str.ofString "column"),.str (Str.ofString "slant"),.str (Str.ofString "back")] (k : Int) = some (.str (YL k)) := by
   rcases k with _ | _ | _ | _ | k
   ·rfl
   ·rfl
   ·rfl
   ·rfl
   ·omega
  simp only [L3.ixR,JP qE,e1]
  refine ⟨a,_,rfl,L3',by omega,fun m G2 m1 m2 L4 E4 => ?_⟩
  exact h (.line k m) _ ⟨hk,m1,m2⟩ (L4.mono (by omega)) (E1.trans ((YA hp).trans E4))
 simp only [jq,tb3,o3,v3,c3,iB,List.getElem?_cons_zero,List.getElem?_cons_succ,lt,decide_false,Bool.false_eq_true,if_false,qL]
 rw [q2]
 clear q2
 refine jU fun nx3 q3 => ?_
 by_cases lt6 : way < 6
 ·simp only [jq,tb3,o3,v3,c3,iB,List.getElem?_cons_zero,List.getElem?_cons_succ,lt6,decide_true,if_true]
  refine jU fun nx4 q4 => ?_
  simp only [CY,qc,cb3,v3,List.length_cons,List.length_nil,Nat.zero_add,Nat.reduceAdd,Nat.zero_lt_succ,getElem?_pos,List.getElem_cons_zero,c3,qj,o3,z9,ne_eq,sizeLine_eq,List.set_cons_succ,List.set_cons_zero]
  refine zZ L1 (by omega) (by omega) (by omega) fun ly G2 y0 y1 L2' E2 => ?_
  try simp
  refine zZ L2' (by omega) (by omega) (by omega) fun hi G3 h0 h1 L3' E3 => ?_
  try simp
  rw [q4]
  clear q4
  obtain ⟨hh,rfl⟩ := Int.eq_ofNat_of_zero_le h0
  refine jU fun nx5 q5 => ?_
  simp only [zm,o3,c3,cb3,qc,v3,List.length_cons,List.length_nil,Nat.zero_add,Nat.reduceAdd,Nat.zero_lt_succ,getElem?_pos,List.getElem_cons_zero,Nat.reduceLT,List.getElem_cons_succ,iC,qj,z9,ne_eq,sizeLine_eq,gn3,List.set_cons_succ,List.set_cons_zero]
  have dv : 1 ≤ (16 : Int) / (1 + (hh : Int))∧(16 : Int) / (1 + (hh : Int)) ≤ 16 := by
   have : hh = 0 ∨ hh = 1 ∨ hh = 2 ∨ hh = 3 := by omega
   rcases this with rfl | rfl | rfl | rfl <;> decide
  refine ⟨⟨by omega,by omega⟩,zZ L3' (by omega) (by omega) (by omega) fun wi G4 u0 u1 L4 E4 => ?_⟩
  try simp
  rw [q5]
  clear q5
  obtain ⟨ww,rfl⟩ := Int.eq_ofNat_of_zero_le u0
  have pr : (hh + 1) * (ww + 1) ≤ 16 := by
   have : hh = 0 ∨ hh = 1 ∨ hh = 2 ∨ hh = 3 := by omega
   rcases this with rfl | rfl | rfl | rfl <;> simp at u1 <;> omega
  simp only [qR,o3,VF,qc,jr,c3,v3,List.length_cons,List.length_nil,Nat.zero_add,Nat.reduceAdd,Nat.reduceLT,getElem?_pos,List.getElem_cons_succ,List.getElem_cons_zero,qj,sizeLine_eq,Nat.reduceLeDiff,ixR,true_and]
  intro p hp
  have np := L4.ne hp
  have X4 := E1.trans (E2.trans (E3.trans E4))
  have z1 : (1 : Int) + (hh : Int) = ((hh + 1 : Nat) : Int) := by omega
  have z2 : (1 : Int) + (ww : Int) = ((ww + 1 : Nat) : Int) := by omega
  rw [z1,z2]
  have hl : ly = 0 ∨ ly = 1 := by omega
  rcases hl with rfl | rfl
  ·simp only [L3.ixR,JP qE,qnF]
   exact h (.block (hh + 1) (ww + 1)) _ ⟨by omega,by omega,by omega,by omega,pr⟩ ((L4.new np).mono (by omega)) (X4.trans (YA hp))
  ·simp only [L3.ixR,JP qE,qnf]
   exact h (.block (ww + 1) (hh + 1)) _ ⟨by omega,by omega,by omega,by omega,by rw [Nat.mul_comm];exact pr⟩ ((L4.new np).mono (by omega)) (X4.trans (YA hp))
 simp only [jq,tb3,o3,v3,c3,iB,List.getElem?_cons_zero,List.getElem?_cons_succ,lt6,decide_false,Bool.false_eq_true,if_false,qL]
 rw [q3]
 clear q3
 refine jU fun nx4 q4 => ?_
 by_cases lt8 : way < 8
 ·simp only [jq,tb3,o3,v3,c3,iB,List.getElem?_cons_zero,List.getElem?_cons_succ,lt8,decide_true,if_true]
  refine jU fun nx5 q5 => ?_
  simp only [CY,qc,o3,cb3,v3,List.length_cons,List.length_nil,Nat.zero_add,Nat.reduceAdd,Nat.zero_lt_succ,getElem?_pos,List.getElem_cons_zero,c3,qj,iI,List.set_cons_succ,List.set_cons_zero]
  refine zZ L1 (by omega) (by omega) (by omega) fun d G2 d0 d1 L2' E2 => ?_
  try simp
  refine zZ L2' (by omega) (by omega) (by omega) fun al G3 a0 a1 L3' E3 => ?_
  try simp
  rw [q5]
  clear q5
  obtain ⟨D,hD⟩ : ∃ D,D = d - 3 := ⟨_,rfl⟩
  obtain ⟨A,hA⟩ : ∃ A,A = al - 4 := ⟨_,rfl⟩
  rw [← hD,← hA]
  refine jU fun nx6 q6 => ?_
  simp only [jq,tb3,o3,cb3,qc,v3,List.length_cons,List.length_nil,Nat.zero_add,Nat.reduceAdd,Nat.zero_lt_succ,getElem?_pos,List.getElem_cons_zero,c3,qj,jQ,JM,Bool.false_eq_true,↓reduceIte,qR,jr,Nat.reduceLT,List.getElem_cons_succ,iC,jY,decide_eq_true_eq,qah,z9,ne_eq,sizeLine_eq,Nat.reduceLeDiff,true_and,Int.add_zero,qL,exists_and_left,Bool.exists_bool]
  refine zZ L3' (by omega) (by omega) (by omega) fun six G4 s0 s1 L4 E4 => ?_
  have X4 := E1.trans (E2.trans (E3.trans E4))
  by_cases k0 : six = 0
  ·subst k0
   simp only [decide_true,↓reduceIte]
   refine ⟨cm (by omega) (by omega),cm (by omega) (by omega),?_⟩
   have fin : ∀ e : Int,0 ≤ e → e ≤ 1 → qQ [.ref a,.int 4] G4 fun x G' => (match T.int 1,x with | .int i,.int j => q (.tup [.str (Str.ofString "step"),.int (5 * D),.int (3 * A + e),.int (i + j)]) G' | _,_ => False) := by
    intro e e0 e1
    refine zZ L4 (by omega) (by omega) (by omega) fun m G5 m0 m1 L5 E5 => ?_
    obtain ⟨m',rfl⟩ := Int.eq_ofNat_of_zero_le m0
    have := h (.step (5 * D) (3 * A + e) (m' + 1)) G5 ⟨⟨by omega,by omega⟩,⟨by omega,by omega⟩,by omega,by omega⟩ (L5.mono (by omega)) (X4.trans E5)
    simp only [Wk.t] at this
    rw [show ((m' + 1 : Nat) : Int) = 1 + (m' : Int) by omega] at this
    exact this
   by_cases hD0 : D = 0
   ·by_cases hA0 : A = 0
    ·have := fin 1 (by omega) (by omega)
     simp only [hD0,Int.mul_zero,hA0,Int.zero_add,↓reduceIte] at this ⊢
     exact this
    ·have := fin 0 (by omega) (by omega)
     simp only [hD0,Int.mul_zero,Int.add_zero,↓reduceIte,hA0] at this ⊢
     exact this
   ·have := fin 0 (by omega) (by omega)
    simp only [Int.add_zero,hD0,↓reduceIte] at this ⊢
    exact this
  ·simp [k0]
   rw [q6]
   clear q6
   have fin : ∀ e : Int,0 ≤ e → e ≤ 1 → V2 [.ref a] G4 fun x G' => q (.tup [.str (Str.ofString "step"),.int D,.int (A + e),x]) G' := by
    intro e e0 e1
    refine ⟨a,_,rfl,L4,by omega,fun m G5 m0 m1 L5 E5 => ?_⟩
    exact h (.step D (A + e) m) G5 ⟨⟨by omega,by omega⟩,⟨by omega,by omega⟩,by omega,by omega⟩ (L5.mono (by omega)) (X4.trans E5)
   by_cases hD0 : D = 0
   ·by_cases hA0 : A = 0
    ·have := fin 1 (by omega) (by omega)
     simp only [hD0,hA0,Int.zero_add,qR,jr,qc,c3,v3,List.length_cons,List.length_nil,Nat.zero_add,Nat.reduceAdd,Nat.reduceLT,getElem?_pos,List.getElem_cons_succ,List.getElem_cons_zero,o3,cb3,jY,jQ,JM,decide_true,Bool.false_eq_true,↓reduceIte,qj,qah,z9,Nat.zero_lt_succ,sizeLine_eq,Nat.reduceLeDiff,true_and] at this ⊢
     exact this
    ·have := fin 0 (by omega) (by omega)
     simp only [hD0,Int.add_zero,qR,jr,qc,c3,v3,List.length_cons,List.length_nil,Nat.zero_add,Nat.reduceAdd,Nat.reduceLT,getElem?_pos,List.getElem_cons_succ,List.getElem_cons_zero,o3,cb3,jY,jQ,JM,decide_true,Bool.false_eq_true,↓reduceIte,hA0,decide_false,qj,qah,z9,Nat.zero_lt_succ,sizeLine_eq,Nat.reduceLeDiff,true_and] at this ⊢
     exact this
   ·have := fin 0 (by omega) (by omega)
    simp only [Int.add_zero,qR,jr,qc,c3,v3,List.length_cons,List.length_nil,Nat.zero_add,Nat.reduceAdd,Nat.reduceLT,getElem?_pos,List.getElem_cons_succ,List.getElem_cons_zero,o3,cb3,jY,jQ,JM,hD0,decide_false,Bool.false_eq_true,↓reduceIte,qj,qah,z9,Nat.zero_lt_succ,sizeLine_eq,Nat.reduceLeDiff,true_and] at this ⊢
    exact this
 simp only [jq,tb3,o3,v3,c3,iB,List.getElem?_cons_zero,List.getElem?_cons_succ,lt8,decide_false,Bool.false_eq_true,if_false,qL]
 rw [q4]
 clear q4
 refine jU fun nx5 q5 => ?_
 simp only [CY,qc,VF,qj,List.length_nil,sizeLine_eq,Nat.zero_le,o3,c3,cb3,v3,List.length_cons,Nat.zero_add,Nat.reduceAdd,Nat.zero_lt_succ,getElem?_pos,List.getElem_cons_zero,jQ,JM,qah,iC,Bool.false_eq_true,↓reduceIte,z9,List.set_cons_succ,List.set_cons_zero,ne_eq,exists_and_left,Bool.exists_bool,Int.mul_zero,Int.add_zero,Int.mul_one,Int.reduceAdd,true_and]
 intro pp hpp
 have npp := L1.ne hpp
 have Lp := L1.new npp (ob := .lst [])
 refine zZ Lp (by omega) (by omega) (by omega) fun fv G2 f0 f1 L2' E2 => ?_
 have gp2 := E2 _ _ npp qE
 have X2 : Ext a G G2 := E1.trans ((YA hpp).trans E2)
 have hf : ∃ far : Int,(far = 1 ∨ far = 5)∧nx5 = nx5 := ⟨1,.inl rfl,rfl⟩
 clear hf
 have fin : ∀ far : Int,far = 1 ∨ far = 5 → nx5 [some (.ref a),some (.int way),none,none,none,none,none,some (.ref pp),some (.int far),none,none] G2 := by
  intro far hfar
  rw [q5]
  clear q5
  refine jU fun nx6 q6 => ?_
  simp only [RK,jO,cb3,qc,qj,v3,List.getElem?_cons_zero,List.getElem?_cons_succ]
  refine ⟨a,_,rfl,L2',by omega,fun m G3 m1 m2 L3' E3 => ?_⟩
  have gp3 := E3 _ _ npp gp2
  refine ⟨⟨by omega,by omega⟩,?_⟩
  rw [Int.toNat_natCast]
  refine WX _ (fun i τ G' => ∃ ps : List (Int × Int),G' pp = some (.lst (ps.map pT))∧(1 ≤ i → 1 ≤ ps.length)∧ps.length ≤ i∧ps.Nodup∧(∀ p ∈ ps,(-16 ≤ p.1∧p.1 ≤ 16)∧(-16 ≤ p.2∧p.2 ≤ 16))∧Lf G' a (n + 5 + 2 * i)∧Ext a G G'∧∃ x9 x10,τ = [some (.ref a),some (.int way),none,none,none,none,none,some (.ref pp),some (.int far),x9,x10])
   ⟨[],gp3,by omega,by simp,by simp,(by intro p hp;cases hp),by simpa using L3'.mono (by omega),X2.trans E3,none,none,rfl⟩ (fun _ _ _ _ _ => True.intro) ?_ ?_
  ·rintro i z τ G' nx hz ⟨ps,gp,i1,pl,nd,bd,L,E,x9,x10,rfl⟩ hnx
   obtain ⟨hi,rfl⟩ := qbr hz
   simp only [gn3,List.set_cons_succ,List.set_cons_zero]
   refine jU fun nx7 q7 => ?_
   simp only [zm,jr,qc,o3,v3,Int.zero_add,List.length_cons,List.length_nil,Nat.zero_add,Nat.reduceAdd,Nat.reduceLT,getElem?_pos,List.getElem_cons_succ,List.getElem_cons_zero,cb3,Nat.zero_lt_succ,c3,qj,iI,iC,sizeLine_eq,Nat.reduceLeDiff,gn3,List.set_cons_succ,List.set_cons_zero,true_and]
   refine zZ L (by omega) (by omega) (by omega) fun u G4 u0 u1 L4 E4 => ?_
   try simp
   refine ⟨cm (by omega) (by omega),zZ L4 (by omega) (by omega) (by omega) fun v G5 v0 v1 L5 E5 => ?_⟩
   try simp
   refine ⟨cm (by omega) (by omega),?_⟩
   rw [q7]
   clear q7
   have gp5 := E5 _ _ npp (E4 _ _ npp gp)
   have X5 := E.trans (E4.trans E5)
   have pe : T.tup [.int (far * (u - 2)),.int (far * (v - 2))] = pT (far * (u - 2),far * (v - 2)) := rfl
   rw [pe]
   have pb : (-16 ≤ far * (u - 2)∧far * (u - 2) ≤ 16)∧(-16 ≤ far * (v - 2)∧far * (v - 2) ≤ 16) := by rcases hfar with rfl | rfl <;> omega
   generalize hP : (far * (u - 2),far * (v - 2)) = P at *
   have pb' : (-16 ≤ P.1∧P.1 ≤ 16)∧(-16 ≤ P.2∧P.2 ≤ 16) := by rw [← hP];exact pb
   simp only [jq,tb3,o3,v3,List.getElem?_cons_zero,List.getElem?_cons_succ]
   refine ⟨_,_,_,_,JP gp5,qis _ _,qew _ _,pIn _ _,fun d hd => ?_,?_⟩
   ·obtain ⟨p,_,rfl⟩ := List.mem_map.mp hd
    exact qjb p
   ·by_cases hm : P ∈ ps
    ·simp only [↓reduceIte,hm,decide_true,Bool.not_true,Bool.false_eq_true,qL]
     exact hnx _ _ ⟨ps,gp5,fun _ => List.length_pos_of_mem hm,by omega,nd,bd,L5.mono (by omega),X5,_,_,rfl⟩
    ·simp only [↓reduceIte,hm,decide_false,Bool.not_false,W9,bm3,v3,List.length_cons,List.length_nil,Nat.zero_add,Nat.reduceAdd,Nat.reduceLT,getElem?_pos,List.getElem_cons_succ,List.getElem_cons_zero,qc,Nat.lt_add_one,qj,qe7,gp5,List.length_map,sizeLine_eq]
     refine ⟨by rw [JP gp5];rfl,by omega,?_⟩
     refine hnx _ _ ⟨ps ++ [P],by rw [qE];simp,fun _ => by simp,by simp;omega,?_,fun p hp => ?_,L5.new npp |>.mono (by omega),fun b o hb eb => ?_,_,_,rfl⟩
     ·rw [List.nodup_append]
      exact ⟨nd,by simp,fun x hx y hy => by simp at hy;subst hy;rintro rfl;exact hm hx⟩
     ·rcases List.mem_append.mp hp with hp | hp
      ·exact bd p hp
      ·simp at hp;subst hp;exact pb'
     ·have : b ≠ pp := by
       rintro rfl
       have := E1 _ _ hb eb
       rw [hpp] at this;cases this
      rw [jR this]
      exact X5 _ _ hb eb
  ·rintro τ G' ⟨ps,gp,i1,pl,nd,bd,L,E,x9,x10,rfl⟩
   rw [qbC] at i1 pl L
   show nx6 _ _
   rw [q6]
   simp only [qR,jr,qc,c3,cb3,v3,List.length_cons,List.length_nil,Nat.zero_add,Nat.reduceAdd,Nat.reduceLT,getElem?_pos,List.getElem_cons_succ,List.getElem_cons_zero,qj,VJ,JP gp,sizeLine_eq,Nat.reduceLeDiff,true_and]
   exact h (.cells ps) G' ⟨i1 m1,by omega,nd,bd⟩ (L.mono (by omega)) E
 by_cases k0 : fv = 0
 ·have := fin 5 (.inr rfl)
  simp only [k0,decide_true,↓reduceIte,Int.mul_one,Int.reduceAdd]
  exact ⟨cm (by omega) (by omega),this⟩
 ·have := fin 1 (.inl rfl)
  simp only [k0,decide_false,Bool.false_eq_true,↓reduceIte,Int.mul_zero,Int.add_zero]
  exact ⟨cm (by omega) (by omega),this⟩
end Bk
namespace Bk
open PySem L2 L3
end Bk
namespace Bk
open PySem L2 L3
end Bk
namespace Bk
open PySem L2 L3
end Bk
namespace Bk
open PySem L2 L3
end Bk
namespace Bk
open PySem L2 L3
def Un2 (ns : List Int) (i : Nat) : Prop := ∀ a b,a < i → a < b → b < ns.length → ns[a]? ≠ ns[b]?
structure Fst (ns : List Int) (i j : Nat) : Prop where
 ij : i < j
 jl : j < ns.length
 un : Un2 ns i
 nb : ∀ b,i < b → b < j → ns[i]? ≠ ns[b]?
 eq : ns[i]? = ns[j]?
theorem Fst.uniq {ns : List Int} {i j i' j' : Nat} (F : Fst ns i j) (F' : Fst ns i' j') : i = i'∧j = j' := by
 have e : i = i' := by
  rcases Nat.lt_trichotomy i i' with z | z | z
  ·exact absurd F.eq (F'.un i j z F.ij F.jl)
  ·exact z
  ·exact absurd F'.eq (F.un i' j' z F'.ij F'.jl)
 subst e
 refine ⟨rfl,?_⟩
 rcases Nat.lt_trichotomy j j' with z | z | z
 ·exact absurd F.eq (F'.nb j F.ij z)
 ·exact z
 ·exact absurd F'.eq (F.nb j' F'.ij z)
open Classical in
def faO (ns : List Int) : Option (Nat × Nat) := if h : ∃ ij : Nat × Nat,Fst ns ij.1 ij.2 then some h.choose else none
theorem zU {ns : List Int} {i j : Nat} (F : Fst ns i j) : faO ns = some (i,j) := by
 have h : ∃ ij : Nat × Nat,Fst ns ij.1 ij.2 := ⟨(i,j),F⟩
 unfold faO
 rw [dif_pos h]
 have := h.choose_spec
 obtain ⟨e1,e2⟩ := this.uniq F
 exact congrArg some (Prod.ext e1 e2)
theorem jB {ns : List Int} (h : Un2 ns ns.length) : faO ns = none := by
 unfold faO
 rw [dif_neg]
 rintro ⟨ij,F⟩
 exact h ij.1 ij.2 (Nat.lt_trans F.ij F.jl) F.ij F.jl F.eq
end Bk
namespace Bk
open PySem L2 L3
def Y6 (S_cells_of : Sp3) : TS3 := (qM (zm (v3 1) (jm 2 (qu (gn3 3) (qu (gn3 4) je)))) (qR (cb3 VJ (qc (lc3 (U6 (cb3 S_cells_of (qc (v3 2) qj))) (jm 2 (qu (gn3 0) (qu (gn3 1) je))) tt3 (o3 (iC (fun _ j => 0 < j) (· % ·)) (o3 z9 (o3 (iC QP (· * ·)) (v3 3) (v3 0)) (o3 (iC QP (· * ·)) (v3 4) (v3 1))) (v3 2)) [none,none,some 0,some 3,some 4]) qj))))
theorem E7 {ns : List Int} (h : ¬ Un2 ns ns.length) : ∃ i j,Fst ns i j := by
 have key : ∀ k,k ≤ ns.length → Un2 ns k ∨ ∃ i j,Fst ns i j := by
  intro k
  induction k with
  | zero => exact fun _ => .inl fun a b ha => by omega
  | succ k ih =>
   intro hk
   rcases ih (by omega) with hu | he
   ·have inner : ∀ n,(∀ b,k < b → b < k + 1 + n → b < ns.length → ns[k]? ≠ ns[b]?) ∨ ∃ j,Fst ns k j := by
     intro n
     induction n with
     | zero => exact .inl fun b h1 h2 => by omega
     | succ n ihn =>
      rcases ihn with hn | he
      ·by_cases hb : k + 1 + n < ns.length∧ns[k]? = ns[k + 1 + n]?
       ·exact .inr ⟨k + 1 + n,by omega,hb.1,hu,fun b h1 h2 => hn b h1 h2 (by omega),hb.2⟩
       ·refine .inl fun b h1 h2 h3 => ?_
        by_cases e : b = k + 1 + n
        ·subst e;exact fun z => hb ⟨h3,z⟩
        ·exact hn b h1 (by omega) h3
      ·exact .inr he
    rcases inner ns.length with hn | ⟨j,F⟩
    ·refine .inl fun a b ha hab hb => ?_
     by_cases e : a = k
     ·subst e;exact hn b hab (by omega) hb
     ·exact hu a b (by omega) hab hb
    ·exact .inr ⟨k,j,F⟩
   ·exact .inr he
 rcases key ns.length (Nat.le_refl _) with hu | he
 ·exact absurd hu h
 ·exact he
end Bk
namespace Bk
open PySem L2 L3
end Bk
namespace Bk
open PySem L2 L3
end Bk
namespace Bk
open PySem L2 L3
end Bk
namespace Bk
open PySem L2 L3
end Bk
namespace Pu
open PySem L2 L3
def cif {α : Type} (P : Prop) (a b : α) : α := @ite α P (Classical.propDecidable P) a b
theorem zC {α : Type} {P : Prop} {a b : α} (h : P) : cif P a b = a := @if_pos P (Classical.propDecidable P) h α a b
theorem D7 {α : Type} {P : Prop} {a b : α} (h : ¬ P) : cif P a b = b := @if_neg P (Classical.propDecidable P) h α a b
structure Tru (b : Bool) : Prop where
 h : b = true
mutual
inductive Dq (G : Gp) : T → PyData → Prop
 | non : Dq G .non .none
 | bl (b : Bool) : Dq G (.bl b) (.bool b)
 | int (i : Int) : Dq G (.int i) (.int i)
 | str (x : Str) : Dq G (.str x) (.str x)
 | tup {xs : List T} {ds : List PyData} : Dqs G xs ds → Dq G (.tup xs) (.tuple ds)
 | lst {p : Addr} {xs : List T} {ds : List PyData} : G p = some (.lst xs) → Dqs G xs ds → Dq G (.ref p) (.list ds)
inductive Dqs (G : Gp) : List T → List PyData → Prop
 | nil : Dqs G [] []
 | cons {x : T} {d : PyData} {xs : List T} {ds : List PyData} : Dq G x d → Dqs G xs ds → Dqs G (x :: xs) (d :: ds)
end
mutual
theorem Dq.up {G G' : Gp} (e : Ex G G') : ∀ {x : T} {d : PyData},Dq G x d → Dq G' x d
 | _,_,.non => .non
 | _,_,.bl b => .bl b
 | _,_,.int i => .int i
 | _,_,.str x => .str x
 | _,_,.tup h => .tup (Dqs.up e h)
 | _,_,.lst h1 h2 => .lst (e _ _ h1) (Dqs.up e h2)
theorem Dqs.up {G G' : Gp} (e : Ex G G') : ∀ {x : List T} {d : List PyData},Dqs G x d → Dqs G' x d
 | _,_,.nil => .nil
 | _,_,.cons a b => .cons (Dq.up e a) (Dqs.up e b)
end
theorem zG {G : Gp} {p : Addr} {xs : List T} (h : G p = some (.lst xs)) : getL G p = some xs := by unfold getL;rw [h]
mutual
theorem Dq.dp {G : Gp} : ∀ {x : T} {d : PyData},Dq G x d → Dp G x d
 | _,_,.non => .non
 | _,_,.bl b => .bl b
 | _,_,.int i => .int i
 | _,_,.str x => .str x
 | _,_,.tup h => .tup (Dqs.dp h)
 | _,_,.lst h1 h2 => .lst (zG h1) (Dqs.dp h2)
theorem Dqs.dp {G : Gp} : ∀ {x : List T} {d : List PyData},Dqs G x d → Dps G x d
 | _,_,.nil => .nil
 | _,_,.cons a b => .cons (Dq.dp a) (Dqs.dp b)
end
theorem Dqs.length {G : Gp} : ∀ {xs : List T} {ds : List PyData},Dqs G xs ds → xs.length = ds.length
 | _,_,.nil => rfl
 | _,_,.cons _ b => by simp [Dqs.length b]
theorem Dqs.get {G : Gp} : ∀ {xs : List T} {ds : List PyData} {i : Nat} {d : PyData},Dqs G xs ds → ds[i]? = some d → ∃ x,xs[i]? = some x∧Dq G x d
 | _,_,_,_,.nil,e => by simp at e
 | _,_,0,_,.cons r _,e => by simp at e;subst e;exact ⟨_,rfl,r⟩
 | _,_,i + 1,d,.cons _ t,e => by
  obtain ⟨u,h1,h2⟩ := Dqs.get (i := i) (d := d) t (by simpa using e)
  exact ⟨u,by simpa using h1,h2⟩
theorem Dqs.append {G : Gp} : ∀ {xs : List T} {ds : List PyData} {ys : List T} {es : List PyData},Dqs G xs ds → Dqs G ys es → Dqs G (xs ++ ys) (ds ++ es)
 | _,_,_,_,.nil,h => h
 | _,_,_,_,.cons a b,h => .cons a (Dqs.append b h)
theorem Dqs.drop {G : Gp} : ∀ {xs : List T} {ds : List PyData} (n : Nat),Dqs G xs ds → Dqs G (xs.drop n) (ds.drop n)
 | _,_,0,h => h
 | _,_,_ + 1,.nil => .nil
 | _,_,n + 1,.cons _ b => Dqs.drop n b
theorem Dqs.take {G : Gp} : ∀ {xs : List T} {ds : List PyData} (n : Nat),Dqs G xs ds → Dqs G (xs.take n) (ds.take n)
 | _,_,0,h => by simp;exact .nil
 | _,_,_ + 1,.nil => .nil
 | _,_,n + 1,.cons a b => .cons a (Dqs.take n b)
theorem Dqs.ints {G : Gp} : ∀ {ns : List Int} {xs : List T},Dqs G xs (ns.map PyData.int) → xs = ns.map T.int
 | [],_,.nil => rfl
 | n :: ns,_,.cons a b => by cases a;rw [Dqs.ints b];rfl
theorem Dqs.ofInts {G : Gp} : ∀ (ns : List Int),Dqs G (ns.map T.int) (ns.map PyData.int)
 | [] => .nil
 | n :: r => .cons (.int n) (Dqs.ofInts r)
def rs (D : Addr → Prop) (G : Gp) : Gp := fun b => cif (D b) none (G b)
theorem qI {D : Addr → Prop} {G : Gp} {b : Addr} {o : O} (h : rs D G b = some o) : ¬ D b∧G b = some o := by
 unfold rs cif at h
 split at h
 ·cases h
 ·rename_i n;exact ⟨n,h⟩
theorem jZ {D : Addr → Prop} {G : Gp} {b : Addr} (n : ¬ D b) : rs D G b = G b := by unfold rs;exact D7 n
theorem YC {D : Addr → Prop} {G : Gp} : Ex (rs D G) G := fun b o h => (qI h).2
theorem j1 {D : Addr → Prop} {G G' : Gp} (e : Ex G G') : Ex (rs D G) (rs D G') := fun b o h => by
 obtain ⟨n,h⟩ := qI h
 rw [jZ n];exact e _ _ h
theorem jb {D D' : Addr → Prop} {G : Gp} (h : ∀ b,D' b → D b) : Ex (rs D G) (rs D' G) := fun b o e => by
 obtain ⟨n,e⟩ := qI e
 rw [jZ fun z => n (h b z)];exact e
def Dom (D : Addr → Prop) (G : Gp) : Prop := ∀ b,D b → G b ≠ none
theorem Dom.up {D : Addr → Prop} {G G' : Gp} (h : Dom D G) (e : Ex G G') : Dom D G' := fun b d z => by
 cases g : G b with
 | none => exact h b d g
 | some o => rw [e _ _ g] at z;cases z
theorem qkc {D : Addr → Prop} {G : Gp} {p : Addr} {o : O} (hd : Dom D G) (hp : G p = none) : rs D (gu G p o) p = some o := by
 rw [jZ fun z => hd p z hp,qE]
inductive Sl where
 | un | sh (d : PyData) | ow (ds : List PyData)
abbrev Rho := List Sl
def Sl.d : Sl → Option PyData
 | .un => none | .sh d => some d | .ow ds => some (.list ds)
def vw (ρ : Rho) (i : Nat) : Option PyData := (ρ[i]?).bind Sl.d
def XY (fv : List Nat) (D : Addr → Prop) (G : Gp) (τ : St3) (ρ : Rho) : Prop := ∀ i ∈ fv,∀ d,vw ρ i = some d → ∃ t,τ[i]? = some (some t)∧Dq (rs D G) t d
theorem XY.up {fv : List Nat} {D : Addr → Prop} {G G' : Gp} {τ : St3} {ρ : Rho} (h : XY fv D G τ ρ) (e : Ex G G') : XY fv D G' τ ρ := fun i hi d hd =>
 let ⟨t,a,b⟩ := h i hi d hd;⟨t,a,b.up (j1 e)⟩
theorem XY.l {fv gv : List Nat} {D : Addr → Prop} {G : Gp} {τ : St3} {ρ : Rho} (h : XY (fv ++ gv) D G τ ρ) : XY fv D G τ ρ := fun i hi => h i (by simp [hi])
theorem XY.r {fv gv : List Nat} {D : Addr → Prop} {G : Gp} {τ : St3} {ρ : Rho} (h : XY (fv ++ gv) D G τ ρ) : XY gv D G τ ρ := fun i hi => h i (by simp [hi])
def Nw (D : Addr → Prop) (G G' : Gp) (x : T) (d : PyData) : Prop := d = .none ∨ ∃ p xs ds,x = .ref p∧d = .list ds∧G p = none∧G' p = some (.lst xs)∧Dqs (rs (fun b => D b ∨ b = p) G') xs ds
theorem Nw.back {D : Addr → Prop} {G0 G G' : Gp} {x : T} {d : PyData} (h : Nw D G G' x d) (e : Ex G0 G) : Nw D G0 G' x d := by
 rcases h with h | ⟨p,xs,ds,a,b,c,r⟩
 ·exact .inl h
 refine .inr ⟨p,xs,ds,a,b,?_,r⟩
 cases z : G0 p with
 | none => rfl
 | some o => rw [e _ _ z] at c;cases c
structure PuE (t : TE3) where
 f : Rho → Option PyData
 fv : List Nat
 nw : Bool
 ok : ∀ {D τ ρ G} {q : Q3} {d},XY fv D G τ ρ → Dom D G → f ρ = some d → (∀ x G',Ex G G' → Dq (rs D G') x d → (nw = true → Nw D G G' x d) → q x G') → t τ G q
structure PuC (t : TT3) where
 f : Rho → Option Bool
 fv : List Nat
 ok : ∀ {D τ ρ G} {q : Bool → Gp → Prop} {k},XY fv D G τ ρ → Dom D G → f ρ = some k → (∀ G',Ex G G' → q k G') → t τ G q
structure PuA (t : TA3) where
 f : Rho → Option (List PyData)
 fv : List Nat
 n : Nat
 ln : ∀ {ρ d},f ρ = some d → d.length = n
 ok : ∀ {D τ ρ G} {q : List T → Gp → Prop} {d},XY fv D G τ ρ → Dom D G → f ρ = some d → (∀ x G',Ex G G' → Dqs (rs D G') x d → q x G') → t τ G q
structure PuO (t : TO3) where
 f : Rho → Option (Option Int)
 fv : List Nat
 ok : ∀ {D τ ρ G} {q : Option Int → Gp → Prop} {k},XY fv D G τ ρ → Dom D G → f ρ = some k → (∀ G',Ex G G' → q k G') → t τ G q
structure PuI (t : TI3) where
 f : Rho → Option (List PyData)
 fv : List Nat
 /-- numbers alone -/
 nm : Bool
 ok : ∀ {D τ ρ G} {r : List T → (Gp → Prop) → Gp → Prop} {ds},XY fv D G τ ρ → Dom D G → f ρ = some ds →
  (∀ items stay G',Ex G G' → Dqs (rs D G') items ds → (∀ G'',(nm = true ∨ Ex (rs D G') G'') → stay G'') → (nm = true → ∃ ns : List Int,ds = ns.map PyData.int) → r items stay G') → t τ G r
structure OpD (r : R3) where
 f : PyData → PyData → Option PyData
 nw : Bool
 ok : ∀ {D G x y d e v} {q : Q3},Dq (rs D G) x d → Dq (rs D G) y e → Dom D G → f d e = some v → (∀ z G',Ex G G' → Dq (rs D G') z v → (nw = true → Nw D G G' z v) → q z G') → r x y G q
structure FnD (r : List T → Gp → Q3 → Prop) where
 f : List PyData → Option PyData
 nw : Bool
 ok : ∀ {D G xs ds v} {q : Q3},Dqs (rs D G) xs ds → Dom D G → f ds = some v → (∀ z G',Ex G G' → Dq (rs D G') z v → (nw = true → Nw D G G' z v) → q z G') → r xs G q
def bV (i : Nat) : PuE (v3 i) := ⟨fun ρ => vw ρ i,[i],false,fun hv hd hf k => by
 obtain ⟨t,e,h⟩ := hv i (by simp) _ hf
 unfold v3
 rw [e]
 exact k t _ Ex.refl h (fun z => by cases z)⟩
def qN (i : Int) : PuE (c3 (.int i)) := ⟨fun _ => some (.int i),[],false,fun hv hd hf k => by cases hf;exact k _ _ Ex.refl (.int i) (fun z => by cases z)⟩
def bBl (i : Bool) : PuE (c3 (.bl i)) := ⟨fun _ => some (.bool i),[],false,fun hv hd hf k => by cases hf;exact k _ _ Ex.refl (.bl i) (fun z => by cases z)⟩
def C1 (i : Str) : PuE (c3 (.str i)) := ⟨fun _ => some (.str i),[],false,fun hv hd hf k => by cases hf;exact k _ _ Ex.refl (.str i) (fun z => by cases z)⟩
def qhd : PuE (c3 .non) := ⟨fun _ => some .none,[],false,fun hv hd hf k => by cases hf;exact k _ _ Ex.refl .non (fun z => by cases z)⟩
def bO {r : R3} {ta tb : TE3} (R : OpD r) (a : PuE ta) (b : PuE tb) : PuE (o3 r ta tb) :=
 ⟨fun ρ => (a.f ρ).bind fun x => (b.f ρ).bind fun y => R.f x y,a.fv ++ b.fv,R.nw,fun hv hd hf k => by
  obtain ⟨x,e1,hf⟩ := Option.bind_eq_some_iff.mp hf
  obtain ⟨y,e2,hf⟩ := Option.bind_eq_some_iff.mp hf
  exact a.ok hv.l hd e1 fun x' G1 E1 D1 _ => b.ok (hv.r.up E1) (hd.up E1) e2 fun y' G2 E2 D2 _ => R.ok (D1.up (j1 E2)) D2 ((hd.up E1).up E2) hf fun z G3 E3 D3 N3 => k z G3 ((E1.trans E2).trans E3) D3 fun h => (N3 h).back (E1.trans E2)⟩
def qD : PuA qj := ⟨fun _ => some [],[],0,(fun h => by cases h;rfl),fun hv hd hf k => by cases hf;exact k _ _ Ex.refl .nil⟩
def qf {ta : TE3} {tr : TA3} (a : PuE ta) (r : PuA tr) : PuA (qc ta tr) :=
 ⟨fun ρ => (a.f ρ).bind fun x => (r.f ρ).bind fun xs => some (x :: xs),a.fv ++ r.fv,r.n + 1,(fun hf => by
  obtain ⟨x,e1,hf⟩ := Option.bind_eq_some_iff.mp hf
  obtain ⟨xs,e2,hf⟩ := Option.bind_eq_some_iff.mp hf
  cases hf
  simp [r.ln e2]),fun hv hd hf k => by
  obtain ⟨x,e1,hf⟩ := Option.bind_eq_some_iff.mp hf
  obtain ⟨xs,e2,hf⟩ := Option.bind_eq_some_iff.mp hf
  cases hf
  exact a.ok hv.l hd e1 fun x' G1 E1 D1 _ => r.ok (hv.r.up E1) (hd.up E1) e2 fun y' G2 E2 D2 => k _ G2 (E1.trans E2) (.cons (D1.up (j1 E2)) D2)⟩
theorem few {n : Nat} (h : Tru (Nat.ble n 1000)) : n ≤ sizeLine := Nat.le_trans (Nat.le_of_ble_eq_true h.h) (by rw [sizeLine_eq];omega)
def EH {t : TA3} (a : PuA t) (hn : Tru (Nat.ble a.n 1000)) : PuE (jr t) := ⟨fun ρ => (a.f ρ).map .tuple,a.fv,false,fun hv hd hf k => by
 obtain ⟨xs,e1,rfl⟩ := Option.map_eq_some_iff.mp hf
 exact a.ok hv hd e1 fun x G1 E1 D1 => ⟨by rw [D1.length,a.ln e1];exact few hn,k _ _ E1 (.tup D1) (fun z => by cases z)⟩⟩
theorem MA {D : Addr → Prop} {G : Gp} {p : Addr} {xs : List T} {ds : List PyData} (hp : G p = none) (h : Dqs (rs D G) xs ds) : Nw D G (gu G p (.lst xs)) (.ref p) (.list ds) :=
 .inr ⟨p,xs,ds,rfl,rfl,hp,qE,h.up fun b o e => by
  obtain ⟨n,e⟩ := qI e
  have : b ≠ p := by rintro rfl;rw [hp] at e;cases e
  rw [jZ (by rintro (z | z);exact n z;exact this z),jR this];exact e⟩
theorem CC {D : Addr → Prop} {G : Gp} {p : Addr} {xs : List T} {ds : List PyData} (hd : Dom D G) (hp : G p = none) (h : Dqs (rs D G) xs ds) : Dq (rs D (gu G p (.lst xs))) (.ref p) (.list ds) :=
 .lst (qkc hd hp) (h.up (j1 (UR hp)))
def qcR {t : TA3} (a : PuA t) (hn : Tru (Nat.ble a.n 1000)) : PuE (VF t) := ⟨fun ρ => (a.f ρ).map .list,a.fv,true,fun hv hd hf k => by
 obtain ⟨xs,e1,rfl⟩ := Option.map_eq_some_iff.mp hf
 exact a.ok hv hd e1 fun x G1 E1 D1 => ⟨by rw [D1.length,a.ln e1];exact few hn,fun p hp => k _ _ (E1.trans (UR hp)) (CC (hd.up E1) hp D1) fun _ => (MA hp D1).back E1⟩⟩
def qz {r : List T → Gp → Q3 → Prop} {t : TA3} (R : FnD r) (a : PuA t) : PuE (cb3 r t) :=
 ⟨fun ρ => (a.f ρ).bind R.f,a.fv,R.nw,fun hv hd hf k => by
  obtain ⟨x,e1,hf⟩ := Option.bind_eq_some_iff.mp hf
  exact a.ok hv hd e1 fun x' G1 E1 D1 => R.ok D1 (hd.up E1) hf fun z G3 E3 D3 N3 => k z G3 (E1.trans E3) D3 fun h => (N3 h).back E1⟩
def asB : PyData → Option Bool
 | .bool b => some b
 | _ => none
def asI : PyData → Option Int
 | .int b => some b
 | _ => none
theorem TM {d : PyData} {b : Bool} (h : asB d = some b) : d = .bool b := by cases d <;> simp [asB] at h;subst h;rfl
theorem qeN {d : PyData} {b : Int} (h : asI d = some b) : d = .int b := by cases d <;> simp [asI] at h;subst h;rfl
def bTb {t : TE3} (a : PuE t) : PuC (tb3 t) := ⟨fun ρ => (a.f ρ).bind asB,a.fv,fun hv hd hf k => by
 obtain ⟨x,e1,hf⟩ := Option.bind_eq_some_iff.mp hf
 have := TM hf;subst this
 exact a.ok hv hd e1 fun x' G1 E1 D1 _ => by cases D1;exact k G1 E1⟩
def qo5 {t u : TT3} (a : PuC t) (b : PuC u) : PuC (qgg t u) := ⟨fun ρ => (a.f ρ).bind fun k => if k then b.f ρ else some false,a.fv ++ b.fv,fun hv hd hf k => by
 obtain ⟨x,e1,hf⟩ := Option.bind_eq_some_iff.mp hf
 refine a.ok hv.l hd e1 fun G1 E1 => ?_
 cases x with
 | true => exact b.ok (hv.r.up E1) (hd.up E1) hf fun G2 E2 => k G2 (E1.trans E2)
 | false => cases hf;exact k G1 E1⟩
def qhS {t : TT3} (a : PuC t) : PuC (N8 t) := ⟨fun ρ => (a.f ρ).map (! ·),a.fv,fun hv hd hf k => by
 obtain ⟨x,e1,hf⟩ := Option.map_eq_some_iff.mp hf
 subst hf
 exact a.ok hv hd e1 fun G1 E1 => k G1 E1⟩
def bTt : PuC tt3 := ⟨fun _ => some true,[],fun hv hd hf k => by cases hf;exact k _ Ex.refl⟩
def SR {ta tb : TE3} (a : PuE ta) (b : PuE tb) : PuE (jY ta tb) := ⟨fun ρ => ((a.f ρ).bind asB).bind fun k => if k then b.f ρ else some (.bool false),a.fv ++ b.fv,false,fun hv hd hf k => by
 obtain ⟨x,e1,hf⟩ := Option.bind_eq_some_iff.mp hf
 obtain ⟨y,e1,e2⟩ := Option.bind_eq_some_iff.mp e1
 have := TM e2;subst this
 refine a.ok hv.l hd e1 fun x' G1 E1 D1 _ => ?_
 cases D1
 cases x with
 | true => exact b.ok (hv.r.up E1) (hd.up E1) hf fun z G2 E2 D2 _ => k z G2 (E1.trans E2) D2 (fun z => by cases z)
 | false => cases hf;exact k _ G1 E1 (.bl false) (fun z => by cases z)⟩
def qjz {ta : TE3} (a : PuE ta) : PuE (K8 ta) := ⟨fun ρ => ((a.f ρ).bind asB).map fun k => .bool (!k),a.fv,false,fun hv hd hf k => by
 obtain ⟨x,e1,hf⟩ := Option.map_eq_some_iff.mp hf
 obtain ⟨y,e1,e2⟩ := Option.bind_eq_some_iff.mp e1
 have := TM e2;subst this
 subst hf
 refine a.ok hv hd e1 fun x' G1 E1 D1 _ => ?_
 cases D1
 exact k _ G1 E1 (.bl _) (fun z => by cases z)⟩
def bIf {t : TT3} {ta tb : TE3} (c : PuC t) (a : PuE ta) (b : PuE tb) : PuE (if3 t ta tb) := ⟨fun ρ => (c.f ρ).bind fun k => if k then a.f ρ else b.f ρ,c.fv ++ (a.fv ++ b.fv),false,fun hv hd hf k => by
 obtain ⟨x,e1,hf⟩ := Option.bind_eq_some_iff.mp hf
 refine c.ok hv.l hd e1 fun G1 E1 => ?_
 cases x with
 | true => exact a.ok (hv.r.l.up E1) (hd.up E1) hf fun z G2 E2 D2 _ => k z G2 (E1.trans E2) D2 (fun z => by cases z)
 | false => exact b.ok (hv.r.r.up E1) (hd.up E1) hf fun z G2 E2 D2 _ => k z G2 (E1.trans E2) D2 (fun z => by cases z)⟩
def qhn {ta : TE3} (a : PuE ta) : PuE (u3 KY ta) := ⟨fun ρ => ((a.f ρ).bind asI).map fun i => .int (-i),a.fv,false,fun hv hd hf k => by
 obtain ⟨x,e1,hf⟩ := Option.map_eq_some_iff.mp hf
 obtain ⟨y,e1,e2⟩ := Option.bind_eq_some_iff.mp e1
 have := qeN e2;subst this
 subst hf
 refine a.ok hv hd e1 fun x' G1 E1 D1 _ => ?_
 cases D1
 exact k _ G1 E1 (.int _) (fun z => by cases z)⟩
def bCh {r r' : R3} {ta tb tc : TE3} (R : OpD r) (R' : OpD r') (a : PuE ta) (b : PuE tb) (c : PuE tc) : PuE (ch3 r r' ta tb tc) :=
 ⟨fun ρ => (a.f ρ).bind fun x => (b.f ρ).bind fun y => ((R.f x y).bind asB).bind fun k => if k then (c.f ρ).bind fun z => R'.f y z else some (.bool false),a.fv ++ (b.fv ++ c.fv),false,fun {D τ ρ G q d} hv hd hf k => by
  obtain ⟨x,e1,hf⟩ := Option.bind_eq_some_iff.mp hf
  obtain ⟨y,e2,hf⟩ := Option.bind_eq_some_iff.mp hf
  obtain ⟨j,e3,hf⟩ := Option.bind_eq_some_iff.mp hf
  obtain ⟨v,e3,e4⟩ := Option.bind_eq_some_iff.mp e3
  have := TM e4;subst this
  refine a.ok hv.l hd e1 fun x' G1 E1 D1 _ => b.ok (hv.r.l.up E1) (hd.up E1) e2 fun y' G2 E2 D2 _ => R.ok (D1.up (j1 E2)) D2 ((hd.up E1).up E2) e3 fun z G3 E3 D3 _ => ?_
  cases D3
  have E := (E1.trans E2).trans E3
  cases j with
  | true =>
   obtain ⟨w,e5,hf⟩ := Option.bind_eq_some_iff.mp hf
   exact c.ok (hv.r.r.up E) (hd.up E) e5 fun w' G4 E4 D4 _ => R'.ok ((D2.up (j1 E3)).up (j1 E4)) D4 ((hd.up E).up E4) hf fun u G5 E5 D5 _ => k u G5 ((E.trans E4).trans E5) D5 (fun z => by cases z)
  | false => cases hf;exact k _ G3 E (.bl false) (fun z => by cases z)⟩
def tyD : PyData → Option String
 | .none => some "NoneType" | .bool _ => some "bool" | .int _ => some "int" | .str _ => some "str" | .tuple _ => some "tuple" | .list _ => some "list" | .dict _ => none
def qmU {ta : TE3} (g : String → Bool) (a : PuE ta) : PuE (W8 g ta) := ⟨fun ρ => (a.f ρ).bind fun d => (tyD d).map fun t => .bool (g t),a.fv,false,fun hv hd hf k => by
 obtain ⟨x,e1,hf⟩ := Option.bind_eq_some_iff.mp hf
 obtain ⟨y,e2,hf⟩ := Option.map_eq_some_iff.mp hf
 subst hf
 refine a.ok hv hd e1 fun x' G1 E1 D1 _ => ?_
 have : tyT G1 x' = some y := by
  cases D1 with
  | lst h _ => have g := zG (qI h).2;simp [tyT,g];simpa [tyD] using e2
  | _ => simpa [tyT,tyD] using e2
 simp only [this]
 exact k _ G1 E1 (.bl _) (fun z => by cases z)⟩
def bNp : PuO np3 := ⟨fun _ => some none,[],fun hv hd hf k => by cases hf;exact k _ Ex.refl⟩
def bSp {t : TE3} (a : PuE t) : PuO (sp3 t) := ⟨fun ρ => ((a.f ρ).bind asI).map some,a.fv,fun hv hd hf k => by
 obtain ⟨x,e1,hf⟩ := Option.map_eq_some_iff.mp hf
 obtain ⟨y,e1,e2⟩ := Option.bind_eq_some_iff.mp e1
 have := qeN e2;subst this
 subst hf
 refine a.ok hv hd e1 fun x' G1 E1 D1 _ => ?_
 cases D1
 exact k G1 E1⟩
theorem Dqs.cut {G : Gp} {xs : List T} {ds : List PyData} (h : Dqs G xs ds) (lo hi : Option Int) : Dqs G (SF xs lo hi) (SF ds lo hi) := by
 unfold SF
 rw [h.length]
 exact (h.drop _).take _
def slD (d : PyData) (lo hi : Option Int) : Option PyData := match d with
 | .tuple xs => cif (HT.sIx xs.length 0 lo = 0∧HT.sIx xs.length xs.length hi = xs.length) none (some (.tuple (SF xs lo hi)))
 | .list xs => some (.list (SF xs lo hi))
 | _ => none
def bSl {te : TE3} {tl th : TO3} (a : PuE te) (l : PuO tl) (h : PuO th) : PuE (qcl te tl th) := ⟨fun ρ => (a.f ρ).bind fun d => (l.f ρ).bind fun lo => (h.f ρ).bind fun hi => slD d lo hi,a.fv ++ (l.fv ++ h.fv),false,fun hv hd hf k => by
 obtain ⟨d,e1,hf⟩ := Option.bind_eq_some_iff.mp hf
 obtain ⟨lo,e2,hf⟩ := Option.bind_eq_some_iff.mp hf
 obtain ⟨hi,e3,hf⟩ := Option.bind_eq_some_iff.mp hf
 refine a.ok hv.l hd e1 fun x' G1 E1 D1 _ => l.ok (hv.r.l.up E1) (hd.up E1) e2 fun G2 E2 => h.ok (hv.r.r.up (E1.trans E2)) (hd.up (E1.trans E2)) e3 fun G3 E3 => ?_
 have E := (E1.trans E2).trans E3
 have D3 := (D1.up (j1 E2)).up (j1 E3)
 unfold slD at hf
 cases D3 with
 | tup hs =>
  simp only [cif] at hf
  split at hf
  ·cases hf
  ·rename_i n
   cases hf
   exact ⟨by rw [hs.length];exact n,k _ _ E (.tup (hs.cut _ _)) (fun z => by cases z)⟩
 | lst g hs =>
  simp only at hf
  cases hf
  simp only [sl3,zG (qI g).2]
  intro p hp
  exact k _ _ (E.trans (UR hp)) (CC (hd.up E) hp (hs.cut _ _)) (fun z => by cases z)
 | _ => simp at hf⟩
def V4 : List PyData → Option (List Int)
 | [] => some []
 | .int i :: r => (V4 r).map (i :: ·)
 | _ => none
theorem WB (ns : List Int) : V4 (ns.map PyData.int) = some ns := by
 induction ns with
 | nil => rfl
 | cons n r ih => simp [V4,ih]
theorem DH : ∀ {xs : List PyData} {ns : List Int},V4 xs = some ns → xs = ns.map PyData.int
 | [],_,h => by simp [V4] at h;subst h;rfl
 | .int i :: r,ns,h => by
  simp only [V4] at h
  obtain ⟨ms,e,rfl⟩ := Option.map_eq_some_iff.mp h
  rw [DH e];rfl
 | .none :: r,ns,h => by simp [V4] at h
 | .bool _ :: r,ns,h => by simp [V4] at h
 | .str _ :: r,ns,h => by simp [V4] at h
 | .list _ :: r,ns,h => by simp [V4] at h
 | .tuple _ :: r,ns,h => by simp [V4] at h
 | .dict _ :: r,ns,h => by simp [V4] at h
end Pu
namespace Pu
open PySem L2 L3
def opI (g : Int → Int → Int) : OpD (iI g) := ⟨fun d e => match d,e with | .int i,.int j => some (.int (g i j)) | _,_ => none,false,fun {D G x y d e v q} hx hy hd hf k => by
 cases hx <;> try (simp at hf;done)
 cases hy <;> try (simp at hf;done)
 cases hf
 exact k _ _ Ex.refl (.int _) (fun z => by cases z)⟩
def cI (C : Int → Int → Prop) (g : Int → Int → Int) (d e : PyData) : Option PyData := match d,e with | .int i,.int j => cif (C i j) (some (.int (g i j))) none | _,_ => none
def opC (C : Int → Int → Prop) (g : Int → Int → Int) : OpD (iC C g) := ⟨cI C g,false,fun {D G x y d e v q} hx hy hd hf k => by
 unfold cI at hf
 cases hx <;> try (simp at hf;done)
 cases hy <;> try (simp at hf;done)
 simp only [cif] at hf
 split at hf
 ·rename_i c
  cases hf
  exact ⟨c,k _ _ Ex.refl (.int _) (fun z => by cases z)⟩
 ·cases hf⟩
def opB (g : Int → Int → Bool) : OpD (iB g) := ⟨fun d e => match d,e with | .int i,.int j => some (.bool (g i j)) | _,_ => none,false,fun {D G x y d e v q} hx hy hd hf k => by
 cases hx <;> try (simp at hf;done)
 cases hy <;> try (simp at hf;done)
 cases hf
 exact k _ _ Ex.refl (.bl _) (fun z => by cases z)⟩
def qcF : PyData → PyData → Option Bool
 | .none,.none => some true | .none,.int _ => some false | .int _,.none => some false | .none,.bool _ => some false | .bool _,.none => some false | .none,.str _ => some false | .str _,.none => some false
 | .int i,.int j => some (decide (i = j)) | .bool i,.bool j => some (decide (i = j)) | .str i,.str j => some (decide (i = j))
 | .int _,.str _ => some false | .str _,.int _ => some false | .bool _,.str _ => some false | .str _,.bool _ => some false
 | _,_ => none
theorem qb4 {G : Gp} {x y : T} {d e : PyData} (hx : Dq G x d) (hy : Dq G y e) : JM x y = qcF d e := by
 cases hx <;> cases hy <;> rfl
def eqD (neg : Bool) (d e : PyData) : Option PyData := match qcF d e with
 | some k => some (.bool (if neg then !k else k))
 | none => cif (dpt d ≤ 40∧dpt d ≠ 0) ((ZP d e).map fun b => .bool (if neg then !b else b)) none
def X6 (neg : Bool) : OpD (jQ neg) := ⟨eqD neg,false,fun {D G x y d e v q} hx hy hd hf k => by
 unfold jQ
 rw [qb4 hx hy]
 unfold eqD at hf
 cases h : qcF d e with
 | some b => rw [h] at hf;cases hf;exact k _ _ Ex.refl (.bl _) (fun z => by cases z)
 | none =>
  rw [h] at hf
  simp only [cif] at hf ⊢
  split at hf
  ·rename_i c
   obtain ⟨b,e1,rfl⟩ := Option.map_eq_some_iff.mp hf
   exact ⟨d,e,b,(hx.up YC).dp,(hy.up YC).dp,e1,c.1,c.2,k _ _ Ex.refl (.bl _) (fun z => by cases z)⟩
  ·cases hf⟩
def qk8 (neg : Bool) (d e : PyData) : Option PyData := match e with | .none => some (.bool (match d with | .none => !neg | _ => neg)) | _ => none
def qf9 (neg : Bool) : OpD (qbd neg) := ⟨qk8 neg,false,fun {D G x y d e v q} hx hy hd hf k => by
 unfold qk8 at hf
 cases hy <;> try (simp at hf;done)
 cases hf
 unfold qbd
 cases hx <;> exact k _ _ Ex.refl (.bl _) (fun z => by cases z)⟩
def ixD (d e : PyData) : Option PyData := match d,e with
 | .tuple xs,.int i => atI xs i
 | .list xs,.int i => atI xs i
 | _,_ => none
theorem Dqs.atI {G : Gp} {xs : List T} {ds : List PyData} {i : Int} {d : PyData} (h : Dqs G xs ds) (e : L2.atI ds i = some d) : ∃ x,L2.atI xs i = some x∧Dq G x d := by
 unfold L2.atI at e ⊢
 rw [h.length]
 obtain ⟨j,e1,e2⟩ := Option.bind_eq_some_iff.mp e
 obtain ⟨x,hx,r⟩ := h.get e2
 exact ⟨x,by rw [e1];exact hx,r⟩
def zq : OpD ix3 := ⟨ixD,false,fun {D G x y d e v q} hx hy hd hf k => by
 unfold ixD at hf
 cases hx with
 | tup hs =>
  cases hy <;> try (simp at hf;done)
  obtain ⟨x,e1,r⟩ := hs.atI hf
  simp only [ix3,e1]
  exact k _ _ Ex.refl r (fun z => by cases z)
 | lst g hs =>
  cases hy <;> try (simp at hf;done)
  obtain ⟨x,e1,r⟩ := hs.atI hf
  simp only [ix3,zG (qI g).2,e1]
  exact k _ _ Ex.refl r (fun z => by cases z)
 | _ => simp at hf⟩
def qie (d e : PyData) : Option PyData := match d,e with
 | .tuple xs,.tuple ys => cif (xs ≠ []∧xs.length + ys.length ≤ sizeLine) (some (.tuple (xs ++ ys))) none
 | .list xs,.list ys => cif (xs.length + ys.length ≤ sizeLine) (some (.list (xs ++ ys))) none
 | .int i,.int j => some (.int (i + j))
 | _,_ => none
def UB : OpD z9 := ⟨qie,false,fun {D G x y d e v q} hx hy hd hf k => by
  unfold qie at hf
  cases hx with
  | int i => cases hy <;> try (simp at hf;done)
             cases hf
             exact k _ _ Ex.refl (.int _) (fun z => by cases z)
  | tup hs =>
    cases hy <;> try (simp at hf;done)
    rename_i hs2
    simp only [cif] at hf
    split at hf
    · rename_i c
      cases hf
      refine ⟨?_,by rw [hs.length,hs2.length];exact c.2,k _ _ Ex.refl (.tup (hs.append hs2)) (fun z => by cases z)⟩
      rintro rfl
      cases hs
      exact c.1 rfl
    · cases hf
  | lst g hs =>
    cases hy <;> try (simp at hf;done)
    rename_i g2 hs2
    simp only [cif] at hf
    split at hf
    · rename_i c
      cases hf
      simp only [z9,(qI g).2,(qI g2).2]
      exact ⟨by rw [hs.length,hs2.length];exact c,fun p hp => k _ _ (UR hp) (CC hd hp (hs.append hs2)) (fun z => by cases z)⟩
    · cases hf
  | _ => simp at hf⟩
def TH : PyData → Bool
 | .none => true | .bool _ => true | .int _ => true | .str _ => true | _ => false
def qhY : PyData → PyData → Bool
 | .none,.none => true
 | .bool a,.bool b => a == b
 | .bool a,.int b => (if a then 1 else 0) == b
 | .int a,.bool b => a == (if b then 1 else 0)
 | .int a,.int b => a == b
 | .str a,.str b => a == b
 | _,_ => false
theorem WG {G : Gp} {x : T} {d : PyData} (h : Dq G x d) : ED x = TH d := by cases h <;> rfl
theorem ER {G : Gp} : ∀ {x : List T} {d : List PyData},Dqs G x d → x.all ED = d.all TH
 | _,_,.nil => rfl
 | _,_,.cons a b => by rw [List.all_cons,List.all_cons,WG a,ER b]
theorem qc3 {G : Gp} {x y : T} {d e : PyData} (h : Dq G x d) (h' : Dq G y e) : eqF x y = qhY d e := by cases h <;> cases h' <;> rfl
theorem WW {G : Gp} {x : T} {d : PyData} (h : Dq G x d) : ∀ {ys : List T} {es : List PyData},Dqs G ys es → (ys.any fun y => eqF y x) = es.any fun y => qhY y d
 | _,_,.nil => rfl
 | _,_,.cons a b => by rw [List.any_cons,List.any_cons,qc3 a h,WW h b]
def inD (neg : Bool) (d e : PyData) : Option PyData := match e with
 | .tuple ys => cif (TH d = true∧ys.all TH = true) (some (.bool (if neg then !(ys.any fun y => qhY y d) else (ys.any fun y => qhY y d)))) none
 | .list ys => cif (TH d = true∧ys.all TH = true) (some (.bool (if neg then !(ys.any fun y => qhY y d) else (ys.any fun y => qhY y d)))) none
 | _ => none
def qmX (neg : Bool) : OpD (in3 neg) := ⟨inD neg,false,fun {D G x y d e v q} hx hy hd hf k => by
 unfold inD at hf
 cases hy with
 | tup hs =>
  simp only [cif] at hf
  split at hf
  ·rename_i c
   cases hf
   refine ⟨by rw [WG hx];exact c.1,by rw [ER hs];exact c.2,?_⟩
   rw [WW hx hs]
   exact k _ _ Ex.refl (.bl _) (fun z => by cases z)
  ·cases hf
 | lst g hs =>
  simp only [cif] at hf
  split at hf
  ·rename_i c
   cases hf
   refine ⟨by rw [WG hx];exact c.1,?_⟩
   simp only [zG (qI g).2]
   refine ⟨by rw [ER hs];exact c.2,?_⟩
   rw [WW hx hs]
   exact k _ _ Ex.refl (.bl _) (fun z => by cases z)
  ·cases hf
 | _ => simp at hf⟩
def qhQ : List PyData → Option PyData
 | [.tuple xs] => some (.int xs.length)
 | [.list xs] => some (.int xs.length)
 | _ => none
def qcn : FnD DC := ⟨qhQ,false,fun {D G xs ds v q} hx hd hf k => by
 unfold qhQ at hf
 split at hf
 ·cases hx with
  | cons a b => cases b;cases a;rename_i hs;cases hf;simp only [DC];rw [hs.length];exact k _ _ Ex.refl (.int _) (fun z => by cases z)
 ·cases hx with
  | cons a b => cases b;cases a;rename_i g hs;cases hf;simp only [DC,zG (qI g).2];rw [hs.length];exact k _ _ Ex.refl (.int _) (fun z => by cases z)
 ·cases hf⟩
def qmK : List PyData → Option PyData
 | [.tuple xs] => some (.tuple xs)
 | [.list xs] => some (.tuple xs)
 | _ => none
def qmL : FnD VJ := ⟨qmK,false,fun {D G xs ds v q} hx hd hf k => by
 unfold qmK at hf
 split at hf
 ·cases hx with
  | cons a b => cases b;cases a;rename_i hs;cases hf;exact k _ _ Ex.refl (.tup hs) (fun z => by cases z)
 ·cases hx with
  | cons a b => cases b;cases a;rename_i g hs;cases hf;simp only [VJ,zG (qI g).2];exact k _ _ Ex.refl (.tup hs) (fun z => by cases z)
 ·cases hf⟩
def qmG : List PyData → Option PyData
 | [.tuple xs] => some (.list xs)
 | [.list xs] => some (.list xs)
 | _ => none
def qke : FnD XC := ⟨qmG,true,fun {D G xs ds v q} hx hd hf k => by
 unfold qmG at hf
 split at hf
 ·cases hx with
  | cons a b => cases b;cases a;rename_i hs;cases hf;exact fun p hp => k _ _ (UR hp) (CC hd hp hs) fun _ => MA hp hs
 ·cases hx with
  | cons a b => cases b;cases a;rename_i g hs;cases hf;simp only [XC,zG (qI g).2];exact fun p hp => k _ _ (UR hp) (CC hd hp hs) fun _ => MA hp hs
 ·cases hf⟩
def qad : List PyData → Option (List Bool)
 | [] => some []
 | .bool i :: r => (qad r).map (i :: ·)
 | _ => none
theorem qdx (ns : List Bool) : qad (ns.map PyData.bool) = some ns := by
 induction ns with
 | nil => rfl
 | cons n r ih => simp [qad,ih]
theorem qbF {G : Gp} : ∀ {xs : List T} {ds : List PyData} {ns : List Bool},Dqs G xs ds → qad ds = some ns → qfV xs = some (ns.all id)∧qmY xs = some (ns.any id)
 | _,_,_,.nil,h => by simp [qad] at h;subst h;exact ⟨rfl,rfl⟩
 | _,.bool i :: r,ns,.cons a b,h => by
  simp only [qad] at h
  obtain ⟨ms,e,rfl⟩ := Option.map_eq_some_iff.mp h
  obtain ⟨h1,h2⟩ := qbF b e
  cases a
  simp [qfV,qmY,h1,h2]
 | _,.int _ :: r,ns,_,h => by simp [qad] at h
 | _,.none :: r,ns,_,h => by simp [qad] at h
 | _,.str _ :: r,ns,_,h => by simp [qad] at h
 | _,.list _ :: r,ns,_,h => by simp [qad] at h
 | _,.tuple _ :: r,ns,_,h => by simp [qad] at h
 | _,.dict _ :: r,ns,_,h => by simp [qad] at h
def qjE : List PyData → Option PyData
 | [.list xs] => (qad xs).map fun ns => .bool (ns.all id)
 | _ => none
def qmM : FnD qaj := ⟨qjE,false,fun {D G xs ds v q} hx hd hf k => by
 unfold qjE at hf
 split at hf
 ·obtain ⟨ns,e,rfl⟩ := Option.map_eq_some_iff.mp hf
  cases hx with
  | cons a b => cases b;cases a;rename_i g hs;simp only [qaj,zG (qI g).2,(qbF hs e).1];exact k _ _ Ex.refl (.bl _) (fun z => by cases z)
 ·cases hf⟩
def mn : List Int → Int
 | [] => 0 | [a] => a | a :: b :: r => min a (mn (b :: r))
def mx : List Int → Int
 | [] => 0 | [a] => a | a :: b :: r => max a (mx (b :: r))
theorem N7 : ∀ {ns : List Int} {m : Int},m ∈ ns → mn ns ≤ m
 | [a],m,h => by simp at h;subst h;exact Int.le_refl _
 | a :: b :: r,m,h => by
  unfold mn
  rcases List.mem_cons.mp h with rfl | h
  ·omega
  ·have := N7 h;omega
theorem MN : ∀ {ns : List Int},ns ≠ [] → mn ns ∈ ns
 | [a],_ => by simp [mn]
 | a :: b :: r,_ => by
  unfold mn
  have := MN (ns := b :: r) (by simp)
  rcases Int.le_total a (mn (b :: r)) with h | h
  ·rw [Int.min_eq_left h];simp
  ·rw [Int.min_eq_right h];exact List.mem_cons_of_mem _ this
theorem qde : ∀ {ns : List Int} {m : Int},m ∈ ns → m ≤ mx ns
 | [a],m,h => by simp at h;subst h;exact Int.le_refl _
 | a :: b :: r,m,h => by
  unfold mx
  rcases List.mem_cons.mp h with rfl | h
  ·omega
  ·have := qde h;omega
theorem MS : ∀ {ns : List Int},ns ≠ [] → mx ns ∈ ns
 | [a],_ => by simp [mx]
 | a :: b :: r,_ => by
  unfold mx
  have := MS (ns := b :: r) (by simp)
  rcases Int.le_total a (mx (b :: r)) with h | h
  ·rw [Int.max_eq_right h];exact List.mem_cons_of_mem _ this
  ·rw [Int.max_eq_left h];simp
def mnD : List PyData → Option PyData
 | [.list xs] => (V4 xs).bind fun ns => cif (ns ≠ []) (some (.int (mn ns))) none
 | _ => none
def qaD : FnD SG := ⟨mnD,false,fun {D G xs ds v q} hx hd hf k => by
 unfold mnD at hf
 split at hf
 ·obtain ⟨ns,e,hf⟩ := Option.bind_eq_some_iff.mp hf
  unfold cif at hf
  split at hf
  ·rename_i c
   cases hf
   cases hx with
   | cons a b =>
    cases b;cases a;rename_i g hs;have := DH e;subst this;have := hs.ints;subst this;simp only [SG,zG (qI g).2,DP]
    refine ⟨c,fun m hm hl => ?_⟩
    have : m = mn ns := Int.le_antisymm (hl _ (MN c)) (N7 hm)
    subst this
    exact k _ _ Ex.refl (.int _) (fun z => by cases z)
  ·cases hf
 ·cases hf⟩
def mxD : List PyData → Option PyData
 | [.list xs] => (V4 xs).bind fun ns => cif (ns ≠ []) (some (.int (mx ns))) none
 | _ => none
def qcc : FnD TU := ⟨mxD,false,fun {D G xs ds v q} hx hd hf k => by
 unfold mxD at hf
 split at hf
 ·obtain ⟨ns,e,hf⟩ := Option.bind_eq_some_iff.mp hf
  unfold cif at hf
  split at hf
  ·rename_i c
   cases hf
   cases hx with
   | cons a b =>
    cases b;cases a;rename_i g hs;have := DH e;subst this;have := hs.ints;subst this;simp only [TU,zG (qI g).2,DP]
    refine ⟨c,fun m hm hl => ?_⟩
    have : m = mx ns := Int.le_antisymm (qde hm) (hl _ (MS c))
    subst this
    exact k _ _ Ex.refl (.int _) (fun z => by cases z)
  ·cases hf
 ·cases hf⟩
def PSp (F : List PyData → Option PyData) (fr : Bool) : Sp3 := fun ts G q => ∃ (D : Addr → Prop) (ds : List PyData) (d : PyData),Dqs (rs D G) ts ds∧Dom D G∧F ds = some d∧∀ x G',Ex G G' → Dq (rs D G') x d → (fr = true → Nw D G G' x d) → q x G'
def qZ (F : List PyData → Option PyData) (fr : Bool) : FnD (PSp F fr) := ⟨F,fr,fun {D G xs ds v q} hx hd hf k => ⟨D,ds,v,hx,hd,hf,k⟩⟩
def qak : PyData → Option (List PyData)
 | .tuple xs => some xs
 | .list xs => some xs
 | _ => none
def qal {t : TE3} (a : PuE t) : PuI (U6 t) := ⟨fun ρ => (a.f ρ).bind qak,a.fv,false,fun {D τ ρ G r ds} hv hd hf k => by
 obtain ⟨d,e1,hf⟩ := Option.bind_eq_some_iff.mp hf
 refine a.ok hv hd e1 fun x G1 E1 D1 _ => ?_
 unfold qak at hf
 cases D1 with
 | tup hs => cases hf;exact k _ _ _ E1 hs (fun _ _ => trivial) (fun z => by cases z)
 | lst g hs =>
  cases hf
  simp only [zG (qI g).2]
  refine k _ _ _ E1 hs (fun G2 h => ?_) (fun z => by cases z)
  rcases h with h | h
  ·cases h
  ·exact zG (h _ _ g)
 | _ => simp at hf⟩
def QR (lo : Int) (n : Nat) : List Int := (List.range n).map fun (i : Nat) => lo + (i : Int)
theorem qeG (lo : Int) (n : Nat) : NW lo n = (QR lo n).map T.int := by simp [NW,QR,List.map_map,Function.comp_def]
def qgZ : List PyData → Option (List PyData)
 | [.int j] => cif (-(2 ^ 62) ≤ j∧j < 2 ^ 62) (some ((QR 0 j.toNat).map PyData.int)) none
 | [.int i,.int j] => cif (-(2 ^ 62) ≤ i∧i < 2 ^ 62∧-(2 ^ 62) ≤ j∧j < 2 ^ 62) (some ((QR i (j - i).toNat).map PyData.int)) none
 | _ => none
def LZ {t : TA3} (a : PuA t) : PuI (jO t) := ⟨fun ρ => (a.f ρ).bind qgZ,a.fv,true,fun {D τ ρ G r ds} hv hd hf k => by
 obtain ⟨d,e1,hf⟩ := Option.bind_eq_some_iff.mp hf
 refine a.ok hv hd e1 fun x G1 E1 D1 => ?_
 unfold qgZ at hf
 split at hf
 ·unfold cif at hf
  split at hf
  ·rename_i c
   cases hf
   cases D1 with
   | cons a b => cases b;cases a;simp only;rw [qeG];exact ⟨c,k _ _ _ E1 (Dqs.ofInts _) (fun _ _ => trivial) fun _ => ⟨_,rfl⟩⟩
  ·cases hf
 ·unfold cif at hf
  split at hf
  ·rename_i c
   cases hf
   cases D1 with
   | cons a b => cases b with
    | cons b c' => cases c';cases a;cases b;simp only;rw [qeG];exact ⟨c,k _ _ _ E1 (Dqs.ofInts _) (fun _ _ => trivial) fun _ => ⟨_,rfl⟩⟩
  ·cases hf
 ·cases hf⟩
def qj2 (us vs : List PyData) : List PyData := (us.zip vs).map fun p => .tuple [p.1,p.2]
theorem Dqs.zip {G : Gp} : ∀ {xs : List T} {ds : List PyData} {ys : List T} {es : List PyData},Dqs G xs ds → Dqs G ys es → Dqs G (qco xs ys) (qj2 ds es)
 | _,_,_,_,.nil,_ => by simp [qco,qj2];exact .nil
 | _,_,_,_,.cons _ _,.nil => by simp [qco,qj2];exact .nil
 | _,_,_,_,.cons a b,.cons c d => .cons (.tup (.cons a (.cons c .nil))) (Dqs.zip b d)
theorem C4 {G : Gp} {x : T} {d : PyData} {ds : List PyData} (h : Dq G x d) (e : qak d = some ds) : ∃ us,jc G x = some us∧Dqs G us ds := by
 unfold qak at e
 cases h with
 | tup hs => cases e;exact ⟨_,rfl,hs⟩
 | lst g hs => cases e;exact ⟨_,zG g,hs⟩
 | _ => simp at e
theorem CF {G G' : Gp} {x : T} {us : List T} (e : Ex G G') (h : jc G x = some us) : jc G' x = some us := by
 cases x with
 | tup xs => exact h
 | ref p => exact e.getL h
 | _ => cases h
def qpb {t : TA3} (a : PuA t) : PuI (N2 t) := ⟨fun ρ => (a.f ρ).bind fun ds => match ds with | [d,e] => (qak d).bind fun us => (qak e).bind fun vs => some (qj2 us vs) | _ => none,a.fv,false,fun {D τ ρ G r ds} hv hd hf k => by
 obtain ⟨d,e1,hf⟩ := Option.bind_eq_some_iff.mp hf
 refine a.ok hv hd e1 fun x G1 E1 D1 => ?_
 split at hf
 ·obtain ⟨us,e2,hf⟩ := Option.bind_eq_some_iff.mp hf
  obtain ⟨vs,e3,hf⟩ := Option.bind_eq_some_iff.mp hf
  cases hf
  cases D1 with
  | cons a b => cases b with
   | cons b c =>
    cases c
    obtain ⟨us',h1,h2⟩ := C4 a e2
    obtain ⟨vs',h3,h4⟩ := C4 b e3
    simp only [CF YC h1,CF YC h3]
    refine k _ _ _ E1 (h2.zip h4) (fun G2 h => ?_) (fun z => by cases z)
    rcases h with h | h
    ·cases h
    ·exact ⟨CF h h1,CF h h3⟩
 ·cases hf⟩
def enD (k : Nat) : List PyData → List PyData
 | [] => []
 | x :: r => .tuple [.int (k : Int),x] :: enD (k + 1) r
theorem Dqs.enum {G : Gp} : ∀ {xs : List T} {ds : List PyData} (k : Nat),Dqs G xs ds → Dqs G (jX k xs) (enD k ds)
 | _,_,_,.nil => .nil
 | _,_,k,.cons a b => .cons (.tup (.cons (.int _) (.cons a .nil))) (Dqs.enum (k + 1) b)
def qdz {t : TA3} (a : PuA t) : PuI (SI t) := ⟨fun ρ => (a.f ρ).bind fun ds => match ds with | [d] => (qak d).map fun us => enD 0 us | _ => none,a.fv,false,fun {D τ ρ G r ds} hv hd hf k => by
 obtain ⟨d,e1,hf⟩ := Option.bind_eq_some_iff.mp hf
 refine a.ok hv hd e1 fun x G1 E1 D1 => ?_
 split at hf
 ·obtain ⟨us,e2,rfl⟩ := Option.map_eq_some_iff.mp hf
  cases D1 with
  | cons a b =>
   cases b
   obtain ⟨us',h1,h2⟩ := C4 a e2
   simp only [CF YC h1]
   refine k _ _ _ E1 (h2.enum 0) (fun G2 h => ?_) (fun z => by cases z)
   rcases h with h | h
   ·cases h
   ·exact CF h h1
 ·cases hf⟩
inductive Bd (H : Gp) : List (Nat × T) → List (Nat × PyData) → Prop
 | nil : Bd H [] []
 | cons {i : Nat} {x : T} {d : PyData} {ts : List (Nat × T)} {bs : List (Nat × PyData)} : Dq H x d → Bd H ts bs → Bd H ((i,x) :: ts) ((i,d) :: bs)
theorem Bd.append {H : Gp} : ∀ {ts : List (Nat × T)} {bs : List (Nat × PyData)} {us : List (Nat × T)} {cs : List (Nat × PyData)},Bd H ts bs → Bd H us cs → Bd H (ts ++ us) (bs ++ cs)
 | _,_,_,_,.nil,h => h
 | _,_,_,_,.cons a b,h => .cons a (Bd.append b h)
theorem Bd.up {H H' : Gp} (e : Ex H H') : ∀ {ts : List (Nat × T)} {bs : List (Nat × PyData)},Bd H ts bs → Bd H' ts bs
 | _,_,.nil => .nil
 | _,_,.cons a b => .cons (a.up e) (Bd.up e b)
def sets : St3 → List (Nat × T) → St3
 | τ,[] => τ
 | τ,p :: r => sets (τ.set p.1 (some p.2)) r
def QT : Rho → List (Nat × PyData) → Rho
 | ρ,[] => ρ
 | ρ,p :: r => QT (ρ.set p.1 (.sh p.2)) r
theorem MY : ∀ (τ : St3) (a b : List (Nat × T)),sets τ (a ++ b) = sets (sets τ a) b
 | τ,[],b => rfl
 | τ,p :: a,b => by simp only [List.cons_append,sets];exact MY _ a b
structure PuG (g : TG3) where
 f : PyData → Option (List (Nat × PyData))
 tg : List Nat
 at' : ∀ {d bs},f d = some bs → ∀ p ∈ bs,p.1 ∈ tg
 ok : ∀ {H x d bs},Dq H x d → f d = some bs → ∃ ts,Bd H ts bs∧∀ τ G (q : St3 → Gp → Prop),q (sets τ ts) G → g x τ G q
structure PuGs (g : KD) where
 f : List PyData → Option (List (Nat × PyData))
 tg : List Nat
 at' : ∀ {d bs},f d = some bs → ∀ p ∈ bs,p.1 ∈ tg
 ok : ∀ {H x d bs},Dqs H x d → f d = some bs → ∃ ts,Bd H ts bs∧∀ τ G (q : St3 → Gp → Prop),q (sets τ ts) G → g x τ G q
def gN (i : Nat) : PuG (gn3 i) := ⟨fun d => some [(i,d)],[i],fun h p hp => by cases h;simp at hp;subst hp;simp,fun hx h => by cases h;exact ⟨_,.cons hx .nil,fun τ G q hq => hq⟩⟩
def W7 : PuGs je := ⟨fun ds => match ds with | [] => some [] | _ => none,[],(fun h p hp => by split at h;cases h;cases hp;cases h),fun hx h => by
 split at h
 ·cases h;cases hx;exact ⟨[],.nil,fun τ G q hq => hq⟩
 ·cases h⟩
def qW {t : TG3} {u : KD} (a : PuG t) (b : PuGs u) : PuGs (qu t u) := ⟨fun ds => match ds with | d :: r => (a.f d).bind fun x => (b.f r).map fun y => x ++ y | [] => none,a.tg ++ b.tg,(fun h p hp => by
 split at h
 ·obtain ⟨x,e1,h⟩ := Option.bind_eq_some_iff.mp h
  obtain ⟨y,e2,rfl⟩ := Option.map_eq_some_iff.mp h
  rcases List.mem_append.mp hp with z | z
  ·exact List.mem_append.mpr (.inl (a.at' e1 p z))
  ·exact List.mem_append.mpr (.inr (b.at' e2 p z))
 ·cases h),fun hx h => by
 split at h
 ·obtain ⟨x,e1,h⟩ := Option.bind_eq_some_iff.mp h
  obtain ⟨y,e2,rfl⟩ := Option.map_eq_some_iff.mp h
  cases hx with
  | cons hx hr =>
   obtain ⟨ts,b1,k1⟩ := a.ok hx e1
   obtain ⟨us,b2,k2⟩ := b.ok hr e2
   refine ⟨ts ++ us,b1.append b2,fun τ G q hq => k1 τ G _ (k2 _ G q ?_)⟩
   rw [← MY];exact hq
 ·cases h⟩
def W6 {u : KD} (n : Nat) (b : PuGs u) : PuG (jm n u) := ⟨fun d => match d with | .tuple ds => if ds.length = n then b.f ds else none | _ => none,b.tg,(fun h p hp => by
 split at h
 ·split at h
  ·exact b.at' h p hp
  ·cases h
 ·cases h),fun hx h => by
 split at h
 ·split at h
  ·rename_i c
   cases hx with
   | tup hs =>
    obtain ⟨ts,b1,k1⟩ := b.ok hs h
    exact ⟨ts,b1,fun τ G q hq => ⟨by rw [hs.length];exact c,k1 τ G q hq⟩⟩
  ·cases h
 ·cases h⟩
end Pu
namespace Pu
open PySem L2 L3
structure VA (D : Addr → Prop) (G : Gp) (τ : St3) (ρ : Rho) : Prop where
 len : ρ.length = τ.length
 vw : ∀ i d,vw ρ i = some d → ∃ t,τ[i]? = some (some t)∧Dq (rs D G) t d
theorem VA.view {D : Addr → Prop} {G : Gp} {τ : St3} {ρ : Rho} (h : VA D G τ ρ) (fv : List Nat) : XY fv D G τ ρ := fun i _ d e => h.vw i d e
theorem VA.upx {D : Addr → Prop} {G G' : Gp} {τ : St3} {ρ : Rho} (h : VA D G τ ρ) (e : Ex (rs D G) (rs D G')) : VA D G' τ ρ := ⟨h.len,fun i d hd => let ⟨t,a,b⟩ := h.vw i d hd;⟨t,a,b.up e⟩⟩
theorem VA.up {D : Addr → Prop} {G G' : Gp} {τ : St3} {ρ : Rho} (h : VA D G τ ρ) (e : Ex G G') : VA D G' τ ρ := h.upx (j1 e)
theorem qeB {ρ : Rho} {i j : Nat} {s : Sl} : vw (ρ.set i s) j = if i = j then (if i < ρ.length then s.d else none) else vw ρ j := by
 unfold vw
 rw [List.getElem?_set]
 split
 ·subst j;split
  ·rfl
  ·rfl
 ·rfl
theorem VA.set {D : Addr → Prop} {G : Gp} {τ : St3} {ρ : Rho} (h : VA D G τ ρ) {i : Nat} {x : T} {d : PyData} (hx : Dq (rs D G) x d) : VA D G (τ.set i (some x)) (ρ.set i (.sh d)) := by
 refine ⟨by simp [h.len],fun j e he => ?_⟩
 rw [qeB] at he
 split at he
 ·subst j
  split at he
  ·rename_i l
   cases he
   refine ⟨x,?_,hx⟩
   rw [List.getElem?_set,if_pos rfl,if_pos (by rw [← h.len];exact l)]
  ·cases he
 ·rename_i n
  obtain ⟨t,a,b⟩ := h.vw j e he
  exact ⟨t,by rw [List.getElem?_set,if_neg n];exact a,b⟩
theorem VA.sets {D : Addr → Prop} {G : Gp} : ∀ {ts : List (Nat × T)} {bs : List (Nat × PyData)} {τ : St3} {ρ : Rho},VA D G τ ρ → Bd (rs D G) ts bs → VA D G (Pu.sets τ ts) (QT ρ bs)
 | _,_,_,_,h,.nil => h
 | _,_,_,_,h,.cons a b => by unfold Pu.sets QT;exact VA.sets (h.set a) b
theorem VA.keep {D : Addr → Prop} {G : Gp} {ρ : Rho} : ∀ {ts : List (Nat × T)} {τ : St3},VA D G τ ρ → (∀ p ∈ ts,Pu.vw ρ p.1 = none) → VA D G (Pu.sets τ ts) ρ
 | [],_,h,_ => h
 | p :: r,τ,h,hn => VA.keep (ts := r) ⟨by rw [List.length_set];exact h.len,fun j d hd => by
   have : p.1 ≠ j := by rintro rfl;rw [hn p (by simp)] at hd;cases hd
   obtain ⟨t,a,b⟩ := h.vw j d hd
   exact ⟨t,by rw [List.getElem?_set,if_neg this];exact a,b⟩⟩ fun q hq => hn q (by simp [hq])
def KC (m : List (Option Nat)) (ρ : Rho) : Rho := m.map fun o => match o with | some j => (match vw ρ j with | some d => .sh d | none => .un) | none => .un
theorem VA.cap {m : List (Option Nat)} {D : Addr → Prop} {G : Gp} {τ : St3} {ρ : Rho} (h : XY (m.filterMap id) D G τ ρ) : VA D G (L3.cap m τ) (KC m ρ) := by
 refine ⟨by simp [KC,L3.cap],fun i d hd => ?_⟩
 unfold Pu.vw KC at hd
 rw [List.getElem?_map] at hd
 cases e : m[i]? with
 | none => rw [e] at hd;cases hd
 | some o =>
  rw [e] at hd
  cases o with
  | none => cases hd
  | some j =>
   simp only [Option.map_some,Option.bind_some] at hd
   cases e2 : Pu.vw ρ j with
   | none => rw [e2] at hd;cases hd
   | some d' =>
    rw [e2] at hd
    have hd' : d' = d := by simpa [Sl.d] using hd
    subst hd'
    obtain ⟨t,a,b⟩ := h j (List.mem_filterMap.mpr ⟨some j,List.mem_of_getElem? e,rfl⟩) d' e2
    refine ⟨t,?_,b⟩
    unfold L3.cap
    rw [List.getElem?_map,e]
    simp [a]
theorem L7 {m : List (Option Nat)} {ρ : Rho} {i : Nat} (h : m[i]? = some none) : vw (KC m ρ) i = none := by
 unfold vw KC
 rw [List.getElem?_map,h]
 rfl
def lcP (h : PyData → Option (Option PyData)) : List PyData → Option (List PyData)
 | [] => some []
 | d :: r => (h d).bind fun o => (lcP h r).bind fun ys => some (match o with | some y => y :: ys | none => ys)
def lcH (gf : PyData → Option (List (Nat × PyData))) (cf : Rho → Option Bool) (ef : Rho → Option PyData) (ρ : Rho) (d : PyData) : Option (Option PyData) :=
 (gf d).bind fun bs => (cf (QT ρ bs)).bind fun k => if k then (ef (QT ρ bs)).map some else some none
theorem zN {h : PyData → Option (Option PyData)} {α : Type} {g : α → PyData} {k : α → PyData} {xs : List α} (hh : ∀ a ∈ xs,h (g a) = some (some (k a))) : lcP h (xs.map g) = some (xs.map k) := by
 induction xs with
 | nil => rfl
 | cons a r ih => simp only [List.map_cons,lcP,hh a (by simp),Option.bind_some,ih fun b hb => hh b (by simp [hb])]
theorem NU {h : PyData → Option (Option PyData)} {α : Type} {g : α → PyData} {k : α → PyData} {c : α → Bool} {xs : List α} (hh : ∀ a ∈ xs,h (g a) = some (if c a then some (k a) else none)) : lcP h (xs.map g) = some ((xs.filter c).map k) := by
 induction xs with
 | nil => rfl
 | cons a r ih =>
  simp only [List.map_cons,lcP,hh a (by simp),Option.bind_some,ih fun b hb => hh b (by simp [hb])]
  cases e : c a with
  | true => simp [e]
  | false => simp [e]
theorem qc9 {H : Gp} : ∀ {ts : List (Nat × T)} {bs : List (Nat × PyData)},Bd H ts bs → ∀ p ∈ ts,∃ q ∈ bs,q.1 = p.1
 | _,_,.nil,p,hp => by cases hp
 | _,_,.cons a b,p,hp => by
  rcases List.mem_cons.mp hp with rfl | hp
  ·exact ⟨_,List.mem_cons_self,rfl⟩
  ·obtain ⟨q,hq,e⟩ := qc9 b p hp
   exact ⟨q,by simp [hq],e⟩
theorem qf8 {stay : Gp → Prop} {g : TG3} {tif : TT3} {te : TE3} {q : Q3} (pg : PuG g) (pc : PuC tif) (pe : PuE te) {D : Addr → Prop} {ρ0 : Rho} {G0 : Gp} (hs : ∀ G,Ex G0 G → stay G) (hm : ∀ i ∈ pg.tg,vw ρ0 i = none) (fin : List PyData) (hfin : fin.length ≤ sizeLine)
  (k : ∀ G ys,Ex G0 G → Dqs (rs D G) ys fin → ∀ p,G p = none → q (.ref p) (gu G p (.lst ys))) :
  ∀ (ds : List PyData) (items ys : List T) (es fs : List PyData) (τ : St3) (G : Gp),Dqs (rs D G0) items ds → VA D G τ ρ0 → Ex G0 G → Dom D G → Dqs (rs D G) ys es → lcP (lcH pg.f pc.f pe.f ρ0) ds = some fs → es ++ fs = fin → ND stay g tif te q items ys τ G
 | _,_,ys,es,fs,τ,G,.nil,va,E,hd,hy,hf,hl => by
  cases hf
  rw [List.append_nil] at hl
  subst hl
  exact ⟨hs G E,k G ys E hy⟩
 | d :: ds,x :: items,ys,es,fs,τ,G,.cons hx hr,va,E,hd,hy,hf,hl => by
  unfold lcP at hf
  obtain ⟨o,e1,hf⟩ := Option.bind_eq_some_iff.mp hf
  obtain ⟨ZJ,e2,hf⟩ := Option.bind_eq_some_iff.mp hf
  unfold lcH at e1
  obtain ⟨bs,e3,e1⟩ := Option.bind_eq_some_iff.mp e1
  obtain ⟨c,e4,e1⟩ := Option.bind_eq_some_iff.mp e1
  obtain ⟨ts,bd,kg⟩ := pg.ok (hx.up (j1 E)) e3
  refine ⟨hs G E,kg τ G _ ?_⟩
  have va1 := va.sets bd
  have va2 := va.keep (ts := ts) fun p hp => by
   obtain ⟨q,hq,e⟩ := qc9 bd p hp
   rw [← e];exact hm _ (pg.at' e3 q hq)
  refine pc.ok (va1.view _) hd e4 fun G1 E1 => ?_
  cases c with
  | true =>
   rw [if_pos rfl]
   rw [if_pos rfl] at e1
   obtain ⟨y,e5,rfl⟩ := Option.map_eq_some_iff.mp e1
   simp only [Option.some.injEq] at hf
   subst hf
   refine pe.ok ((va1.up E1).view _) (hd.up E1) e5 fun z G2 E2 D2 _ => ⟨?_,?_⟩
   ·rw [hy.length]
    rw [← hl] at hfin
    simp at hfin;omega
   ·refine qf8 pg pc pe hs hm fin hfin k ds items (ys ++ [z]) (es ++ [y]) ZJ _ G2 hr ((va2.up E1).up E2) (E.trans (E1.trans E2)) ((hd.up E1).up E2) (((hy.up (j1 E1)).up (j1 E2)).append (.cons D2 .nil)) e2 ?_
    rw [← hl];simp
  | false =>
   rw [if_neg Bool.false_ne_true]
   simp at e1
   subst e1
   simp only [Option.some.injEq] at hf
   subst hf
   exact qf8 pg pc pe hs hm fin hfin k ds items ys es ZJ _ G1 hr (va2.up E1) (E.trans E1) (hd.up E1) (hy.up (j1 E1)) e2 hl
def lcF (pi : Rho → Option (List PyData)) (h : Rho → PyData → Option (Option PyData)) (m : List (Option Nat)) (ρ : Rho) : Option PyData :=
 (pi ρ).bind fun ds => (lcP (h (KC m ρ)) ds).bind fun fs => cif (fs.length ≤ sizeLine) (some (.list fs)) none
def bLc {wi : TI3} {g : TG3} {tif : TT3} {te : TE3} (pi : PuI wi) (pg : PuG g) (pc : PuC tif) (pe : PuE te) (m : List (Option Nat)) (hm : Tru (pg.tg.all fun i => m[i]? == some none)) : PuE (lc3 wi g tif te m) :=
 ⟨lcF pi.f (lcH pg.f pc.f pe.f) m,pi.fv ++ m.filterMap id,true,fun {D τ ρ G q d} hv hd hf k => by
  unfold lcF at hf
  obtain ⟨ds,e1,hf⟩ := Option.bind_eq_some_iff.mp hf
  obtain ⟨fs,e2,hf⟩ := Option.bind_eq_some_iff.mp hf
  unfold cif at hf
  split at hf
  ·rename_i hl
   cases hf
   refine pi.ok hv.l hd e1 fun items stay G1 E1 D1 hs _ => ?_
   have va := (VA.cap (m := m) hv.r).up E1
   refine qf8 pg pc pe (D := D) (ρ0 := KC m ρ) (G0 := G1) (fun G2 E2 => hs G2 (.inr (YC.trans E2))) (fun i hi => L7 ?_) fs hl (fun G2 ys E2 D2 p hp => ?_) ds items [] [] fs _ G1 D1 va Ex.refl (hd.up E1) .nil e2 (by simp)
   ·have := List.all_eq_true.mp hm.h i hi
    simpa using this
   ·exact k _ _ ((E1.trans E2).trans (UR hp)) (CC ((hd.up E1).up E2) hp D2) fun _ => (MA hp D2).back (E1.trans E2)
  ·cases hf⟩
def E0 (p : Addr) (G G' : Gp) : Prop := ∀ b o,b ≠ p → G b = some o → G' b = some o
theorem E0.refl {p : Addr} {G : Gp} : E0 p G G := fun _ _ _ e => e
theorem E0.trans {p : Addr} {G G1 G2 : Gp} (a : E0 p G G1) (b : E0 p G1 G2) : E0 p G G2 := fun x o n e => b x o n (a x o n e)
theorem E0.of {p : Addr} {G G1 : Gp} (a : Ex G G1) : E0 p G G1 := fun x o _ e => a x o e
theorem E0.wr {p : Addr} {G : Gp} {o : O} : E0 p G (gu G p o) := fun b ob n e => by rw [jR n];exact e
theorem E0.rs {p : Addr} {D : Addr → Prop} {G G1 : Gp} (a : E0 p G G1) : Ex (rs (fun b => D b ∨ b = p) G) (rs (fun b => D b ∨ b = p) G1) := fun b o h => by
 obtain ⟨n,h⟩ := qI h
 rw [jZ n]
 exact a b o (fun z => n (.inr z)) h
theorem qmu {D : Addr → Prop} {G : Gp} {p : Addr} {o : O} (h : Dom D G) : Dom D (gu G p o) := fun b d z => by
 by_cases e : b = p
 ·subst e;rw [qE] at z;cases z
 ·rw [jR e] at z;exact h b d z
theorem qf4 {p : Addr} {stay : Gp → Prop} {g : TG3} {tif : TT3} {te : TE3} {N : St3 → Gp → Prop} (pg : PuG g) (pc : PuC tif) (pe : PuE te) {D : Addr → Prop} {ρ0 : Rho} {G0 : Gp} (hs : ∀ G,Ex (rs (fun b => D b ∨ b = p) G0) G → stay G) (hm : ∀ i ∈ pg.tg,vw ρ0 i = none) (fin : List PyData) (hfin : fin.length ≤ sizeLine)
  (k : ∀ τ G ys,VA (fun b => D b ∨ b = p) G τ ρ0 → E0 p G0 G → Dom (fun b => D b ∨ b = p) G → G p = some (.lst ys) → Dqs (rs (fun b => D b ∨ b = p) G) ys fin → N τ G) :
  ∀ (ds : List PyData) (items ys : List T) (es fs : List PyData) (τ : St3) (G : Gp),Dqs (rs (fun b => D b ∨ b = p) G0) items ds → VA (fun b => D b ∨ b = p) G τ ρ0 → E0 p G0 G → Dom (fun b => D b ∨ b = p) G → G p = some (.lst ys) → Dqs (rs (fun b => D b ∨ b = p) G) ys es → lcP (lcH pg.f pc.f pe.f ρ0) ds = some fs → es ++ fs = fin → qhR p stay g tif te N items τ G
 | _,_,ys,es,fs,τ,G,.nil,va,E,hd,gp,hy,hf,hl => by
  cases hf
  rw [List.append_nil] at hl
  subst hl
  exact ⟨hs G (E.rs.trans YC),k τ G ys va E hd gp hy⟩
 | d :: ds,x :: items,ys,es,fs,τ,G,.cons hx hr,va,E,hd,gp,hy,hf,hl => by
  unfold lcP at hf
  obtain ⟨o,e1,hf⟩ := Option.bind_eq_some_iff.mp hf
  obtain ⟨ZJ,e2,hf⟩ := Option.bind_eq_some_iff.mp hf
  unfold lcH at e1
  obtain ⟨bs,e3,e1⟩ := Option.bind_eq_some_iff.mp e1
  obtain ⟨c,e4,e1⟩ := Option.bind_eq_some_iff.mp e1
  obtain ⟨ts,bd,kg⟩ := pg.ok (hx.up E.rs) e3
  refine ⟨hs G (E.rs.trans YC),kg τ G _ ?_⟩
  have va1 := va.sets bd
  have va2 := va.keep (ts := ts) fun p hp => by
   obtain ⟨q,hq,e⟩ := qc9 bd p hp
   rw [← e];exact hm _ (pg.at' e3 q hq)
  refine pc.ok (va1.view _) hd e4 fun G1 E1 => ?_
  cases c with
  | true =>
   rw [if_pos rfl]
   rw [if_pos rfl] at e1
   obtain ⟨y,e5,rfl⟩ := Option.map_eq_some_iff.mp e1
   simp only [Option.some.injEq] at hf
   subst hf
   refine pe.ok ((va1.up E1).view _) (hd.up E1) e5 fun z G2 E2 D2 _ => ?_
   simp only [E2 _ _ (E1 _ _ gp)]
   have W : E0 p G2 (gu G2 p (.lst (ys ++ [z]))) := E0.wr
   refine ⟨?_,?_⟩
   ·rw [hy.length]
    rw [← hl] at hfin
    simp at hfin;omega
   ·refine qf4 pg pc pe hs hm fin hfin k ds items (ys ++ [z]) (es ++ [y]) ZJ _ _ hr (((va2.up E1).up E2).upx W.rs) ((E.trans (E0.of (E1.trans E2))).trans W) (qmu ((hd.up E1).up E2)) qE ((((hy.up (j1 E1)).up (j1 E2)).append (.cons D2 .nil)).up W.rs) e2 ?_
    rw [← hl];simp
  | false =>
   rw [if_neg Bool.false_ne_true]
   simp at e1
   subst e1
   simp only [Option.some.injEq] at hf
   subst hf
   exact qf4 pg pc pe hs hm fin hfin k ds items ys es ZJ _ G1 hr (va2.up E1) (E.trans (E0.of E1)) (hd.up E1) (E1 _ _ gp) (hy.up (j1 E1)) e2 hl
def qhF (h : PyData → Option (Option (List PyData))) : List PyData → Option (List PyData)
 | [] => some []
 | d :: r => (h d).bind fun o => (qhF h r).bind fun ys => some (match o with | some y => y ++ ys | none => ys)
def qh4 (gf : PyData → Option (List (Nat × PyData))) (cf : Rho → Option Bool) (it : Rho → Option (List PyData)) (h : Rho → PyData → Option (Option PyData)) (ρ : Rho) (d : PyData) : Option (Option (List PyData)) :=
 (gf d).bind fun bs => (cf (QT ρ bs)).bind fun k => if k then ((it (QT ρ bs)).bind fun ds => lcP (h (QT ρ bs)) ds).map some else some none
theorem LW : ∀ {bs : List (Nat × PyData)} {ρ : Rho} {i : Nat},(∀ p ∈ bs,p.1 ≠ i) → vw (QT ρ bs) i = vw ρ i
 | [],_,_,_ => rfl
 | p :: r,ρ,i,h => by
  unfold QT
  rw [LW (fun q hq => h q (by simp [hq])),qeB,if_neg (h p (by simp))]
theorem MV : ∀ (bs : List (Nat × PyData)) (ρ : Rho),(QT ρ bs).length = ρ.length
 | [],τ => rfl
 | p :: r,τ => by unfold QT;rw [MV r];simp
theorem qaH {p : Addr} {stay : Gp → Prop} {g g2 : TG3} {tif tif2 : TT3} {wi2 : TI3} {te : TE3} {q : Q3} (pg : PuG g) (pc : PuC tif) (pi2 : PuI wi2) (pg2 : PuG g2) (pc2 : PuC tif2) (pe : PuE te) {D : Addr → Prop} {ρ0 : Rho} {G0 : Gp} (hs : ∀ G,Ex (rs (fun b => D b ∨ b = p) G0) G → stay G) (hm : ∀ i ∈ pg.tg,vw ρ0 i = none) (hm2 : ∀ i ∈ pg2.tg,vw ρ0 i = none) (hdj : ∀ i ∈ pg2.tg,i ∉ pg.tg) (fin : List PyData) (hfin : fin.length ≤ sizeLine)
  (k : ∀ G ys,E0 p G0 G → G p = some (.lst ys) → Dqs (rs (fun b => D b ∨ b = p) G) ys fin → q (.ref p) G) :
  ∀ (ds : List PyData) (items ys : List T) (es fs : List PyData) (τ : St3) (G : Gp),Dqs (rs (fun b => D b ∨ b = p) G0) items ds → VA (fun b => D b ∨ b = p) G τ ρ0 → E0 p G0 G → Dom (fun b => D b ∨ b = p) G → G p = some (.lst ys) → Dqs (rs (fun b => D b ∨ b = p) G) ys es → qhF (qh4 pg.f pc.f pi2.f (lcH pg2.f pc2.f pe.f) ρ0) ds = some fs → es ++ fs = fin → qcf p stay g tif wi2 g2 tif2 te q items τ G
 | _,_,ys,es,fs,τ,G,.nil,va,E,hd,gp,hy,hf,hl => by
  cases hf
  rw [List.append_nil] at hl
  subst hl
  exact ⟨hs G (E.rs.trans YC),k G ys E gp hy⟩
 | d :: ds,x :: items,ys,es,fs,τ,G,.cons hx hr,va,E,hd,gp,hy,hf,hl => by
  unfold qhF at hf
  obtain ⟨o,e1,hf⟩ := Option.bind_eq_some_iff.mp hf
  obtain ⟨ZJ,e2,hf⟩ := Option.bind_eq_some_iff.mp hf
  unfold qh4 at e1
  obtain ⟨bs,e3,e1⟩ := Option.bind_eq_some_iff.mp e1
  obtain ⟨c,e4,e1⟩ := Option.bind_eq_some_iff.mp e1
  obtain ⟨ts,bd,kg⟩ := pg.ok (hx.up E.rs) e3
  refine ⟨hs G (E.rs.trans YC),kg τ G _ ?_⟩
  have va1 := va.sets bd
  have va2 := va.keep (ts := ts) fun p hp => by
   obtain ⟨q,hq,e⟩ := qc9 bd p hp
   rw [← e];exact hm _ (pg.at' e3 q hq)
  refine pc.ok (va1.view _) hd e4 fun G1 E1 => ?_
  cases c with
  | true =>
   rw [if_pos rfl]
   rw [if_pos rfl] at e1
   obtain ⟨y,e5,rfl⟩ := Option.map_eq_some_iff.mp e1
   obtain ⟨ds2,e6,e5⟩ := Option.bind_eq_some_iff.mp e5
   simp only [Option.some.injEq] at hf
   subst hf
   refine pi2.ok ((va1.up E1).view _) (hd.up E1) e6 fun items2 stay2 G2 E2 D2 hs2 _ => ?_
   have l2 : (es ++ y).length ≤ sizeLine := by
    rw [← hl] at hfin
    simp at hfin ⊢;omega
   refine qf4 pg2 pc2 pe (ρ0 := QT ρ0 bs) (G0 := G2) (fun G3 E3 => hs2 G3 (.inr E3)) (fun i hi => ?_) (es ++ y) l2 (fun τ3 G3 zs va3 E3 hd3 gp3 hz => ?_) ds2 items2 ys es y _ G2 D2 ((va1.up E1).up E2) E0.refl ((hd.up E1).up E2) (E2 _ _ (E1 _ _ gp)) ((hy.up (j1 E1)).up (j1 E2)) e5 rfl
   ·rw [LW fun q hq e => hdj i hi (by rw [← e];exact pg.at' e3 q hq)];exact hm2 i hi
   ·have E4 : E0 p G G3 := (E0.of (E1.trans E2)).trans E3
    have va4 : VA (fun b => D b ∨ b = p) G3 τ3 ρ0 := ⟨by rw [← va3.len,MV],fun i d' hd' => va3.vw i d' (by
     rw [LW fun q hq e => ?_];exact hd'
     rw [← e,hm _ (pg.at' e3 q hq)] at hd';cases hd')⟩
    exact qaH pg pc pi2 pg2 pc2 pe hs hm hm2 hdj fin hfin k ds items zs (es ++ y) ZJ τ3 G3 hr va4 (E.trans E4) hd3 gp3 hz e2 (by rw [← hl];simp)
  | false =>
   rw [if_neg Bool.false_ne_true]
   simp at e1
   subst e1
   simp only [Option.some.injEq] at hf
   subst hf
   exact qaH pg pc pi2 pg2 pc2 pe hs hm hm2 hdj fin hfin k ds items ys es ZJ _ G1 hr (va2.up E1) (E.trans (E0.of E1)) (hd.up E1) (E1 _ _ gp) (hy.up (j1 E1)) e2 hl
def qkx (pi : Rho → Option (List PyData)) (h : Rho → PyData → Option (Option (List PyData))) (m : List (Option Nat)) (ρ : Rho) : Option PyData :=
 (pi ρ).bind fun ds => (qhF (h (KC m ρ)) ds).bind fun fs => cif (fs.length ≤ sizeLine) (some (.list fs)) none
theorem L9 {h : PyData → Option (Option (List PyData))} {α : Type} {g : α → PyData} {k : α → List PyData} {xs : List α} (hh : ∀ a ∈ xs,h (g a) = some (some (k a))) : qhF h (xs.map g) = some (xs.flatMap k) := by
 induction xs with
 | nil => rfl
 | cons a r ih => simp only [List.map_cons,qhF,hh a (by simp),Option.bind_some,ih fun b hb => hh b (by simp [hb]),List.flatMap_cons]
def qmW {wi wi2 : TI3} {g g2 : TG3} {tif tif2 : TT3} {te : TE3} (pi : PuI wi) (pg : PuG g) (pc : PuC tif) (pi2 : PuI wi2) (pg2 : PuG g2) (pc2 : PuC tif2) (pe : PuE te) (m : List (Option Nat)) (hm : Tru (pg.tg.all fun i => m[i]? == some none)) (hm2 : Tru (pg2.tg.all fun i => m[i]? == some none)) (hdj : Tru (pg2.tg.all fun i => !pg.tg.contains i)) : PuE (qlI wi g tif wi2 g2 tif2 te m) :=
 ⟨qkx pi.f (qh4 pg.f pc.f pi2.f (lcH pg2.f pc2.f pe.f)) m,pi.fv ++ m.filterMap id,true,fun {D τ ρ G q d} hv hd hf k => by
  unfold qkx at hf
  obtain ⟨ds,e1,hf⟩ := Option.bind_eq_some_iff.mp hf
  obtain ⟨fs,e2,hf⟩ := Option.bind_eq_some_iff.mp hf
  unfold cif at hf
  split at hf
  ·rename_i hl
   cases hf
   refine pi.ok hv.l hd e1 fun items stay G1 E1 D1 hs _ p hp => ?_
   have va := (VA.cap (m := m) hv.r).up E1
   have np : ∀ {b o},G1 b = some o → b ≠ p := fun e => by rintro rfl;rw [hp] at e;cases e
   have X1 : Ex (rs D G1) (rs (fun b => D b ∨ b = p) (gu G1 p (.lst []))) := fun b o e => by
    obtain ⟨n,e⟩ := qI e
    rw [jZ (by rintro (z | z);exact n z;exact np e z),jR (np e)];exact e
   refine qaH pg pc pi2 pg2 pc2 pe (D := D) (ρ0 := KC m ρ) (G0 := gu G1 p (.lst [])) (p := p) (fun G2 E2 => hs G2 (.inr (X1.trans E2))) (fun i hi => L7 ?_) (fun i hi => L7 ?_) (fun i hi hj => ?_) fs hl (fun G2 ys E2 gp D2 => ?_) ds items [] [] fs _ _ (D1.up X1) ⟨va.len,fun i d hd => let ⟨t,a,b⟩ := va.vw i d hd;⟨t,a,b.up X1⟩⟩ E0.refl ?_ qE .nil e2 (by simp)
   ·simpa using List.all_eq_true.mp hm.h i hi
   ·simpa using List.all_eq_true.mp hm2.h i hi
   ·have := List.all_eq_true.mp hdj.h i hi
    simp at this
    exact this hj
   ·have EE : Ex G1 G2 := fun b o e => E2 b o (np e) (by rw [jR (np e)];exact e)
    have hdp : ¬ D p := fun z => (hd.up E1) p z hp
    refine k _ _ (E1.trans EE) (.lst (by rw [jZ hdp];exact gp) (D2.up (jb fun b z => .inl z))) fun _ => Nw.back (.inr ⟨p,ys,fs,rfl,rfl,hp,gp,D2⟩) E1
   ·intro b hb z
    by_cases e : b = p
    ·subst e;rw [qE] at z;cases z
    ·rw [jR e] at z
     rcases hb with hb | hb
     ·exact (hd.up E1) b hb z
     ·exact e hb
  ·cases hf⟩
end Pu
namespace Pu
open PySem L2 L3
def AD (D : Addr → Prop) (A : Nat → Option Addr) (b : Addr) : Prop := D b ∨ ∃ i,A i = some b
structure RS (D : Addr → Prop) (G0 : Gp) (A : Nat → Option Addr) (τ : St3) (ρ : Rho) (G : Gp) : Prop where
 ex : Ex G0 G
 dm : Dom D G0
 fr : ∀ i p,A i = some p → G0 p = none
 da : ∀ i p,A i = some p → G p ≠ none
 inj : ∀ i j p,A i = some p → A j = some p → i = j
 len : ρ.length = τ.length
 sh : ∀ (i : Nat) (d : PyData),ρ[i]? = some (Sl.sh d) → ∃ t,τ[i]? = some (some t)∧Dq (rs (AD D A) G) t d
 ow : ∀ (i : Nat) (ds : List PyData),ρ[i]? = some (Sl.ow ds) → ∃ p xs,A i = some p∧τ[i]? = some (some (.ref p))∧G p = some (.lst xs)∧Dqs (rs (AD D A) G) xs ds
section
variable {D : Addr → Prop} {G0 G G' : Gp} {A A' : Nat → Option Addr} {τ : St3} {ρ : Rho}
theorem RS.nd (h : RS D G0 A τ ρ G) {i : Nat} {p : Addr} (e : A i = some p) : ¬ D p := fun z => h.dm p z (h.fr i p e)
theorem RS.dom (h : RS D G0 A τ ρ G) : Dom (AD D A) G := fun b hb => by
 rcases hb with hb | ⟨i,hi⟩
 ·exact (h.dm.up h.ex) b hb
 ·exact h.da i b hi
theorem RS.domD (h : RS D G0 A τ ρ G) : Dom D G := h.dm.up h.ex
theorem RS.up (h : RS D G0 A τ ρ G) (e : Ex G G') : RS D G0 A τ ρ G' :=
 ⟨h.ex.trans e,h.dm,h.fr,fun i p a z => (h.da i p a) (by
  cases g : G p with
  | none => rfl
  | some o => rw [e _ _ g] at z;cases z),h.inj,h.len,fun i d a => let ⟨t,b,c⟩ := h.sh i d a;⟨t,b,c.up (j1 e)⟩,fun i ds a => let ⟨p,xs,b,c,d,f⟩ := h.ow i ds a;⟨p,xs,b,c,e _ _ d,f.up (j1 e)⟩⟩
theorem RS.viewAll (h : RS D G0 A τ ρ G) (fv : List Nat) : XY fv D G τ ρ := fun i _ d hd => by
 unfold vw at hd
 obtain ⟨s,e,hd⟩ := Option.bind_eq_some_iff.mp hd
 have less : Ex (rs (AD D A) G) (rs D G) := jb fun b z => .inl z
 cases s with
 | un => cases hd
 | sh d' =>
  cases hd
  obtain ⟨t,b,c⟩ := h.sh i _ e
  exact ⟨t,b,c.up less⟩
 | ow ds =>
  cases hd
  obtain ⟨p,xs,b,c,g,f⟩ := h.ow i _ e
  exact ⟨_,c,.lst (by rw [jZ (h.nd b)];exact g) (f.up less)⟩
theorem RS.view (h : RS D G0 A τ ρ G) {fv : List Nat} (hn : ∀ i ∈ fv,A i = none) : XY fv (AD D A) G τ ρ := fun i hi d hd => by
 unfold vw at hd
 obtain ⟨s,e,hd⟩ := Option.bind_eq_some_iff.mp hd
 cases s with
 | un => cases hd
 | sh d' =>
  cases hd
  exact h.sh i _ e
 | ow ds =>
  obtain ⟨p,xs,b,_⟩ := h.ow i _ e
  rw [hn i hi] at b;cases b
def Sl.dem : Sl → Sl
 | .ow ds => .sh (.list ds)
 | s => s
def dm : List Bool → Rho → Rho
 | b :: m,s :: r => (match b with | true => s.dem | false => s) :: dm m r
 | _,r => r
def mkb (m : List Bool) (i : Nat) : Bool := (m[i]?).getD false
theorem qaC : ∀ (m : List Bool) (ρ : Rho) (i : Nat),(dm m ρ)[i]? = (ρ[i]?).map fun s => if mkb m i = true then s.dem else s
 | [],ρ,i => by simp [dm,mkb]
 | b :: m,[],i => by simp [dm]
 | b :: m,s :: r,0 => by cases b <;> simp [dm,mkb]
 | b :: m,s :: r,i + 1 => by
  have := qaC m r i
  simp only [dm,List.getElem?_cons_succ,mkb] at this ⊢
  exact this
theorem qnw (s : Sl) : s.dem.d = s.d := by cases s <;> rfl
theorem qoa (m : List Bool) (ρ : Rho) (i : Nat) : vw (dm m ρ) i = vw ρ i := by
 unfold vw
 rw [qaC]
 cases ρ[i]? with
 | none => rfl
 | some s =>
  simp only [Option.map_some,Option.bind_some]
  split
  ·exact qnw s
  ·rfl
theorem qfW : ∀ (m : List Bool) (ρ : Rho),(dm m ρ).length = ρ.length
 | [],ρ => rfl
 | b :: m,[] => rfl
 | b :: m,s :: r => by simp [dm,qfW m r]
def Ad (m : List Bool) (A : Nat → Option Addr) : Nat → Option Addr := fun i => if mkb m i = true then none else A i
theorem WZ {m : List Bool} {i : Nat} {p : Addr} (h : Ad m A i = some p) : A i = some p∧mkb m i = false := by
 unfold Ad at h
 split at h
 ·cases h
 ·rename_i n;exact ⟨h,by simpa using n⟩
theorem RS.dem (h : RS D G0 A τ ρ G) (m : List Bool) : RS D G0 (Ad m A) τ (Pu.dm m ρ) G := by
 have less : Ex (rs (AD D A) G) (rs (AD D (Ad m A)) G) := jb fun b z => by
  rcases z with z | ⟨i,z⟩
  ·exact .inl z
  ·exact .inr ⟨i,(WZ z).1⟩
 refine ⟨h.ex,h.dm,fun i p e => h.fr i p (WZ e).1,fun i p e => h.da i p (WZ e).1,fun i j p a b => h.inj i j p (WZ a).1 (WZ b).1,by rw [qfW];exact h.len,fun i d e => ?_,fun i ds e => ?_⟩
 ·rw [qaC] at e
  obtain ⟨s,e1,e2⟩ := Option.map_eq_some_iff.mp e
  cases s with
  | un => split at e2 <;> cases e2
  | sh d' =>
   have : d' = d := by split at e2 <;> (cases e2;rfl)
   subst this
   obtain ⟨t,b,c⟩ := h.sh i _ e1
   exact ⟨t,b,c.up less⟩
  | ow ds =>
   split at e2
   ·rename_i hm
    cases e2
    obtain ⟨p,xs,b,c,g,f⟩ := h.ow i _ e1
    refine ⟨_,c,.lst ?_ (f.up less)⟩
    rw [jZ]
    ·exact g
    ·rintro (z | ⟨j,z⟩)
     ·exact h.nd b z
     ·have := h.inj i j p b (WZ z).1
      subst this
      rw [(WZ z).2] at hm;cases hm
   ·cases e2
 ·rw [qaC] at e
  obtain ⟨s,e1,e2⟩ := Option.map_eq_some_iff.mp e
  cases s with
  | un => split at e2 <;> cases e2
  | sh d' => split at e2 <;> cases e2
  | ow ds' =>
   split at e2
   ·cases e2
   ·rename_i hm
    cases e2
    obtain ⟨p,xs,b,c,g,f⟩ := h.ow i _ e1
    exact ⟨p,xs,by unfold Ad;rw [if_neg hm];exact b,c,g,f.up less⟩
theorem RS.viewD (h : RS D G0 A τ ρ G) {m : List Bool} {fv : List Nat} (hm : Tru (fv.all (mkb m))) : XY fv (AD D (Ad m A)) G τ ρ := by
 have := (h.dem m).view (fv := fv) fun i hi => by unfold Ad;rw [if_pos (List.all_eq_true.mp hm.h i hi)]
 intro i hi d hd
 exact this i hi d (by rw [qoa];exact hd)
def Er (A : Nat → Option Addr) (i : Nat) : Nat → Option Addr := fun j => if j = i then none else A j
theorem D6 {i j : Nat} {p : Addr} (h : Er A i j = some p) : A j = some p∧j ≠ i := by
 unfold Er at h
 split at h
 ·cases h
 ·rename_i n;exact ⟨h,n⟩
theorem RS.put (h : RS D G0 A τ ρ G) (i : Nat) {x : T} {d : PyData} (hx : Dq (rs (AD D A) G) x d) : RS D G0 (Er A i) (τ.set i (some x)) (ρ.set i (.sh d)) G := by
 have less : Ex (rs (AD D A) G) (rs (AD D (Er A i)) G) := jb fun b z => by
  rcases z with z | ⟨j,z⟩
  ·exact .inl z
  ·exact .inr ⟨j,(D6 z).1⟩
 refine ⟨h.ex,h.dm,fun j p e => h.fr j p (D6 e).1,fun j p e => h.da j p (D6 e).1,fun j k p a b => h.inj j k p (D6 a).1 (D6 b).1,by simp [h.len],fun j e he => ?_,fun j ds e => ?_⟩
 ·rw [List.getElem?_set] at he ⊢
  split at he
  ·rename_i hj
   rw [if_pos hj]
   split at he
   ·rename_i hl
    cases he
    exact ⟨x,by rw [if_pos (by rw [← h.len];exact hl)],hx.up less⟩
   ·cases he
  ·rename_i hj
   rw [if_neg hj]
   obtain ⟨t,b,c⟩ := h.sh j _ he
   exact ⟨t,b,c.up less⟩
 ·rw [List.getElem?_set] at e ⊢
  split at e
  ·split at e <;> cases e
  ·rename_i hj
   rw [if_neg hj]
   obtain ⟨p,xs,b,c,g,f⟩ := h.ow j _ e
   exact ⟨p,xs,by unfold Er;rw [if_neg (fun z => hj z.symm)];exact b,c,g,f.up less⟩
theorem RS.puts : ∀ {ts : List (Nat × T)} {bs : List (Nat × PyData)} {A : Nat → Option Addr} {τ : St3} {ρ : Rho},RS D G0 A τ ρ G → Bd (rs (AD D A) G) ts bs → ∃ A',RS D G0 A' (sets τ ts) (QT ρ bs) G
 | _,_,A,_,_,h,.nil => ⟨A,h⟩
 | _,_,A,_,_,h,.cons (i := i) a b => by
  unfold sets QT
  exact RS.puts (h.put i a) (b.up (jb fun b z => by
   rcases z with z | ⟨j,z⟩
   ·exact .inl z
   ·exact .inr ⟨j,(D6 z).1⟩))
theorem RS.putN (h : RS D G0 A τ ρ G) (i : Nat) {x : T} {d : PyData} {ds : List PyData} (hd : d = .list ds) (E : Ex G G') (hx : Nw (AD D A) G G' x d) : RS D G0 (fun j => if j = i then (match x with | .ref p => some p | _ => none) else A j) (τ.set i (some x)) (ρ.set i (.ow ds)) G' := by
 rcases hx with hx | ⟨p,xs,ds',rfl,e',gp,gp',hs⟩
 ·rw [hd] at hx;cases hx
 rw [hd] at e'
 cases e'
 have np : ∀ {j q},A j = some q → q ≠ p := fun e => by rintro rfl;exact h.da _ _ e gp
 have X1 : Ex (rs (AD D A) G) (rs (AD D (fun j => if j = i then some p else A j)) G') := fun b o e => by
  obtain ⟨n,e⟩ := qI e
  rw [jZ]
  ·exact E _ _ e
  ·rintro (z | ⟨j,z⟩)
   ·exact n (.inl z)
   ·simp only at z
    split at z
    ·cases z;rw [gp] at e;cases e
    ·exact n (.inr ⟨j,z⟩)
 refine ⟨h.ex.trans E,h.dm,fun j q e => ?_,fun j q e => ?_,fun j k q a b => ?_,by simp [h.len],fun j e he => ?_,fun j es e => ?_⟩
 ·simp only at e
  split at e
  ·cases e
   cases z : G0 p with
   | none => rfl
   | some o => rw [h.ex _ _ z] at gp;cases gp
  ·exact h.fr j q e
 ·simp only at e
  split at e
  ·cases e;rw [gp'];simp
  ·exact (h.up E).da j q e
 ·simp only at a b
  split at a
  ·cases a
   split at b
   ·rename_i h1 h2;rw [h1,h2]
   ·exact absurd rfl (np b)
  ·split at b
   ·cases b;exact absurd rfl (np a)
   ·exact h.inj j k q a b
 ·rw [List.getElem?_set] at he ⊢
  split at he
  ·split at he <;> cases he
  ·rename_i hj
   rw [if_neg hj]
   obtain ⟨t,b,c⟩ := h.sh j _ he
   exact ⟨t,b,c.up X1⟩
 ·rw [List.getElem?_set] at e ⊢
  split at e
  ·rename_i hj
   subst hj
   split at e
   ·rename_i hl
    cases e
    refine ⟨p,xs,by simp,by rw [if_pos rfl,if_pos (by rw [← h.len];exact hl)],gp',hs.up (jb fun b z => ?_)⟩
    rcases z with z | ⟨j,z⟩
    ·exact .inl (.inl z)
    ·simp only at z
     split at z
     ·cases z;exact .inr rfl
     ·exact .inl (.inr ⟨j,z⟩)
   ·cases e
  ·rename_i hj
   rw [if_neg hj]
   obtain ⟨q,ys,b,c,g,f⟩ := h.ow j _ e
   exact ⟨q,ys,by rw [if_neg (fun z => hj z.symm)];exact b,c,E _ _ g,f.up X1⟩
theorem RS.wr (h : RS D G0 A τ ρ G) {i : Nat} {p : Addr} {xs : List T} {ds : List PyData} (hi : A i = some p) (ht : τ[i]? = some (some (.ref p))) (hs : Dqs (rs (AD D A) G) xs ds) : RS D G0 A τ (ρ.set i (.ow ds)) (gu G p (.lst xs)) := by
 have X1 : Ex (rs (AD D A) G) (rs (AD D A) (gu G p (.lst xs))) := fun b o e => by
  obtain ⟨n,e⟩ := qI e
  rw [jZ n,jR (by rintro rfl;exact n (.inr ⟨i,hi⟩))];exact e
 refine ⟨fun b o e => ?_,h.dm,h.fr,fun j q e => ?_,h.inj,by simp [h.len],fun j e he => ?_,fun j es e => ?_⟩
 ·rw [jR (by rintro rfl;rw [h.fr i _ hi] at e;cases e)];exact h.ex _ _ e
 ·by_cases z : q = p
  ·subst z;rw [qE];simp
  ·rw [jR z];exact h.da j q e
 ·rw [List.getElem?_set] at he
  split at he
  ·split at he <;> cases he
  ·obtain ⟨t,b,c⟩ := h.sh j _ he
   exact ⟨t,b,c.up X1⟩
 ·rw [List.getElem?_set] at e
  split at e
  ·rename_i hj
   subst hj
   split at e
   ·cases e
    exact ⟨p,xs,hi,ht,qE,hs.up X1⟩
   ·cases e
  ·rename_i hj
   obtain ⟨q,ys,b,c,g,f⟩ := h.ow j _ e
   exact ⟨q,ys,b,c,by rw [jR (by rintro rfl;exact hj (h.inj i j _ hi b))];exact g,f.up X1⟩
theorem RS.base {Gb : Gp} (h : RS D Gb A τ ρ G) (e : Ex G0 Gb) (hd : Dom D G0) : RS D G0 A τ ρ G :=
 ⟨e.trans h.ex,hd,(fun i p a => by
  cases z : G0 p with
  | none => rfl
  | some o => have := h.fr i p a;rw [e _ _ z] at this;cases this),h.da,h.inj,h.len,h.sh,h.ow⟩
end
inductive Ot where
 | nx (ρ : Rho) | bk (ρ : Rho) | ct (ρ : Rho) | rt (d : PyData) (fr : Bool)
def qjs (D : Addr → Prop) (G0 : Gp) (e : Ends3) : Ot → Prop
 | .nx ρ => ∀ A τ G,RS D G0 A τ ρ G → e.nx τ G
 | .bk ρ => ∀ A τ G,RS D G0 A τ ρ G → e.bk τ G
 | .ct ρ => ∀ A τ G,RS D G0 A τ ρ G → e.ct τ G
 | .rt d fr => ∀ x G,Ex G0 G → Dq (rs D G) x d → (fr = true → Nw D G0 G x d) → e.rt x G
theorem qjs.base {D : Addr → Prop} {G0 Gb : Gp} {e : Ends3} {o : Ot} (h : qjs D G0 e o) (x : Ex G0 Gb) (hd : Dom D G0) : qjs D Gb e o := by
 cases o with
 | nx ρ => exact fun A τ G r => h A τ G (r.base x hd)
 | bk ρ => exact fun A τ G r => h A τ G (r.base x hd)
 | ct ρ => exact fun A τ G r => h A τ G (r.base x hd)
 | rt d fr => exact fun y G a b c => h y G (x.trans a) b fun z => (c z).back x
structure PuS (t : TS3) where
 f : Nat → Rho → Option Ot
 ok : ∀ {D G0 A τ ρ G n o} {e : Ends3},RS D G0 A τ ρ G → f n ρ = some o → qjs D G0 e o → t e τ G
def QS : PuS qL := ⟨fun _ ρ => some (.nx ρ),fun h hf k => by cases hf;exact k _ _ _ h⟩
def qpC : PuS qhX := ⟨fun _ ρ => none,fun h hf k => by cases hf⟩
def qmP (a b : Nat → Rho → Option Ot) (n : Nat) (ρ : Rho) : Option Ot := (a n ρ).bind fun o => match o with | .nx ρ' => b n ρ' | o => some o
def QQ {t u : TS3} (a : PuS t) (b : PuS u) : PuS (qM t u) := ⟨qmP a.f b.f,fun {D G0 A τ ρ G n o e} h hf k => by
 unfold qmP at hf
 obtain ⟨o1,e1,hf⟩ := Option.bind_eq_some_iff.mp hf
 refine a.ok h e1 ?_
 cases o1 with
 | nx ρ' => exact fun A' τ' G' h' => b.ok h' hf k
 | bk ρ' => cases hf;exact k
 | ct ρ' => cases hf;exact k
 | rt d fr => cases hf;exact k⟩
def sIf {c : TT3} {t u : TS3} (pc : PuC c) (a : PuS t) (b : PuS u) : PuS (jq c t u) := ⟨fun n ρ => (pc.f ρ).bind fun k => if k then a.f n ρ else b.f n ρ,fun h hf k => by
 obtain ⟨o1,e1,hf⟩ := Option.bind_eq_some_iff.mp hf
 refine pc.ok (h.viewAll _) h.domD e1 fun G1 E1 => ?_
 cases o1 with
 | true => exact a.ok (h.up E1) hf k
 | false => exact b.ok (h.up E1) hf k⟩
def Q9 {t : TE3} (a : PuE t) : PuS (qR t) := ⟨fun _ ρ => (a.f ρ).map fun d => .rt d a.nw,fun h hf k => by
 obtain ⟨d,e1,rfl⟩ := Option.map_eq_some_iff.mp hf
 exact a.ok (h.viewAll _) h.domD e1 fun x G1 E1 D1 N1 => k x G1 (h.ex.trans E1) D1 fun z => (N1 z).back h.ex⟩
def qhT (ρ : Rho) (i : Nat) : Option Ot := match ρ[i]? with | some (.ow ds) => some (.rt (.list ds) true) | some (.sh d) => some (.rt d false) | _ => none
def qhO (i : Nat) : PuS (qR (v3 i)) := ⟨fun _ ρ => qhT ρ i,fun h hf k => by
 unfold qhT at hf
 split at hf
 ·rename_i ds e
  cases hf
  obtain ⟨p,xs,b,c,g,f⟩ := h.ow i _ e
  simp only [qR,v3,c]
  refine k _ _ h.ex (.lst (by rw [jZ (h.nd b)];exact g) (f.up (jb fun b z => .inl z))) fun _ => .inr ⟨p,xs,ds,rfl,rfl,h.fr i p b,g,f.up (jb fun q z => ?_)⟩
  rcases z with z | z
  ·exact .inl z
  ·subst z;exact .inr ⟨i,b⟩
 ·rename_i d e
  cases hf
  obtain ⟨t,b,c⟩ := h.sh i _ e
  simp only [qR,v3,b]
  exact k _ _ h.ex (c.up (jb fun b z => .inl z)) (fun z => by cases z)
 ·cases hf⟩
def qfr : PyData → Bool
 | .none => true | .bool _ => true | .int _ => true | .str _ => true | _ => false
theorem CD {H H' : Gp} {x : T} {d : PyData} (h : Dq H x d) (s : qfr d = true) : Dq H' x d := by
 cases h <;> first | (constructor;done) | (simp [qfr] at s;done)
def qpB : PyData → Sl
 | .list ds => .ow ds
 | d => .sh d
def MM (m : List Bool) (nw : Bool) (i : Nat) (d : PyData) (ρ : Rho) : Rho := if qfr d then ρ.set i (.sh d) else (dm m ρ).set i (if nw then qpB d else .sh d)
def qag {t : TE3} (a : PuE t) (i : Nat) (m : List Bool) (hm : Tru (a.fv.all (mkb m))) : PuS (zm t (gn3 i)) := ⟨fun _ ρ => (a.f ρ).map fun d => .nx (MM m a.nw i d ρ),fun {D G0 A τ ρ G n o e} h hf k => by
 obtain ⟨d,e1,rfl⟩ := Option.map_eq_some_iff.mp hf
 refine a.ok (h.viewD hm) (h.dem m).dom e1 fun x G1 E1 D1 N1 => ?_
 unfold MM at k
 show e.nx (τ.set i (some x)) G1
 split at k
 ·rename_i hs
  exact k _ _ _ ((h.up E1).put i (CD D1 hs))
 ·split at k
  ·rename_i hn
   have N := N1 hn
   rcases id N with h2 | ⟨p,xs,ds,h1,h2,_⟩
   ·subst h2;rename_i hs;exact absurd rfl hs
   subst h2
   exact k _ _ _ ((h.dem m).putN i rfl E1 N)
  ·exact k _ _ _ (((h.dem m).up E1).put i D1)⟩
def XJ {t : TE3} {g : TG3} (a : PuE t) (pg : PuG g) (m : List Bool) (hm : Tru (a.fv.all (mkb m))) : PuS (zm t g) := ⟨fun _ ρ => (a.f ρ).bind fun d => (pg.f d).map fun bs => .nx (QT (dm m ρ) bs),fun {D G0 A τ ρ G n o e} h hf k => by
 obtain ⟨d,e1,hf⟩ := Option.bind_eq_some_iff.mp hf
 obtain ⟨bs,e2,rfl⟩ := Option.map_eq_some_iff.mp hf
 refine a.ok (h.viewD hm) (h.dem m).dom e1 fun x G1 E1 D1 N1 => ?_
 obtain ⟨ts,bd,kg⟩ := pg.ok D1 e2
 refine kg _ _ _ ?_
 obtain ⟨A',h'⟩ := ((h.dem m).up E1).puts bd
 exact k _ _ _ h'⟩
def qmS (i j : Nat) (m : List Bool) (ds : List PyData) (ρ : Rho) : Option Ot := match ds with
 | [d,e] => if qfr d && qfr e then some (.nx ((ρ.set i (.sh d)).set j (.sh e))) else some (.nx (((dm m ρ).set i (.sh d)).set j (.sh e)))
 | _ => none
theorem qmb {D : Addr → Prop} {A : Nat → Option Addr} {G : Gp} {i : Nat} : Ex (rs (AD D A) G) (rs (AD D (Er A i)) G) := jb fun b z => by
 rcases z with z | ⟨j,z⟩
 ·exact .inl z
 ·exact .inr ⟨j,(D6 z).1⟩
def qn3 {t : TA3} (a : PuA t) (i j : Nat) (m : List Bool) (hm : Tru (a.fv.all (mkb m))) : PuS (CY i j t) := ⟨fun _ ρ => (a.f ρ).bind fun ds => qmS i j m ds ρ,fun {D G0 A τ ρ G n o e} h hf k => by
 obtain ⟨ds,e1,hf⟩ := Option.bind_eq_some_iff.mp hf
 refine a.ok (h.viewD hm) (h.dem m).dom e1 fun x G1 E1 D1 => ?_
 unfold qmS at hf
 split at hf
 ·cases D1 with
  | cons a b => cases b with
   | cons b c =>
    cases c
    split at hf
    ·rename_i hs
     cases hf
     rw [Bool.and_eq_true] at hs
     exact k _ _ _ (((h.up E1).put i (CD a hs.1)).put j (CD b hs.2))
    ·cases hf
     exact k _ _ _ ((((h.dem m).up E1).put i a).put j (b.up qmb))
 ·cases hf⟩
def slot (ρ : Rho) (i : Nat) : Option (List PyData) := match ρ[i]? with | some (.ow ds) => some ds | _ => none
theorem qgw {ρ : Rho} {i : Nat} {ds : List PyData} (h : slot ρ i = some ds) : ρ[i]? = some (.ow ds) := by
 unfold slot at h
 split at h
 ·rename_i e;cases h;exact e
 ·cases h
def dmS (m : List Bool) (d : PyData) (ρ : Rho) : Rho := if qfr d then ρ else dm m ρ
theorem RS.evalS {D : Addr → Prop} {G0 G : Gp} {A : Nat → Option Addr} {τ : St3} {ρ : Rho} (h : RS D G0 A τ ρ G) {t : TE3} (a : PuE t) (m : List Bool) (hm : Tru (a.fv.all (mkb m))) {d : PyData} (hf : a.f ρ = some d) : ∃ A1,RS D G0 A1 τ (dmS m d ρ) G∧∀ q : Q3,(∀ x G',Ex G G' → Dq (rs (AD D A1) G') x d → q x G') → t τ G q := by
 unfold dmS
 by_cases hs : qfr d = true
 ·rw [if_pos hs]
  exact ⟨A,h,fun q k => a.ok (h.viewAll _) h.domD hf fun x G1 E1 D1 _ => k x G1 E1 (CD D1 hs)⟩
 ·rw [if_neg hs]
  exact ⟨Ad m A,h.dem m,fun q k => a.ok (h.viewD hm) (h.dem m).dom hf fun x G1 E1 D1 _ => k x G1 E1 D1⟩
def qk5 (i : Nat) (d : PyData) (ρ : Rho) : Option Ot := match d with | .list es => (slot ρ i).bind fun ds => cif (ds.length + es.length ≤ sizeLine) (some (.nx (ρ.set i (.ow (ds ++ es))))) none | _ => none
def qoL {t : TE3} (a : PuE t) (i : Nat) (m : List Bool) (hm : Tru (a.fv.all (mkb m))) : PuS (W9 (bm3 qcj (v3 i) (qc t qj))) := ⟨fun _ ρ => (a.f ρ).bind fun d => qk5 i d (dmS m d ρ),fun {D G0 A τ ρ G n o e} h hf k => by
 obtain ⟨d,e1,hf⟩ := Option.bind_eq_some_iff.mp hf
 obtain ⟨A1,h1,ev⟩ := h.evalS a m hm e1
 unfold qk5 at hf
 split at hf
 ·obtain ⟨ds,e2,hf⟩ := Option.bind_eq_some_iff.mp hf
  unfold cif at hf
  split at hf
  ·rename_i hl
   cases hf
   obtain ⟨p,xs,b,c,g,f⟩ := h1.ow i _ (qgw e2)
   simp only [W9,bm3,v3,c,zG g]
   refine ⟨rfl,ev _ fun x G1 E1 D1 => ?_⟩
   cases D1 with
   | lst g2 hs2 =>
    simp only [qj,qcj,E1 _ _ g,(qI g2).2]
    exact ⟨by rw [f.length,hs2.length];exact hl,k _ _ _ ((h1.up E1).wr b c ((f.up (j1 E1)).append hs2))⟩
  ·cases hf
 ·cases hf⟩
def X0 (gf : PyData → Option (List (Nat × PyData))) (bf : Rho → Option Ot) : List PyData → Rho → Option Ot
 | [],ρ => some (.nx ρ)
 | d :: r,ρ => (gf d).bind fun bs => (bf (QT ρ bs)).bind fun o => match o with
  | .nx ρ' => X0 gf bf r ρ'
  | .ct ρ' => X0 gf bf r ρ'
  | .bk ρ' => some (.nx ρ')
  | .rt d b => some (.rt d b)
theorem MC {stay : Gp → Prop} {g : TG3} {tb : TS3} {e : Ends3} (pg : PuG g) (pb : PuS tb) {D : Addr → Prop} {G0 : Gp} {n : Nat} {o : Ot} {items0 : List T} (hs : ∀ A τ ρ G,RS D G0 A τ ρ G → stay G) (k : qjs D G0 e o) :
  ∀ (ds : List PyData) (items : List T),(∀ A τ ρ G,RS D G0 A τ ρ G → Dqs (rs (AD D A) G) items ds) → ∀ A τ ρ G,RS D G0 A τ ρ G → X0 pg.f (pb.f n) ds ρ = some o → CW stay g tb e items τ G
 | [],items,hi,A,τ,ρ,G,h,hf => by
  cases hf
  have := hi _ _ _ _ h
  cases this
  exact ⟨hs _ _ _ _ h,k _ _ _ h⟩
 | d :: ds,items,hi,A,τ,ρ,G,h,hf => by
  have hh := hi _ _ _ _ h
  cases hh with
  | cons hx hr =>
   rename_i x items
   unfold X0 at hf
   obtain ⟨bs,e1,hf⟩ := Option.bind_eq_some_iff.mp hf
   obtain ⟨o1,e2,hf⟩ := Option.bind_eq_some_iff.mp hf
   obtain ⟨ts,bd,kg⟩ := pg.ok hx e1
   refine ⟨hs _ _ _ _ h,kg _ _ _ ?_⟩
   obtain ⟨A',h'⟩ := h.puts bd
   refine pb.ok h' e2 ?_
   have hi' : ∀ A τ ρ G,RS D G0 A τ ρ G → Dqs (rs (AD D A) G) items ds := fun A τ ρ G h => by
    have := hi _ _ _ _ h
    cases this with
    | cons a b => exact b
   cases o1 with
   | nx ρ' => exact fun A2 τ2 G2 h2 => MC (items0 := items0) pg pb hs k ds items hi' _ _ _ _ h2 hf
   | ct ρ' => exact fun A2 τ2 G2 h2 => MC (items0 := items0) pg pb hs k ds items hi' _ _ _ _ h2 hf
   | bk ρ' => cases hf;exact k
   | rt d fr => cases hf;exact k
def qlf (pi : Rho → Option (List PyData)) (nm : Bool) (m : List Bool) (gf : PyData → Option (List (Nat × PyData))) (bf : Nat → Rho → Option Ot) (n : Nat) (ρ : Rho) : Option Ot := (pi ρ).bind fun ds => X0 gf (bf n) ds (if nm then ρ else dm m ρ)
def qgB {wi : TI3} {g : TG3} {tb : TS3} (pi : PuI wi) (pg : PuG g) (pb : PuS tb) (m : List Bool) (hm : Tru (pi.fv.all (mkb m))) : PuS (RK wi g tb) := ⟨qlf pi.f pi.nm m pg.f pb.f,fun {D G0 A τ ρ G n o e} h hf k => by
 unfold qlf at hf
 obtain ⟨ds,e1,hf⟩ := Option.bind_eq_some_iff.mp hf
 refine pi.ok (h.viewD hm) (h.dem m).dom e1 fun items stay G1 E1 D1 hs hnm => ?_
 cases hb : pi.nm with
 | true =>
  rw [hb,if_pos rfl] at hf
  obtain ⟨ns,rfl⟩ := hnm hb
  have := D1.ints
  subst this
  exact MC (items0 := []) pg pb (fun _ _ _ _ _ => hs _ (.inl hb)) k _ _ (fun A τ ρ G _ => Dqs.ofInts _) _ _ _ _ (h.up E1) hf
 | false =>
  rw [hb,if_neg Bool.false_ne_true] at hf
  have h1 := (h.dem m).up E1
  have b1 : Ex G0 (rs (fun b => ∃ i,Ad m A i = some b) G1) := fun b o e => by
   rw [jZ]
   ·exact h1.ex _ _ e
   ·rintro ⟨i,z⟩;rw [h1.fr i _ z] at e;cases e
  have h2 : RS D (rs (fun b => ∃ i,Ad m A i = some b) G1) (Ad m A) τ (dm m ρ) G1 := ⟨YC,h.dm.up b1,fun i p z => by unfold rs;exact zC ⟨i,z⟩,h1.da,h1.inj,h1.len,h1.sh,h1.ow⟩
  have X : ∀ A2 τ2 ρ2 G2,RS D (rs (fun b => ∃ i,Ad m A i = some b) G1) A2 τ2 ρ2 G2 → Ex (rs (AD D (Ad m A)) G1) (rs (AD D A2) G2) := fun A2 τ2 ρ2 G2 r b o e => by
   obtain ⟨n1,e⟩ := qI e
   have eb : rs (fun b => ∃ i,Ad m A i = some b) G1 b = some o := by rw [jZ (fun z => n1 (.inr z))];exact e
   rw [jZ]
   ·exact r.ex _ _ eb
   ·rintro (z | ⟨i,z⟩)
    ·exact n1 (.inl z)
    ·rw [r.fr i _ z] at eb;cases eb
  exact MC (items0 := []) pg pb (fun A2 τ2 ρ2 G2 r => hs _ (.inr ((X _ _ _ _ r).trans YC))) (k.base b1 h.dm) _ _ (fun A2 τ2 ρ2 G2 r => D1.up (X _ _ _ _ r)) _ _ _ _ h2 hf⟩
def JU (fr : Bool) : Option Ot → Option PyData
 | some (.rt d b) => if fr = true∧b = false then (match d with | .none => some .none | _ => none) else some d
 | some (.nx _) => if fr then none else some .none
 | _ => none
def st (ds : List PyData) (N : Nat) : Rho := ds.map Sl.sh ++ List.replicate (N - ds.length) .un
def run (f : Nat → Rho → Option Ot) (k N n : Nat) (fr : Bool) (ds : List PyData) : Option PyData := if ds.length = k then JU fr (f n (st ds N)) else none
theorem qT {t : TS3} (b : PuS t) (N : List Str) (k n : Nat) (fr : Bool) : ∀ ts G q,PSp (run b.f k N.length n fr) fr ts G q → ts.length = k∧t { nx := fun _ G' => q .non G',rt := q } (qs N ts) G := by
 rintro ts G q ⟨D,ds,d,hs,hd,hf,h⟩
 unfold run at hf
 split at hf
 ·rename_i hk
  refine ⟨by rw [hs.length];exact hk,?_⟩
  have r : RS D G (fun _ => none) (qs N ts) (st ds N.length) G := by
   refine ⟨Ex.refl,hd,(fun i p e => by cases e),(fun i p e => by cases e),(fun i j p e => by cases e),(by simp [st,qs,hs.length]),fun i d' e => ?_,fun i es e => ?_⟩
   ·unfold st at e
    unfold qs
    by_cases hi : i < ds.length
    ·rw [List.getElem?_append_left (by simpa using hi),List.getElem?_map] at e
     obtain ⟨d2,e3,e4⟩ := Option.map_eq_some_iff.mp e
     cases e4
     obtain ⟨x,e5,hx⟩ := hs.get e3
     refine ⟨x,?_,hx.up (jb fun b z => ?_)⟩
     ·rw [List.getElem?_append_left (by simp [hs.length];exact hi),List.getElem?_map,e5];rfl
     ·rcases z with z | ⟨i,z⟩
      ·exact z
      ·cases z
    ·rw [List.getElem?_append_right (by simpa using hi),List.getElem?_replicate] at e
     split at e <;> cases e
   ·unfold st at e
    by_cases hi : i < ds.length
    ·rw [List.getElem?_append_left (by simpa using hi),List.getElem?_map] at e
     obtain ⟨d2,e3,e4⟩ := Option.map_eq_some_iff.mp e
     cases e4
    ·rw [List.getElem?_append_right (by simpa using hi),List.getElem?_replicate] at e
     split at e <;> cases e
  unfold JU at hf
  split at hf
  ·rename_i d' b' e
   split at hf
   ·split at hf
    ·cases hf
     exact b.ok r e fun x G' a c z => h x G' a c fun _ => .inl rfl
    ·cases hf
   ·rename_i hb
    cases hf
    exact b.ok r e fun x G' a c z => h x G' a c fun w => z (by
     cases b' with
     | true => rfl
     | false => exact absurd ⟨w,rfl⟩ hb)
  ·rename_i ρ' e
   split at hf
   ·cases hf
   ·rename_i hb
    cases hf
    exact b.ok r e fun A τ G' r' => h .non G' r'.ex .non fun w => absurd w hb
  ·cases hf
 ·cases hf
end Pu
namespace Pu
open PySem L2 L3
mutual
def tD : T → Option PyData
 | .non => some .none | .bl b => some (.bool b) | .int i => some (.int i) | .str x => some (.str x) | .tup xs => (tDs xs).map .tuple | .ref _ => none
def tDs : List T → Option (List PyData)
 | [] => some []
 | x :: r => (tD x).bind fun d => (tDs r).map (d :: ·)
end
mutual
theorem qlA {G : Gp} : ∀ (t : T) {d : PyData},tD t = some d → Dq G t d
 | .non,_,h => by cases h;exact .non
 | .bl b,_,h => by cases h;exact .bl b
 | .int b,_,h => by cases h;exact .int b
 | .str b,_,h => by cases h;exact .str b
 | .tup xs,_,h => by
  unfold tD at h
  obtain ⟨ds,e,rfl⟩ := Option.map_eq_some_iff.mp h
  exact .tup (qe9 xs e)
 | .ref _,_,h => by cases h
theorem qe9 {G : Gp} : ∀ (t : List T) {d : List PyData},tDs t = some d → Dqs G t d
 | [],_,h => by cases h;exact .nil
 | x :: r,_,h => by
  unfold tDs at h
  obtain ⟨d,e,h⟩ := Option.bind_eq_some_iff.mp h
  obtain ⟨ds,e2,rfl⟩ := Option.map_eq_some_iff.mp h
  exact .cons (qlA x e) (qe9 r e2)
end
def asS : PyData → Option Str
 | .str s => some s
 | _ => none
theorem qek {d : PyData} {b : Str} (h : asS d = some b) : d = .str b := by cases d <;> simp [asS] at h;subst h;rfl
def qk2 (tab : List (Str × T)) {te : TE3} (a : PuE te) : PuE (qcv tab te) := ⟨fun ρ => ((a.f ρ).bind asS).bind fun s => (jt tab s).bind tD,a.fv,false,fun hv hd hf k => by
 obtain ⟨s,e1,hf⟩ := Option.bind_eq_some_iff.mp hf
 obtain ⟨d,e1,e2⟩ := Option.bind_eq_some_iff.mp e1
 have := qek e2;subst this
 obtain ⟨t,e3,hf⟩ := Option.bind_eq_some_iff.mp hf
 refine a.ok hv hd e1 fun x' G1 E1 D1 _ => ?_
 cases D1
 simp only [e3]
 exact k _ _ E1 (qlA t hf) (fun z => by cases z)⟩
def qc1 : List Str → List PyData → Str → Option PyData
 | k :: ks,x :: xs,s => if k = s then some x else qc1 ks xs s
 | _,_,_ => none
theorem qbS {G : Gp} : ∀ (ks : List Str) {xs : List T} {ds : List PyData} {s : Str} {d : PyData},Dqs G xs ds → qc1 ks ds s = some d → ∃ x,jt (ks.zip xs) s = some x∧Dq G x d
 | [],_,_,_,_,_,h => by simp [qc1] at h
 | k :: ks,_,_,_,_,.nil,h => by simp [qc1] at h
 | k :: ks,_,_,s,d,.cons a b,h => by
  unfold qc1 at h
  simp only [List.zip_cons_cons,jt]
  split at h
  ·rename_i e
   cases h
   exact ⟨_,by rw [if_pos e],a⟩
  ·rename_i e
   obtain ⟨x,h1,h2⟩ := qbS ks b h
   exact ⟨x,by rw [if_neg e];exact h1,h2⟩
def qmk (ks : List Str) {t : TA3} {te : TE3} (a : PuA t) (b : PuE te) : PuE (qg8 ks t te) := ⟨fun ρ => (a.f ρ).bind fun ds => ((b.f ρ).bind asS).bind fun s => qc1 ks ds s,a.fv ++ b.fv,false,fun hv hd hf k => by
 obtain ⟨ds,e1,hf⟩ := Option.bind_eq_some_iff.mp hf
 obtain ⟨s,e2,hf⟩ := Option.bind_eq_some_iff.mp hf
 obtain ⟨d,e2,e3⟩ := Option.bind_eq_some_iff.mp e2
 have := qek e3;subst this
 refine a.ok hv.l hd e1 fun xs G1 E1 D1 => b.ok (hv.r.up E1) (hd.up E1) e2 fun y G2 E2 D2 _ => ?_
 cases D2
 obtain ⟨x,h1,h2⟩ := qbS ks (D1.up (j1 E2)) hf
 simp only [h1]
 exact k _ _ (E1.trans E2) h2 (fun z => by cases z)⟩
def qja (d : PyData) (es : List PyData) : Option PyData := match d,es with
 | .list ds,[.int k] => (V4 ds).bind fun ns => cif ((PyData.list (List.map PyData.int ns)).layable0 = true∧k ∈ ns) (some (.int (List.idxOf k ns : Nat))) none
 | _,_ => none
def qoP {te : TE3} {t : TA3} (b : PuE te) (a : PuA t) : PuE (bm3 qfF te t) := ⟨fun ρ => (b.f ρ).bind fun d => (a.f ρ).bind fun es => qja d es,b.fv ++ a.fv,false,fun hv hd hf k => by
 obtain ⟨d,e1,hf⟩ := Option.bind_eq_some_iff.mp hf
 obtain ⟨es,e2,hf⟩ := Option.bind_eq_some_iff.mp hf
 unfold qja at hf
 split at hf
 ·obtain ⟨ns,e3,hf⟩ := Option.bind_eq_some_iff.mp hf
  unfold cif at hf
  split at hf
  ·rename_i c
   cases hf
   have := DH e3;subst this
   refine b.ok hv.l hd e1 fun x G1 E1 D1 _ => ?_
   cases D1 with
   | lst g hs =>
    have := hs.ints;subst this
    simp only [zG (qI g).2]
    refine ⟨rfl,a.ok (hv.r.up E1) (hd.up E1) e2 fun ys G2 E2 D2 => ?_⟩
    cases D2 with
    | cons a b =>
     cases b;cases a
     simp only [qfF,zG (E2 _ _ (qI g).2),DP]
     exact ⟨c.1,c.2,k _ _ (E1.trans E2) (.int _) (fun z => by cases z)⟩
  ·cases hf
 ·cases hf⟩
theorem qcI {fr : Bool} : ∀ ts G q,PSp (fun _ => none) fr ts G q → False := fun ts G q ⟨_,_,_,_,_,h,_⟩ => by cases h
theorem Fn3.pz {P : Program} {w : World} {K : PySem.W.Frag} {mg : Str → Option Value} {base : Heap} {k : Nat} {x : Str} {sp : Sp3} (F : Fn3 P w K mg base k x sp) (fr : Bool) : Fn3 P w K mg base k x (PSp (fun _ => none) fr) := F.imp fun ts G q h => (qcI ts G q h).elim
end Pu
namespace Pu
open PySem L2 L3
theorem qoT {i : Nat} : (bV i).f = fun ρ => vw ρ i := id rfl
theorem qdU {i : Int} : (qN i).f = fun _ => some (.int i) := id rfl
theorem qkU {i : Bool} : (bBl i).f = fun _ => some (.bool i) := id rfl
theorem qfi {i : Str} : (C1 i).f = fun _ => some (.str i) := id rfl
theorem qe4 : qhd.f = fun _ => some .none := id rfl
theorem qpj {r : R3} {ta tb : TE3} {R : OpD r} {a : PuE ta} {b : PuE tb} : (bO R a b).f = fun ρ => (a.f ρ).bind fun x => (b.f ρ).bind fun y => R.f x y := id rfl
theorem qex : qD.f = fun _ => some [] := id rfl
theorem qa3 {ta : TE3} {tr : TA3} {a : PuE ta} {r : PuA tr} : (qf a r).f = fun ρ => (a.f ρ).bind fun x => (r.f ρ).bind fun xs => some (x :: xs) := id rfl
theorem qeU {t : TA3} {a : PuA t} {hn : Tru (Nat.ble a.n 1000)} : (EH a hn).f = fun ρ => (a.f ρ).map .tuple := id rfl
theorem qes {t : TA3} {a : PuA t} {hn : Tru (Nat.ble a.n 1000)} : (qcR a hn).f = fun ρ => (a.f ρ).map .list := id rfl
theorem qbV {r : List T → Gp → Q3 → Prop} {t : TA3} {R : FnD r} {a : PuA t} : (qz R a).f = fun ρ => (a.f ρ).bind R.f := id rfl
theorem qlt {t : TE3} {a : PuE t} : (bTb a).f = fun ρ => (a.f ρ).bind asB := id rfl
theorem qeu {t u : TT3} {a : PuC t} {b : PuC u} : (qo5 a b).f = fun ρ => (a.f ρ).bind fun k => if k then b.f ρ else some false := id rfl
theorem qeQ {t : TT3} {a : PuC t} : (qhS a).f = fun ρ => (a.f ρ).map (! ·) := id rfl
theorem qjj : bTt.f = fun _ => some true := id rfl
theorem qbj {ta tb : TE3} {a : PuE ta} {b : PuE tb} : (SR a b).f = fun ρ => ((a.f ρ).bind asB).bind fun k => if k then b.f ρ else some (.bool false) := id rfl
theorem qbX {ta : TE3} {a : PuE ta} : (qjz a).f = fun ρ => ((a.f ρ).bind asB).map fun k => .bool (!k) := id rfl
theorem qin {t : TT3} {ta tb : TE3} {c : PuC t} {a : PuE ta} {b : PuE tb} : (bIf c a b).f = fun ρ => (c.f ρ).bind fun k => if k then a.f ρ else b.f ρ := id rfl
theorem qdW {ta : TE3} {a : PuE ta} : (qhn a).f = fun ρ => ((a.f ρ).bind asI).map fun i => .int (-i) := id rfl
theorem qlP {r r' : R3} {ta tb tc : TE3} {R : OpD r} {R' : OpD r'} {a : PuE ta} {b : PuE tb} {c : PuE tc} : (bCh R R' a b c).f = fun ρ => (a.f ρ).bind fun x => (b.f ρ).bind fun y => ((R.f x y).bind asB).bind fun k => if k then (c.f ρ).bind fun z => R'.f y z else some (.bool false) := id rfl
theorem qee {ta : TE3} {g : String → Bool} {a : PuE ta} : (qmU g a).f = fun ρ => (a.f ρ).bind fun d => (tyD d).map fun t => .bool (g t) := id rfl
theorem qih : bNp.f = fun _ => some none := id rfl
theorem qj7 {t : TE3} {a : PuE t} : (bSp a).f = fun ρ => ((a.f ρ).bind asI).map some := id rfl
theorem qh8 {te : TE3} {tl th : TO3} {a : PuE te} {l : PuO tl} {h : PuO th} : (bSl a l h).f = fun ρ => (a.f ρ).bind fun d => (l.f ρ).bind fun lo => (h.f ρ).bind fun hi => slD d lo hi := id rfl
theorem qbB {tab : List (Str × T)} {te : TE3} {a : PuE te} : (qk2 tab a).f = fun ρ => ((a.f ρ).bind asS).bind fun s => (jt tab s).bind tD := id rfl
theorem qbp {ks : List Str} {t : TA3} {te : TE3} {a : PuA t} {b : PuE te} : (qmk ks a b).f = fun ρ => (a.f ρ).bind fun ds => ((b.f ρ).bind asS).bind fun s => qc1 ks ds s := id rfl
theorem qfK {te : TE3} {t : TA3} {b : PuE te} {a : PuA t} : (qoP b a).f = fun ρ => (b.f ρ).bind fun d => (a.f ρ).bind fun es => qja d es := id rfl
theorem qlb {wi : TI3} {g : TG3} {tif : TT3} {te : TE3} {pi : PuI wi} {pg : PuG g} {pc : PuC tif} {pe : PuE te} {m : List (Option Nat)} {hm : Tru (pg.tg.all fun i => m[i]? == some none)} : (bLc pi pg pc pe m hm).f = lcF pi.f (lcH pg.f pc.f pe.f) m := id rfl
theorem qfE {wi wi2 : TI3} {g g2 : TG3} {tif tif2 : TT3} {te : TE3} {pi : PuI wi} {pg : PuG g} {pc : PuC tif} {pi2 : PuI wi2} {pg2 : PuG g2} {pc2 : PuC tif2} {pe : PuE te} {m : List (Option Nat)} {hm : Tru (pg.tg.all fun i => m[i]? == some none)} {hm2 : Tru (pg2.tg.all fun i => m[i]? == some none)} {hdj : Tru (pg2.tg.all fun i => !pg.tg.contains i)} : (qmW pi pg pc pi2 pg2 pc2 pe m hm hm2 hdj).f = qkx pi.f (qh4 pg.f pc.f pi2.f (lcH pg2.f pc2.f pe.f)) m := id rfl
theorem qfT : qcn.f = qhQ := id rfl
theorem qed : qmL.f = qmK := id rfl
theorem qfc : qke.f = qmG := id rfl
theorem qfb : qmM.f = qjE := id rfl
theorem qat : qaD.f = mnD := id rfl
theorem qba : qcc.f = mxD := id rfl
theorem qbP {F : List PyData → Option PyData} {fr : Bool} : (qZ F fr).f = F := id rfl
theorem ql8 {g : Int → Int → Int} {i j : Int} : (opI g).f (.int i) (.int j) = some (.int (g i j)) := id rfl
theorem qkz {g : Int → Int → Bool} {i j : Int} : (opB g).f (.int i) (.int j) = some (.bool (g i j)) := id rfl
theorem qif {C : Int → Int → Prop} {g : Int → Int → Int} : (opC C g).f = cI C g := id rfl
theorem qdO {n : Bool} : (X6 n).f = eqD n := id rfl
theorem qbc {n : Bool} : (qf9 n).f = qk8 n := id rfl
theorem qd4 {n : Bool} : (qmX n).f = inD n := id rfl
theorem qer : zq.f = ixD := id rfl
theorem qcb : UB.f = qie := id rfl
theorem qeL {t : TE3} {a : PuE t} : (qal a).f = fun ρ => (a.f ρ).bind qak := id rfl
theorem qeq {t : TA3} {a : PuA t} : (LZ a).f = fun ρ => (a.f ρ).bind qgZ := id rfl
theorem qfS {t : TA3} {a : PuA t} : (qpb a).f = fun ρ => (a.f ρ).bind fun ds => match ds with | [d,e] => (qak d).bind fun us => (qak e).bind fun vs => some (qj2 us vs) | _ => none := id rfl
theorem qbE {t : TA3} {a : PuA t} : (qdz a).f = fun ρ => (a.f ρ).bind fun ds => match ds with | [d] => (qak d).map fun us => enD 0 us | _ => none := id rfl
theorem qbO {t : TE3} {a : PuE t} : (qal a).nm = false := id rfl
theorem MJ {t : TA3} {a : PuA t} : (qdz a).nm = false := id rfl
theorem qb1 {t : TA3} {a : PuA t} : (LZ a).nm = true := id rfl
theorem qpg {i : Nat} : (gN i).f = fun d => some [(i,d)] := id rfl
theorem qeZ : W7.f [] = some [] := id rfl
theorem qar {t : TG3} {u : KD} {a : PuG t} {b : PuGs u} {d : PyData} {r : List PyData} : (qW a b).f (d :: r) = (a.f d).bind fun x => (b.f r).map fun y => x ++ y := id rfl
theorem qfq {u : KD} {n : Nat} {b : PuGs u} {ds : List PyData} : (W6 n b).f (.tuple ds) = if ds.length = n then b.f ds else none := id rfl
theorem qbD : QS.f = fun _ ρ => some (.nx ρ) := id rfl
theorem qfO {t u : TS3} {a : PuS t} {b : PuS u} : (QQ a b).f = qmP a.f b.f := id rfl
theorem qlH {c : TT3} {t u : TS3} {pc : PuC c} {a : PuS t} {b : PuS u} : (sIf pc a b).f = fun n ρ => (pc.f ρ).bind fun k => if k then a.f n ρ else b.f n ρ := id rfl
theorem qdV {t : TE3} {a : PuE t} : (Q9 a).f = fun _ ρ => (a.f ρ).map fun d => .rt d a.nw := id rfl
theorem qb7 {i : Nat} : (qhO i).f = fun _ ρ => qhT ρ i := id rfl
theorem qeT {t : TE3} {a : PuE t} {i : Nat} {m : List Bool} {hm : Tru (a.fv.all (mkb m))} : (qag a i m hm).f = fun _ ρ => (a.f ρ).map fun d => .nx (MM m a.nw i d ρ) := id rfl
theorem qb3 {t : TE3} {g : TG3} {a : PuE t} {pg : PuG g} {m : List Bool} {hm : Tru (a.fv.all (mkb m))} : (XJ a pg m hm).f = fun _ ρ => (a.f ρ).bind fun d => (pg.f d).map fun bs => .nx (QT (dm m ρ) bs) := id rfl
theorem qfh {t : TA3} {a : PuA t} {i j : Nat} {m : List Bool} {hm : Tru (a.fv.all (mkb m))} : (qn3 a i j m hm).f = fun _ ρ => (a.f ρ).bind fun ds => qmS i j m ds ρ := id rfl
theorem qeI {t : TE3} {a : PuE t} {i : Nat} {m : List Bool} {hm : Tru (a.fv.all (mkb m))} : (qoL a i m hm).f = fun _ ρ => (a.f ρ).bind fun d => qk5 i d (dmS m d ρ) := id rfl
theorem qeh {wi : TI3} {g : TG3} {tb : TS3} {pi : PuI wi} {pg : PuG g} {pb : PuS tb} {m : List Bool} {hm : Tru (pi.fv.all (mkb m))} : (qgB pi pg pb m hm).f = qlf pi.f pi.nm m pg.f pb.f := id rfl
theorem qfy {i : Bool} : (bBl i).nw = false := id rfl
theorem qaL : qhd.nw = false := id rfl
theorem qll {r : R3} {ta tb : TE3} {R : OpD r} {a : PuE ta} {b : PuE tb} : (bO R a b).nw = R.nw := id rfl
theorem qbe {t : TA3} {a : PuA t} {hn : Tru (Nat.ble a.n 1000)} : (EH a hn).nw = false := id rfl
theorem qaO {t : TA3} {a : PuA t} {hn : Tru (Nat.ble a.n 1000)} : (qcR a hn).nw = true := id rfl
theorem M5 {r : List T → Gp → Q3 → Prop} {t : TA3} {R : FnD r} {a : PuA t} : (qz R a).nw = R.nw := id rfl
theorem MP {F : List PyData → Option PyData} {fr : Bool} : (qZ F fr).nw = fr := id rfl
theorem MO {ta tb : TE3} {a : PuE ta} {b : PuE tb} : (SR a b).nw = false := id rfl
theorem qfM {te : TE3} {tl th : TO3} {a : PuE te} {l : PuO tl} {h : PuO th} : (bSl a l h).nw = false := id rfl
theorem qfA {wi : TI3} {g : TG3} {tif : TT3} {te : TE3} {pi : PuI wi} {pg : PuG g} {pc : PuC tif} {pe : PuE te} {m : List (Option Nat)} {hm : Tru (pg.tg.all fun i => m[i]? == some none)} : (bLc pi pg pc pe m hm).nw = true := id rfl
theorem qbL {wi wi2 : TI3} {g g2 : TG3} {tif tif2 : TT3} {te : TE3} {pi : PuI wi} {pg : PuG g} {pc : PuC tif} {pi2 : PuI wi2} {pg2 : PuG g2} {pc2 : PuC tif2} {pe : PuE te} {m : List (Option Nat)} {hm : Tru (pg.tg.all fun i => m[i]? == some none)} {hm2 : Tru (pg2.tg.all fun i => m[i]? == some none)} {hdj : Tru (pg2.tg.all fun i => !pg.tg.contains i)} : (qmW pi pg pc pi2 pg2 pc2 pe m hm hm2 hdj).nw = true := id rfl
theorem qa0 : qmL.nw = false := id rfl
theorem qao : qmM.nw = false := id rfl
theorem qaw : qke.nw = true := id rfl
theorem qaX : zq.nw = false := id rfl
theorem M4 : UB.nw = false := id rfl
theorem qeJ {C : Int → Int → Prop} {g : Int → Int → Int} : (opC C g).nw = false := id rfl
theorem qo8 {s : Sl} {r : Rho} : vw (s :: r) 0 = s.d := id rfl
theorem qps {s : Sl} {r : Rho} {i : Nat} : vw (s :: r) (i + 1) = vw r i := id rfl
theorem qjA {d : PyData} : (Sl.sh d).d = some d := id rfl
theorem qmv {ds : List PyData} : (Sl.ow ds).d = some (.list ds) := id rfl
theorem qaA {r : Rho} {ds : List PyData} : qhT (.ow ds :: r) 0 = some (.rt (.list ds) true) := id rfl
theorem qfn {s : Sl} {r : Rho} {i : Nat} : qhT (s :: r) (i + 1) = qhT r i := id rfl
theorem qi5 {xs : List PyData} {i : Int} : ixD (.tuple xs) (.int i) = L2.atI xs i := id rfl
theorem qmr {xs : List PyData} {i : Int} : ixD (.list xs) (.int i) = L2.atI xs i := id rfl
theorem at0 {α : Type} {a : α} {r : List α} : L2.atI (a :: r) 0 = some a := by simp [L2.atI,ixN]
theorem at1 {α : Type} {a b : α} {r : List α} : L2.atI (a :: b :: r) 1 = some b := by
 have h : ixN (a :: b :: r).length 1 = some 1 := by unfold ixN;rw [if_pos (by omega),if_pos (by simp;omega)];rfl
 unfold L2.atI;rw [h];rfl
theorem at2 {α : Type} {a b c : α} {r : List α} : L2.atI (a :: b :: c :: r) 2 = some c := by
 have h : ixN (a :: b :: c :: r).length 2 = some 2 := by unfold ixN;rw [if_pos (by omega),if_pos (by simp;omega)];rfl
 unfold L2.atI;rw [h];rfl
theorem at3 {α : Type} {a b c d : α} {r : List α} : L2.atI (a :: b :: c :: d :: r) 3 = some d := by
 have h : ixN (a :: b :: c :: d :: r).length 3 = some 3 := by unfold ixN;rw [if_pos (by omega),if_pos (by simp;omega)];rfl
 unfold L2.atI;rw [h];rfl
theorem at4 {α : Type} {a b c d e : α} {r : List α} : L2.atI (a :: b :: c :: d :: e :: r) 4 = some e := by
 have h : ixN (a :: b :: c :: d :: e :: r).length 4 = some 4 := by unfold ixN;rw [if_pos (by omega),if_pos (by simp;omega)];rfl
 unfold L2.atI;rw [h];rfl
theorem at5 {α : Type} {a b c d e f : α} {r : List α} : L2.atI (a :: b :: c :: d :: e :: f :: r) 5 = some f := by
 have h : ixN (a :: b :: c :: d :: e :: f :: r).length 5 = some 5 := by unfold ixN;rw [if_pos (by omega),if_pos (by simp;omega)];rfl
 unfold L2.atI;rw [h];rfl
theorem atN {α : Type} {xs : List α} {k : Nat} (h : k < xs.length) : L2.atI xs (k : Int) = xs[k]? := by
 have e : ixN xs.length (k : Int) = some k := by unfold ixN;rw [if_pos (by omega),if_pos (by omega)];rfl
 unfold L2.atI;rw [e];rfl
theorem eqS {n : Bool} {a b : Str} : eqD n (.str a) (.str b) = some (.bool (if n then !decide (a = b) else decide (a = b))) := id rfl
theorem eqI {n : Bool} {a b : Int} : eqD n (.int a) (.int b) = some (.bool (if n then !decide (a = b) else decide (a = b))) := id rfl
theorem qig {n : Bool} : qk8 n .none .none = some (.bool !n) := id rfl
theorem qlr {n : Bool} {xs : List PyData} : qk8 n (.tuple xs) .none = some (.bool n) := id rfl
theorem qdE {C : Int → Int → Prop} {g : Int → Int → Int} {i j : Int} (h : C i j) : cI C g (.int i) (.int j) = some (.int (g i j)) := by simp only [cI];exact zC h
theorem qjf {i j : Int} (h : -1000000 < j∧j < 1000000) : cI QP (· * ·) (.int i) (.int j) = some (.int (i * j)) := qdE (.inr ⟨by omega,by omega⟩)
theorem U7 {i j : Int} (h : -1000000 < i∧i < 1000000) : cI QP (· * ·) (.int i) (.int j) = some (.int (i * j)) := qdE (.inl ⟨by omega,by omega⟩)
theorem qch {i j : Int} (h : 0 < j) : cI (fun _ j => 0 < j) (· % ·) (.int i) (.int j) = some (.int (i % j)) := qdE h
theorem qlM {i j : Int} (h : 0 ≤ j∧j ≤ 1000000∧i.natAbs < 2 ^ 64) : cI KF (fun i j => i * 2 ^ j.toNat) (.int i) (.int j) = some (.int (i * 2 ^ j.toNat)) := qdE h
theorem qo9 {i j : Int} : qie (.int i) (.int j) = some (.int (i + j)) := id rfl
theorem qcr {j : Int} (h : -1000000000 ≤ j∧j < 1000000000) : qgZ [.int j] = some ((QR 0 j.toNat).map PyData.int) := by simp only [qgZ];exact zC ⟨by omega,by omega⟩
theorem qhp {i j : Int} (h : -1000000000 ≤ i∧i < 1000000000∧-1000000000 ≤ j∧j < 1000000000) : qgZ [.int i,.int j] = some ((QR i (j - i).toNat).map PyData.int) := by simp only [qgZ];exact zC ⟨by omega,by omega,by omega,by omega⟩
theorem QJ {pi : Rho → Option (List PyData)} {h : Rho → PyData → Option (Option PyData)} {m : List (Option Nat)} {ρ : Rho} {ds fs : List PyData} (h1 : pi ρ = some ds) (h2 : lcP (h (KC m ρ)) ds = some fs) (h3 : fs.length ≤ 16777216) : lcF pi h m ρ = some (.list fs) := by unfold lcF;rw [h1];simp only [Option.bind_some,h2];exact zC h3
theorem qbf {pi : Rho → Option (List PyData)} {h : Rho → PyData → Option (Option (List PyData))} {m : List (Option Nat)} {ρ : Rho} {ds fs : List PyData} (h1 : pi ρ = some ds) (h2 : qhF (h (KC m ρ)) ds = some fs) (h3 : fs.length ≤ 16777216) : qkx pi h m ρ = some (.list fs) := by unfold qkx;rw [h1];simp only [Option.bind_some,h2];exact zC h3
theorem qcE {gf : PyData → Option (List (Nat × PyData))} {bf : Rho → Option Ot} {α : Type} {g : α → PyData} (xs : List α) (I : Nat → Rho → Prop) {ρ : Rho} (h0 : I 0 ρ)
  (hs : ∀ i x ρ,xs[i]? = some x → I i ρ → ∃ bs ρ',gf (g x) = some bs∧(bf (QT ρ bs) = some (.nx ρ') ∨ bf (QT ρ bs) = some (.ct ρ'))∧I (i + 1) ρ') : ∃ ρ',X0 gf bf (xs.map g) ρ = some (.nx ρ')∧I xs.length ρ' := by
 have key : ∀ (r : List α) (i : Nat) (ρ : Rho),xs.drop i = r → i ≤ xs.length → I i ρ → ∃ ρ',X0 gf bf (r.map g) ρ = some (.nx ρ')∧I xs.length ρ' := by
  intro r
  induction r with
  | nil =>
   intro i ρ e hi h
   have : i = xs.length := by
    have := congrArg List.length e
    simp at this;omega
   subst this
   exact ⟨ρ,rfl,h⟩
  | cons x r ih =>
   intro i ρ e hi h
   have hl : i < xs.length := by
    have := congrArg List.length e
    simp at this;omega
   have e' := List.drop_eq_getElem_cons hl
   rw [e] at e'
   injection e' with e1 e2
   obtain ⟨bs,ρ',h1,h2,h3⟩ := hs i x ρ (by rw [List.getElem?_eq_getElem hl,e1]) h
   obtain ⟨ρ2,h4,h5⟩ := ih (i + 1) ρ' e2.symm hl h3
   refine ⟨ρ2,?_,h5⟩
   simp only [List.map_cons,X0,h1,Option.bind_some]
   rcases h2 with h2 | h2 <;> (rw [h2];exact h4)
 exact key xs 0 ρ (by simp) (Nat.zero_le _) h0
theorem qaE {gf : PyData → Option (List (Nat × PyData))} {bf : Rho → Option Ot} {α : Type} {g : α → PyData} (xs : List α) (n : Nat) (x : α) (hn : xs[n]? = some x) (I : Nat → Rho → Prop) {ρ : Rho} {o : Ot} (h0 : I 0 ρ)
  (hs : ∀ i x ρ,i < n → xs[i]? = some x → I i ρ → ∃ bs ρ',gf (g x) = some bs∧(bf (QT ρ bs) = some (.nx ρ') ∨ bf (QT ρ bs) = some (.ct ρ'))∧I (i + 1) ρ')
  (he : ∀ ρ,I n ρ → ∃ bs,gf (g x) = some bs∧((∃ d b,o = .rt d b∧bf (QT ρ bs) = some (.rt d b)) ∨ ∃ ρ',o = .nx ρ'∧bf (QT ρ bs) = some (.bk ρ'))) : X0 gf bf (xs.map g) ρ = some o := by
 have hl := (List.getElem?_eq_some_iff.mp hn).1
 have key : ∀ (k i : Nat) (ρ : Rho),i + k = n → I i ρ → X0 gf bf ((xs.drop i).map g) ρ = some o := by
  intro k
  induction k with
  | zero =>
   intro i ρ e h
   have : i = n := by omega
   subst this
   obtain ⟨bs,h1,h2⟩ := he ρ h
   rw [List.drop_eq_getElem_cons hl]
   have ex : xs[i] = x := by
    rw [List.getElem?_eq_getElem hl] at hn
    exact Option.some.inj hn
   rw [ex]
   simp only [List.map_cons,X0,h1,Option.bind_some]
   rcases h2 with ⟨d,b,rfl,h2⟩ | ⟨ρ',rfl,h2⟩ <;> (rw [h2];rfl)
  | succ k ih =>
   intro i ρ e h
   have hi : i < xs.length := by omega
   obtain ⟨bs,ρ',h1,h2,h3⟩ := hs i xs[i] ρ (by omega) (List.getElem?_eq_getElem hi) h
   rw [List.drop_eq_getElem_cons hi]
   simp only [List.map_cons,X0,h1,Option.bind_some]
   rcases h2 with h2 | h2 <;> (rw [h2];exact ih (i + 1) ρ' (by omega) h3)
 exact key n 0 ρ (by omega) h0
def sqk (b : Nat → Rho → Option Ot) (n : Nat) (o : Ot) : Option Ot := match o with | .nx ρ' => b n ρ' | o => some o
theorem qdP {a b : Nat → Rho → Option Ot} {n : Nat} {ρ : Rho} : qmP a b n ρ = (a n ρ).bind (sqk b n) := id rfl
theorem qdZ {b : Nat → Rho → Option Ot} {n : Nat} {ρ : Rho} : sqk b n (.nx ρ) = b n ρ := id rfl
theorem qeO {b : Nat → Rho → Option Ot} {n : Nat} {d : PyData} {f : Bool} : sqk b n (.rt d f) = some (.rt d f) := id rfl
theorem qbR {d : PyData} : JU true (some (.rt d true)) = some d := id rfl
theorem qfs {d : PyData} {b : Bool} : JU false (some (.rt d b)) = some d := by simp [JU]
theorem qmD {b : Bool} : asB (.bool b) = some b := id rfl
theorem qlx {b : Int} : asI (.int b) = some b := id rfl
theorem ql2 {b : Str} : asS (.str b) = some b := id rfl
theorem qfL {xs : List PyData} : qhQ [.tuple xs] = some (.int xs.length) := id rfl
theorem qe1 {xs : List PyData} : qmK [.list xs] = some (.tuple xs) := id rfl
theorem qel {xs : List PyData} : qmG [.tuple xs] = some (.list xs) := id rfl
theorem MZ {xs : List Bool} : qjE [.list (xs.map PyData.bool)] = some (.bool (xs.all id)) := by simp only [qjE,qdx,Option.map_some]
theorem qdq {xs : List Int} (h : xs ≠ []) : mnD [.list (xs.map PyData.int)] = some (.int (mn xs)) := by simp only [mnD,WB,Option.bind_some];exact zC h
theorem qdh {xs : List Int} (h : xs ≠ []) : mxD [.list (xs.map PyData.int)] = some (.int (mx xs)) := by simp only [mxD,WB,Option.bind_some];exact zC h
theorem qfm {xs : List PyData} : qak (.list xs) = some xs := id rfl
theorem qiz {i : Int} : tyD (.int i) = some "int" := id rfl
theorem qjw {i : List PyData} : tyD (.tuple i) = some "tuple" := id rfl
theorem qjS {m : List Bool} {nw : Bool} {i : Nat} {v : Int} {ρ : Rho} : MM m nw i (.int v) ρ = ρ.set i (.sh (.int v)) := id rfl
theorem qiK {m : List Bool} {nw : Bool} {i : Nat} {v : Bool} {ρ : Rho} : MM m nw i (.bool v) ρ = ρ.set i (.sh (.bool v)) := id rfl
theorem qhZ {m : List Bool} {nw : Bool} {i : Nat} {v : Str} {ρ : Rho} : MM m nw i (.str v) ρ = ρ.set i (.sh (.str v)) := id rfl
theorem qiP {m : List Bool} {nw : Bool} {i : Nat} {ρ : Rho} : MM m nw i .none ρ = ρ.set i (.sh .none) := id rfl
theorem qdk {m : List Bool} {nw : Bool} {i : Nat} {v : List PyData} {ρ : Rho} : MM m nw i (.tuple v) ρ = (dm m ρ).set i (.sh (.tuple v)) := by cases nw <;> rfl
theorem qfe {m : List Bool} {i : Nat} {v : List PyData} {ρ : Rho} : MM m true i (.list v) ρ = (dm m ρ).set i (.ow v) := id rfl
theorem qjo {m : List Bool} {v : List PyData} {ρ : Rho} : dmS m (.list v) ρ = dm m ρ := id rfl
theorem qpa {ρ : Rho} : dm [] ρ = ρ := id rfl
theorem qoW {m : List Bool} {s : Sl} {ρ : Rho} : dm (true :: m) (s :: ρ) = s.dem :: dm m ρ := id rfl
theorem qoX {m : List Bool} {s : Sl} {ρ : Rho} : dm (false :: m) (s :: ρ) = s :: dm m ρ := id rfl
theorem qjr {ds : List PyData} : (Sl.ow ds).dem = .sh (.list ds) := id rfl
theorem qlG {d : PyData} : (Sl.sh d).dem = .sh d := id rfl
theorem qjM {ρ : Rho} : KC [] ρ = [] := id rfl
theorem qi6 {m : List (Option Nat)} {ρ : Rho} : KC (none :: m) ρ = .un :: KC m ρ := id rfl
def cp (o : Option PyData) : Sl := match o with | some d => .sh d | none => .un
theorem qjT {m : List (Option Nat)} {j : Nat} {ρ : Rho} : KC (some j :: m) ρ = cp (vw ρ j) :: KC m ρ := id rfl
theorem qo2 {d : PyData} : cp (some d) = .sh d := id rfl
theorem qfd {pi : Rho → Option (List PyData)} {m : List Bool} {gf : PyData → Option (List (Nat × PyData))} {bf : Nat → Rho → Option Ot} {n : Nat} {ρ : Rho} : qlf pi true m gf bf n ρ = (pi ρ).bind fun ds => X0 gf (bf n) ds ρ := id rfl
theorem qe5 {pi : Rho → Option (List PyData)} {m : List Bool} {gf : PyData → Option (List (Nat × PyData))} {bf : Nat → Rho → Option Ot} {n : Nat} {ρ : Rho} : qlf pi false m gf bf n ρ = (pi ρ).bind fun ds => X0 gf (bf n) ds (dm m ρ) := id rfl
theorem qfR {ρ : Rho} : QT ρ [] = ρ := id rfl
theorem qdX {ρ : Rho} {i : Nat} {d : PyData} {r : List (Nat × PyData)} : QT ρ ((i,d) :: r) = QT (ρ.set i (.sh d)) r := id rfl
theorem JT {gf : PyData → Option (List (Nat × PyData))} {cf : Rho → Option Bool} {ef : Rho → Option PyData} {ρ : Rho} {d : PyData} : lcH gf cf ef ρ d = (gf d).bind fun bs => (cf (QT ρ bs)).bind fun k => if k then (ef (QT ρ bs)).map some else some none := id rfl
theorem qet {gf : PyData → Option (List (Nat × PyData))} {cf : Rho → Option Bool} {it : Rho → Option (List PyData)} {h : Rho → PyData → Option (Option PyData)} {ρ : Rho} {d : PyData} : qh4 gf cf it h ρ d = (gf d).bind fun bs => (cf (QT ρ bs)).bind fun k => if k then ((it (QT ρ bs)).bind fun ds => lcP (h (QT ρ bs)) ds).map some else some none := id rfl
def Nx (o : Option Ot) (P : Rho → Prop) : Prop := match o with | some (.nx ρ) => P ρ | some (.ct ρ) => P ρ | _ => False
theorem qms {ρ : Rho} {P : Rho → Prop} : Nx (some (.nx ρ)) P = P ρ := id rfl
theorem qiW {o : Option Ot} {P : Rho → Prop} (h : Nx o P) : ∃ ρ,(o = some (.nx ρ) ∨ o = some (.ct ρ))∧P ρ := by
 unfold Nx at h
 split at h
 ·exact ⟨_,.inl rfl,h⟩
 ·exact ⟨_,.inr rfl,h⟩
 ·exact h.elim
section
variable {gf : PyData → Option (List (Nat × PyData))} {bf : Rho → Option Ot} {α : Type} {g : α → PyData} {ρ : Rho} {Q : Option Ot → Prop} {F : Ot → Option Ot}
theorem C5 (xs : List α) (I : Nat → Rho → Prop) (h0 : I 0 ρ) (hs : ∀ i x ρ,xs[i]? = some x → I i ρ → Nx ((gf (g x)).bind fun bs => bf (QT ρ bs)) (I (i + 1))) (k : ∀ ρ',I xs.length ρ' → Q (some (.nx ρ'))) : Q (X0 gf bf (xs.map g) ρ) := by
 obtain ⟨ρ',e,h⟩ := qcE (gf := gf) (bf := bf) (g := g) xs I h0 fun i x ρ hx hi => by
  obtain ⟨ρ2,e,h⟩ := qiW (hs i x ρ hx hi)
  cases e1 : gf (g x) with
  | none => rw [e1] at e;rcases e with e | e <;> cases e
  | some bs => rw [e1] at e;exact ⟨bs,ρ2,rfl,e,h⟩
 rw [e]
 exact k ρ' h
theorem CO (xs : List α) (I : Nat → Rho → Prop) (h0 : I 0 ρ) (hs : ∀ i x ρ,xs[i]? = some x → I i ρ → Nx ((gf (g x)).bind fun bs => bf (QT ρ bs)) (I (i + 1))) (k : ∀ ρ',I xs.length ρ' → Q (F (.nx ρ'))) : Q ((X0 gf bf (xs.map g) ρ).bind F) :=
 C5 (Q := fun o => Q (o.bind F)) xs I h0 hs k
theorem EX (xs : List α) (n : Nat) (x : α) (d : PyData) (b : Bool) (hn : xs[n]? = some x) (I : Nat → Rho → Prop) (h0 : I 0 ρ) (hs : ∀ i x ρ,i < n → xs[i]? = some x → I i ρ → Nx ((gf (g x)).bind fun bs => bf (QT ρ bs)) (I (i + 1))) (he : ∀ ρ,I n ρ → ((gf (g x)).bind fun bs => bf (QT ρ bs)) = some (.rt d b)) (k : Q (some (.rt d b))) : Q (X0 gf bf (xs.map g) ρ) := by
 rw [qaE (gf := gf) (bf := bf) (g := g) xs n x hn I h0 (fun i x ρ hi hx hI => by
  obtain ⟨ρ2,e,h⟩ := qiW (hs i x ρ hi hx hI)
  cases e1 : gf (g x) with
  | none => rw [e1] at e;rcases e with e | e <;> cases e
  | some bs => rw [e1] at e;exact ⟨bs,ρ2,rfl,e,h⟩) (o := .rt d b) fun ρ hI => by
  have := he ρ hI
  cases e1 : gf (g x) with
  | none => rw [e1] at this;cases this
  | some bs => rw [e1] at this;exact ⟨bs,rfl,.inl ⟨d,b,rfl,this⟩⟩]
 exact k
theorem qb6 (xs : List α) (n : Nat) (x : α) (d : PyData) (b : Bool) (hn : xs[n]? = some x) (I : Nat → Rho → Prop) (h0 : I 0 ρ) (hs : ∀ i x ρ,i < n → xs[i]? = some x → I i ρ → Nx ((gf (g x)).bind fun bs => bf (QT ρ bs)) (I (i + 1))) (he : ∀ ρ,I n ρ → ((gf (g x)).bind fun bs => bf (QT ρ bs)) = some (.rt d b)) (k : Q (F (.rt d b))) : Q ((X0 gf bf (xs.map g) ρ).bind F) :=
 EX (Q := fun o => Q (o.bind F)) xs n x d b hn I h0 hs he k
end
theorem T8 {α : Type} {us : List α} (h : us.length = 1) : ∃ a0,us = [a0] := List.length_eq_one_iff.mp h
theorem TY {α : Type} {us : List α} (h : us.length = 2) : ∃ a0 a1,us = [a0,a1] := by
 obtain ⟨a0,r,rfl⟩ := List.exists_cons_of_length_pos (show 0 < us.length by omega)
 obtain ⟨a1,rfl⟩ := T8 (show r.length = 1 by simpa using h)
 exact ⟨a0,a1,rfl⟩
theorem qgG {α : Type} {us : List α} (h : us.length = 3) : ∃ a0 a1 a2,us = [a0,a1,a2] := by
 obtain ⟨a0,r,rfl⟩ := List.exists_cons_of_length_pos (show 0 < us.length by omega)
 obtain ⟨a1,a2,rfl⟩ := TY (show r.length = 2 by simpa using h)
 exact ⟨a0,a1,a2,rfl⟩
end Pu
namespace Pu
open PySem L2 L3
end Pu
namespace Pu
open PySem L2 L3
end Pu
namespace Pu
open PySem L2 L3
end Pu
namespace Pv
open PySem L2 L3 Pu
def DE : PuS (Bk.DI) := (Q9 (bLc (LZ (qf (bV 2) qD)) (gN 0) bTt (EH (qf (bO (opC QP (· * ·)) (bV 0) (bV 1)) (qf (bO (opC QP (· * ·)) (bV 0) (bV 2)) qD)) ⟨rfl⟩) [none,some 0,some 1] ⟨rfl⟩))
def zw : List PyData → Option PyData := run (DE).f 3 3 1000000000 true
theorem qbx : ∀ ts G q,PSp (zw) true ts G q → ts.length = 3∧Bk.DI { nx := fun _ G' => q .non G',rt := q } (qs ["down","along","many"] ts) G := qT (DE) ["down","along","many"] 3 1000000000 true
theorem qcg {x0 x1 x2 : PyData} : zw [x0,x1,x2] = JU true ((DE).f 1000000000 [.sh x0,.sh x1,.sh x2]) := id rfl
def jx (zw : List PyData → Option PyData) : PuS (Bk.VE (PSp zw true)) := (QQ (qag (bO zq (bV 0) (qN 0)) 1 [true] ⟨rfl⟩) (QQ (sIf (bTb (bO (X6 false) (bV 1) (C1 "cells"))) (Q9 (qz qke (qf (bO zq (bV 0) (qN 1)) qD))) QS) (QQ (sIf (bTb (bO (X6 false) (bV 1) (C1 "block"))) (Q9 (qmW (LZ (qf (bO zq (bV 0) (qN 1)) qD)) (gN 0) bTt (LZ (qf (bO zq (bV 2) (qN 2)) qD)) (gN 1) bTt (EH (qf (bV 0) (qf (bV 1) qD)) ⟨rfl⟩) [none,none,some 0] ⟨rfl⟩ ⟨rfl⟩ ⟨rfl⟩)) QS) (QQ (sIf (bTb (bO (X6 false) (bV 1) (C1 "step"))) (Q9 (qz (qZ zw true) (qf (bO zq (bV 0) (qN 1)) (qf (bO zq (bV 0) (qN 2)) (qf (bO zq (bV 0) (qN 3)) qD))))) QS) (QQ (XJ (qk2 UH (bV 1)) (W6 2 (qW (gN 2) (qW (gN 3) W7))) [false,true] ⟨rfl⟩) (Q9 (qz (qZ zw true) (qf (bV 2) (qf (bV 3) (qf (bO zq (bV 0) (qN 1)) qD))))))))))
def qq : List PyData → Option PyData := run (jx zw).f 1 4 1000000000 true
theorem LU : ∀ ts G q,PSp (qq) true ts G q → ts.length = 1∧Bk.VE (PSp zw true) { nx := fun _ G' => q .non G',rt := q } (qs ["walk","kind","down","along"] ts) G := qT (jx zw) ["walk","kind","down","along"] 1 1000000000 true
theorem JE {x0 : PyData} : qq [x0] = JU true ((jx zw).f 1000000000 [.sh x0,.un,.un,.un]) := id rfl
def jV : PuS (Bk.j0) := (QQ (qgB (LZ (qf (qz qcn (qf (bV 0) qD)) qD)) (gN 1) (qgB (LZ (qf (bO UB (bV 1) (qN 1)) (qf (qz qcn (qf (bV 0) qD)) qD))) (gN 2) (sIf (bTb (bO (X6 false) (bO zq (bV 0) (bV 1)) (bO zq (bV 0) (bV 2)))) (Q9 (EH (qf (bV 1) (qf (bV 2) qD)) ⟨rfl⟩)) QS) [true,true] ⟨rfl⟩) [true] ⟨rfl⟩) (Q9 qhd))
def qt : List PyData → Option PyData := run (jV).f 1 3 1000000000 false
theorem XB : ∀ ts G q,PSp (qt) false ts G q → ts.length = 1∧Bk.j0 { nx := fun _ G' => q .non G',rt := q } (qs ["things","k","l"] ts) G := qT (jV) ["things","k","l"] 1 1000000000 false
theorem XO {x0 : PyData} : qt [x0] = JU false ((jV).f 1000000000 [.sh x0,.un,.un]) := id rfl
def QW : TS3 := (qM (jq (tb3 (o3 (jQ false) (o3 ix3 (v3 0) (c3 (.int 0))) (c3 (.str "rests")))) (qR (jr (qc (o3 ix3 (v3 0) (c3 (.int 2))) (qc (c3 (.int 1)) qj)))) qL) (qR (jr (qc (o3 ix3 (v3 0) (c3 (.int 4))) (qc (o3 ix3 (v3 0) (c3 (.int 5))) qj)))))
def jG : PuS (Pv.QW) := (QQ (sIf (bTb (bO (X6 false) (bO zq (bV 0) (qN 0)) (C1 "rests"))) (Q9 (EH (qf (bO zq (bV 0) (qN 2)) (qf (qN 1) qD)) ⟨rfl⟩)) QS) (Q9 (EH (qf (bO zq (bV 0) (qN 4)) (qf (bO zq (bV 0) (qN 5)) qD)) ⟨rfl⟩)))
def qK : List PyData → Option PyData := run (jG).f 1 1 1000000000 false
theorem R8 : ∀ ts G q,PSp (qK) false ts G q → ts.length = 1∧Pv.QW { nx := fun _ G' => q .non G',rt := q } (qs ["dealing"] ts) G := qT (jG) ["dealing"] 1 1000000000 false
theorem RC {x0 : PyData} : qK [x0] = JU false ((jG).f 1000000000 [.sh x0]) := id rfl
def YQ (qq : List PyData → Option PyData) : PuS (Bk.Y6 (PSp qq true)) := (QQ (XJ (bV 1) (W6 2 (qW (gN 3) (qW (gN 4) W7))) [false,true] ⟨rfl⟩) (Q9 (qz qmL (qf (bLc (qal (qz (qZ qq true) (qf (bV 2) qD))) (W6 2 (qW (gN 0) (qW (gN 1) W7))) bTt (bO (opC (fun _ j => 0 < j) (· % ·)) (bO UB (bO (opC QP (· * ·)) (bV 3) (bV 0)) (bO (opC QP (· * ·)) (bV 4) (bV 1))) (bV 2)) [none,none,some 0,some 3,some 4] ⟨rfl⟩) qD))))
def qY : List PyData → Option PyData := run (YQ qq).f 3 5 1000000000 false
theorem K5 : ∀ ts G q,PSp (qY) false ts G q → ts.length = 3∧Bk.Y6 (PSp qq true) { nx := fun _ G' => q .non G',rt := q } (qs ["banks","factors","walk","a","b"] ts) G := qT (YQ qq) ["banks","factors","walk","a","b"] 3 1000000000 false
theorem LS {x0 x1 x2 : PyData} : qY [x0,x1,x2] = JU false ((YQ qq).f 1000000000 [.sh x0,.sh x1,.sh x2,.un,.un]) := id rfl
def YS (S_factors_of : Sp3) (S_rests_by : Sp3) : TS3 := (qR (cb3 S_rests_by (qc (o3 ix3 (v3 0) (c3 (.int 3))) (qc (cb3 S_factors_of (qc (v3 0) qj)) (qc (v3 1) qj)))))
def Y0 (qK : List PyData → Option PyData) (qY : List PyData → Option PyData) : PuS (Pv.YS (PSp qK false) (PSp qY false)) := (Q9 (qz (qZ qY false) (qf (bO zq (bV 0) (qN 3)) (qf (qz (qZ qK false) (qf (bV 0) qD)) (qf (bV 1) qD)))))
def zV : List PyData → Option PyData := run (Y0 qK qY).f 2 2 1000000000 false
theorem KN : ∀ ts G q,PSp (zV) false ts G q → ts.length = 2∧Pv.YS (PSp qK false) (PSp qY false) { nx := fun _ G' => q .non G',rt := q } (qs ["dealing","walk"] ts) G := qT (Y0 qK qY) ["dealing","walk"] 2 1000000000 false
theorem L0 {x0 x1 : PyData} : zV [x0,x1] = JU false ((Y0 qK qY).f 1000000000 [.sh x0,.sh x1]) := id rfl
def jF (qm : List PyData → Option PyData) : PuS (Bk.UD (PSp qm false)) := (QQ (qag (bO zq (bV 0) (qN 0)) 1 [true] ⟨rfl⟩) (QQ (sIf (bTb (bO (X6 false) (bV 1) (C1 "bits"))) (Q9 (EH (qf (bO (opC KF (fun i j => i * 2 ^ j.toNat)) (qN 1) (bO zq (bV 0) (qN 1))) (qf (bO (opC KF (fun i j => i * 2 ^ j.toNat)) (qN 1) (bO zq (bV 0) (qN 2))) (qf (bO (opC KF (fun i j => i * 2 ^ j.toNat)) (qN 1) (qz qcn (qf (bO zq (bV 0) (qN 3)) qD))) qD))) ⟨rfl⟩)) QS) (QQ (sIf (bTb (bO (X6 false) (bV 1) (C1 "table"))) (Q9 (EH (qf (qz qcn (qf (bO zq (bV 0) (qN 2)) qD)) (qf (qz qcn (qf (bO zq (bO zq (bV 0) (qN 2)) (qN 0)) qD)) (qf (bO zq (bV 0) (qN 1)) qD))) ⟨rfl⟩)) QS) (QQ (sIf (bTb (bO (X6 false) (bV 1) (C1 "joined"))) (QQ (XJ (qz (qZ qm false) (qf (bO zq (bV 0) (qN 1)) qD)) (W6 3 (qW (gN 2) (qW (gN 3) (qW (gN 4) W7)))) [true] ⟨rfl⟩) (QQ (XJ (qz (qZ qm false) (qf (bO zq (bV 0) (qN 2)) qD)) (W6 3 (qW (gN 5) (qW (gN 6) (qW (gN 7) W7)))) [true] ⟨rfl⟩) (Q9 (EH (qf (bO (opC QP (· * ·)) (bV 2) (bV 5)) (qf (bO (opC QP (· * ·)) (bV 3) (bV 6)) (qf (bO (opC QP (· * ·)) (bV 4) (bV 7)) qD))) ⟨rfl⟩)))) QS) (Q9 (EH (qf (bO zq (bV 0) (qN 1)) (qf (bO zq (bV 0) (qN 2)) (qf (bO zq (bV 0) (qN 3)) qD))) ⟨rfl⟩))))))
def qm : Nat → List PyData → Option PyData
 | 0 => fun _ => none
 | j + 1 => run (jF (qm j)).f 1 8 1000000000 false
theorem NP (j : Nat) : ∀ ts G q,PSp (qm (j + 1)) false ts G q → ts.length = 1∧Bk.UD (PSp (qm j) false) { nx := fun _ G' => q .non G',rt := q } (qs ["dealing","kind","rows","columns","banks","other_rows","other_columns","other_banks"] ts) G := qT (jF (qm j)) ["dealing","kind","rows","columns","banks","other_rows","other_columns","other_banks"] 1 1000000000 false
theorem ZL {j : Nat} {x0 : PyData} : qm (j + 1) [x0] = JU false ((jF (qm j)).f 1000000000 [.sh x0,.un,.un,.un,.un,.un,.un,.un]) := id rfl
def DL (qm : List PyData → Option PyData) (qq : List PyData → Option PyData) : PuS (Bk.DK (PSp qm false) (PSp qq true)) := (QQ (XJ (qz (qZ qm false) (qf (bV 0) qD)) (W6 3 (qW (gN 2) (qW (gN 3) (qW (gN 4) W7)))) [true] ⟨rfl⟩) (QQ (qag (qz (qZ qq true) (qf (bV 1) qD)) 5 [false,true] ⟨rfl⟩) (QQ (qag (bLc (qal (bV 5)) (W6 2 (qW (gN 0) (qW (gN 1) W7))) bTt (bV 0) [none,none] ⟨rfl⟩) 6 [false,false,false,false,false,true] ⟨rfl⟩) (QQ (qag (bLc (qal (bV 5)) (W6 2 (qW (gN 0) (qW (gN 1) W7))) bTt (bV 1) [none,none] ⟨rfl⟩) 7 [false,false,false,false,false,true] ⟨rfl⟩) (Q9 (qmW (LZ (qf (qhn (qz qaD (qf (bV 6) qD))) (qf (bO (opI (· - ·)) (bV 2) (qz qcc (qf (bV 6) qD))) qD))) (gN 0) bTt (LZ (qf (qhn (qz qaD (qf (bV 3) qD))) (qf (bO (opI (· - ·)) (bV 2) (qz qcc (qf (bV 3) qD))) qD))) (gN 1) bTt (EH (qf (bV 0) (qf (bV 1) qD)) ⟨rfl⟩) [none,none,some 3,some 7] ⟨rfl⟩ ⟨rfl⟩ ⟨rfl⟩))))))
def zJ (j : Nat) : List PyData → Option PyData := run (DL (qm j) qq).f 2 8 1000000000 true
theorem qbt (j : Nat) : ∀ ts G q,PSp (zJ j) true ts G q → ts.length = 2∧Bk.DK (PSp (qm j) false) (PSp qq true) { nx := fun _ G' => q .non G',rt := q } (qs ["dealing","walk","rows","columns","banks","cells","downs","alongs"] ts) G := qT (DL (qm j) qq) ["dealing","walk","rows","columns","banks","cells","downs","alongs"] 2 1000000000 true
theorem qb9 {j : Nat} {x0 x1 : PyData} : zJ j [x0,x1] = JU true ((DL (qm j) qq).f 1000000000 [.sh x0,.sh x1,.un,.un,.un,.un,.un,.un]) := id rfl
end Pv
namespace Pv
open PySem L2 L3 Pu
open Bk (Wk Dl ji zS YL lnD lnA)
def pD (p : Int × Int) : PyData := .tuple [.int p.1,.int p.2]
def Wk.d : Wk → PyData
 | .line k m => .tuple [.str (YL k),.int m]
 | .block h w => .tuple [.str "block",.int h,.int w]
 | .step d a m => .tuple [.str "step",.int d,.int a,.int m]
 | .cells ps => .tuple [.str "cells",.tuple (ps.map pD)]
def qhW (r : List Int) : PyData := .tuple (r.map PyData.int)
def dlD : Dl → PyData
 | .skew r c b x y => .tuple [.str "skew",.int r,.int c,.int b,.int x,.int y]
 | .rests r c b p => .tuple [.str "rests",.int r,.int c,.int b,.int p]
 | .bits h l ms => .tuple [.str "bits",.int h,.int l,.tuple (ms.map PyData.int)]
 | .table b cells => .tuple [.str "table",.int b,.tuple (cells.map qhW)]
 | .joined d e => .tuple [.str "joined",dlD d,dlD e]
theorem qaz (G : Gp) : ∀ (cs : List (List Int)),Dqs G (cs.map Bk.qpl) (cs.map qhW)
 | [] => .nil
 | r :: cs => .cons (.tup (Dqs.ofInts r)) (qaz G cs)
theorem qf6 (G : Gp) : ∀ (d : Dl),Dq G d.t (dlD d)
 | .skew r c b x y => .tup (.cons (.str _) (.cons (.int _) (.cons (.int _) (.cons (.int _) (.cons (.int _) (.cons (.int _) .nil))))))
 | .rests r c b p => .tup (.cons (.str _) (.cons (.int _) (.cons (.int _) (.cons (.int _) (.cons (.int _) .nil)))))
 | .bits h l ms => .tup (.cons (.str _) (.cons (.int _) (.cons (.int _) (.cons (.tup (Dqs.ofInts ms)) .nil))))
 | .table b cells => .tup (.cons (.str _) (.cons (.int _) (.cons (.tup (qaz G cells)) .nil)))
 | .joined d e => .tup (.cons (.str _) (.cons (qf6 G d) (.cons (qf6 G e) .nil)))
theorem M6 (G : Gp) : ∀ (cs : List (Int × Int)),Dqs G (cs.map Bk.pT) (cs.map pD)
 | [] => .nil
 | p :: cs => .cons (.tup (.cons (.int _) (.cons (.int _) .nil))) (M6 G cs)
theorem qm8 (G : Gp) : ∀ (w : Wk),Dq G w.t (Wk.d w)
 | .line k m => .tup (.cons (.str _) (.cons (.int _) .nil))
 | .block h v => .tup (.cons (.str _) (.cons (.int _) (.cons (.int _) .nil)))
 | .step d a m => .tup (.cons (.str _) (.cons (.int _) (.cons (.int _) (.cons (.int _) .nil))))
 | .cells ps => .tup (.cons (.str _) (.cons (.tup (M6 G ps)) .nil))
end Pv
namespace Pu
open PySem L2 L3
open Bk (Lf Ext)
section
variable {D : Addr → Prop} {a : Addr} {G G' G0 : Gp} {n n' : Nat} {fv gv : List Nat} {l : Nat} {τ : St3} {ρ : Rho}
theorem T0 (e : Ext a G G') (h : D a) : Ex (rs D G) (rs D G') := fun b o x => by
 obtain ⟨n,x⟩ := qI x
 rw [jZ n];exact e b o (by rintro rfl;exact n h) x
theorem D0 {k : Int} (h : Lf G a k) : G a ≠ none := by
 obtain ⟨o,c,m,e,_⟩ := h
 rw [e];simp
theorem C8 {k : Int} (hd : Dom D G) (e : Ext a G G') (lf : Lf G' a k) : Dom D G' := fun b hb z => by
 by_cases h : b = a
 ·subst h;exact D0 lf z
 ·cases g : G b with
  | none => exact hd b hb g
  | some o => rw [e b o h g] at z;cases z
theorem Nw.backx {x : T} {d : PyData} {k : Int} (h : Nw D G G' x d) (e : Ext a G0 G) (lf : Lf G a k) : Nw D G0 G' x d := by
 rcases h with h | ⟨p,xs,ds,h1,h2,c,r⟩
 ·exact .inl h
 refine .inr ⟨p,xs,ds,h1,h2,?_,r⟩
 cases z : G0 p with
 | none => rfl
 | some o =>
  by_cases hp : p = a
  ·subst hp;exact absurd c (D0 lf)
  ·rw [e p o hp z] at c;cases c
structure Ln (fv : List Nat) (l : Nat) (D : Addr → Prop) (G : Gp) (τ : St3) (ρ : Rho) (a : Addr) (n : Nat) : Prop where
 v : XY fv D G τ ρ
 d : Dom D G
 da : D a
 tl : τ[l]? = some (some (.ref a))
 ul : vw ρ l = none
 lf : Lf G a n
theorem Ln.up (h : Ln fv l D G τ ρ a n) (e : Ext a G G') (lf : Lf G' a n') : Ln fv l D G' τ ρ a n' :=
 ⟨fun i hi d hd => let ⟨t,x,y⟩ := h.v i hi d hd;⟨t,x,y.up (T0 e h.da)⟩,C8 h.d e lf,h.da,h.tl,h.ul,lf⟩
theorem Ln.fst (h : Ln (fv ++ gv) l D G τ ρ a n) : Ln fv l D G τ ρ a n := ⟨h.v.l,h.d,h.da,h.tl,h.ul,h.lf⟩
theorem Ln.snd (h : Ln (fv ++ gv) l D G τ ρ a n) : Ln gv l D G τ ρ a n := ⟨h.v.r,h.d,h.da,h.tl,h.ul,h.lf⟩
end
abbrev QD := PyData → Nat → Prop
structure PwE (l : Nat) (t : TE3) where
 w : Rho → Nat → QD → Prop
 fv : List Nat
 nw : Bool
 mono : ∀ {ρ n} {Q Q' : QD},w ρ n Q → (∀ d m,Q d m → Q' d m) → w ρ n Q'
 ok : ∀ {D τ ρ G a n} {q : Q3} {Q : QD},Ln fv l D G τ ρ a n → w ρ n Q → (∀ x d G' n',Q d n' → Ext a G G' → Lf G' a n' → Dq (rs D G') x d → (nw = true → Nw D G G' x d) → q x G') → t τ G q
structure PwC (l : Nat) (t : TT3) where
 w : Rho → Nat → (Bool → Nat → Prop) → Prop
 fv : List Nat
 mono : ∀ {ρ n} {Q Q' : Bool → Nat → Prop},w ρ n Q → (∀ d m,Q d m → Q' d m) → w ρ n Q'
 ok : ∀ {D τ ρ G a n} {q : Bool → Gp → Prop} {Q : Bool → Nat → Prop},Ln fv l D G τ ρ a n → w ρ n Q → (∀ k G' n',Q k n' → Ext a G G' → Lf G' a n' → q k G') → t τ G q
structure PwA (l : Nat) (t : TA3) where
 w : Rho → Nat → (List PyData → Nat → Prop) → Prop
 fv : List Nat
 k : Nat
 mono : ∀ {ρ n} {Q Q' : List PyData → Nat → Prop},w ρ n Q → (∀ d m,Q d m → Q' d m) → w ρ n Q'
 ok : ∀ {D τ ρ G a n} {q : List T → Gp → Prop} {Q : List PyData → Nat → Prop},Ln fv l D G τ ρ a n → w ρ n Q → (∀ x d G' n',Q d n' → d.length = k → Ext a G G' → Lf G' a n' → Dqs (rs D G') x d → q x G') → t τ G q
structure PwI (l : Nat) (t : TI3) where
 w : Rho → Nat → (List PyData → Nat → Prop) → Prop
 fv : List Nat
 nm : Bool
 mono : ∀ {ρ n} {Q Q' : List PyData → Nat → Prop},w ρ n Q → (∀ d m,Q d m → Q' d m) → w ρ n Q'
 ok : ∀ {D τ ρ G a n} {r : List T → (Gp → Prop) → Gp → Prop} {Q : List PyData → Nat → Prop},Ln fv l D G τ ρ a n → w ρ n Q →
  (∀ items stay ds G' n',Q ds n' → Ext a G G' → Lf G' a n' → Dqs (rs D G') items ds → (∀ G'',(nm = true ∨ Ex (rs D G') G'') → stay G'') → (nm = true → ∃ ns : List Int,ds = ns.map PyData.int) → r items stay G') → t τ G r
structure DrD (r : List T → Gp → Q3 → Prop) where
 W : List PyData → Nat → QD → Prop
 nw : Bool
 mono : ∀ {ds n} {Q Q' : QD},W ds n Q → (∀ d m,Q d m → Q' d m) → W ds n Q'
 ok : ∀ {D : Addr → Prop} {G : Gp} {a : Addr} {n : Nat} {ts : List T} {ds : List PyData} {q : Q3} {Q : QD},Lf G a n → D a → Dom D G → Dqs (rs D G) ts ds → W ds n Q → (∀ x d G' n',Q d n' → Ext a G G' → Lf G' a n' → Dq (rs D G') x d → (nw = true → Nw D G G' x d) → q x G') → r (.ref a :: ts) G q
section
variable {l : Nat}
def eOf {t : TE3} (b : PuE t) : PwE l t := ⟨fun ρ n Q => ∃ d,b.f ρ = some d∧Q d n,b.fv,b.nw,fun ⟨d,h1,h2⟩ h => ⟨d,h1,h _ _ h2⟩,fun h ⟨d,h1,h2⟩ k =>
 b.ok h.v h.d h1 fun x G1 E1 D1 N1 => k x d G1 _ h2 (Bk.T3 E1) (h.lf.ex E1) D1 N1⟩
def cOf {t : TT3} (b : PuC t) : PwC l t := ⟨fun ρ n Q => ∃ d,b.f ρ = some d∧Q d n,b.fv,fun ⟨d,h1,h2⟩ h => ⟨d,h1,h _ _ h2⟩,fun h ⟨d,h1,h2⟩ k =>
 b.ok h.v h.d h1 fun G1 E1 => k d G1 _ h2 (Bk.T3 E1) (h.lf.ex E1)⟩
def aOf {t : TA3} (b : PuA t) : PwA l t := ⟨fun ρ n Q => ∃ d,b.f ρ = some d∧Q d n,b.fv,b.n,fun ⟨d,h1,h2⟩ h => ⟨d,h1,h _ _ h2⟩,fun h ⟨d,h1,h2⟩ k =>
 b.ok h.v h.d h1 fun x G1 E1 D1 => k x d G1 _ h2 (b.ln h1) (Bk.T3 E1) (h.lf.ex E1) D1⟩
def iOf {t : TI3} (b : PuI t) : PwI l t := ⟨fun ρ n Q => ∃ d,b.f ρ = some d∧Q d n,b.fv,b.nm,fun ⟨d,h1,h2⟩ h => ⟨d,h1,h _ _ h2⟩,fun h ⟨d,h1,h2⟩ k =>
 b.ok h.v h.d h1 fun items stay G1 E1 D1 s nm => k items stay d G1 _ h2 (Bk.T3 E1) (h.lf.ex E1) D1 s nm⟩
def eO {r : R3} {ta tb : TE3} (R : OpD r) (a : PwE l ta) (b : PwE l tb) : PwE l (o3 r ta tb) :=
 ⟨fun ρ n Q => a.w ρ n fun x n1 => b.w ρ n1 fun y n2 => ∃ v,R.f x y = some v∧Q v n2,a.fv ++ b.fv,R.nw,fun h k => a.mono h fun x n1 h => b.mono h fun y n2 ⟨v,h1,h2⟩ => ⟨v,h1,k _ _ h2⟩,fun h hw k =>
  a.ok h.fst hw fun x dx G1 n1 h1 E1 L1 D1 _ => b.ok (h.snd.up E1 L1) h1 fun y dy G2 n2 ⟨v,e,hq⟩ E2 L2 D2 _ => R.ok (D1.up (T0 E2 h.da)) D2 (C8 (C8 h.d E1 L1) E2 L2) e fun z G3 E3 D3 N3 => k z v G3 n2 hq ((E1.trans E2).trans (Bk.T3 E3)) (L2.ex E3) D3 fun z => (N3 z).backx (E1.trans E2) L2⟩
def TD {ta : TE3} {tr : TA3} (a : PwE l ta) (r : PwA l tr) : PwA l (qc ta tr) :=
 ⟨fun ρ n Q => a.w ρ n fun x n1 => r.w ρ n1 fun xs n2 => Q (x :: xs) n2,a.fv ++ r.fv,r.k + 1,fun h k => a.mono h fun x n1 h => r.mono h fun xs n2 h => k _ _ h,fun h hw k =>
  a.ok h.fst hw fun x dx G1 n1 h1 E1 L1 D1 _ => r.ok (h.snd.up E1 L1) h1 fun y dy G2 n2 hq hl E2 L2 D2 => k _ _ G2 n2 hq (by simp [hl]) (E1.trans E2) L2 (.cons (D1.up (T0 E2 h.da)) D2)⟩
def qnb {t : TA3} (b : PwA l t) (hn : Tru (Nat.ble b.k 1000)) : PwE l (jr t) := ⟨fun ρ n Q => b.w ρ n fun xs n1 => Q (.tuple xs) n1,b.fv,false,fun h k => b.mono h fun xs n1 h => k _ _ h,fun h hw k =>
 b.ok h hw fun x dx G1 n1 h1 hl E1 L1 D1 => ⟨by rw [D1.length,hl];exact few hn,k _ _ _ _ h1 E1 L1 (.tup D1) (fun z => by cases z)⟩⟩
def eDr {r : List T → Gp → Q3 → Prop} {t : TA3} (R : DrD r) (b : PwA l t) : PwE l (cb3 r (qc (v3 l) t)) := ⟨fun ρ n Q => b.w ρ n fun xs n1 => R.W xs n1 Q,b.fv,R.nw,fun h k => b.mono h fun xs n1 h => R.mono h k,fun {D τ ρ G a n q Q} h hw k => by
 simp only [cb3,qc,v3,h.tl]
 exact b.ok h hw fun x dx G1 n1 hW hl E1 L1 D1 => R.ok L1 h.da (C8 h.d E1 L1) D1 hW fun z d G3 n3 hq E3 L3 D3 N3 => k z d G3 n3 hq (E1.trans E3) L3 D3 fun z => (N3 z).backx E1 L1⟩
def cTb {t : TE3} (b : PwE l t) : PwC l (tb3 t) := ⟨fun ρ n Q => b.w ρ n fun d n1 => ∃ k,asB d = some k∧Q k n1,b.fv,fun h k => b.mono h fun d m ⟨v,h1,h2⟩ => ⟨v,h1,k _ _ h2⟩,fun h hw k => b.ok h hw fun x d G1 n1 ⟨v,e,hq⟩ E1 L1 D1 _ => by
 have := TM e;subst this
 cases D1
 exact k _ _ _ hq E1 L1⟩
def eIf {t : TT3} {ta tb : TE3} (c : PwC l t) (a : PwE l ta) (b : PwE l tb) : PwE l (if3 t ta tb) := ⟨fun ρ n Q => c.w ρ n fun k n1 => if k then a.w ρ n1 Q else b.w ρ n1 Q,c.fv ++ (a.fv ++ b.fv),false,fun h k => c.mono h fun j m h => by
  cases j with
  | true => rw [if_pos rfl] at h ⊢;exact a.mono h k
  | false => exact b.mono h k,fun h hw k => c.ok h.fst hw fun j G1 n1 hj E1 L1 => by
  cases j with
  | true => rw [if_pos rfl] at hj ⊢;exact a.ok (h.snd.fst.up E1 L1) hj fun x d G2 n2 hq E2 L2 D2 _ => k _ _ _ _ hq (E1.trans E2) L2 D2 (fun z => by cases z)
  | false => exact b.ok (h.snd.snd.up E1 L1) hj fun x d G2 n2 hq E2 L2 D2 _ => k _ _ _ _ hq (E1.trans E2) L2 D2 (fun z => by cases z)⟩
end
theorem VA.ext {D : Addr → Prop} {a : Addr} {G G' : Gp} {τ : St3} {ρ : Rho} (h : VA D G τ ρ) (e : Ext a G G') (da : D a) : VA D G' τ ρ := h.upx (T0 e da)
end Pu
namespace Pu
open PySem L2 L3
open Bk (Lf Ext)
structure RL (l : Nat) (a : Addr) (z0 : Option (Option T) × Nat) (D : Addr → Prop) (G0 : Gp) (A : Nat → Option Addr) (τ : St3) (ρ : Rho) (G : Gp) (n : Nat) : Prop where
 r : RS D G0 A τ ρ G
 al : A l = some a
 tl : τ[l]? = some (some (.ref a))
 ul : ρ[l]? = some Sl.un
 lf : Lf G a n
 tz : τ[0]? = z0.1∧τ.length = z0.2
section
variable {l : Nat} {a : Addr} {z0 : Option (Option T) × Nat} {D : Addr → Prop} {G0 G G' : Gp} {A : Nat → Option Addr} {τ : St3} {ρ : Rho} {n n' : Nat}
theorem RL.vl (h : RL l a z0 D G0 A τ ρ G n) : vw ρ l = none := by unfold vw;rw [h.ul];rfl
theorem RL.up (h : RL l a z0 D G0 A τ ρ G n) (e : Ext a G G') (lf : Lf G' a n') : RL l a z0 D G0 A τ ρ G' n' := by
 have X : Ex (rs (AD D A) G) (rs (AD D A) G') := T0 e (.inr ⟨l,h.al⟩)
 refine ⟨⟨fun b o x => e b o (by rintro rfl;rw [h.r.fr l _ h.al] at x;cases x) (h.r.ex b o x),h.r.dm,h.r.fr,fun i p hp z => ?_,h.r.inj,h.r.len,fun i d x => let ⟨t,y,z⟩ := h.r.sh i d x;⟨t,y,z.up X⟩,fun i ds x => ?_⟩,h.al,h.tl,h.ul,lf,h.tz⟩
 ·by_cases c : p = a
  ·subst c;exact D0 lf z
  ·cases g : G p with
   | none => exact h.r.da i p hp g
   | some o => rw [e p o c g] at z;cases z
 ·obtain ⟨p,xs,y1,y2,y3,y4⟩ := h.r.ow i ds x
  refine ⟨p,xs,y1,y2,e p _ ?_ y3,y4.up X⟩
  rintro rfl
  have := h.r.inj i l _ y1 h.al
  subst this
  rw [h.ul] at x;cases x
theorem RL.all (h : RL l a z0 D G0 A τ ρ G n) (fv : List Nat) : Ln fv l (fun b => D b ∨ b = a) G τ ρ a n := by
 refine ⟨fun i _ d hd => ?_,fun b hb => ?_,.inr rfl,h.tl,h.vl,h.lf⟩
 ·unfold vw at hd
  obtain ⟨s,e,hd⟩ := Option.bind_eq_some_iff.mp hd
  have less : Ex (rs (AD D A) G) (rs (fun b => D b ∨ b = a) G) := jb fun b z => by
   rcases z with z | z
   ·exact .inl z
   ·subst z;exact .inr ⟨l,h.al⟩
  cases s with
  | un => cases hd
  | sh d' =>
   cases hd
   obtain ⟨t,b,c⟩ := h.r.sh i _ e
   exact ⟨t,b,c.up less⟩
  | ow ds =>
   cases hd
   obtain ⟨p,xs,b,c,g,f⟩ := h.r.ow i _ e
   refine ⟨_,c,.lst ?_ (f.up less)⟩
   rw [jZ]
   ·exact g
   ·rintro (z | z)
    ·exact h.r.nd b z
    ·subst z
     have := h.r.inj i l _ b h.al
     subst this
     rw [h.ul] at e;cases e
 ·rcases hb with hb | hb
  ·exact h.r.domD b hb
  ·subst hb;exact D0 h.lf
theorem qpq {m : List Bool} (hm : mkb m l = false) (al : A l = some a) : Ad m A l = some a := by unfold Ad;rw [if_neg (by rw [hm];simp)];exact al
theorem RL.dem (h : RL l a z0 D G0 A τ ρ G n) {m : List Bool} (hm : mkb m l = false) : RL l a z0 D G0 (Ad m A) τ (Pu.dm m ρ) G n :=
 ⟨h.r.dem m,qpq hm h.al,h.tl,by rw [qaC,h.ul];simp [hm],h.lf,h.tz⟩
theorem RL.ln (h : RL l a z0 D G0 A τ ρ G n) {m : List Bool} {fv : List Nat} (hm : mkb m l = false) (hf : Tru (fv.all (mkb m))) : Ln fv l (AD D (Ad m A)) G τ ρ a n :=
 ⟨h.r.viewD hf,(h.r.dem m).dom,.inr ⟨l,qpq hm h.al⟩,h.tl,h.vl,h.lf⟩
theorem RL.put (h : RL l a z0 D G0 A τ ρ G n) {i : Nat} (hi : i ≠ l) (h0 : i ≠ 0) {x : T} {d : PyData} (hx : Dq (rs (AD D A) G) x d) : RL l a z0 D G0 (Er A i) (τ.set i (some x)) (ρ.set i (.sh d)) G n :=
 ⟨h.r.put i hx,by unfold Er;rw [if_neg (fun z => hi z.symm)];exact h.al,by rw [List.getElem?_set,if_neg hi];exact h.tl,by rw [List.getElem?_set,if_neg hi];exact h.ul,h.lf,⟨by rw [List.getElem?_set,if_neg h0];exact h.tz.1,by rw [List.length_set];exact h.tz.2⟩⟩
theorem RL.puts : ∀ {ts : List (Nat × T)} {bs : List (Nat × PyData)} {A : Nat → Option Addr} {τ : St3} {ρ : Rho},RL l a z0 D G0 A τ ρ G n → Bd (rs (AD D A) G) ts bs → (∀ p ∈ bs,p.1 ≠ l∧p.1 ≠ 0) → ∃ A',RL l a z0 D G0 A' (sets τ ts) (QT ρ bs) G n
 | _,_,A,_,_,h,.nil,_ => ⟨A,h⟩
 | _,_,A,_,_,h,.cons x b,hn => by
  unfold sets QT
  exact RL.puts (h.put (hn _ List.mem_cons_self).1 (hn _ List.mem_cons_self).2 x) (b.up qmb) (fun p hp => hn p (List.mem_cons_of_mem _ hp))
theorem RL.putN (h : RL l a z0 D G0 A τ ρ G n) {i : Nat} (hi : i ≠ l) (h0 : i ≠ 0) {x : T} {d : PyData} {ds : List PyData} (hd : d = .list ds) (E : Ext a G G') (lf : Lf G' a n') (hx : Nw (AD D A) G G' x d) : ∃ A',RL l a z0 D G0 A' (τ.set i (some x)) (ρ.set i (.ow ds)) G' n' := by
 have h1 := h.up E lf
 rcases hx with hx | ⟨p,xs,ds',rfl,e',gp,gp',hs⟩
 ·rw [hd] at hx;cases hx
 rw [hd] at e'
 cases e'
 have np : ∀ {j q},A j = some q → q ≠ p := fun e => by rintro rfl;exact h.r.da _ _ e gp
 have X1 : Ex (rs (AD D A) G) (rs (AD D (fun j => if j = i then some p else A j)) G') := fun b o e => by
  obtain ⟨n,e⟩ := qI e
  rw [jZ]
  ·exact E b o (by rintro rfl;exact n (.inr ⟨l,h.al⟩)) e
  ·rintro (z | ⟨j,z⟩)
   ·exact n (.inl z)
   ·simp only at z
    split at z
    ·cases z;rw [gp] at e;cases e
    ·exact n (.inr ⟨j,z⟩)
 refine ⟨fun j => if j = i then some p else A j,⟨h1.r.ex,h.r.dm,fun j q e => ?_,fun j q e => ?_,fun j k q x y => ?_,by simp [h.r.len],fun j e he => ?_,fun j es e => ?_⟩,by rw [if_neg (fun z => hi z.symm)];exact h.al,by rw [List.getElem?_set,if_neg hi];exact h.tl,by rw [List.getElem?_set,if_neg hi];exact h.ul,lf,⟨by rw [List.getElem?_set,if_neg h0];exact h.tz.1,by rw [List.length_set];exact h.tz.2⟩⟩
 ·split at e
  ·cases e
   cases z : G0 p with
   | none => rfl
   | some o => rw [h.r.ex _ _ z] at gp;cases gp
  ·exact h.r.fr j q e
 ·split at e
  ·cases e;rw [gp'];simp
  ·exact h1.r.da j q e
 ·split at x
  ·cases x
   split at y
   ·rename_i h1 h2;rw [h1,h2]
   ·exact absurd rfl (np y)
  ·split at y
   ·cases y;exact absurd rfl (np x)
   ·exact h.r.inj j k q x y
 ·rw [List.getElem?_set] at he ⊢
  split at he
  ·split at he <;> cases he
  ·rename_i hj
   rw [if_neg hj]
   obtain ⟨t,b,c⟩ := h.r.sh j _ he
   exact ⟨t,b,c.up X1⟩
 ·rw [List.getElem?_set] at e ⊢
  split at e
  ·rename_i hj
   subst hj
   split at e
   ·rename_i hl
    cases e
    refine ⟨p,xs,by simp,by rw [if_pos rfl,if_pos (by rw [← h.r.len];exact hl)],gp',hs.up (jb fun b z => ?_)⟩
    rcases z with z | ⟨j,z⟩
    ·exact .inl (.inl z)
    ·simp only at z
     split at z
     ·cases z;exact .inr rfl
     ·exact .inl (.inr ⟨j,z⟩)
   ·cases e
  ·rename_i hj
   rw [if_neg hj]
   obtain ⟨q,ys,b,c,g,f⟩ := h1.r.ow j _ e
   obtain ⟨q',ys',b',c',g',f'⟩ := h.r.ow j _ e
   rw [b] at b';cases b'
   have : G' q = some (.lst ys') := E q _ (by rintro rfl;have := h.r.inj j l _ b h.al;subst this;rw [h.ul] at e;cases e) g'
   exact ⟨q,ys',by rw [if_neg (fun z => hj z.symm)];exact b,c,this,f'.up X1⟩
theorem RL.wr (h : RL l a z0 D G0 A τ ρ G n) {i : Nat} {p : Addr} {xs : List T} {ds ds0 : List PyData} (ho : ρ[i]? = some (Sl.ow ds0)) (hi : A i = some p) (ht : τ[i]? = some (some (.ref p))) (hs : Dqs (rs (AD D A) G) xs ds) : RL l a z0 D G0 A τ (ρ.set i (.ow ds)) (gu G p (.lst xs)) n := by
 have il : i ≠ l := by rintro rfl;rw [h.ul] at ho;cases ho
 have pa : p ≠ a := by rintro rfl;exact il (h.r.inj i l _ hi h.al)
 exact ⟨h.r.wr hi ht hs,h.al,h.tl,by rw [List.getElem?_set,if_neg il];exact h.ul,h.lf.new pa,h.tz⟩
end
abbrev QO := Ot → Nat → Prop
def qci (l : Nat) (a : Addr) (z0 : Option (Option T) × Nat) (D : Addr → Prop) (G0 : Gp) (e : Ends3) : Ot → Nat → Prop
 | .nx ρ,n => ∀ A τ G,RL l a z0 D G0 A τ ρ G n → e.nx τ G
 | .bk ρ,n => ∀ A τ G,RL l a z0 D G0 A τ ρ G n → e.bk τ G
 | .ct ρ,n => ∀ A τ G,RL l a z0 D G0 A τ ρ G n → e.ct τ G
 | .rt d fr,n => ∀ x G,Ex G0 G → Lf G a n → Dq (rs (fun b => D b ∨ b = a) G) x d → (fr = true → Nw (fun b => D b ∨ b = a) G0 G x d) → e.rt x G
structure PwS (l : Nat) (t : TS3) where
 w : Rho → Nat → QO → Prop
 mono : ∀ {ρ n} {Q Q' : QO},w ρ n Q → (∀ o m,Q o m → Q' o m) → w ρ n Q'
 ok : ∀ {a z0 D G0 A τ ρ G n} {e : Ends3} {Q : QO},RL l a z0 D G0 A τ ρ G n → w ρ n Q → (∀ o m,Q o m → qci l a z0 D G0 e o m) → t e τ G
section
variable {l : Nat}
def qdd : PwS l qL := ⟨fun ρ n Q => Q (.nx ρ) n,fun h k => k _ _ h,fun h hw k => k _ _ hw _ _ _ h⟩
def sqw (b : Rho → Nat → QO → Prop) (Q : QO) : QO := fun o n => match o with | .nx ρ' => b ρ' n Q | o => Q o n
def qaf {t u : TS3} (x : PwS l t) (y : PwS l u) : PwS l (qM t u) := ⟨fun ρ n Q => x.w ρ n (sqw y.w Q),fun h k => x.mono h fun o m h => by
  cases o with
  | nx ρ => exact y.mono h k
  | bk ρ => exact k _ _ h
  | ct ρ => exact k _ _ h
  | rt d f => exact k _ _ h,fun h hw k => x.ok h hw fun o m h => by
  cases o with
  | nx ρ => exact fun A τ G r => y.ok r h k
  | bk ρ => exact k _ _ h
  | ct ρ => exact k _ _ h
  | rt d f => exact k _ _ h⟩
def wIf {c : TT3} {t u : TS3} (pc : PwC l c) (x : PwS l t) (y : PwS l u) : PwS l (jq c t u) := ⟨fun ρ n Q => pc.w ρ n fun k n1 => if k then x.w ρ n1 Q else y.w ρ n1 Q,fun h k => pc.mono h fun j m h => by
  cases j with
  | true => rw [if_pos rfl] at h ⊢;exact x.mono h k
  | false => exact y.mono h k,fun h hw k => pc.ok (h.all _) hw fun j G1 n1 hj E1 L1 => by
  cases j with
  | true => rw [if_pos rfl] at hj ⊢;exact x.ok (h.up E1 L1) hj k
  | false => exact y.ok (h.up E1 L1) hj k⟩
theorem qhv {a : Addr} {z0 : Option (Option T) × Nat} {D : Addr → Prop} {G0 G G' : Gp} {A : Nat → Option Addr} {τ : St3} {ρ : Rho} {n : Nat} (h : RL l a z0 D G0 A τ ρ G n) (e : Ext a G G') : Ex G0 G' := fun b o x => e b o (by rintro rfl;rw [h.r.fr l _ h.al] at x;cases x) (h.r.ex b o x)
def qku {t : TE3} (x : PwE l t) : PwS l (qR t) := ⟨fun ρ n Q => x.w ρ n fun d n1 => Q (.rt d x.nw) n1,fun h k => x.mono h fun d m h => k _ _ h,fun h hw k => x.ok (h.all _) hw fun y d G1 n1 hq E1 L1 D1 N1 => k _ _ hq y G1 (qhv h E1) L1 D1 fun z => (N1 z).back h.r.ex⟩
def qcp {t : TE3} (x : PwE l t) (i : Nat) (m : List Bool) (hm : Tru (x.fv.all (mkb m))) (hl : Tru (!mkb m l && (i != l && i != 0))) : PwS l (zm t (gn3 i)) := ⟨fun ρ n Q => x.w ρ n fun d n1 => Q (.nx (MM m x.nw i d ρ)) n1,fun h k => x.mono h fun d m h => k _ _ h,fun {a z0 D G0 A τ ρ G n e Q} h hw k => by
 have hl' : mkb m l = false∧i ≠ l∧i ≠ 0 := by simpa using hl.h
 refine x.ok (h.ln hl'.1 hm) hw fun y d G1 n1 hq E1 L1 D1 N1 => ?_
 have k := k _ _ hq
 unfold MM at k
 show e.nx (τ.set i (some y)) G1
 split at k
 ·rename_i hs
  exact k _ _ _ ((h.up E1 L1).put hl'.2.1 hl'.2.2 (CD D1 hs))
 ·split at k
  ·rename_i hn
   have N := N1 hn
   rcases id N with h2 | ⟨p,xs,ds,h1,h2,_⟩
   ·subst h2;rename_i hs;exact absurd rfl hs
   subst h2
   obtain ⟨A',r⟩ := (h.dem hl'.1).putN hl'.2.1 hl'.2.2 rfl E1 L1 N
   exact k _ _ _ r
  ·exact k _ _ _ (((h.dem hl'.1).up E1 L1).put hl'.2.1 hl'.2.2 D1)⟩
def qks {t : TE3} {g : TG3} (x : PwE l t) (pg : PuG g) (m : List Bool) (hm : Tru (x.fv.all (mkb m))) (hl : Tru (!mkb m l && pg.tg.all (fun i => i != l && i != 0))) : PwS l (zm t g) := ⟨fun ρ n Q => x.w ρ n fun d n1 => ∃ bs,pg.f d = some bs∧Q (.nx (QT (dm m ρ) bs)) n1,fun h k => x.mono h fun d m ⟨bs,h1,h2⟩ => ⟨bs,h1,k _ _ h2⟩,fun {a z0 D G0 A τ ρ G n e Q} h hw k => by
 have hl' : mkb m l = false∧∀ i ∈ pg.tg,i ≠ l∧i ≠ 0 := by simpa using hl.h
 refine x.ok (h.ln hl'.1 hm) hw fun y d G1 n1 ⟨bs,e2,hq⟩ E1 L1 D1 N1 => ?_
 obtain ⟨ts,bd,kg⟩ := pg.ok D1 e2
 refine kg _ _ _ ?_
 obtain ⟨A',h'⟩ := ((h.dem hl'.1).up E1 L1).puts bd (fun p hp => hl'.2 _ (pg.at' e2 p hp))
 exact k _ _ hq _ _ _ h'⟩
theorem RL.evalS {a : Addr} {z0 : Option (Option T) × Nat} {D : Addr → Prop} {G0 G : Gp} {A : Nat → Option Addr} {τ : St3} {ρ : Rho} {n : Nat} (h : RL l a z0 D G0 A τ ρ G n) {t : TE3} (x : PwE l t) (m : List Bool) (hm : Tru (x.fv.all (mkb m))) (hl : mkb m l = false) {Q : QD} (hw : x.w ρ n Q) (q : Q3) (k : ∀ y d G' n' A1,Q d n' → RL l a z0 D G0 A1 τ (dmS m d ρ) G' n' → Ext a G G' → Dq (rs (AD D A1) G') y d → q y G') : t τ G q := by
 refine x.ok (h.ln hl hm) hw fun y d G1 n1 hq E1 L1 D1 _ => ?_
 by_cases hs : qfr d = true
 ·exact k y d G1 n1 A hq (by unfold dmS;rw [if_pos hs];exact h.up E1 L1) E1 (CD D1 hs)
 ·exact k y d G1 n1 _ hq (by unfold dmS;rw [if_neg hs];exact (h.dem hl).up E1 L1) E1 D1
def qdp (gf : PyData → Option (List (Nat × PyData))) (bw : Rho → Nat → QO → Prop) : List PyData → Rho → Nat → QO → Prop
 | [],ρ,n,Q => Q (.nx ρ) n
 | d :: r,ρ,n,Q => ∃ bs,gf d = some bs∧bw (QT ρ bs) n fun o n1 => match o with
  | .nx ρ' => qdp gf bw r ρ' n1 Q
  | .ct ρ' => qdp gf bw r ρ' n1 Q
  | .bk ρ' => Q (.nx ρ') n1
  | .rt d b => Q (.rt d b) n1
theorem W5 {g : TG3} {tb : TS3} (pg : PuG g) (pb : PwS l tb) : ∀ {ds : List PyData} {ρ : Rho} {n : Nat} {Q Q' : QO},qdp pg.f pb.w ds ρ n Q → (∀ o m,Q o m → Q' o m) → qdp pg.f pb.w ds ρ n Q'
 | [],_,_,_,_,h,k => k _ _ h
 | d :: r,_,_,_,_,⟨bs,e,h⟩,k => ⟨bs,e,pb.mono h fun o m h => by
   cases o with
   | nx ρ => exact W5 pg pb h k
   | ct ρ => exact W5 pg pb h k
   | bk ρ => exact k _ _ h
   | rt d b => exact k _ _ h⟩
theorem C7 {stay : Gp → Prop} {g : TG3} {tb : TS3} {e : Ends3} (pg : PuG g) (pb : PwS l tb) {a : Addr} {z0 : Option (Option T) × Nat} {D : Addr → Prop} {G0 : Gp} {Q : QO} (hl : ∀ i ∈ pg.tg,i ≠ l∧i ≠ 0) (hs : ∀ A τ ρ G n,RL l a z0 D G0 A τ ρ G n → stay G) (k : ∀ o m,Q o m → qci l a z0 D G0 e o m) :
  ∀ (ds : List PyData) (items : List T),(∀ A τ ρ G n,RL l a z0 D G0 A τ ρ G n → Dqs (rs (AD D A) G) items ds) → ∀ A τ ρ G n,RL l a z0 D G0 A τ ρ G n → qdp pg.f pb.w ds ρ n Q → CW stay g tb e items τ G
 | [],items,hi,A,τ,ρ,G,n,h,hw => by
  have := hi _ _ _ _ _ h
  cases this
  exact ⟨hs _ _ _ _ _ h,k _ _ hw _ _ _ h⟩
 | d :: ds,items,hi,A,τ,ρ,G,n,h,⟨bs,e1,hw⟩ => by
  have hh := hi _ _ _ _ _ h
  cases hh with
  | cons hx hr =>
   rename_i x items
   obtain ⟨ts,bd,kg⟩ := pg.ok hx e1
   refine ⟨hs _ _ _ _ _ h,kg _ _ _ ?_⟩
   obtain ⟨A',h'⟩ := h.puts bd fun p hp => hl _ (pg.at' e1 p hp)
   have hi' : ∀ A τ ρ G n,RL l a z0 D G0 A τ ρ G n → Dqs (rs (AD D A) G) items ds := fun A τ ρ G n h => by
    have := hi _ _ _ _ _ h
    cases this with
    | cons a b => exact b
   refine pb.ok h' hw fun o m hq => ?_
   cases o with
   | nx ρ' => exact fun A2 τ2 G2 h2 => C7 pg pb hl hs k ds items hi' _ _ _ _ _ h2 hq
   | ct ρ' => exact fun A2 τ2 G2 h2 => C7 pg pb hl hs k ds items hi' _ _ _ _ _ h2 hq
   | bk ρ' => exact k _ _ hq
   | rt d fr => exact k _ _ hq
theorem RL.base {a : Addr} {z0 : Option (Option T) × Nat} {D : Addr → Prop} {G0 Gb G : Gp} {A : Nat → Option Addr} {τ : St3} {ρ : Rho} {n : Nat} (h : RL l a z0 D Gb A τ ρ G n) (e : Ex G0 Gb) (hd : Dom D G0) : RL l a z0 D G0 A τ ρ G n := ⟨h.r.base e hd,h.al,h.tl,h.ul,h.lf,h.tz⟩
theorem qci.base {a : Addr} {z0 : Option (Option T) × Nat} {D : Addr → Prop} {G0 Gb : Gp} {e : Ends3} {o : Ot} {n : Nat} (h : qci l a z0 D G0 e o n) (x : Ex G0 Gb) (hd : Dom D G0) : qci l a z0 D Gb e o n := by
 cases o with
 | nx ρ => exact fun A τ G r => h A τ G (r.base x hd)
 | bk ρ => exact fun A τ G r => h A τ G (r.base x hd)
 | ct ρ => exact fun A τ G r => h A τ G (r.base x hd)
 | rt d fr => exact fun y G p q r z => h y G (x.trans p) q r fun w => (z w).back x
def qpe {wi : TI3} {g : TG3} {tb : TS3} (pi : PwI l wi) (pg : PuG g) (pb : PwS l tb) (m : List Bool) (hm : Tru (pi.fv.all (mkb m))) (hl : Tru (!mkb m l && pg.tg.all (fun i => i != l && i != 0))) : PwS l (RK wi g tb) := ⟨fun ρ n Q => pi.w ρ n fun ds n1 => qdp pg.f pb.w ds (if pi.nm then ρ else dm m ρ) n1 Q,fun h k => pi.mono h fun d m h => W5 pg pb h k,fun {a z0 D G0 A τ ρ G n e Q} h hw k => by
 have hl' : mkb m l = false∧∀ i ∈ pg.tg,i ≠ l∧i ≠ 0 := by simpa using hl.h
 refine pi.ok (h.ln hl'.1 hm) hw fun items stay ds G1 n1 hq E1 L1 D1 hs hnm => ?_
 cases hb : pi.nm with
 | true =>
  rw [hb,if_pos rfl] at hq
  obtain ⟨ns,rfl⟩ := hnm hb
  have := D1.ints
  subst this
  exact C7 pg pb hl'.2 (fun _ _ _ _ _ _ => hs _ (.inl hb)) k _ _ (fun A τ ρ G _ _ => Dqs.ofInts _) _ _ _ _ _ (h.up E1 L1) hq
 | false =>
  rw [hb,if_neg Bool.false_ne_true] at hq
  have h1 := (h.dem hl'.1).up E1 L1
  have b1 : Ex G0 (rs (fun b => ∃ i,Ad m A i = some b) G1) := fun b o e => by
   rw [jZ]
   ·exact h1.r.ex _ _ e
   ·rintro ⟨i,z⟩;rw [h1.r.fr i _ z] at e;cases e
  have h2 : RL l a z0 D (rs (fun b => ∃ i,Ad m A i = some b) G1) (Ad m A) τ (dm m ρ) G1 n1 := ⟨⟨YC,h.r.dm.up b1,fun i p z => by unfold rs;exact zC ⟨i,z⟩,h1.r.da,h1.r.inj,h1.r.len,h1.r.sh,h1.r.ow⟩,h1.al,h1.tl,h1.ul,h1.lf,h1.tz⟩
  have X : ∀ A2 τ2 ρ2 G2,RS D (rs (fun b => ∃ i,Ad m A i = some b) G1) A2 τ2 ρ2 G2 → Ex (rs (AD D (Ad m A)) G1) (rs (AD D A2) G2) := fun A2 τ2 ρ2 G2 r b o e => by
   obtain ⟨n1,e⟩ := qI e
   have eb : rs (fun b => ∃ i,Ad m A i = some b) G1 b = some o := by rw [jZ (fun z => n1 (.inr z))];exact e
   rw [jZ]
   ·exact r.ex _ _ eb
   ·rintro (z | ⟨i,z⟩)
    ·exact n1 (.inl z)
    ·rw [r.fr i _ z] at eb;cases eb
  exact C7 pg pb hl'.2 (fun A2 τ2 ρ2 G2 n2 r => hs _ (.inr ((X _ _ _ _ r.r).trans YC))) (fun o m hq => (k o m hq).base b1 h.r.dm) _ _ (fun A2 τ2 ρ2 G2 n2 r => D1.up (X _ _ _ _ r.r)) _ _ _ _ _ h2 hq⟩
end
def DSp (W : List PyData → Nat → QD → Prop) (fr : Bool) : Sp3 := fun ts G q => ∃ (D : Addr → Prop) (a : Addr) (n : Nat) (ts' : List T) (ds : List PyData) (Q : QD),ts = .ref a :: ts'∧Lf G a n∧D a∧Dom D G∧Dqs (rs D G) ts' ds∧W ds n Q∧∀ x d G' n',Q d n' → Ext a G G' → Lf G' a n' → Dq (rs D G') x d → (fr = true → Nw D G G' x d) → q x G'
structure Wm where
 W : List PyData → Nat → QD → Prop
 mono : ∀ {ds n} {Q Q' : QD},W ds n Q → (∀ d m,Q d m → Q' d m) → W ds n Q'
def dSp (w : Wm) (fr : Bool) : DrD (DSp w.W fr) := ⟨w.W,fr,w.mono,fun {D G a n ts ds q Q} lf da hd hs hw k => ⟨D,a,n,ts,ds,Q,rfl,lf,da,hd,hs,hw,k⟩⟩
def qmV (fr : Bool) (Q : QD) : QO := fun o n => match o with
 | .rt d b => (fr = true → b = true)∧∃ m,n ≤ m∧Q d m
 | .nx _ => fr = false∧∃ m,n ≤ m∧Q .none m
 | _ => False
def qnq {t : TS3} (b : PwS 0 t) (k N : Nat) (fr : Bool) : Wm := ⟨fun ds n Q => ds.length + 1 = k∧b.w (.un :: (ds.map Sl.sh ++ List.replicate (N - (ds.length + 1)) .un)) n (qmV fr Q),fun ⟨h1,h2⟩ k => ⟨h1,b.mono h2 fun o m h => by
 cases o with
 | rt d f => obtain ⟨h1,m,h2,h3⟩ := h;exact ⟨h1,m,h2,k _ _ h3⟩
 | nx ρ => obtain ⟨h1,m,h2,h3⟩ := h;exact ⟨h1,m,h2,k _ _ h3⟩
 | bk ρ => exact h
 | ct ρ => exact h⟩⟩
theorem qbu {t : TS3} (b : PwS 0 t) (N : List Str) (k : Nat) (fr : Bool) : ∀ ts G q,DSp (qnq b k N.length fr).W fr ts G q → ts.length = k∧t { nx := fun _ G' => q .non G',rt := q } (qs N ts) G := by
 rintro ts G q ⟨D,a,n,ts',ds,Q,rfl,lf,da,hd,hs,⟨hk,hw⟩,h⟩
 refine ⟨by simp [hs.length];omega,?_⟩
 have DD : ∀ b,(D b∧b ≠ a) ∨ b = a ↔ D b := fun b => by
  by_cases e : b = a
  ·subst e;simp [da]
  ·simp [e]
 have rr : ∀ H,rs (fun b => (D b∧b ≠ a) ∨ b = a) H = rs D H := fun H => by
  have : (fun b => (D b∧b ≠ a) ∨ b = a) = D := funext fun b => propext (DD b)
  rw [this]
 have ad : AD (fun b => D b∧b ≠ a) (fun i => if i = 0 then some a else none) = D := funext fun b => propext ⟨(fun z => by
   rcases z with z | ⟨i,z⟩
   ·exact z.1
   ·simp only at z
    split at z
    ·cases z;exact da
    ·cases z),(fun z => by
   by_cases e : b = a
   ·subst e;exact .inr ⟨0,rfl⟩
   ·exact .inl ⟨z,e⟩)⟩
 have ga : G a ≠ none := D0 lf
 have r : RL 0 a (some (some (.ref a)),(qs N (.ref a :: ts')).length) (fun b => D b∧b ≠ a) (rs (fun b => b = a) G) (fun i => if i = 0 then some a else none) (qs N (.ref a :: ts')) (.un :: (ds.map Sl.sh ++ List.replicate (N.length - (ds.length + 1)) .un)) G n := by
  refine ⟨⟨YC,fun b hb => by rw [jZ (D := fun b => b = a) hb.2];exact hd b hb.1,fun i p e => ?_,fun i p e => ?_,fun i j p e e' => ?_,by simp [qs,hs.length],fun i d' e => ?_,fun i es e => ?_⟩,rfl,by simp [qs],rfl,lf,⟨by simp [qs],rfl⟩⟩
  ·split at e
   ·cases e;unfold rs;exact zC rfl
   ·cases e
  ·split at e
   ·cases e;exact ga
   ·cases e
  ·split at e
   ·split at e'
    ·rename_i h1 h2;rw [h1,h2]
    ·cases e'
   ·cases e
  ·rw [ad]
   cases i with
   | zero => cases e
   | succ i =>
    rw [List.getElem?_cons_succ] at e
    by_cases hi : i < ds.length
    ·rw [List.getElem?_append_left (by simpa using hi),List.getElem?_map] at e
     obtain ⟨d2,e3,e4⟩ := Option.map_eq_some_iff.mp e
     cases e4
     obtain ⟨x,e5,hx⟩ := hs.get e3
     refine ⟨x,?_,hx⟩
     unfold qs
     rw [List.getElem?_append_left (by simp [hs.length];exact hi),List.getElem?_map,List.getElem?_cons_succ,e5];rfl
    ·rw [List.getElem?_append_right (by simpa using hi),List.getElem?_replicate] at e
     split at e <;> cases e
  ·cases i with
   | zero => cases e
   | succ i =>
    rw [List.getElem?_cons_succ] at e
    by_cases hi : i < ds.length
    ·rw [List.getElem?_append_left (by simpa using hi),List.getElem?_map] at e
     obtain ⟨d2,e3,e4⟩ := Option.map_eq_some_iff.mp e
     cases e4
    ·rw [List.getElem?_append_right (by simpa using hi),List.getElem?_replicate] at e
     split at e <;> cases e
 have xe : ∀ {G'},Ex (rs (fun b => b = a) G) G' → Ext a G G' := fun e b o n x => e b o (by rw [jZ (D := fun b => b = a) n];exact x)
 refine b.ok r hw fun o m hq => ?_
 cases o with
 | rt d f =>
  intro x G' E L Dx0 N
  have Dx := Dx0
  rw [rr] at Dx
  obtain ⟨hq1,m2,hm,hq2⟩ := hq
  refine h x d G' m2 hq2 (xe E) (L.mono (by omega)) Dx fun z => ?_
  rcases N (hq1 z) with h2 | ⟨p,xs,ds',h1,h2,c,g,f'⟩
  ·exact .inl h2
  have np : p ≠ a := by
   rintro rfl
   rw [h1] at Dx0
   cases Dx0 with
   | lst g0 _ => exact (qI g0).1 (.inr rfl)
  refine .inr ⟨p,xs,ds',h1,h2,by rw [jZ (D := fun b => b = a) np] at c;exact c,g,f'.up (jb fun b z => ?_)⟩
  rcases z with z | z
  ·exact .inl ((DD b).mpr z)
  ·exact .inr z
 | nx ρ =>
  obtain ⟨hq1,m2,hm,hq2⟩ := hq
  exact fun A τ G' r' => h .non .none G' m2 hq2 (xe r'.r.ex) (r'.lf.mono (by omega)) .non fun z => by rw [hq1] at z;cases z
 | bk ρ => exact hq.elim
 | ct ρ => exact hq.elim
end Pu
namespace Pu
open PySem L2 L3
open Bk (Lf Ext Dl Wk Dr)
def okW : QO := fun o _ => match o with | .nx _ => True | .ct _ => True | _ => False
def qpd (K : Int) : TE3 := o3 z9 (c3 (.int 1)) (cb3 qhj (qc (c3 (.int K)) (qc (cb3 DC (qc (v3 0) qj)) qj)))
theorem qmm {i : Nat} {τ : St3} {t : T} {G : Gp} {q : Q3} (h : τ[i]? = some (some t)) : v3 i τ G q = q t G := by unfold v3;rw [h]
def qoR (K : Int) (R : TS3) : TS3 := qM (RK (jO (qc (qpd K) qj)) (gn3 1) (qM (zm (cb3 Bk.JG (qc (v3 0) (qc (v3 1) qj))) (gn3 2)) R)) (qR (c3 (.bl true)))
theorem qdA {R : TS3} (b : PwS 2 R) (N : List Str) (K : Int) (M : Nat) (hK : 0 ≤ K∧K ≤ 60) (hN : N.length = M + 3) (h : ∀ k : Nat,k ≤ 60 → b.w ([.un,.sh (.int k),.un] ++ List.replicate M .un) 0 okW) : ∀ ts G q,CJ ts G q → ts.length = 1∧qoR K R { nx := fun _ G' => q .non G',rt := q } (qs N ts) G := by
 rintro ts G q ⟨a,ns,rfl,hG,hl,hq⟩
 refine ⟨rfl,?_⟩
 have s0 : (qs N [T.ref a])[0]? = some (some (.ref a)) := by simp [qs]
 have gl : getL G a = some (ns.map T.int) := by unfold getL;rw [hG]
 simp only [qoR,qM,RK,jO,qpd,qc,qj,o3,c3,cb3,v3,s0,DC,gl,qhj,z9,List.length_map]
 have cnt : ((1 + (if ((ns.length : Nat) : Int) < K then ((ns.length : Nat) : Int) else K)).toNat) ≤ 61 := by split <;> omega
 refine ⟨⟨by split <;> omega,by split <;> omega⟩,?_⟩
 refine WX _ (fun _ τ G' => G' a = some (.frz (ns.map T.int))∧τ[0]? = some (some (.ref a))∧τ.length = M + 3) ⟨hG,s0,by simp [qs,hN]⟩ (fun _ _ _ _ _ => True.intro) ?_ ?_
 ·rintro i z τ G' nx hz ⟨gA,t0,tl⟩ hn
  obtain ⟨hi,rfl⟩ := qbr hz
  have hi2 : i ≤ 60 := by omega
  have t1 : (τ.set 1 (some (T.int (0 + (i : Int)))))[0]? = some (some (.ref a)) := by rw [List.getElem?_set,if_neg (by omega)];exact t0
  have t2 : (τ.set 1 (some (T.int (0 + (i : Int)))))[1]? = some (some (T.int (0 + (i : Int)))) := by rw [List.getElem?_set,if_pos rfl,if_pos (by omega)]
  show v3 0 (τ.set 1 (some (T.int (0 + (i : Int))))) G' (fun x G1 => v3 1 (τ.set 1 (some (T.int (0 + (i : Int))))) G1 fun y G2 => Bk.JG [x,y] G2 fun z G3 => R _ ((τ.set 1 (some (T.int (0 + (i : Int))))).set 2 (some z)) G3)
  rw [qmm t1,qmm t2]
  refine ⟨a,_,ns,rfl,gA,hl,by omega,by omega,fun p o c hp ho => ?_⟩
  have pa : a ≠ p := by rintro rfl;rw [gA] at hp;cases hp
  have r : RL 2 p (some (some (.ref a)),M + 3) (fun _ => False) G' (fun j => if j = 2 then some p else none) ((τ.set 1 (some (T.int (0 + (i : Int))))).set 2 (some (.ref p))) ([.un,.sh (.int i),.un] ++ List.replicate M .un) (gu G' p (.lst [.int o,.int c,.int 0])) 0 := by
   refine ⟨⟨UR hp,fun b z => z.elim,fun j q e => ?_,fun j q e => ?_,fun j k q e e' => ?_,by simp [tl],fun j d e => ?_,fun j ds e => ?_⟩,rfl,by rw [List.getElem?_set,if_pos rfl,if_pos (by simp;omega)],rfl,⟨o,c,0,qE,ho,by omega,by omega⟩,⟨by rw [List.getElem?_set,if_neg (by omega)];exact t1,by simp [tl]⟩⟩
   ·split at e
    ·cases e;exact hp
    ·cases e
   ·split at e
    ·cases e;rw [qE];simp
    ·cases e
   ·split at e
    ·split at e'
     ·rename_i h1 h2;rw [h1,h2]
     ·cases e'
    ·cases e
   ·match j,e with
    | 0,e => cases e
    | 1,e =>
     cases e
     refine ⟨.int (0 + (i : Int)),by rw [List.getElem?_set,if_neg (by omega)];exact t2,?_⟩
     rw [Int.zero_add];exact .int _
    | 2,e => cases e
    | j + 3,e =>
     simp only [List.cons_append,List.nil_append,List.getElem?_cons_succ,List.getElem?_replicate] at e
     split at e <;> cases e
   ·match j,e with
    | 0,e => cases e
    | 1,e => cases e
    | 2,e => cases e
    | j + 3,e =>
     simp only [List.cons_append,List.nil_append,List.getElem?_cons_succ,List.getElem?_replicate] at e
     split at e <;> cases e
  refine b.ok r (h i hi2) fun o' m ho' => ?_
  cases o' with
  | nx ρ' => exact fun A τ' G2 r2 => hn _ _ ⟨r2.r.ex _ _ gA,r2.tz.1,r2.tz.2⟩
  | ct ρ' => exact fun A τ' G2 r2 => hn _ _ ⟨r2.r.ex _ _ gA,r2.tz.1,r2.tz.2⟩
  | bk ρ' => exact ho'.elim
  | rt d f => exact ho'.elim
 ·rintro τ G' ⟨gA,t0,tl⟩
  exact hq G'
theorem K1 {G : Gp} {ts : List T} (h : Dqs G ts []) : ts = [] := by cases h;rfl
theorem qna {G : Gp} {ts : List T} {i : Int} (h : Dqs G ts [.int i]) : ts = [.int i] := by
 cases h with
 | cons a b => cases b;cases a;rfl
theorem lfc {G : Gp} {a : Addr} {n c : Nat} (h : Lf G a ((n : Int) + (c : Int))) : Lf G a ((n + c : Nat) : Int) := by rw [Int.natCast_add];exact h
def LN : DrD Bk.qQ := ⟨fun ds n Q => ∃ m : Int,ds = [.int m]∧(1 ≤ m∧m < 1073741824)∧n < 1000000000∧∀ d : Int,0 ≤ d → d < m → Q (.int d) (n + 1),false,
 fun ⟨m,h1,h2,h3,h4⟩ k => ⟨m,h1,h2,h3,fun d x y => k _ _ (h4 d x y)⟩,fun {D G a n ts ds q Q} lf da hd hs ⟨m,h1,h2,h3,h4⟩ k => by
 subst h1
 have := qna hs;subst this
 exact ⟨a,n,m,rfl,h2.1,h2.2,lf,by omega,fun d G' x y L E => k _ _ G' (n + 1) (h4 d x y) E (lfc (c := 1) L) (.int d) (fun z => by cases z)⟩⟩
def qhP : DrD Bk.JD := ⟨fun ds n Q => ds = []∧n < 1000000∧∀ w : Wk,w.Ok → Q (Pv.Wk.d w) (n + 60),false,
 fun ⟨h1,h3,h4⟩ k => ⟨h1,h3,fun w x => k _ _ (h4 w x)⟩,fun {D G a n ts ds q Q} lf da hd hs ⟨h1,h3,h4⟩ k => by
 subst h1
 have := K1 hs;subst this
 exact ⟨a,n,rfl,lf,by omega,fun w G' x L E => k _ _ G' (n + 60) (h4 w x) E (lfc (c := 60) L) (Pv.qm8 _ w) (fun z => by cases z)⟩⟩
def qeM : DrD Bk.jP := ⟨fun ds n Q => ds = []∧n < 10000000∧∀ r c : Int,1 ≤ r∧r ≤ 16 → 1 ≤ c∧c ≤ 16 → Q (.tuple [.int r,.int c]) (n + 4),false,
 fun ⟨h1,h3,h4⟩ k => ⟨h1,h3,fun r c x y => k _ _ (h4 r c x y)⟩,fun {D G a n ts ds q Q} lf da hd hs ⟨h1,h3,h4⟩ k => by
 subst h1
 have := K1 hs;subst this
 exact ⟨a,n,rfl,lf,by omega,fun r c G' a1 a2 a3 a4 L E => k _ _ G' (n + 4) (h4 r c ⟨a1,a2⟩ ⟨a3,a4⟩) E (lfc (c := 4) L) (.tup (.cons (.int _) (.cons (.int _) .nil))) (fun z => by cases z)⟩⟩
def qei : DrD Bk.QV := ⟨fun ds n Q => ds = []∧n < 1000000∧∀ r c b p,Dr (.rests r c b p) 16 16 32 → Q (Pv.dlD (.rests r c b p)) (n + 10),false,
 fun ⟨h1,h3,h4⟩ k => ⟨h1,h3,fun r c b x z => k _ _ (h4 r c b x z)⟩,fun {D G a n ts ds q Q} lf da hd hs ⟨h1,h3,h4⟩ k => by
 subst h1
 have := K1 hs;subst this
 exact ⟨a,n,rfl,lf,by omega,fun r c b x G' a1 L E => k _ _ G' (n + 10) (h4 r c b x a1) E (lfc (c := 10) L) (Pv.qf6 _ _) (fun z => by cases z)⟩⟩
def qgt (n : Nat) : FnD (Bk.jw (n + 1)) := ⟨fun ds => match ds with | [d,e] => cif (d = e∧Bk.JZ n d) (some (.bool true)) none | _ => none,false,fun {D G xs ds v q} hx hd hf k => by
 split at hf
 ·unfold cif at hf
  split at hf
  ·rename_i c
   cases hf
   obtain ⟨rfl,c⟩ := c
   cases hx with
   | cons x b => cases b with
    | cons y b =>
     cases b
     exact ⟨_,_,_,rfl,(x.up YC).dp,(y.up YC).dp,c,fun G' E => k _ _ E (.bl true) (fun z => by cases z)⟩
  ·cases hf
 ·cases hf⟩
theorem WJ {n : Nat} {d : PyData} (h : Bk.JZ n d) : (qgt n).f [d,d] = some (.bool true) := zC ⟨rfl,h⟩
end Pu
namespace Pu
open PySem L2 L3
open Bk (Lf Ext Dl Wk Dr)
theorem qle {l : Nat} {t : TE3} {b : PuE t} : (eOf (l := l) b).w = fun ρ n Q => ∃ d,b.f ρ = some d∧Q d n := id rfl
theorem qk4 {l : Nat} {t : TT3} {b : PuC t} : (cOf (l := l) b).w = fun ρ n Q => ∃ d,b.f ρ = some d∧Q d n := id rfl
theorem qjx {l : Nat} {t : TA3} {b : PuA t} : (aOf (l := l) b).w = fun ρ n Q => ∃ d,b.f ρ = some d∧Q d n := id rfl
theorem qji {l : Nat} {t : TI3} {b : PuI t} : (iOf (l := l) b).w = fun ρ n Q => ∃ d,b.f ρ = some d∧Q d n := id rfl
theorem qpm {l : Nat} {r : R3} {ta tb : TE3} {R : OpD r} {a : PwE l ta} {b : PwE l tb} : (eO R a b).w = fun ρ n Q => a.w ρ n fun x n1 => b.w ρ n1 fun y n2 => ∃ v,R.f x y = some v∧Q v n2 := id rfl
theorem qa5 {l : Nat} {ta : TE3} {tr : TA3} {a : PwE l ta} {r : PwA l tr} : (TD a r).w = fun ρ n Q => a.w ρ n fun x n1 => r.w ρ n1 fun xs n2 => Q (x :: xs) n2 := id rfl
theorem qdK {l : Nat} {t : TA3} {b : PwA l t} {hn : Tru (Nat.ble b.k 1000)} : (qnb b hn).w = fun ρ n Q => b.w ρ n fun xs n1 => Q (.tuple xs) n1 := id rfl
theorem qlJ {l : Nat} {r : List T → Gp → Q3 → Prop} {t : TA3} {R : DrD r} {b : PwA l t} : (eDr R b).w = fun ρ n Q => b.w ρ n fun xs n1 => R.W xs n1 Q := id rfl
theorem qmj {l : Nat} {t : TE3} {b : PwE l t} : (cTb b).w = fun ρ n Q => b.w ρ n fun d n1 => ∃ k,asB d = some k∧Q k n1 := id rfl
theorem qii {l : Nat} {t : TT3} {ta tb : TE3} {c : PwC l t} {a : PwE l ta} {b : PwE l tb} : (eIf c a b).w = fun ρ n Q => c.w ρ n fun k n1 => if k then a.w ρ n1 Q else b.w ρ n1 Q := id rfl
theorem qfN {l : Nat} {t : TI3} {b : PuI t} : (iOf (l := l) b).nm = b.nm := id rfl
theorem qfI {l : Nat} {t : TE3} {b : PuE t} : (eOf (l := l) b).nw = b.nw := id rfl
theorem qj8 {l : Nat} {r : R3} {ta tb : TE3} {R : OpD r} {a : PwE l ta} {b : PwE l tb} : (eO R a b).nw = R.nw := id rfl
theorem qaI {l : Nat} {t : TA3} {b : PwA l t} {hn : Tru (Nat.ble b.k 1000)} : (qnb b hn).nw = false := id rfl
theorem qfP {l : Nat} {r : List T → Gp → Q3 → Prop} {t : TA3} {R : DrD r} {b : PwA l t} : (eDr R b).nw = R.nw := id rfl
theorem qfu {l : Nat} {t : TT3} {ta tb : TE3} {c : PwC l t} {a : PwE l ta} {b : PwE l tb} : (eIf c a b).nw = false := id rfl
theorem qbz {l : Nat} : (qdd (l := l)).w = fun ρ n Q => Q (.nx ρ) n := id rfl
theorem qeX {b : Rho → Nat → QO → Prop} {Q : QO} {ρ : Rho} {n : Nat} : sqw b Q (.nx ρ) n = b ρ n Q := id rfl
theorem qfv {b : Rho → Nat → QO → Prop} {Q : QO} {d : PyData} {f : Bool} {n : Nat} : sqw b Q (.rt d f) n = Q (.rt d f) n := id rfl
theorem qkJ {l : Nat} {c : TT3} {t u : TS3} {pc : PwC l c} {x : PwS l t} {y : PwS l u} : (wIf pc x y).w = fun ρ n Q => pc.w ρ n fun k n1 => if k then x.w ρ n1 Q else y.w ρ n1 Q := id rfl
theorem qd0 {l : Nat} {t : TE3} {x : PwE l t} : (qku x).w = fun ρ n Q => x.w ρ n fun d n1 => Q (.rt d x.nw) n1 := id rfl
theorem qdR {l : Nat} {t : TE3} {x : PwE l t} {i : Nat} {m : List Bool} {hm : Tru (x.fv.all (mkb m))} {hl : Tru (!mkb m l && (i != l && i != 0))} : (qcp x i m hm hl).w = fun ρ n Q => x.w ρ n fun d n1 => Q (.nx (MM m x.nw i d ρ)) n1 := id rfl
theorem qbI {l : Nat} {t : TE3} {g : TG3} {x : PwE l t} {pg : PuG g} {m : List Bool} {hm : Tru (x.fv.all (mkb m))} {hl : Tru (!mkb m l && pg.tg.all (fun i => i != l && i != 0))} : (qks x pg m hm hl).w = fun ρ n Q => x.w ρ n fun d n1 => ∃ bs,pg.f d = some bs∧Q (.nx (QT (dm m ρ) bs)) n1 := id rfl
theorem qe2 {l : Nat} {wi : TI3} {g : TG3} {tb : TS3} {pi : PwI l wi} {pg : PuG g} {pb : PwS l tb} {m : List Bool} {hm : Tru (pi.fv.all (mkb m))} {hl : Tru (!mkb m l && pg.tg.all (fun i => i != l && i != 0))} : (qpe pi pg pb m hm hl).w = fun ρ n Q => pi.w ρ n fun ds n1 => qdp pg.f pb.w ds (if pi.nm then ρ else dm m ρ) n1 Q := id rfl
theorem qaT {ds : List PyData} {n : Nat} {Q : QD} : LN.W ds n Q = (∃ m : Int,ds = [.int m]∧(1 ≤ m∧m < 1073741824)∧n < 1000000000∧∀ d : Int,0 ≤ d → d < m → Q (.int d) (n + 1)) := id rfl
theorem qa1 {ds : List PyData} {n : Nat} {Q : QD} : qhP.W ds n Q = (ds = []∧n < 1000000∧∀ w : Wk,w.Ok → Q (Pv.Wk.d w) (n + 60)) := id rfl
theorem M2 {ds : List PyData} {n : Nat} {Q : QD} : qeM.W ds n Q = (ds = []∧n < 10000000∧∀ r c : Int,1 ≤ r∧r ≤ 16 → 1 ≤ c∧c ≤ 16 → Q (.tuple [.int r,.int c]) (n + 4)) := id rfl
theorem MX {ds : List PyData} {n : Nat} {Q : QD} : qei.W ds n Q = (ds = []∧n < 1000000∧∀ r c b p,Dr (.rests r c b p) 16 16 32 → Q (Pv.dlD (.rests r c b p)) (n + 10)) := id rfl
theorem M8 : qhP.nw = false := id rfl
theorem qk6 {w : Wm} {fr : Bool} : (dSp w fr).W = w.W := id rfl
theorem qey {w : Wm} {fr : Bool} : (dSp w fr).nw = fr := id rfl
theorem qbm {Q : QD} {d : PyData} {b : Bool} {n : Nat} : qmV false Q (.rt d b) n = ∃ m,n ≤ m∧Q d m := propext ⟨fun h => h.2,fun h => ⟨fun z => (Bool.false_ne_true z).elim,h⟩⟩
theorem qd6 {ρ : Rho} {n : Nat} : okW (.nx ρ) n = True := id rfl
theorem qmq {α : Type} {v : α} {P : α → Prop} : (∃ d,some v = some d∧P d) = P v := propext ⟨fun ⟨d,h1,h2⟩ => by cases h1;exact h2,fun h => ⟨v,rfl,h⟩⟩
theorem qdH {v : Int} {P : Int → Prop} : (∃ m : Int,[PyData.int v] = [.int m]∧P m) = P v := propext ⟨fun ⟨d,h1,h2⟩ => by cases h1;exact h2,fun h => ⟨v,rfl,h⟩⟩
theorem qfz {m : List Bool} {nw : Bool} {i : Nat} {d : Dl} {ρ : Rho} : MM m nw i (Pv.dlD d) ρ = (dm m ρ).set i (.sh (Pv.dlD d)) := by cases d <;> exact qdk
theorem qeP {m : List Bool} {nw : Bool} {i : Nat} {w : Wk} {ρ : Rho} : MM m nw i (Pv.Wk.d w) ρ = (dm m ρ).set i (.sh (Pv.Wk.d w)) := by cases w <;> exact qdk
theorem V8 {l : Nat} {t u : TS3} {x : PwS l t} {y : PwS l u} {ρ : Rho} {n : Nat} {Q : QO} (h : ∀ Y : Rho → Nat → QO → Prop,Y = y.w → x.w ρ n (sqw Y Q)) : (qaf x y).w ρ n Q := h _ rfl
theorem qbZ {ks : List Int} {d : Int} {P : PyData → Prop} (h0 : 0 ≤ d) (h1 : d < (ks.length : Int)) (h : ∀ k ∈ ks,P (.int k)) : ∃ v,L2.atI (ks.map PyData.int) d = some v∧P v := by
 obtain ⟨i,rfl⟩ := Int.eq_ofNat_of_zero_le h0
 have hi : i < ks.length := by omega
 refine ⟨.int ks[i],?_,h _ (List.getElem_mem hi)⟩
 have := atN (xs := ks.map PyData.int) (k := i) (by simpa using hi)
 rw [List.getElem?_map,List.getElem?_eq_getElem hi] at this
 exact this
structure Mn (bw : Rho → Nat → QO → Prop) : Prop where
 h : ∀ ρ n (Q Q' : QO),bw ρ n Q → (∀ o m,Q o m → Q' o m) → bw ρ n Q'
theorem PwS.mn {l : Nat} {t : TS3} (b : PwS l t) : Mn b.w := ⟨fun _ _ _ _ h k => b.mono h k⟩
section
variable {l : Nat} {g : TG3} {tb : TS3}
theorem qc4 {gf : PyData → Option (List (Nat × PyData))} {bw : Rho → Nat → QO → Prop} {α : Type} {f : α → PyData} (xs : List α) (mono : Mn bw) (I : Nat → Rho → Nat → Prop) {ρ : Rho} {n : Nat} {Q : QO} (h0 : I 0 ρ n)
  (hs : ∀ i x ρ n,xs[i]? = some x → I i ρ n → ∃ bs,gf (f x) = some bs∧bw (QT ρ bs) n fun o m => match o with | .nx ρ' => I (i + 1) ρ' m | .ct ρ' => I (i + 1) ρ' m | .bk ρ' => Q (.nx ρ') m | .rt d b => Q (.rt d b) m)
  (k : ∀ ρ n,I xs.length ρ n → Q (.nx ρ) n) : qdp gf bw (xs.map f) ρ n Q := by
 have key : ∀ (r : List α) (i : Nat) (ρ : Rho) (n : Nat),xs.drop i = r → i ≤ xs.length → I i ρ n → qdp gf bw (r.map f) ρ n Q := by
  intro r
  induction r with
  | nil =>
   intro i ρ n e hi h
   have : i = xs.length := by
    have := congrArg List.length e
    simp at this;omega
   subst this
   exact k ρ n h
  | cons x r ih =>
   intro i ρ n e hi h
   have hl : i < xs.length := by
    have := congrArg List.length e
    simp at this;omega
   have e' := List.drop_eq_getElem_cons hl
   rw [e] at e'
   injection e' with e1 e2
   obtain ⟨bs,h1,h2⟩ := hs i x ρ n (by rw [List.getElem?_eq_getElem hl,e1]) h
   refine ⟨bs,h1,mono.h _ _ _ _ h2 fun o m h => ?_⟩
   cases o with
   | nx ρ' => exact ih (i + 1) ρ' m e2.symm hl h
   | ct ρ' => exact ih (i + 1) ρ' m e2.symm hl h
   | bk ρ' => exact h
   | rt d b => exact h
 exact key xs 0 ρ n (by simp) (Nat.zero_le _) h0
end
theorem qa9 {α β : Type} {x : α} {f : α → Option β} : (some x).bind f = f x := id rfl
theorem qeR {α β : Type} {x : α} {f : α → β} : (some x).map f = some (f x) := id rfl
theorem qh5 {α : Type} {x : α} {r : List α} : (x :: r).length = r.length + 1 := id rfl
theorem qkS {α : Type} : ([] : List α).length = 0 := id rfl
theorem qkb {α : Type} {x y : α} {r : List α} : (x :: r).set 0 y = y :: r := id rfl
theorem qjG {α : Type} {x y : α} {r : List α} {i : Nat} : (x :: r).set (i + 1) y = x :: r.set i y := id rfl
theorem qkW {α : Type} {r : List α} : r ++ [] = r := List.append_nil r
theorem qmg {α : Type} {x : α} {r s : List α} : (x :: r) ++ s = x :: (r ++ s) := id rfl
theorem qjW {α : Type} {s : List α} : [] ++ s = s := id rfl
theorem qiE {n : Nat} : 0 + n = n := Nat.zero_add n
theorem qiF {p : Prop} : (True∧p) = p := true_and p
theorem qly {α : Type} {a b : α} {i : Decidable True} : @ite α True i a b = a := if_pos trivial
theorem qlu {α : Type} {a b : α} {i : Decidable False} : @ite α False i a b = b := if_neg not_false
theorem qiY : (false = true) = False := Bool.false_eq_true
theorem qlQ : (!true) = false := id rfl
theorem qkk : (!false) = true := id rfl
theorem qj3 {i : Decidable True} : @decide True i = true := decide_true i
theorem qjO {i : Decidable False} : @decide False i = false := decide_false i
theorem pwA : type_of% (And.intro (And.intro (And.intro (And.intro (And.intro (And.intro (And.intro @Pu.qle (And.intro @Pu.qk4 @Pu.qjx)) (And.intro @Pu.qji (And.intro @Pu.qpm @Pu.qa5))) (And.intro (And.intro @Pu.qdK (And.intro @Pu.qlJ @Pu.qmj)) (And.intro @Pu.qii (And.intro @Pu.qfN @Pu.qfI)))) (And.intro (And.intro (And.intro @Pu.qj8 (And.intro @Pu.qaI @Pu.qfP)) (And.intro @Pu.qfu (And.intro @Pu.qbz @Pu.qeX))) (And.intro (And.intro @Pu.qfv (And.intro @Pu.qkJ @Pu.qd0)) (And.intro @Pu.qdR (And.intro @Pu.qbI @Pu.qe2))))) (And.intro (And.intro (And.intro (And.intro @Pu.qaT (And.intro @Pu.qa1 @Pu.M2)) (And.intro @Pu.MX (And.intro @Pu.M8 @Pu.qk6))) (And.intro (And.intro @Pu.qey (And.intro @Pu.qbm @Pu.qd6)) (And.intro @Pu.qdH (And.intro @Pu.qfz @Pu.qeP)))) (And.intro (And.intro (And.intro @Pu.qms (And.intro @Pu.qoT @Pu.qdU)) (And.intro @Pu.qkU (And.intro @Pu.qfi @Pu.qe4))) (And.intro (And.intro @Pu.qpj (And.intro @Pu.qex @Pu.qa3)) (And.intro @Pu.qeU (And.intro @Pu.qes @Pu.qbV)))))) (And.intro (And.intro (And.intro (And.intro (And.intro @Pu.qlt (And.intro @Pu.qeu @Pu.qeQ)) (And.intro @Pu.qjj (And.intro @Pu.qbj @Pu.qbX))) (And.intro (And.intro @Pu.qin (And.intro @Pu.qdW @Pu.qlP)) (And.intro @Pu.qee (And.intro @Pu.qih @Pu.qj7)))) (And.intro (And.intro (And.intro @Pu.qh8 (And.intro @Pu.qbB @Pu.qbp)) (And.intro @Pu.qfK (And.intro @Pu.qlb @Pu.qfE))) (And.intro (And.intro @Pu.qfT (And.intro @Pu.qed @Pu.qfc)) (And.intro @Pu.qfb (And.intro @Pu.qat @Pu.qba))))) (And.intro (And.intro (And.intro (And.intro @Pu.qbP (And.intro @Pu.ql8 @Pu.qkz)) (And.intro @Pu.qif (And.intro @Pu.qdO @Pu.qbc))) (And.intro (And.intro @Pu.qd4 (And.intro @Pu.qer @Pu.qcb)) (And.intro @Pu.qeL (And.intro @Pu.qeq @Pu.qfS)))) (And.intro (And.intro (And.intro @Pu.qbE (And.intro @Pu.qbO @Pu.MJ)) (And.intro @Pu.qb1 (And.intro @Pu.qpg @Pu.qeZ))) (And.intro (And.intro @Pu.qar (And.intro @Pu.qfq @Pu.qbD)) (And.intro @Pu.qfO (And.intro @Pu.qlH @Pu.qdV))))))) (And.intro (And.intro (And.intro (And.intro (And.intro (And.intro @Pu.qb7 (And.intro @Pu.qeT @Pu.qb3)) (And.intro @Pu.qfh (And.intro @Pu.qeI @Pu.qeh))) (And.intro (And.intro @Pu.qfy (And.intro @Pu.qaL @Pu.qll)) (And.intro @Pu.qbe (And.intro @Pu.qaO @Pu.M5)))) (And.intro (And.intro (And.intro @Pu.MP (And.intro @Pu.MO @Pu.qfM)) (And.intro @Pu.qfA (And.intro @Pu.qbL @Pu.qa0))) (And.intro (And.intro @Pu.qao (And.intro @Pu.qaw @Pu.qaX)) (And.intro @Pu.M4 (And.intro @Pu.qeJ @Pu.qo8))))) (And.intro (And.intro (And.intro (And.intro @Pu.qps (And.intro @Pu.qjA @Pu.qmv)) (And.intro @Pu.qaA (And.intro @Pu.qfn @Pu.qi5))) (And.intro (And.intro @Pu.qmr (And.intro @Pu.at0 @Pu.at1)) (And.intro @Pu.at2 (And.intro @Pu.at3 @Pu.at4)))) (And.intro (And.intro (And.intro @Pu.at5 (And.intro @Pu.eqS @Pu.eqI)) (And.intro @Pu.qig (And.intro @Pu.qlr @Pu.qo9))) (And.intro (And.intro @Pu.qdP (And.intro @Pu.qdZ @Pu.qeO)) (And.intro @Pu.qbR (And.intro @Pu.qfs @Pu.qmD)))))) (And.intro (And.intro (And.intro (And.intro (And.intro @Pu.qlx (And.intro @Pu.ql2 @Pu.qfL)) (And.intro @Pu.qe1 (And.intro @Pu.qel @Pu.MZ))) (And.intro (And.intro @Pu.qfm (And.intro @Pu.qiz @Pu.qjw)) (And.intro @Pu.qjS (And.intro @Pu.qiK @Pu.qhZ)))) (And.intro (And.intro (And.intro @Pu.qiP (And.intro @Pu.qdk @Pu.qfe)) (And.intro @Pu.qjo (And.intro @Pu.qpa @Pu.qoW))) (And.intro (And.intro @Pu.qoX (And.intro @Pu.qjr @Pu.qlG)) (And.intro @Pu.qjM (And.intro @Pu.qi6 @Pu.qjT))))) (And.intro (And.intro (And.intro (And.intro @Pu.qo2 (And.intro @Pu.qfd @Pu.qe5)) (And.intro @Pu.qfR (And.intro @Pu.qdX @Pu.qmq))) (And.intro (And.intro @Pu.qa9 (And.intro @Pu.qeR @Pu.qh5)) (And.intro @Pu.qkS (And.intro @Pu.qkb @Pu.qjG)))) (And.intro (And.intro (And.intro @Pu.qkW (And.intro @Pu.qmg @Pu.qjW)) (And.intro @Pu.qiE (And.intro @Pu.qiF @Pu.qly))) (And.intro (And.intro @Pu.qlu (And.intro @Pu.qiY @Pu.qlQ)) (And.intro @Pu.qkk (And.intro @Pu.qj3 @Pu.qjO)))))))) := (And.intro (And.intro (And.intro (And.intro (And.intro (And.intro (And.intro @Pu.qle (And.intro @Pu.qk4 @Pu.qjx)) (And.intro @Pu.qji (And.intro @Pu.qpm @Pu.qa5))) (And.intro (And.intro @Pu.qdK (And.intro @Pu.qlJ @Pu.qmj)) (And.intro @Pu.qii (And.intro @Pu.qfN @Pu.qfI)))) (And.intro (And.intro (And.intro @Pu.qj8 (And.intro @Pu.qaI @Pu.qfP)) (And.intro @Pu.qfu (And.intro @Pu.qbz @Pu.qeX))) (And.intro (And.intro @Pu.qfv (And.intro @Pu.qkJ @Pu.qd0)) (And.intro @Pu.qdR (And.intro @Pu.qbI @Pu.qe2))))) (And.intro (And.intro (And.intro (And.intro @Pu.qaT (And.intro @Pu.qa1 @Pu.M2)) (And.intro @Pu.MX (And.intro @Pu.M8 @Pu.qk6))) (And.intro (And.intro @Pu.qey (And.intro @Pu.qbm @Pu.qd6)) (And.intro @Pu.qdH (And.intro @Pu.qfz @Pu.qeP)))) (And.intro (And.intro (And.intro @Pu.qms (And.intro @Pu.qoT @Pu.qdU)) (And.intro @Pu.qkU (And.intro @Pu.qfi @Pu.qe4))) (And.intro (And.intro @Pu.qpj (And.intro @Pu.qex @Pu.qa3)) (And.intro @Pu.qeU (And.intro @Pu.qes @Pu.qbV)))))) (And.intro (And.intro (And.intro (And.intro (And.intro @Pu.qlt (And.intro @Pu.qeu @Pu.qeQ)) (And.intro @Pu.qjj (And.intro @Pu.qbj @Pu.qbX))) (And.intro (And.intro @Pu.qin (And.intro @Pu.qdW @Pu.qlP)) (And.intro @Pu.qee (And.intro @Pu.qih @Pu.qj7)))) (And.intro (And.intro (And.intro @Pu.qh8 (And.intro @Pu.qbB @Pu.qbp)) (And.intro @Pu.qfK (And.intro @Pu.qlb @Pu.qfE))) (And.intro (And.intro @Pu.qfT (And.intro @Pu.qed @Pu.qfc)) (And.intro @Pu.qfb (And.intro @Pu.qat @Pu.qba))))) (And.intro (And.intro (And.intro (And.intro @Pu.qbP (And.intro @Pu.ql8 @Pu.qkz)) (And.intro @Pu.qif (And.intro @Pu.qdO @Pu.qbc))) (And.intro (And.intro @Pu.qd4 (And.intro @Pu.qer @Pu.qcb)) (And.intro @Pu.qeL (And.intro @Pu.qeq @Pu.qfS)))) (And.intro (And.intro (And.intro @Pu.qbE (And.intro @Pu.qbO @Pu.MJ)) (And.intro @Pu.qb1 (And.intro @Pu.qpg @Pu.qeZ))) (And.intro (And.intro @Pu.qar (And.intro @Pu.qfq @Pu.qbD)) (And.intro @Pu.qfO (And.intro @Pu.qlH @Pu.qdV))))))) (And.intro (And.intro (And.intro (And.intro (And.intro (And.intro @Pu.qb7 (And.intro @Pu.qeT @Pu.qb3)) (And.intro @Pu.qfh (And.intro @Pu.qeI @Pu.qeh))) (And.intro (And.intro @Pu.qfy (And.intro @Pu.qaL @Pu.qll)) (And.intro @Pu.qbe (And.intro @Pu.qaO @Pu.M5)))) (And.intro (And.intro (And.intro @Pu.MP (And.intro @Pu.MO @Pu.qfM)) (And.intro @Pu.qfA (And.intro @Pu.qbL @Pu.qa0))) (And.intro (And.intro @Pu.qao (And.intro @Pu.qaw @Pu.qaX)) (And.intro @Pu.M4 (And.intro @Pu.qeJ @Pu.qo8))))) (And.intro (And.intro (And.intro (And.intro @Pu.qps (And.intro @Pu.qjA @Pu.qmv)) (And.intro @Pu.qaA (And.intro @Pu.qfn @Pu.qi5))) (And.intro (And.intro @Pu.qmr (And.intro @Pu.at0 @Pu.at1)) (And.intro @Pu.at2 (And.intro @Pu.at3 @Pu.at4)))) (And.intro (And.intro (And.intro @Pu.at5 (And.intro @Pu.eqS @Pu.eqI)) (And.intro @Pu.qig (And.intro @Pu.qlr @Pu.qo9))) (And.intro (And.intro @Pu.qdP (And.intro @Pu.qdZ @Pu.qeO)) (And.intro @Pu.qbR (And.intro @Pu.qfs @Pu.qmD)))))) (And.intro (And.intro (And.intro (And.intro (And.intro @Pu.qlx (And.intro @Pu.ql2 @Pu.qfL)) (And.intro @Pu.qe1 (And.intro @Pu.qel @Pu.MZ))) (And.intro (And.intro @Pu.qfm (And.intro @Pu.qiz @Pu.qjw)) (And.intro @Pu.qjS (And.intro @Pu.qiK @Pu.qhZ)))) (And.intro (And.intro (And.intro @Pu.qiP (And.intro @Pu.qdk @Pu.qfe)) (And.intro @Pu.qjo (And.intro @Pu.qpa @Pu.qoW))) (And.intro (And.intro @Pu.qoX (And.intro @Pu.qjr @Pu.qlG)) (And.intro @Pu.qjM (And.intro @Pu.qi6 @Pu.qjT))))) (And.intro (And.intro (And.intro (And.intro @Pu.qo2 (And.intro @Pu.qfd @Pu.qe5)) (And.intro @Pu.qfR (And.intro @Pu.qdX @Pu.qmq))) (And.intro (And.intro @Pu.qa9 (And.intro @Pu.qeR @Pu.qh5)) (And.intro @Pu.qkS (And.intro @Pu.qkb @Pu.qjG)))) (And.intro (And.intro (And.intro @Pu.qkW (And.intro @Pu.qmg @Pu.qjW)) (And.intro @Pu.qiE (And.intro @Pu.qiF @Pu.qly))) (And.intro (And.intro @Pu.qlu (And.intro @Pu.qiY @Pu.qlQ)) (And.intro @Pu.qkk (And.intro @Pu.qj3 @Pu.qjO))))))))
end Pu
namespace Pu
open PySem L2 L3
open Bk (Lf Ext Dl Wk Dr)
end Pu
namespace Pu
open PySem L2 L3
open Bk (Lf Ext Dl Wk Dr)
def the (S : PyData → Prop) : Option PyData := @dite _ (∃ v,S v) (Classical.propDecidable _) (fun h => some (Classical.choose h)) fun _ => none
end Pu
namespace Pu
open PySem L2 L3
open Bk (Lf Ext Dl Wk Dr)
end Pu
namespace Pu
open PySem L2 L3
theorem log2_lt {n k : Nat} (h : n < 2 ^ k) (hk : 0 < k) : n.log2 < k := by
 rcases Nat.eq_zero_or_pos n with z | z
 ·subst z;simpa using hk
 ·exact (Nat.log2_lt (by omega)).mpr h
end Pu
namespace Pu
open PySem L2 L3
theorem qbN {α : Type} (g : α → PyData) (xs : List α) : ∀ k,enD k (xs.map g) = (xs.zipIdx k).map fun p => PyData.tuple [.int (p.2 : Int),g p.1] := by
 induction xs with
 | nil => intro k;rfl
 | cons x xs ih => intro k;simp only [List.map_cons,enD,List.zipIdx_cons,ih (k + 1)]
theorem ME {a m : Int} {n : Nat} (h : m ∈ QR a n) : a ≤ m∧m < a + n := by
 unfold QR at h
 obtain ⟨i,hi,rfl⟩ := List.mem_map.mp h
 have := List.mem_range.mp hi
 omega
theorem X3 {α : Type} {xs : List α} {i n : Nat} {x : α} (h : (xs.zipIdx 0)[i]? = some (x,n)) : xs[i]? = some x∧n = i∧i < xs.length := by
 rw [List.getElem?_zipIdx] at h
 obtain ⟨c,hc,e⟩ := Option.map_eq_some_iff.mp h
 simp only [Nat.zero_add,Prod.mk.injEq] at e
 obtain ⟨rfl,rfl⟩ := e
 exact ⟨hc,rfl,(List.getElem?_eq_some_iff.mp hc).1⟩
end Pu
namespace Pu
open PySem L2 L3
end Pu
namespace Pu
open PySem L2 L3
end Pu
namespace Pv
open PySem L2 L3 Pu
open Bk (Wk ji zS YL lnD lnA Un2 Fst faO zU jB E7)
theorem VB {lo : Int} {n i : Nat} {x : Int} (h : (QR lo n)[i]? = some x) : i < n∧x = lo + i := by
 unfold QR at h
 rw [List.getElem?_map] at h
 obtain ⟨k,e1,e2⟩ := Option.map_eq_some_iff.mp h
 obtain ⟨hl,hk⟩ := List.getElem?_eq_some_iff.mp e1
 simp at hl hk
 subst hk
 exact ⟨hl,e2.symm⟩
theorem ZY (lo : Int) (n : Nat) : (QR lo n).length = n := by simp [QR]
theorem qap {lo : Int} {n i : Nat} (h : i < n) : (QR lo n)[i]? = some (lo + i) := by simp [QR,h]
theorem W2 {d a : Int} {m : Nat} (hd : -1000 ≤ d∧d ≤ 1000) (ha : -1000 ≤ a∧a ≤ 1000) (hm : m ≤ 10000) : zw [.int d,.int a,.int m] = some (.list ((ji d a m).map pD)) := by
 rw [qcg]
 try simp only [Pu.pwA,DE]
 rw [QJ (ds := (QR 0 m).map PyData.int) (fs := (ji d a m).map pD)]
 ·try simp only [Pu.pwA]
 ·try simp (disch := omega) only [Pu.pwA,qcr,Int.toNat_natCast]
 ·have : ji d a m = (QR 0 m).map fun i => (i * d,i * a) := by simp [ji,QR,List.map_map,Function.comp_def]
  rw [this,List.map_map]
  refine zN fun i hi => ?_
  try simp (disch := omega) only [Pu.pwA,JT,qjf,Function.comp_def,pD]
 ·simp [ji];omega
def Big : Wk → Prop
 | .line k m => k < 4∧m ≤ 1000
 | .block h w => h ≤ 1000∧w ≤ 1000
 | .step d a m => (-1000 ≤ d∧d ≤ 1000)∧(-1000 ≤ a∧a ≤ 1000)∧m ≤ 1000
 | .cells ps => ps.length ≤ 1000
theorem Y8 {w : Wk} (ok : Big w) : qq [Wk.d w] = some (.list (w.pc.map pD)) := by
 cases w with
 | cells ps =>
  rw [JE]
  try simp only [Pu.pwA,jx,Wk.d,eq_self,Wk.pc]
 | block h v =>
  obtain ⟨h1,h2⟩ := ok
  rw [JE]
  try simp only [Pu.pwA,jx,Wk.d,eq_self,L3.VI,Wk.pc]
  rw [qbf (ds := (QR 0 h).map PyData.int) (fs := (zS h v).map pD)]
  ·try simp only [Pu.pwA]
  ·try simp (disch := omega) only [Pu.pwA,qcr,Int.toNat_natCast]
  ·have : (zS h v).map pD = (QR 0 h).flatMap fun p => (QR 0 v).map fun q => pD (p,q) := by
    simp only [zS,QR,List.map_flatMap,List.map_map,List.flatMap_map,Function.comp_def,Int.zero_add]
   rw [this]
   refine L9 fun p hp => ?_
   try simp (disch := omega) only [Pu.pwA,qet,qcr,Int.toNat_natCast]
   rw [zN (k := fun q => pD (p,q)) fun q hq => ?_]
   ·try simp only [Pu.pwA]
   ·try simp only [Pu.pwA,JT,pD]
  ·have := Nat.mul_le_mul h1 h2
   rw [List.length_map,Bk.V9];omega
 | step d a m =>
  obtain ⟨h1,h2,h3⟩ := ok
  rw [JE]
  try simp only [Pu.pwA,jx,Wk.d,eq_self,L3.V6,L3.UE,Wk.pc,W2 h1 h2 (show m ≤ 10000 by omega)]
 | line k m =>
  obtain ⟨h1,h2⟩ := ok
  have key : ∀ (s : Str) (d a : Int),¬ s = Str.ofString "cells" → ¬ s = Str.ofString "block" → ¬ s = Str.ofString "step" → (-1000 ≤ d∧d ≤ 1000) → (-1000 ≤ a∧a ≤ 1000) → (jt UH s).bind tD = some (.tuple [.int d,.int a]) → qq [.tuple [.str s,.int (m : Int)]] = some (.list ((ji d a m).map pD)) := by
   intro s d a n1 n2 n3 hd ha e
   rw [JE]
   try simp only [Pu.pwA,jx,n1,n2,n3,e,W2 (d := d) (a := a) (m := m) hd ha (by omega)]
  have : (k = 0 ∨ k = 1 ∨ k = 2 ∨ k = 3) := by omega
  rcases this with rfl | rfl | rfl | rfl
  ·exact key "row" 0 1 L3.S6 L3.TN L3.L6 (by decide) (by decide) rfl
  ·exact key "column" 1 0 L3.DT L3.WI L3.XG (by decide) (by decide) rfl
  ·exact key "slant" 1 1 L3.XQ L3.XE L3.RM (by decide) (by decide) rfl
  ·exact key "back" 1 (-1) L3.CU L3.SA L3.SQ (by decide) (by decide) rfl
def faD (ns : List Int) : PyData := match faO ns with | some (i,j) => .tuple [.int i,.int j] | none => .none
theorem qp8 {ns : List Int} {x : PyData} (hl : ns.length ≤ 1000000) (h1 : qhQ [x] = some (.int ns.length)) (h2 : ∀ i,ixD x (.int i) = L2.atI (ns.map PyData.int) i) : qt [x] = some (faD ns) := by
 rw [XO]
 have at' : ∀ i : Nat,i < ns.length → ixD x (.int (0 + (i : Int))) = some (.int ((ns[i]?).getD 0)) := fun i hi => by
  rw [h2,Int.zero_add,atN (by simpa using hi),List.getElem?_map,List.getElem?_eq_getElem hi];rfl
 have at2 : ∀ i j : Nat,i + 1 + j < ns.length → ixD x (.int (0 + (i : Int) + 1 + (j : Int))) = some (.int ((ns[i + 1 + j]?).getD 0)) := fun i j hi => by
  rw [h2,show (0 + (i : Int) + 1 + (j : Int)) = ((i + 1 + j : Nat) : Int) by omega,atN (by simpa using hi),List.getElem?_map,List.getElem?_eq_getElem hi];rfl
 have ne' : ∀ {a b : Nat},a < ns.length → b < ns.length → ns[a]? ≠ ns[b]? → (ns[a]?).getD 0 ≠ (ns[b]?).getD 0 := fun {a b} ha hb hn e => by
  rw [List.getElem?_eq_getElem ha,List.getElem?_eq_getElem hb] at hn e
  exact hn (congrArg some e)
 try simp (disch := omega) only [Pu.pwA,jV,h1,qcr,Int.toNat_natCast]
 have tn : ∀ i : Nat,((ns.length : Int) - (0 + (i : Int) + 1)).toNat = ns.length - (i + 1) := fun i => by omega
 by_cases hu : Un2 ns ns.length
 ·refine CO (Q := fun o => JU false o = _) (QR 0 ns.length) (fun _ ρ => ∃ s1 s2,ρ = [.sh x,s1,s2]) ⟨_,_,rfl⟩ ?_ ?_
  ·rintro i z ρ hz ⟨s1,s2,rfl⟩
   obtain ⟨hi,rfl⟩ := VB hz
   try simp (disch := omega) only [Pu.pwA,h1,qhp,tn]
   refine C5 (Q := fun o => Nx o _) _ (fun _ ρ => ∃ s3,ρ = [.sh x,.sh (.int (0 + (i : Int))),s3]) ⟨_,rfl⟩ ?_ ?_
   ·rintro j z ρ hz ⟨s3,rfl⟩
    obtain ⟨hj,rfl⟩ := VB hz
    have hj2 : i + 1 + j < ns.length := by omega
    have := ne' hi hj2 (hu i _ hi (by omega) hj2)
    try simp only [Pu.pwA,at' i hi,at2 i j hj2,this]
    exact ⟨_,rfl⟩
   ·rintro ρ ⟨s3,rfl⟩
    try simp only [Pu.pwA]
    exact ⟨_,_,rfl⟩
  ·rintro ρ ⟨s1,s2,rfl⟩
   try simp only [Pu.pwA,faD,jB hu]
 ·obtain ⟨i,j,F⟩ := E7 hu
  have hi : i < ns.length := Nat.lt_trans F.ij F.jl
  have jl := F.jl
  have ij := F.ij
  refine qb6 (Q := fun o => JU false o = _) (QR 0 ns.length) i (0 + (i : Int)) (.tuple [.int i,.int j]) false (qap hi) (fun _ ρ => ∃ s1 s2,ρ = [.sh x,s1,s2]) ⟨_,_,rfl⟩ ?_ ?_ ?_
  ·rintro k z ρ hk hz ⟨s1,s2,rfl⟩
   obtain ⟨hk2,rfl⟩ := VB hz
   try simp (disch := omega) only [Pu.pwA,h1,qhp,tn]
   refine C5 (Q := fun o => Nx o _) _ (fun _ ρ => ∃ s3,ρ = [.sh x,.sh (.int (0 + (k : Int))),s3]) ⟨_,rfl⟩ ?_ ?_
   ·rintro l z ρ hz ⟨s3,rfl⟩
    obtain ⟨hj,rfl⟩ := VB hz
    have hj2 : k + 1 + l < ns.length := by omega
    have := ne' hk2 hj2 (F.un k _ hk (by omega) hj2)
    try simp only [Pu.pwA,at' k hk2,at2 k l hj2,this]
    exact ⟨_,rfl⟩
   ·rintro ρ ⟨s3,rfl⟩
    try simp only [Pu.pwA]
    exact ⟨_,_,rfl⟩
  ·rintro ρ ⟨s1,s2,rfl⟩
   try simp (disch := omega) only [Pu.pwA,h1,qhp,tn]
   refine EX (Q := fun o => o = _) _ (j - (i + 1)) (0 + (i : Int) + 1 + ((j - (i + 1) : Nat) : Int)) (.tuple [.int i,.int j]) false (qap (by omega)) (fun _ ρ => ∃ s3,ρ = [.sh x,.sh (.int (0 + (i : Int))),s3]) ⟨_,rfl⟩ ?_ ?_ rfl
   ·rintro l z ρ hl hz ⟨s3,rfl⟩
    obtain ⟨hj,rfl⟩ := VB hz
    have hj2 : i + 1 + l < ns.length := by omega
    have := ne' hi hj2 (F.nb _ (by omega) (by omega))
    try simp only [Pu.pwA,at' i hi,at2 i l hj2,this]
    exact ⟨_,rfl⟩
   ·rintro ρ ⟨s3,rfl⟩
    have hj2 : i + 1 + (j - (i + 1)) < ns.length := by omega
    have ej : i + 1 + (j - (i + 1)) = j := by omega
    have e2 : (ns[i]?).getD 0 = (ns[i + 1 + (j - (i + 1))]?).getD 0 := by rw [ej,F.eq]
    try simp only [Pu.pwA,at' i hi,at2 i _ hj2,e2]
    rw [show (0 + (i : Int)) = i by omega,show ((i : Int) + 1 + ((j - (i + 1) : Nat) : Int)) = j by omega]
  ·try simp only [Pu.pwA,faD,zU F]
theorem qjJ {ns : List Int} (hl : ns.length ≤ 1000000) : qt [.list (ns.map PyData.int)] = some (faD ns) := qp8 hl (by simp [qhQ]) fun _ => rfl
end Pv
namespace Pv
open PySem L2 L3 Pu
open Bk (Wk Dl ji zS YL lnD lnA Un2 Fst faO zU jB E7)
theorem qkZ {w : Wk} (ok : w.Ok) : Big w := by
 cases w with
 | line k m => obtain ⟨h1,h2,h3⟩ := ok;exact ⟨h1,by omega⟩
 | block h v => obtain ⟨h1,h2,h3,h4,h5⟩ := ok;exact ⟨by omega,by omega⟩
 | step d a m => obtain ⟨h1,h2,h3,h4⟩ := ok;exact ⟨by omega,by omega,by omega⟩
 | cells ps => have h := ok.2.1;show ps.length ≤ 1000;omega
def Pl : Dl → Prop
 | .skew .. => True
 | .rests .. => True
 | _ => False
def fA : Dl → Int
 | .skew _ _ _ x _ => x
 | .rests _ c _ _ => c
 | _ => 0
def fB : Dl → Int
 | .skew _ _ _ _ y => y
 | .rests .. => 1
 | _ => 0
theorem qgx {d : Dl} (hp : Pl d) (ok : d.Ok) : (0 ≤ fA d∧fA d ≤ 1000)∧(0 ≤ fB d∧fB d ≤ 1000)∧1 ≤ d.B∧d.B ≤ 1000 := by
 cases d <;> simp [Pl] at hp <;> simp [Dl.Ok] at ok <;> simp [fA,fB,Dl.B] <;> omega
theorem qny {d : Dl} (hp : Pl d) : qK [dlD d] = some (.tuple [.int (fA d),.int (fB d)]) := by
 rw [RC]
 cases d <;> simp [Pl] at hp
 ·try simp only [Pu.pwA,jG,dlD,fA,fB,L3.CV]
 ·try simp only [Pu.pwA,jG,dlD,fA,fB,eq_self]
def rst (B a b : Int) (cs : List (Int × Int)) : List Int := cs.map fun p => (a * p.1 + b * p.2) % B
theorem qhi (B a b : Int) (cs : List (Int × Int)) : (rst B a b cs).length = cs.length := by simp [rst]
theorem WS {w : Wk} (ok : Big w) : w.pc.length ≤ 1000000 := by
 cases w with
 | line k m => simp only [Wk.pc,ji,List.length_map,List.length_range];have := ok.2;omega
 | block h v => simp only [Wk.pc,Bk.V9];exact Nat.mul_le_mul ok.1 ok.2
 | step d a m => simp only [Wk.pc,ji,List.length_map,List.length_range];have := ok.2.2;omega
 | cells ps => have : ps.length ≤ 1000 := ok;simp only [Wk.pc];omega
theorem qpz {B a b : Int} {w : Wk} (hB : 1 ≤ B) (ha : 0 ≤ a∧a ≤ 1000) (hb : 0 ≤ b∧b ≤ 1000) (ok : Big w) : qY [.int B,.tuple [.int a,.int b],Wk.d w] = some (.tuple ((rst B a b w.pc).map PyData.int)) := by
 rw [LS]
 have hl := WS ok
 try simp only [Pu.pwA,YQ]
 rw [QJ (ds := w.pc.map pD) (fs := (rst B a b w.pc).map PyData.int)]
 ·try simp only [Pu.pwA]
 ·try simp only [Pu.pwA,Y8 ok]
 ·rw [rst,List.map_map]
  refine zN fun p hp => ?_
  try simp (disch := omega) only [Pu.pwA,JT,pD,U7,qch,Function.comp_def]
 ·simp [rst];omega
theorem qpV {d : Dl} {w : Wk} (hp : Pl d) (okd : d.Ok) (ok : Big w) : zV [dlD d,Wk.d w] = some (.tuple ((rst d.B (fA d) (fB d) w.pc).map PyData.int)) := by
 obtain ⟨h1,h2,h3,_⟩ := qgx hp okd
 rw [L0]
 have e : ∀ n : Nat,∃ xs,dlD d = .tuple xs∧L2.atI xs 3 = some (.int d.B) := fun _ => by
  cases d <;> simp [Pl] at hp
  ·exact ⟨_,rfl,at3⟩
  ·exact ⟨_,rfl,at3⟩
 obtain ⟨xs,e1,e2⟩ := e 0
 have e3 := qny hp
 rw [e1] at e3 ⊢
 try simp only [Pu.pwA,Y0,e2,e3,qpz h3 h1 h2 ok]
def unB (ns : List Int) : Bool := (faO ns).isNone
end Pv
namespace Pv
open PySem L2 L3 Pu
open Bk (Wk Dl ji zS YL lnD lnA Un2 Fst faO zU jB E7)
theorem qgi {ns : List Int} : unB ns = true ↔ Un2 ns ns.length := by
 constructor
 ·intro h
  apply Classical.byContradiction
  intro hn
  obtain ⟨i,j,F⟩ := E7 hn
  unfold unB at h
  rw [zU F] at h
  cases h
 ·intro h
  unfold unB
  rw [jB h]
  rfl
end Pv
namespace Pv
open PySem L2 L3 Pu
open Bk (Wk Dl ji zS YL lnD lnA Un2 Fst faO zU jB E7)
def szD (d : Dl) : PyData := .tuple [.int d.R,.int d.C,.int d.B]
theorem sh1 {n : Nat} (h : n ≤ 1000) : cI KF (fun i j => i * 2 ^ j.toNat) (.int 1) (.int (n : Int)) = some (.int (2 ^ n)) := by
 rw [qlM ⟨by omega,by omega,by decide⟩,Int.one_mul,Int.toNat_natCast]
theorem qiZ : ∀ (d : Dl) (j : Nat),d.dep < j → d.Ok → qm j [dlD d] = some (szD d)
 | .skew r c b x y,j + 1,_,_ => by
  rw [ZL]
  try simp only [Pu.pwA,jF,dlD,szD,Dl.R,Dl.C,Dl.B,L3.T2,L3.RY,L3.XD]
 | .rests r c b x,j + 1,_,_ => by
  rw [ZL]
  try simp only [Pu.pwA,jF,dlD,szD,Dl.R,Dl.C,Dl.B,L3.RQ,L3.XM,L3.WC]
 | .bits h l ms,j + 1,_,ok => by
  obtain ⟨h1,h2,h3,_⟩ := ok
  rw [ZL]
  try simp only [Pu.pwA,jF,dlD,szD,Dl.R,Dl.C,Dl.B,eq_self,List.length_map,sh1 (n := h) (by omega),sh1 (n := l) (by omega),sh1 (n := ms.length) (by omega)]
 | .table b cells,j + 1,_,ok => by
  obtain ⟨h1,h2,h3,h4,c,h5,h6,h7⟩ := ok
  have e0 : cells[0]? = some cells[0] := List.getElem?_eq_getElem (by omega)
  have e1 : L2.atI (cells.map qhW) 0 = some (qhW cells[0]) := by
   have := atN (xs := cells.map qhW) (k := 0) (by simp;omega)
   rw [List.getElem?_map,e0] at this
   exact this
  rw [ZL]
  try simp only [Pu.pwA,jF,dlD,szD,Dl.R,Dl.C,Dl.B,eq_self,L3.RT,List.length_map,e1,qhW,e0,Option.getD_some]
 | .joined d e,j + 1,hd,ok => by
  have hh : max d.dep e.dep + 1 < j + 1 := hd
  have r1 := qiZ d j (by omega) ok.1
  have r2 := qiZ e j (by omega) ok.2.1
  have l1 := Dl.lims ok.1
  have l2 := Dl.lims ok.2.1
  have a1 := l1.r1;have a2 := l1.r2;have a3 := l1.c1;have a4 := l1.c2;have a5 := l1.b1;have a6 := l1.b2
  rw [ZL]
  try simp (disch := omega) only [Pu.pwA,jF,dlD,szD,Dl.R,Dl.C,Dl.B,eq_self,L3.XF,L3.WR,r1,r2,U7]
def dn (cs : List (Int × Int)) : List Int := cs.map fun p => p.1
def al (cs : List (Int × Int)) : List Int := cs.map fun p => p.2
def stI (R C : Int) (cs : List (Int × Int)) : List (Int × Int) := (QR (-(mn (dn cs))) (R - mx (dn cs) - -(mn (dn cs))).toNat).flatMap fun i => (QR (-(mn (al cs))) (C - mx (al cs) - -(mn (al cs))).toNat).map fun j => (i,j)
theorem R4 {α β : Type} (xs : List α) (ys : List β) {γ : Type} (f : α → β → γ) : (xs.flatMap fun a => ys.map fun b => f a b).length = xs.length * ys.length := by
 induction xs with
 | nil => simp
 | cons a r ih => simp only [List.flatMap_cons,List.length_append,List.length_map,ih,List.length_cons,Nat.succ_mul];omega
structure Cb (cs : List (Int × Int)) : Prop where
 ne : cs ≠ []
 b : ∀ p ∈ cs,(-1000000 ≤ p.1∧p.1 ≤ 1000000)∧(-1000000 ≤ p.2∧p.2 ≤ 1000000)
theorem Cb.lim {cs : List (Int × Int)} (h : Cb cs) : (-1000000 ≤ mn (dn cs)∧mn (dn cs) ≤ mx (dn cs)∧mx (dn cs) ≤ 1000000)∧(-1000000 ≤ mn (al cs)∧mn (al cs) ≤ mx (al cs)∧mx (al cs) ≤ 1000000) := by
 have n1 : dn cs ≠ [] := by simp [dn,h.ne]
 have n2 : al cs ≠ [] := by simp [al,h.ne]
 have m1 := MN n1;have m2 := MS n1;have m3 := MN n2;have m4 := MS n2
 have l1 := N7 m2;have l2 := N7 m4
 have b1 : ∀ x ∈ dn cs,-1000000 ≤ x∧x ≤ 1000000 := fun x hx => by
  obtain ⟨p,hp,rfl⟩ := List.mem_map.mp hx
  exact (h.b p hp).1
 have b2 : ∀ x ∈ al cs,-1000000 ≤ x∧x ≤ 1000000 := fun x hx => by
  obtain ⟨p,hp,rfl⟩ := List.mem_map.mp hx
  exact (h.b p hp).2
 have := b1 _ m1;have := b1 _ m2;have := b2 _ m3;have := b2 _ m4
 omega
theorem qbo {R C : Int} {cs : List (Int × Int)} (h : Cb cs) (hR : R ≤ 4096) (hC : C ≤ 4096) : (stI R C cs).length ≤ 16777216 := by
 obtain ⟨⟨h1,h2,h3⟩,⟨h4,h5,h6⟩⟩ := h.lim
 unfold stI
 rw [R4,ZY,ZY]
 have a : (R - mx (dn cs) - -(mn (dn cs))).toNat ≤ 4096 := by omega
 have b : (C - mx (al cs) - -(mn (al cs))).toNat ≤ 4096 := by omega
 exact Nat.le_trans (Nat.mul_le_mul a b) (by decide)
theorem qpn {d : Dl} {w : Wk} {j : Nat} (hd : d.dep < j) (okd : d.Ok) (ok : Big w) (hc : Cb w.pc) : zJ j [dlD d,Wk.d w] = some (.list ((stI d.R d.C w.pc).map pD)) := by
 have hl := WS ok
 have l := Dl.lims okd
 have := l.r1;have := l.r2;have := l.c1;have := l.c2
 obtain ⟨⟨h1,h2,h3⟩,⟨h4,h5,h6⟩⟩ := hc.lim
 rw [qb9]
 try simp only [Pu.pwA,DL,qiZ d j hd okd,szD,Y8 ok]
 rw [QJ (ds := w.pc.map pD) (fs := (dn w.pc).map PyData.int) rfl (by
  rw [dn,List.map_map]
  refine zN fun p hp => ?_
  try simp only [Pu.pwA,JT,pD,Function.comp_def]) (by simp [dn];omega)]
 try simp only [Pu.pwA]
 rw [QJ (ds := w.pc.map pD) (fs := (al w.pc).map PyData.int) rfl (by
  rw [al,List.map_map]
  refine zN fun p hp => ?_
  try simp only [Pu.pwA,JT,pD,Function.comp_def]) (by simp [al];omega)]
 try simp only [Pu.pwA]
 have n1 : dn w.pc ≠ [] := by simp [dn,hc.ne]
 have n2 : al w.pc ≠ [] := by simp [al,hc.ne]
 rw [qbf (ds := (QR (-(mn (dn w.pc))) (d.R - mx (dn w.pc) - -(mn (dn w.pc))).toNat).map PyData.int) (fs := (stI d.R d.C w.pc).map pD)]
 ·try simp only [Pu.pwA]
 ·try simp (disch := omega) only [Pu.pwA,qdq n1,qdh n1,qhp]
 ·have : (stI d.R d.C w.pc).map pD = (QR (-(mn (dn w.pc))) (d.R - mx (dn w.pc) - -(mn (dn w.pc))).toNat).flatMap fun i => (QR (-(mn (al w.pc))) (d.C - mx (al w.pc) - -(mn (al w.pc))).toNat).map fun j => pD (i,j) := by
   simp only [stI,List.map_flatMap,List.map_map,Function.comp_def]
  rw [this]
  refine L9 fun i hi => ?_
  try simp (disch := omega) only [Pu.pwA,qet,qdq n2,qdh n2,qhp]
  rw [zN (k := fun q => pD (i,q)) fun q hq => ?_]
  ·try simp only [Pu.pwA]
  ·try simp only [Pu.pwA,JT,pD]
 ·rw [List.length_map];exact qbo hc l.r2 l.c2
end Pv
namespace Pv
open PySem L2 L3 Pu
end Pv
namespace Pv
open PySem L2 L3 Pu
open Bk (Dl)
end Pv
namespace Pv
open PySem L2 L3 Pu
open Bk (Dl)
end Pv
namespace Pv
open PySem L2 L3 Pu
open Bk (Dl)
end Pv
namespace Hd
open PySem L2 L3 PySem.W
def oF (x : Str) (st : Stmt) (pm cd : Value) : Obj := ⟨.type "function",none,.func (PySem.W.fnOf x x (JA st) (jj st) (qi st) .none .none .none pm none cd .none),#[]⟩
def oG (x : Str) (st : Stmt) : Obj := ⟨.none,none,.func { name := x,qualname := x,params := JA st,body := .stmts (jj st),scope := qi st,globals := 0,closure := [],defaults := .none,kwdefaults := .none },#[]⟩
def oC (vs : List Value) : Obj := ⟨.type "code",none,.fields vs.toArray,#[]⟩
def oT (vs : List Value) : Obj := ⟨.type "tuple",none,.seq vs.toArray 0,#[]⟩
def eD (P : Params) : Value × Value → DictEntry
 | (.str x t,v) => ⟨PyData.keyHash P x,.str x t,v⟩
 | (u,v) => ⟨0,u,v⟩
def oD (P : Params) (n : Nat) (es : List (Value × Value)) : Obj := ⟨.type "dict",none,.dict (es.map (eD P)).toArray n,#[]⟩
def oK (x : Str) (t l n m : Nat) (a b : Addr) (u v z : Value) (e y q : Nat) : Obj := oC [.str x t,.str x (t + 1),.str "/claim/cut.py" (t + 2),.int l 0,.int n 0,.int 0 0,.int 0 0,.int 3 0,.ref a,.bool true,.int m 0,.ref b,u,v,z,.ref e,.int y 0,.int l 0,.str "/claim/cut.py" q]
def nmV : List Str → Nat → List Value
 | [],_ => []
 | x :: r,t => .str x t :: nmV r (t + 1)
def oN (xs : List Str) (t : Nat) : Obj := oT (nmV xs t)
abbrev nd (o : Obj) (l r : PySem.W.BT) : PySem.W.BT := .node o l r
abbrev lf (o : Obj) : PySem.W.BT := .node o .nil .nil
theorem zn {K : PySem.W.Frag} (x : Str) (st : Stmt) (f : Addr) (pm cd : Value) (l : K.lookup f = some (oF x st pm cd)) (c : PySem.W.codeIn K cd x = true) (k : PySem.W.keepIn K (.ref f) = true) :
  Fun K x x st f (PySem.W.fnOf x x (JA st) (jj st) (qi st) .none .none .none pm none cd .none) := qjY l c k
theorem zj {K : PySem.W.Frag} {h : Heap} {mg : Str → Option Value} (X : K.In h) (G : h.Ns mainGlobals mg) (n : Str) (v : Value) (e : PySem.W.nsIn K mainGlobals n = some (some v)) : mg n = some v := PySem.W.mg_of X G e
theorem VQ {K : PySem.W.Frag} {h : Heap} {mg : Str → Option Value} (X : K.In h) (G : h.Ns mainGlobals mg) (n : Str) (e : PySem.W.nsIn K mainGlobals n = some none) : mg n = none := PySem.W.mg_none_of X G e
theorem head {l : OpenLaw} {q : Program} {loose : List Str} {K : Params → Frag} {as : List Addr} {d : DefRec} {N : Nat} {k : Nat} {x : Str} (ha : ∀ P,as = (K P).map (·.1))
  (ok : l.wellSaid = true)
  (left : LeftO l.prog q loose (fun s => xlAt q [] s && recOk [] s) (fun s => as.map s.heap.get?) (fun w => (K w.params).map fun p => some p.2) N)
  (hdef : defOf q l.name = some (d,[])) (hp : l.prog.theDef l.name = some (d.params,d.body,d.scope)) (hk : kwWritten? d.params.kwonlyargs d.params.kw_defaults = some [])
  (hwr : (!l.row.writes || l.row.records.isEmpty) = true) (ok2 : (chainsOk q && opensWell l.prog && (frees l.row.toRowW && l.row.within.isEmpty)) = true) (hb : l.prog.bare) (hw : l.row.toRowW.promised)
  (hn : l.most = some 63) (hdf : d.params.defaults = []) (hr : Room k callerA) (hK : ∀ w : World,EN (K w.params) = true)
  (F : ∀ (w : World) (mg : Str → Option Value) (fa : Addr) (h : Heap),(K w.params).In h → h.Ns mainGlobals mg → mg d.name = some (.ref fa) →
   ∃ fd : FuncData,(∀ (s : Shared) (u : Value),BindsTo s fd ⟨[u],[]⟩ [(x,u)])∧∀ base : Heap,(K w.params).In base → base.Ns mainGlobals mg → FnOk l.prog w (K w.params) mg base CX0 k fa fd [x] (lSp (K w.params) CJ)) : l.Holds := by
 refine holds_law ok fun said => ?_
 exact holds_open (q := q) (loose := loose) (Xt := fun s => xlAt q [] s && recOk [] s) (XP := XL q []) (Yf := Hook.obs (kHook K as ha)) (Ya := Hook.val (kHook K as ha)) (YP := Hook.says (kHook K as ha)) (N := N) left
  (Hook.of (kHook K as ha)) (Hook.keeps (kHook K as ha)) (fun s e => xl_of s (Bool.and_eq_true_iff.mp e).1) XL.keeps hdef hp hk (fun s e => recFacts_of (Bool.and_eq_true_iff.mp e).2) hwr said ok2 hb hw
  (L3.qn8 (l := l) (k := k) (x := x) hn hdf hr (fun w h Y => kIn_of Y) hK F)
end Hd
namespace K22
open PySem L2 L3 Bk
def top (i : Nat) : Stmt := PySem.Challenge.pw_bankwalk_k22_rests_tell_all.main.body.getD i (.Pass ⟨0,0,0,0⟩)
variable {P : Program} {w : World} {K : PySem.W.Frag} {mg : Str → Option Value} {base : Heap} {f : Addr} {fd : FuncData} {k : Nat} {sp : Sp3}
abbrev jC : Stmt := top 1
abbrev ZX : List Str := ["thing"]
abbrev V0 : List Str := ["thing"]
theorem TZ : FnScope ZX V0 (qi jC) := ⟨rfl,rfl,rfl,by decide +kernel,rfl,by decide +kernel,by decide +kernel⟩
theorem T9 (F : Fun K "is_number" "is_number" jC f fd) (bd : zb K fd V0 []) (hm : mg "is_number" = some (.ref f))  (m_isinstance : mg "isinstance" = none) (m_bool : mg "bool" = none) (m_int : mg "int" = none)
  (read : Rd sp 1 (Bk.JJ) ZX) : Fn3 P w K mg base (k + 1) "is_number" sp :=
 qy (t3 := (Bk.JJ)) F TZ bd hm (fun cdv A outer s H E hr => (ql (qo (ZN (J3 (qb 0) rfl m_isinstance rfl m_int PyProof.Rows.boot_int) (UZ (qeK (J3 (qb 0) rfl m_isinstance rfl m_bool PyProof.Rows.boot_bool))))))) read
abbrev ZI : Stmt := top 2
abbrev ZM : List Str := ["thing"]
abbrev WM : List Str := ["thing"]
theorem NL : FnScope ZM WM (qi ZI) := ⟨rfl,rfl,rfl,by decide +kernel,rfl,by decide +kernel,by decide +kernel⟩
theorem NI {S_is_number : Sp3} (F : Fun K "is_pair" "is_pair" ZI f fd) (bd : zb K fd WM []) (hm : mg "is_pair" = some (.ref f)) (ze : Fn3 P w K mg base k "is_number" S_is_number) (m_len : mg "len" = none) (m_isinstance : mg "isinstance" = none) (m_tuple : mg "tuple" = none)
  (read : Rd sp 1 (Bk.UA S_is_number) ZM) : Fn3 P w K mg base (k + 1) "is_pair" sp :=
 qy (t3 := (Bk.UA S_is_number)) F NL bd hm (fun cdv A outer s H E hr => (ql (qo (ZN (J3 (qb 0) rfl m_isinstance rfl m_tuple PyProof.Rows.boot_tuple) (ZN (Q0 (za hr.units) qH (qA zI ju rfl m_len PySem.boot_len (qa (qb 0) qd)) qe (qB _)) (ZN (qh ze hr rfl (qa (qr (qb 0) qe) qd)) (UZ (qh ze hr rfl (qa (qr (qb 0) qe) qd))))))))) read
abbrev zP : Stmt := top 3
abbrev ZZ : List Str := ["things","k","l"]
abbrev JL : List Str := ["things"]
theorem ZD : FnScope ZZ JL (qi zP) := ⟨rfl,rfl,rfl,by decide +kernel,rfl,by decide +kernel,by decide +kernel⟩
theorem XN (F : Fun K "first_alike" "first_alike" zP f fd) (bd : zb K fd JL []) (hm : mg "first_alike" = some (.ref f))  (m_len : mg "len" = none) (m_range : mg "range" = none)
  (read : Rd sp 1 (Bk.j0) ZZ) : Fn3 P w K mg base (k + 1) "first_alike" sp :=
 qy (t3 := (Bk.j0)) F ZD bd hm (fun cdv A outer s H E hr => (qg (VH PassesOwn.never rfl (zD rfl m_range (qa (qA zI ju rfl m_len PySem.boot_len (qa (qb 0) qd)) qd) (h1 := by intro _ _ _ h;simpa [qc,qj] using h)) (qv (i := 1) (ZD.nd)) (ql (VH PassesOwn.never rfl (YJ rfl m_range (qa (qG (qb 1) qe) (qa (qA zI ju rfl m_len PySem.boot_len (qa (qb 0) qd)) qd)) (h1 := by intro _ _ _ h;simpa [qc,qj] using h)) (qv (i := 2) (ZD.nd)) (ql (zM (qO (za hr.units) qH (qr (qb 0) (qb 1)) (qr (qb 0) (qb 2)) (qB _)) (ql (qo (qJ (qa (qb 1) (qa (qb 2) qd))))) qP))))) (ql (qo EU)))) read
abbrev ZS : Stmt := top 8
abbrev DN : List Str := ["dealing","kind","rows","columns","banks","other_rows","other_columns","other_banks"]
abbrev WL : List Str := ["dealing"]
theorem zW : FnScope DN WL (qi ZS) := ⟨rfl,rfl,rfl,by decide +kernel,rfl,by decide +kernel,by decide +kernel⟩
theorem NE {S_size_of : Sp3} (F : Fun K "size_of" "size_of" ZS f fd) (bd : zb K fd WL []) (hm : mg "size_of" = some (.ref f)) (qm : Fn3 P w K mg base k "size_of" S_size_of) (m_len : mg "len" = none)
  (read : Rd sp 1 (Bk.UD S_size_of) DN) : Fn3 P w K mg base (k + 1) "size_of" sp :=
 qy (t3 := (Bk.UD S_size_of)) F zW bd hm (fun cdv A outer s H E hr => (qg (qX 1 zW.nd (qr (qb 0) qe)) (qg (zM (qO (za hr.units) qH (qb 1) zg (qB _)) (ql (qo (qJ (qa (qay qe (qr (qb 0) qe)) (qa (qay qe (qr (qb 0) qe)) (qa (qay qe (qA zI ju rfl m_len PySem.boot_len (qa (qr (qb 0) qe) qd))) qd)))))) qP) (qg (zM (qO (za hr.units) qH (qb 1) zg (qB _)) (ql (qo (qJ (qa (qA zI ju rfl m_len PySem.boot_len (qa (qr (qb 0) qe) qd)) (qa (qA zI ju rfl m_len PySem.boot_len (qa (qr (qr (qb 0) qe) qe) qd)) (qa (qr (qb 0) qe) qd)))))) qP) (qg (zM (qO (za hr.units) qH (qb 1) zg (qB _)) (qg (ZE (qh qm hr rfl (qa (qr (qb 0) qe) qd)) (zR rfl (qp (qv (i := 2) (zW.nd)) (qp (qv (i := 3) (zW.nd)) (qp (qv (i := 4) (zW.nd)) zQ))))) (qg (ZE (qh qm hr rfl (qa (qr (qb 0) qe) qd)) (zR rfl (qp (qv (i := 5) (zW.nd)) (qp (qv (i := 6) (zW.nd)) (qp (qv (i := 7) (zW.nd)) zQ))))) (ql (qo (qJ (qa (zu (qb 2) (qb 5)) (qa (zu (qb 3) (qb 6)) (qa (zu (qb 4) (qb 7)) qd)))))))) qP) (ql (qo (qJ (qa (qr (qb 0) qe) (qa (qr (qb 0) qe) (qa (qr (qb 0) qe) qd))))))))))) read
abbrev jE : Stmt := top 9
abbrev QE : List Str := ["dealing","word","rows","columns","banks"]
abbrev VY : List Str := ["dealing","word"]
theorem Q2 : FnScope QE VY (qi jE) := ⟨rfl,rfl,rfl,by decide +kernel,rfl,by decide +kernel,by decide +kernel⟩
theorem TV {S_size_of : Sp3} (F : Fun K "number_of" "number_of" jE f fd) (bd : zb K fd VY []) (hm : mg "number_of" = some (.ref f)) (qm : Fn3 P w K mg base k "size_of" S_size_of) 
  (read : Rd sp 2 (Bk.JF S_size_of) QE) : Fn3 P w K mg base (k + 1) "number_of" sp :=
 qy (t3 := (Bk.JF S_size_of)) F Q2 bd hm (fun cdv A outer s H E hr => (qg (ZE (qh qm hr rfl (qa (qb 0) qd)) (zR rfl (qp (qv (i := 2) (Q2.nd)) (qp (qv (i := 3) (Q2.nd)) (qp (qv (i := 4) (Q2.nd)) zQ))))) (ql (qo (qG (zu (qr (qb 1) qe) (qb 3)) (qr (qb 1) qe)))))) read
abbrev ZK : Stmt := top 10
abbrev JX : List Str := ["dealing","thing","rows","columns","banks"]
abbrev D8 : List Str := ["dealing","thing"]
theorem Y7 : FnScope JX D8 (qi ZK) := ⟨rfl,rfl,rfl,by decide +kernel,rfl,by decide +kernel,by decide +kernel⟩
theorem N0 {S_is_pair : Sp3} {S_size_of : Sp3} (F : Fun K "is_word" "is_word" ZK f fd) (bd : zb K fd D8 []) (hm : mg "is_word" = some (.ref f)) (zk : Fn3 P w K mg base k "is_pair" S_is_pair) (qm : Fn3 P w K mg base k "size_of" S_size_of) 
  (read : Rd sp 2 (Bk.UQ S_is_pair S_size_of) JX) : Fn3 P w K mg base (k + 1) "is_word" sp :=
 qy (t3 := (Bk.UQ S_is_pair S_size_of)) F Y7 bd hm (fun cdv A outer s H E hr => (qg (zM (S0 (EV (qh zk hr rfl (qa (qb 1) qd)))) (ql (qo qaV)) qP) (qg (ZE (qh qm hr rfl (qa (qb 0) qd)) (zR rfl (qp (qv (i := 2) (Y7.nd)) (qp (qv (i := 3) (Y7.nd)) (qp (qv (i := 4) (Y7.nd)) zQ))))) (ql (qo (ZN (MU qkK JR qae JR qe (qr (qb 1) qe) (qb 2)) (UZ (MU qkK JR qae JR qe (qr (qb 1) qe) (qb 3))))))))) read
abbrev jS : Stmt := top 11
abbrev W0 : List Str := ["number","mask","common","many"]
abbrev DY : List Str := ["number","mask"]
abbrev YK : Stmt := top 12
abbrev LL : List Str := ["masks","number"]
abbrev WD : Stmt := top 13
abbrev qcY : List Str := ["word","rows","columns","i","j"]
abbrev qdm : List Str := ["word","rows","columns"]
abbrev ZB : Stmt := top 14
abbrev CK : List Str := ["one","other","word","rows","columns","banks","upper","lower"]
abbrev RN : List Str := ["one","other","word"]
abbrev ZF : Stmt := top 15
abbrev J1 : List Str := ["dealing","word","kind"]
abbrev WQ : List Str := ["dealing","word"]
theorem X9 : FnScope J1 WQ (qi ZF) := ⟨rfl,rfl,rfl,by decide +kernel,rfl,by decide +kernel,by decide +kernel⟩
theorem NV {S_number_of : Sp3} {S_bits_bank : Sp3} {S_joined_bank : Sp3} (F : Fun K "bank_in" "bank_in" ZF f fd) (bd : zb K fd WQ []) (hm : mg "bank_in" = some (.ref f)) (zf : Fn3 P w K mg base k "number_of" S_number_of) (F_bits_bank : Fn3 P w K mg base k "bits_bank" S_bits_bank) (F_joined_bank : Fn3 P w K mg base k "joined_bank" S_joined_bank) 
  (read : Rd sp 2 (Bk.UJ S_number_of S_bits_bank S_joined_bank) J1) : Fn3 P w K mg base (k + 1) "bank_in" sp :=
 qy (t3 := (Bk.UJ S_number_of S_bits_bank S_joined_bank)) F X9 bd hm (fun cdv A outer s H E hr => (qg (qX 2 X9.nd (qr (qb 0) qe)) (qg (zM (qO (za hr.units) qH (qb 2) zg (qB _)) (ql (qo (UK (qG (zu (qr (qb 0) qe) (qr (qb 1) qe)) (zu (qr (qb 0) qe) (qr (qb 1) qe))) (qr (qb 0) qe)))) qP) (qg (zM (qO (za hr.units) qH (qb 2) zg (qB _)) (ql (qo (UK (qh zf hr rfl (qa (qb 0) (qa (qb 1) qd))) (qr (qb 0) qe)))) qP) (qg (zM (qO (za hr.units) qH (qb 2) zg (qB _)) (ql (qo (qh F_bits_bank hr rfl (qa (qr (qb 0) qe) (qa (qh zf hr rfl (qa (qb 0) (qa (qb 1) qd))) qd))))) qP) (qg (zM (qO (za hr.units) qH (qb 2) zg (qB _)) (ql (qo (qr (qr (qr (qb 0) qe) (qr (qb 1) qe)) (qr (qb 1) qe)))) qP) (ql (qo (qh F_joined_bank hr rfl (qa (qr (qb 0) qe) (qa (qr (qb 0) qe) (qa (qb 1) qd)))))))))))) read
abbrev YD : Stmt := top 18
abbrev MH : List Str := ["down","along","many"]
abbrev CQ : List Str := ["down","along","many"]
theorem qan : FnScope MH CQ (qi YD) := ⟨rfl,rfl,rfl,by decide +kernel,rfl,by decide +kernel,by decide +kernel⟩
theorem qbq (F : Fun K "strung" "strung" YD f fd) (bd : zb K fd CQ []) (hm : mg "strung" = some (.ref f))  (m_range : mg "range" = none)
  (read : Rd sp 3 (Bk.DI) MH) : Fn3 P w K mg base (k + 1) "strung" sp :=
 qy (t3 := (Bk.DI)) F qan bd hm (fun cdv A outer s H E hr => (ql (qo (VP ["t","down","along"] [none,some 0,some 1] rfl (zD rfl m_range (qa (qb 2) qd) (h1 := by intro _ _ _ h;simpa [qc,qj] using h)) (fun _ _ _ => (jgn 0)) (fun _ _ _ => jk) (fun _ _ _ => (qJ (qa (zu (qb 0) (qb 1)) (qa (zu (qb 0) (qb 2)) qd)))) (by kernel_rfl) (by kernel_rfl))))) read
abbrev QM : Stmt := top 19
abbrev XT : List Str := ["walk","kind","down","along"]
abbrev EB : List Str := ["walk"]
theorem Z9 : FnScope XT EB (qi QM) := ⟨rfl,rfl,rfl,by decide +kernel,rfl,by decide +kernel,by decide +kernel⟩
theorem K0 {S_strung : Sp3} (F : Fun K "cells_of" "cells_of" QM f fd) (bd : zb K fd EB []) (hm : mg "cells_of" = some (.ref f)) (zw : Fn3 P w K mg base k "strung" S_strung) (m_list : mg "list" = none) (m_range : mg "range" = none) (m_STRIDES : Tb K mg w "STRIDES" UH)
  (read : Rd sp 1 (Bk.VE S_strung) XT) : Fn3 P w K mg base (k + 1) "cells_of" sp :=
 qy (t3 := (Bk.VE S_strung)) F Z9 bd hm (fun cdv A outer s H E hr => (qg (qX 1 Z9.nd (qr (qb 0) qe)) (qg (zM (qO (za hr.units) qH (qb 1) zg (qB _)) (ql (qo (jd J8 R5 rfl m_list PyProof.Rows.boot_list (qa (qr (qb 0) qe) qd)))) qP) (qg (zM (qO (za hr.units) qH (qb 1) zg (qB _)) (ql (qo (qeH ["p","q","walk"] [none,none,some 0] rfl (zD rfl m_range (qa (qr (qb 0) qe) qd) (h1 := by intro _ _ _ h;simpa [qc,qj] using h)) (fun _ _ _ => (jgn 0)) (fun _ _ _ => jk) (fun _ _ _ => (zD rfl m_range (qa (qr (qb 2) qe) qd) (h1 := by intro _ _ _ h;simpa [qc,qj] using h))) (fun _ _ _ => (jgn 1)) (fun _ _ _ => jk) (fun _ _ _ => (qJ (qa (qb 0) (qa (qb 1) qd)))) (by kernel_rfl) (by kernel_rfl)))) qP) (qg (zM (qO (za hr.units) qH (qb 1) zg (qB _)) (ql (qo (qh zw hr rfl (qa (qr (qb 0) qe) (qa (qr (qb 0) qe) (qa (qr (qb 0) qe) qd)))))) qP) (qg (ZE (qhE m_STRIDES rfl (qb 1) (fun _ _ => rfl)) (zR rfl (qp (qv (i := 2) (Z9.nd)) (qp (qv (i := 3) (Z9.nd)) zQ)))) (ql (qo (qh zw hr rfl (qa (qb 2) (qa (qb 3) (qa (qr (qb 0) qe) qd)))))))))))) read
abbrev YF : Stmt := top 20
abbrev M3 : List Str := ["dealing","walk","rows","columns","banks","cells","downs","alongs"]
abbrev RR : List Str := ["dealing","walk"]
theorem QF : FnScope M3 RR (qi YF) := ⟨rfl,rfl,rfl,by decide +kernel,rfl,by decide +kernel,by decide +kernel⟩
theorem qaP {S_size_of : Sp3} {S_cells_of : Sp3} (F : Fun K "starts" "starts" YF f fd) (bd : zb K fd RR []) (hm : mg "starts" = some (.ref f)) (qm : Fn3 P w K mg base k "size_of" S_size_of) (qq : Fn3 P w K mg base k "cells_of" S_cells_of) (m_min : mg "min" = none) (m_max : mg "max" = none) (m_range : mg "range" = none)
  (read : Rd sp 2 (Bk.DK S_size_of S_cells_of) M3) : Fn3 P w K mg base (k + 1) "starts" sp :=
 qy (t3 := (Bk.DK S_size_of S_cells_of)) F QF bd hm (fun cdv A outer s H E hr => (qg (ZE (qh qm hr rfl (qa (qb 0) qd)) (zR rfl (qp (qv (i := 2) (QF.nd)) (qp (qv (i := 3) (QF.nd)) (qp (qv (i := 4) (QF.nd)) zQ))))) (qg (qX 5 QF.nd (qh qq hr rfl (qa (qb 1) qd))) (qg (qcs 6 ["p","q"] [none,none] rfl QF.nd (VG (qb 5)) (fun _ _ _ => (zR rfl (qp (jgn 0) (qp (jgn 1) zQ)))) (fun _ _ _ => jk) (fun _ _ _ => (qb 0)) (by kernel_rfl) (by kernel_rfl) rfl rfl) (qg (qX 7 QF.nd (VP ["p","q"] [none,none] rfl (VG (qb 5)) (fun _ _ _ => (zR rfl (qp (jgn 0) (qp (jgn 1) zQ)))) (fun _ _ _ => jk) (fun _ _ _ => (qb 1)) (by kernel_rfl) (by kernel_rfl))) (ql (qo (qeH ["i","j","columns","alongs"] [none,none,some 3,some 7] rfl (YJ rfl m_range (qa (EZ (qA (UL rfl) DF rfl m_min PyProof.Rows.boot_min (qa (qb 6) qd))) (qa (EW (qb 2) (qA (US rfl) DA rfl m_max PyProof.Rows.boot_max (qa (qb 6) qd))) qd)) (h1 := by intro _ _ _ h;simpa [qc,qj] using h)) (fun _ _ _ => (jgn 0)) (fun _ _ _ => jk) (fun _ _ _ => (YJ rfl m_range (qa (EZ (qA (UL rfl) DF rfl m_min PyProof.Rows.boot_min (qa (qb 3) qd))) (qa (EW (qb 2) (qA (US rfl) DA rfl m_max PyProof.Rows.boot_max (qa (qb 3) qd))) qd)) (h1 := by intro _ _ _ h;simpa [qc,qj] using h))) (fun _ _ _ => (jgn 1)) (fun _ _ _ => jk) (fun _ _ _ => (qJ (qa (qb 0) (qa (qb 1) qd)))) (by kernel_rfl) (by kernel_rfl))))))))) read
abbrev ZR : Stmt := top 21
abbrev UO : List Str := ["walk","start"]
abbrev WY : List Str := ["walk","start"]
theorem NN : FnScope UO WY (qi ZR) := ⟨rfl,rfl,rfl,by decide +kernel,rfl,by decide +kernel,by decide +kernel⟩
theorem NM {S_cells_of : Sp3} (F : Fun K "shifted" "shifted" ZR f fd) (bd : zb K fd WY []) (hm : mg "shifted" = some (.ref f)) (qq : Fn3 P w K mg base k "cells_of" S_cells_of) 
  (read : Rd sp 2 (Bk.UU S_cells_of) UO) : Fn3 P w K mg base (k + 1) "shifted" sp :=
 qy (t3 := (Bk.UU S_cells_of)) F NN bd hm (fun cdv A outer s H E hr => (ql (qo (VP ["p","q","start"] [none,none,some 1] rfl (VG (qh qq hr rfl (qa (qb 0) qd))) (fun _ _ _ => (zR rfl (qp (jgn 0) (qp (jgn 1) zQ)))) (fun _ _ _ => jk) (fun _ _ _ => (qJ (qa (qG (qr (qb 2) qe) (qb 0)) (qa (qG (qr (qb 2) qe) (qb 1)) qd)))) (by kernel_rfl) (by kernel_rfl))))) read
abbrev j6 : Stmt := top 22
abbrev YX : List Str := ["dealing","walk","thing"]
abbrev ES : List Str := ["dealing","walk","thing"]
theorem KL : FnScope YX ES (qi j6) := ⟨rfl,rfl,rfl,by decide +kernel,rfl,by decide +kernel,by decide +kernel⟩
theorem KZ {S_shifted : Sp3} {S_is_word : Sp3} {S_is_pair : Sp3} (F : Fun K "is_start" "is_start" j6 f fd) (bd : zb K fd ES []) (hm : mg "is_start" = some (.ref f)) (zh : Fn3 P w K mg base k "shifted" S_shifted) (jK : Fn3 P w K mg base k "is_word" S_is_word) (zk : Fn3 P w K mg base k "is_pair" S_is_pair) (m_all : mg "all" = none)
  (read : Rd sp 3 (Bk.YN S_shifted S_is_word S_is_pair) YX) : Fn3 P w K mg base (k + 1) "is_start" sp :=
 qy (t3 := (Bk.YN S_shifted S_is_word S_is_pair)) F KL bd hm (fun cdv A outer s H E hr => (ql (qo (ZN (qh zk hr rfl (qa (qb 2) qd)) (UZ (qA (Q7 rfl) LO rfl m_all PyProof.Rows.boot_all (qa (VP ["word","dealing"] [none,some 0] rfl (VG (qh zh hr rfl (qa (qb 1) (qa (qb 2) qd)))) (fun _ _ _ => (jgn 0)) (fun _ _ _ => jk) (fun _ _ _ => (qh jK hr rfl (qa (qb 1) (qa (qb 0) qd)))) (by kernel_rfl) (by kernel_rfl)) qd))))))) read
abbrev QG : Stmt := top 23
abbrev YZ : List Str := ["dealing","walk","start"]
abbrev EF : List Str := ["dealing","walk","start"]
theorem LM : FnScope YZ EF (qi QG) := ⟨rfl,rfl,rfl,by decide +kernel,rfl,by decide +kernel,by decide +kernel⟩
theorem KR {S_is_start : Sp3} {S_shifted : Sp3} (F : Fun K "words_of" "words_of" QG f fd) (bd : zb K fd EF []) (hm : mg "words_of" = some (.ref f)) (zX : Fn3 P w K mg base k "is_start" S_is_start) (zh : Fn3 P w K mg base k "shifted" S_shifted) 
  (read : Rd sp 3 (Bk.YV S_is_start S_shifted) YZ) : Fn3 P w K mg base (k + 1) "words_of" sp :=
 qy (t3 := (Bk.YV S_is_start S_shifted)) F LM bd hm (fun cdv A outer s H E hr => (qg (zM (S0 (EV (qh zX hr rfl (qa (qb 0) (qa (qb 1) (qa (qb 2) qd)))))) qdj qP) (ql (qo (qh zh hr rfl (qa (qb 1) (qa (qb 2) qd))))))) read
abbrev jo : Stmt := top 25
abbrev YI : List Str := ["dealing"]
abbrev J4 : List Str := ["dealing"]
theorem C9 : FnScope YI J4 (qi jo) := ⟨rfl,rfl,rfl,by decide +kernel,rfl,by decide +kernel,by decide +kernel⟩
theorem RO (F : Fun K "factors_of" "factors_of" jo f fd) (bd : zb K fd J4 []) (hm : mg "factors_of" = some (.ref f))  
  (read : Rd sp 1 (Pv.QW) YI) : Fn3 P w K mg base (k + 1) "factors_of" sp :=
 qy (t3 := (Pv.QW)) F C9 bd hm (fun cdv A outer s H E hr => (qg (zM (qO (za hr.units) qH (qr (qb 0) qe) zg (qB _)) (ql (qo (qJ (qa (qr (qb 0) qe) (qa qe qd))))) qP) (ql (qo (qJ (qa (qr (qb 0) qe) (qa (qr (qb 0) qe) qd))))))) read
abbrev j3 : Stmt := top 26
abbrev XV : List Str := ["banks","factors","walk","a","b"]
abbrev EK : List Str := ["banks","factors","walk"]
theorem VM : FnScope XV EK (qi j3) := ⟨rfl,rfl,rfl,by decide +kernel,rfl,by decide +kernel,by decide +kernel⟩
theorem LP {S_cells_of : Sp3} (F : Fun K "rests_by" "rests_by" j3 f fd) (bd : zb K fd EK []) (hm : mg "rests_by" = some (.ref f)) (qq : Fn3 P w K mg base k "cells_of" S_cells_of) (m_tuple : mg "tuple" = none)
  (read : Rd sp 3 (Bk.Y6 S_cells_of) XV) : Fn3 P w K mg base (k + 1) "rests_by" sp :=
 qy (t3 := (Bk.Y6 S_cells_of)) F VM bd hm (fun cdv A outer s H E hr => (qg (ZE (qb 1) (zR rfl (qp (qv (i := 3) (VM.nd)) (qp (qv (i := 4) (VM.nd)) zQ)))) (ql (qo (jd ZW DX rfl m_tuple PyProof.Rows.boot_tuple (qa (VP ["p","q","banks","a","b"] [none,none,some 0,some 3,some 4] rfl (VG (qh qq hr rfl (qa (qb 2) qd))) (fun _ _ _ => (zR rfl (qp (jgn 0) (qp (jgn 1) zQ)))) (fun _ _ _ => jk) (fun _ _ _ => (UK (qG (zu (qb 3) (qb 0)) (zu (qb 4) (qb 1))) (qb 2))) (by kernel_rfl) (by kernel_rfl)) qd)))))) read
abbrev j7 : Stmt := top 27
abbrev XS : List Str := ["dealing","walk"]
abbrev U1 : List Str := ["dealing","walk"]
theorem LX : FnScope XS U1 (qi j7) := ⟨rfl,rfl,rfl,by decide +kernel,rfl,by decide +kernel,by decide +kernel⟩
theorem KU {S_factors_of : Sp3} {S_rests_by : Sp3} (F : Fun K "rests_of" "rests_of" j7 f fd) (bd : zb K fd U1 []) (hm : mg "rests_of" = some (.ref f)) (qK : Fn3 P w K mg base k "factors_of" S_factors_of) (qY : Fn3 P w K mg base k "rests_by" S_rests_by) 
  (read : Rd sp 2 (Pv.YS S_factors_of S_rests_by) XS) : Fn3 P w K mg base (k + 1) "rests_of" sp :=
 qy (t3 := (Pv.YS S_factors_of S_rests_by)) F LX bd hm (fun cdv A outer s H E hr => (ql (qo (qh qY hr rfl (qa (qr (qb 0) qe) (qa (qh qK hr rfl (qa (qb 0) qd)) (qa (qb 1) qd))))))) read
abbrev ja : Stmt := top 29
abbrev jI : List Str := ["dealing","walk","start"]
abbrev JV : List Str := ["dealing","walk","start"]
theorem RI : FnScope jI JV (qi ja) := ⟨rfl,rfl,rfl,by decide +kernel,rfl,by decide +kernel,by decide +kernel⟩
theorem SC {S_words_of : Sp3} {S_bank_in : Sp3} (F : Fun K "banks_from" "banks_from" ja f fd) (bd : zb K fd JV []) (hm : mg "banks_from" = some (.ref f)) (zY : Fn3 P w K mg base k "words_of" S_words_of) (jD : Fn3 P w K mg base k "bank_in" S_bank_in) 
  (read : Rd sp 3 (Bk.QZ S_words_of S_bank_in) jI) : Fn3 P w K mg base (k + 1) "banks_from" sp :=
 qy (t3 := (Bk.QZ S_words_of S_bank_in)) F RI bd hm (fun cdv A outer s H E hr => (ql (qo (VP ["word","dealing"] [none,some 0] rfl (VG (qh zY hr rfl (qa (qb 0) (qa (qb 1) (qa (qb 2) qd))))) (fun _ _ _ => (jgn 0)) (fun _ _ _ => jk) (fun _ _ _ => (qh jD hr rfl (qa (qb 1) (qa (qb 0) qd)))) (by kernel_rfl) (by kernel_rfl))))) read
abbrev UP : Stmt := top 30
abbrev DU : List Str := ["dealing","walk","start","found"]
abbrev LR : List Str := ["dealing","walk"]
theorem RP : FnScope DU LR (qi UP) := ⟨rfl,rfl,rfl,by decide +kernel,rfl,by decide +kernel,by decide +kernel⟩
theorem qc2 {S_starts : Sp3} {S_banks_from : Sp3} {S_first_alike : Sp3} (F : Fun K "clash" "clash" UP f fd) (bd : zb K fd LR []) (hm : mg "clash" = some (.ref f)) (zJ : Fn3 P w K mg base k "starts" S_starts) (qx : Fn3 P w K mg base k "banks_from" S_banks_from) (qt : Fn3 P w K mg base k "first_alike" S_first_alike) 
  (read : Rd sp 2 (Bk.CP S_starts S_banks_from S_first_alike) DU) : Fn3 P w K mg base (k + 1) "clash" sp :=
 qy (t3 := (Bk.CP S_starts S_banks_from S_first_alike)) F RP bd hm (fun cdv A outer s H E hr => (qg (VH PassesOwn.never rfl (VG (qh zJ hr rfl (qa (qb 0) (qa (qb 1) qd)))) (qv (i := 2) (RP.nd)) (qg (qX 3 RP.nd (qh qt hr rfl (qa (qh qx hr rfl (qa (qb 0) (qa (qb 1) (qa (qb 2) qd)))) qd))) (ql (zM (qO qg3 qc5 (qb 3) EU (qB _)) (ql (qo (qJ (qa (qb 2) (qa (qr (qb 3) qe) (qa (qr (qb 3) qe) qd)))))) qP)))) (ql (qo EU)))) read
abbrev zE : Stmt := top 31
abbrev zT : List Str := ["dealing","walk"]
abbrev Q8 : List Str := ["dealing","walk"]
theorem DQ : FnScope zT Q8 (qi zE) := ⟨rfl,rfl,rfl,by decide +kernel,rfl,by decide +kernel,by decide +kernel⟩
def jA (S_starts : Sp3) (S_banks_from : Sp3) (S_first_alike : Sp3) : TS3 := (qR (lc3 (U6 (cb3 S_starts (qc (v3 0) (qc (v3 1) qj)))) (gn3 0) (tb3 (o3 (qbd false) (cb3 S_first_alike (qc (cb3 S_banks_from (qc (v3 1) (qc (v3 2) (qc (v3 0) qj)))) qj)) (c3 .non))) (v3 0) [none,some 0,some 1]))
theorem WU {S_starts : Sp3} {S_banks_from : Sp3} {S_first_alike : Sp3} (F : Fun K "clear_starts" "clear_starts" zE f fd) (bd : zb K fd Q8 []) (hm : mg "clear_starts" = some (.ref f)) (zJ : Fn3 P w K mg base k "starts" S_starts) (qx : Fn3 P w K mg base k "banks_from" S_banks_from) (qt : Fn3 P w K mg base k "first_alike" S_first_alike) 
  (read : Rd sp 2 (jA S_starts S_banks_from S_first_alike) zT) : Fn3 P w K mg base (k + 1) "clear_starts" sp :=
 qy (t3 := (jA S_starts S_banks_from S_first_alike)) F DQ bd hm (fun cdv A outer s H E hr => (ql (qo (VP ["start","dealing","walk"] [none,some 0,some 1] rfl (VG (qh zJ hr rfl (qa (qb 0) (qa (qb 1) qd)))) (fun _ _ _ => (jgn 0)) (fun _ _ _ => qlh (qO MW RX (qh qt hr rfl (qa (qh qx hr rfl (qa (qb 1) (qa (qb 2) (qa (qb 0) qd)))) qd)) EU (qB _))) (fun _ _ _ => (qb 0)) (by kernel_rfl) (by kernel_rfl))))) read
abbrev ZH : Stmt := top 33
abbrev W1 : List Str := ["_law_cell","_law_k","_law_m"]
abbrev WT : List Str := ["_law_cell","_law_k"]
theorem XZ : FnScope W1 WT (qi ZH) := ⟨rfl,rfl,rfl,by decide +kernel,rfl,by decide +kernel,by decide +kernel⟩
theorem NF (F : Fun K "_law_mix" "_law_mix" ZH f fd) (bd : zb K fd WT []) (hm : mg "_law_mix" = some (.ref f))  
  (read : Rd sp 2 (Bk.V7) W1) : Fn3 P w K mg base (k + 1) "_law_mix" sp :=
 qy (t3 := (Bk.V7)) F XZ bd hm (fun cdv A outer s H E hr => (qg (qX 2 XZ.nd (UK (zu (qG (qG (UK (qb 0) qe) (zu (zu (qb 1) (qb 1)) qe)) qe) qe) qe)) (ql (qo (UK (zu (qb 2) (qb 2)) qe))))) read
abbrev QI : Stmt := top 34
abbrev U8 : List Str := ["_law_script","_law_k","_law_cell","_law_own"]
abbrev U0 : List Str := ["_law_script","_law_k"]
theorem VV : FnScope U8 U0 (qi QI) := ⟨rfl,rfl,rfl,by decide +kernel,rfl,by decide +kernel,by decide +kernel⟩
theorem LI (F : Fun K "_law_left" "_law_left" QI f fd) (bd : zb K fd U0 []) (hm : mg "_law_left" = some (.ref f))  (m_len : mg "len" = none) (m_abs : mg "abs" = none)
  (read : Rd sp 2 (Bk.YU) U8) : Fn3 P w K mg base (k + 1) "_law_left" sp :=
 qy (t3 := (Bk.YU)) F VV bd hm (fun cdv A outer s H E hr => (qg (qX 2 VV.nd (qcx (qO qae JR (qb 1) (qA zI ju rfl m_len PySem.boot_len (qa (qb 0) qd)) (qB _)) (qr (qb 0) (qb 1)) qe)) (qg (qX 3 VV.nd (qcx (qO qoj JR (qA MK qbT rfl m_abs PyProof.Rows.boot_abs (qa (qb 2) qd)) (qlq qe qe) (qB _)) (qA MK qbT rfl m_abs PyProof.Rows.boot_abs (qa (qb 2) qd)) qe)) (ql (qo (QH (qa (qb 3) (qa (qG (qb 2) (zu qe (qb 1))) (qa qe qd))))))))) read
abbrev j8 : Stmt := top 35
abbrev EQ : List Str := ["_law_left_here","_law_many_here","_law_digit"]
abbrev U3 : List Str := ["_law_left_here","_law_many_here"]
theorem DW : FnScope EQ U3 (qi j8) := ⟨rfl,rfl,rfl,by decide +kernel,rfl,by decide +kernel,by decide +kernel⟩
theorem KP {S_law_mix : Sp3} (F : Fun K "_law_pick" "_law_pick" j8 f fd) (bd : zb K fd U3 []) (hm : mg "_law_pick" = some (.ref f)) (F_law_mix : Fn3 P w K mg base k "_law_mix" S_law_mix) 
  (read : Rd sp 2 (Bk.YM S_law_mix) EQ) : Fn3 P w K mg base (k + 1) "_law_pick" sp :=
 qy (t3 := (Bk.YM S_law_mix)) F DW bd hm (fun cdv A outer s H E hr => (qg (ZE (qG (qr (qb 0) qe) qe) (qfo (qb 0) qe)) (qg (zM (qO qgP JR (qr (qb 0) qe) qe (qB _)) (qg (qX 2 DW.nd (UK (qr (qb 0) qe) (qb 1))) (qg (ZE (NA (qr (qb 0) qe) (qb 1)) (qfo (qb 0) qe)) (ql (qo (qb 2))))) qP) (ql (qo (UK (NA (qh F_law_mix hr rfl (qa (qh F_law_mix hr rfl (qa (qr (qb 0) qe) (qa (qr (qb 0) qe) qd))) (qa (qG (qr (qb 0) qe) qe) qd))) qe) (qb 1))))))) read
abbrev jM : Stmt := top 36
abbrev VU : List Str := ["_law_left_here","_law_wide","_law_rows","_law_columns"]
abbrev VO : List Str := ["_law_left_here"]
theorem J9 : FnScope VU VO (qi jM) := ⟨rfl,rfl,rfl,by decide +kernel,rfl,by decide +kernel,by decide +kernel⟩
theorem SW {S_law_pick : Sp3} (F : Fun K "_law_sides" "_law_sides" jM f fd) (bd : zb K fd VO []) (hm : mg "_law_sides" = some (.ref f)) (F_law_pick : Fn3 P w K mg base k "_law_pick" S_law_pick) 
  (read : Rd sp 1 (Bk.JO S_law_pick) VU) : Fn3 P w K mg base (k + 1) "_law_sides" sp :=
 qy (t3 := (Bk.JO S_law_pick)) F J9 bd hm (fun cdv A outer s H E hr => (qg (qX 1 J9.nd (qr (QH (qa qe (qa qe (qa qe (qa qe qd))))) (qh F_law_pick hr rfl (qa (qb 0) (qa qe qd))))) (qg (WF (i := 2) (j := 3) rfl J9.nd rfl rfl (by decide) rfl rfl (qa (qG qe (qh F_law_pick hr rfl (qa (qb 0) (qa (qb 1) qd)))) (qa (qG qe (qh F_law_pick hr rfl (qa (qb 0) (qa (qb 1) qd)))) qd))) (ql (qo (qr (QH (qa (qJ (qa (qb 2) (qa (qb 3) qd))) (qa (qJ (qa (qb 2) (qa (qb 3) qd))) (qa (qJ (qa (qb 2) (qa (qb 3) qd))) (qa (qJ (qa (qb 2) (qa (qb 2) qd))) qd))))) (qh F_law_pick hr rfl (qa (qb 0) (qa qe qd))))))))) read
abbrev ZO : Stmt := top 37
abbrev WK : List Str := ["_law_one","_law_other"]
abbrev WH : List Str := ["_law_one","_law_other"]
theorem XW : FnScope WK WH (qi ZO) := ⟨rfl,rfl,rfl,by decide +kernel,rfl,by decide +kernel,by decide +kernel⟩
theorem NZ (F : Fun K "_law_gcd" "_law_gcd" ZO f fd) (bd : zb K fd WH []) (hm : mg "_law_gcd" = some (.ref f))  
  (read : Rd sp 2 (Bk.UN) WK) : Fn3 P w K mg base (k + 1) "_law_gcd" sp :=
 qy (t3 := (Bk.UN)) F XW bd hm (fun cdv A outer s H E hr => (qg (qcB PassesOwn.never (qO qgP JR (qb 1) qe (qB _)) (ql (WF (i := 0) (j := 1) rfl XW.nd rfl rfl (by decide) rfl rfl (qa (qb 1) (qa (UK (qb 0) (qb 1)) qd))))) (ql (qo (qb 0))))) read
abbrev QN : Stmt := top 38
abbrev ZG : List Str := ["_law_left_here","_law_rows","_law_columns","_law_banks","_law_wide"]
abbrev EI : List Str := ["_law_left_here"]
theorem j5 : FnScope ZG EI (qi QN) := ⟨rfl,rfl,rfl,by decide +kernel,rfl,by decide +kernel,by decide +kernel⟩
theorem KJ {S_law_sides : Sp3} {S_law_pick : Sp3} (F : Fun K "_law_skew" "_law_skew" QN f fd) (bd : zb K fd EI []) (hm : mg "_law_skew" = some (.ref f)) (F_law_sides : Fn3 P w K mg base k "_law_sides" S_law_sides) (F_law_pick : Fn3 P w K mg base k "_law_pick" S_law_pick) 
  (read : Rd sp 1 (Bk.Y9 S_law_sides S_law_pick) ZG) : Fn3 P w K mg base (k + 1) "_law_skew" sp :=
 qy (t3 := (Bk.Y9 S_law_sides S_law_pick)) F j5 bd hm (fun cdv A outer s H E hr => (qg (ZE (qh F_law_sides hr rfl (qa (qb 0) qd)) (zR rfl (qp (qv (i := 1) (j5.nd)) (qp (qv (i := 2) (j5.nd)) zQ)))) (qg (qX 3 j5.nd (qG qe (qh F_law_pick hr rfl (qa (qb 0) (qa (qr (QH (qa qe (qa qe (qa qe (qa qe qd))))) (qh F_law_pick hr rfl (qa (qb 0) (qa qe qd)))) qd))))) (qg (qX 4 j5.nd (qr (QH (qa (qb 3) (qa qe (qa qe qd)))) (qh F_law_pick hr rfl (qa (qb 0) (qa qe qd))))) (ql (qo (qJ (qa zg (qa (qb 1) (qa (qb 2) (qa (qb 3) (qa (qh F_law_pick hr rfl (qa (qb 0) (qa (qb 4) qd))) (qa (qh F_law_pick hr rfl (qa (qb 0) (qa (qb 4) qd))) qd))))))))))))) read
abbrev jH : Stmt := top 39
abbrev VT : List Str := ["_law_left_here","_law_rows","_law_columns","_law_banks","_law_places","_law_turn"]
abbrev V1 : List Str := ["_law_left_here"]
theorem zF : FnScope VT V1 (qi jH) := ⟨rfl,rfl,rfl,by decide +kernel,rfl,by decide +kernel,by decide +kernel⟩
theorem TQ {S_law_sides : Sp3} {S_law_pick : Sp3} {S_law_gcd : Sp3} (F : Fun K "_law_rests" "_law_rests" jH f fd) (bd : zb K fd V1 []) (hm : mg "_law_rests" = some (.ref f)) (F_law_sides : Fn3 P w K mg base k "_law_sides" S_law_sides) (F_law_pick : Fn3 P w K mg base k "_law_pick" S_law_pick) (F_law_gcd : Fn3 P w K mg base k "_law_gcd" S_law_gcd) (m_range : mg "range" = none)
  (read : Rd sp 1 (Bk.Z0 S_law_sides S_law_pick S_law_gcd) VT) : Fn3 P w K mg base (k + 1) "_law_rests" sp :=
 qy (t3 := (Bk.Z0 S_law_sides S_law_pick S_law_gcd)) F zF bd hm (fun cdv A outer s H E hr => (qg (ZE (qh F_law_sides hr rfl (qa (qb 0) qd)) (zR rfl (qp (qv (i := 1) (zF.nd)) (qp (qv (i := 2) (zF.nd)) zQ)))) (qg (qX 3 zF.nd (qG qe (qh F_law_pick hr rfl (qa (qb 0) (qa (qr (QH (qa qe (qa qe (qa qe qd)))) (qh F_law_pick hr rfl (qa (qb 0) (qa qe qd)))) qd))))) (qg (qX 4 zF.nd (qG (EZ (NA (zu (EZ (qb 1)) (qb 2)) (qb 3))) (qh F_law_pick hr rfl (qa (qb 0) (qa qe qd))))) (qg (VH PassesOwn.never rfl (zD rfl m_range (qa qe qd) (h1 := by intro _ _ _ h;simpa [qc,qj] using h)) (qv (i := 5) (zF.nd)) (ql (zM (qO qgP JR (qh F_law_gcd hr rfl (qa (qb 3) (qa (qb 4) qd))) qe (qB _)) (ql (qX 4 zF.nd (qG (qb 4) qe))) qP))) (ql (qo (qJ (qa zg (qa (qb 1) (qa (qb 2) (qa (qb 3) (qa (qb 4) qd))))))))))))) read
abbrev jN : Stmt := top 40
abbrev JB : List Str := ["_law_left_here"]
abbrev VW : List Str := ["_law_left_here"]
theorem TB : FnScope JB VW (qi jN) := ⟨rfl,rfl,rfl,by decide +kernel,rfl,by decide +kernel,by decide +kernel⟩
def JK (S_law_pick : Sp3) (S_law_rests : Sp3) (S_law_skew : Sp3) : TS3 := (qR (if3 (tb3 (o3 (jQ false) (cb3 S_law_pick (qc (v3 0) (qc (c3 (.int 3)) qj))) (c3 (.int 0)))) (cb3 S_law_rests (qc (v3 0) qj)) (cb3 S_law_skew (qc (v3 0) qj))))
theorem SV {S_law_pick : Sp3} {S_law_rests : Sp3} {S_law_skew : Sp3} (F : Fun K "_law_plain" "_law_plain" jN f fd) (bd : zb K fd VW []) (hm : mg "_law_plain" = some (.ref f)) (F_law_pick : Fn3 P w K mg base k "_law_pick" S_law_pick) (F_law_rests : Fn3 P w K mg base k "_law_rests" S_law_rests) (F_law_skew : Fn3 P w K mg base k "_law_skew" S_law_skew) 
  (read : Rd sp 1 (JK S_law_pick S_law_rests S_law_skew) JB) : Fn3 P w K mg base (k + 1) "_law_plain" sp :=
 qy (t3 := (JK S_law_pick S_law_rests S_law_skew)) F TB bd hm (fun cdv A outer s H E hr => (ql (qo (qcx (qO (za hr.units) qH (qh F_law_pick hr rfl (qa (qb 0) (qa qe qd))) qe (qB _)) (qh F_law_rests hr rfl (qa (qb 0) qd)) (qh F_law_skew hr rfl (qa (qb 0) qd)))))) read
abbrev j4 : Stmt := top 41
abbrev YY : List Str := ["_law_left_here"]
abbrev U5 : List Str := ["_law_left_here"]
theorem LG : FnScope YY U5 (qi j4) := ⟨rfl,rfl,rfl,by decide +kernel,rfl,by decide +kernel,by decide +kernel⟩
theorem KO {S_law_pick : Sp3} (F : Fun K "_law_many" "_law_many" j4 f fd) (bd : zb K fd U5 []) (hm : mg "_law_many" = some (.ref f)) (F_law_pick : Fn3 P w K mg base k "_law_pick" S_law_pick) 
  (read : Rd sp 1 (Bk.YO S_law_pick) YY) : Fn3 P w K mg base (k + 1) "_law_many" sp :=
 qy (t3 := (Bk.YO S_law_pick)) F LG bd hm (fun cdv A outer s H E hr => (ql (qo (qG qe (qh F_law_pick hr rfl (qa (qb 0) (qa (qr (QH (qa qe (qa qe (qa qe (qa qe (qa qe (qa qe (qa qe (qa qe qd))))))))) (qh F_law_pick hr rfl (qa (qb 0) (qa qe qd)))) qd))))))) read
abbrev j9 : Stmt := top 42
abbrev U2 : List Str := ["_law_left_here","_law_way","_law_lying","_law_high","_law_wide","_law_down","_law_along","_law_pairs","_law_far","_law_turn","_law_pair"]
abbrev EL : List Str := ["_law_left_here"]
theorem zH : FnScope U2 EL (qi j9) := ⟨rfl,rfl,rfl,by decide +kernel,rfl,by decide +kernel,by decide +kernel⟩
theorem LY {S_law_pick : Sp3} {S_law_many : Sp3} (F : Fun K "_law_walk" "_law_walk" j9 f fd) (bd : zb K fd EL []) (hm : mg "_law_walk" = some (.ref f)) (F_law_pick : Fn3 P w K mg base k "_law_pick" S_law_pick) (F_law_many : Fn3 P w K mg base k "_law_many" S_law_many) (m_int : mg "int" = none) (m_range : mg "range" = none) (m_tuple : mg "tuple" = none)
  (read : Rd sp 1 (Bk.VD S_law_pick S_law_many) U2) : Fn3 P w K mg base (k + 1) "_law_walk" sp :=
 qy (t3 := (Bk.VD S_law_pick S_law_many)) F zH bd hm (fun cdv A outer s H E hr => (qg (qX 1 zH.nd (qh F_law_pick hr rfl (qa (qb 0) (qa qe qd)))) (qg (zM (qO qae JR (qb 1) qe (qB _)) (ql (qo (qJ (qa (qr (QH (qa zg (qa zg (qa zg (qa zg qd))))) (qb 1)) (qa (qh F_law_many hr rfl (qa (qb 0) qd)) qd))))) qP) (qg (zM (qO qae JR (qb 1) qe (qB _)) (qg (WF (i := 2) (j := 3) rfl zH.nd rfl rfl (by decide) rfl rfl (qa (qh F_law_pick hr rfl (qa (qb 0) (qa qe qd))) (qa (qG qe (qh F_law_pick hr rfl (qa (qb 0) (qa qe qd)))) qd))) (qg (qX 4 zH.nd (qG qe (qh F_law_pick hr rfl (qa (qb 0) (qa (NA qe (qb 3)) qd))))) (ql (qo (qr (QH (qa (qJ (qa zg (qa (qb 3) (qa (qb 4) qd)))) (qa (qJ (qa zg (qa (qb 4) (qa (qb 3) qd)))) qd))) (qb 2)))))) qP) (qg (zM (qO qae JR (qb 1) qe (qB _)) (qg (WF (i := 5) (j := 6) rfl zH.nd rfl rfl (by decide) rfl rfl (qa (EW (qh F_law_pick hr rfl (qa (qb 0) (qa qe qd))) qe) (qa (EW (qh F_law_pick hr rfl (qa (qb 0) (qa qe qd))) qe) qd))) (qg (zM (qO (za hr.units) qH (qh F_law_pick hr rfl (qa (qb 0) (qa qe qd))) qe (qB _)) (ql (qo (qJ (qa zg (qa (zu qe (qb 5)) (qa (qG (zu qe (qb 6)) (jd DR KI rfl m_int PyProof.Rows.boot_int (qa (ZN (Q0 (za hr.units) qH (qb 5) qe (qB _)) (UZ (Q0 (za hr.units) qH (qb 6) qe (qB _)))) qd))) (qa (qG qe (qh F_law_pick hr rfl (qa (qb 0) (qa qe qd)))) qd))))))) qP) (ql (qo (qJ (qa zg (qa (qb 5) (qa (qG (qb 6) (jd DR KI rfl m_int PyProof.Rows.boot_int (qa (ZN (Q0 (za hr.units) qH (qb 5) qe (qB _)) (UZ (Q0 (za hr.units) qH (qb 6) qe (qB _)))) qd))) (qa (qh F_law_many hr rfl (qa (qb 0) qd)) qd))))))))) qP) (qg (WF (i := 7) (j := 8) rfl zH.nd rfl rfl (by decide) rfl rfl (qa (QH qd) (qa (qG qe (zu qe (jd DR KI rfl m_int PyProof.Rows.boot_int (qa (Q0 (za hr.units) qH (qh F_law_pick hr rfl (qa (qb 0) (qa qe qd))) qe (qB _)) qd)))) qd))) (qg (VH PassesOwn.never rfl (zD rfl m_range (qa (qh F_law_many hr rfl (qa (qb 0) qd)) qd) (h1 := by intro _ _ _ h;simpa [qc,qj] using h)) (qv (i := 9) (zH.nd)) (qg (qX 10 zH.nd (qJ (qa (zu (qb 8) (EW (qh F_law_pick hr rfl (qa (qb 0) (qa qe qd))) qe)) (qa (zu (qb 8) (EW (qh F_law_pick hr rfl (qa (qb 0) (qa qe qd))) qe)) qd)))) (ql (zM (qO (qbg hr.units) qgJ (qb 10) (qb 7) (by with_unfolding_all rfl)) (ql (K3 (qaq (qb 7) (qa (qb 10) qd)))) qP)))) (ql (qo (qJ (qa zg (qa (jd ZW DX rfl m_tuple PyProof.Rows.boot_tuple (qa (qb 7) qd)) qd)))))))))))) read
abbrev jJ : Stmt := top 43
abbrev ZV : List Str := ["_law_walk_here","_law_found","_law_p","_law_down","_law_along"]
abbrev V5 : List Str := ["_law_walk_here"]
theorem jL : FnScope ZV V5 (qi jJ) := ⟨rfl,rfl,rfl,by decide +kernel,rfl,by decide +kernel,by decide +kernel⟩
theorem SY (F : Fun K "_law_cells" "_law_cells" jJ f fd) (bd : zb K fd V5 []) (hm : mg "_law_cells" = some (.ref f))  (m_list : mg "list" = none) (m_range : mg "range" = none)
  (read : Rd sp 1 (Bk.JQ) ZV) : Fn3 P w K mg base (k + 1) "_law_cells" sp :=
 qy (t3 := (Bk.JQ)) F jL bd hm (fun cdv A outer s H E hr => (qg (zM (qO (za hr.units) qH (qr (qb 0) qe) zg (qB _)) (ql (qo (jd J8 R5 rfl m_list PyProof.Rows.boot_list (qa (qr (qb 0) qe) qd)))) qP) (qg (zM (qO (za hr.units) qH (qr (qb 0) qe) zg (qB _)) (qg (qX 1 jL.nd (QH qd)) (qg (VH PassesOwn.never rfl (zD rfl m_range (qa (qr (qb 0) qe) qd) (h1 := by intro _ _ _ h;simpa [qc,qj] using h)) (qv (i := 2) (jL.nd)) (ql (K3 (SZ (qb 1) (qa (VP ["_law_q","_law_p"] [none,some 2] rfl (zD rfl m_range (qa (qr (qb 0) qe) qd) (h1 := by intro _ _ _ h;simpa [qc,qj] using h)) (fun _ _ _ => (jgn 0)) (fun _ _ _ => jk) (fun _ _ _ => (qJ (qa (qb 1) (qa (qb 0) qd)))) (by kernel_rfl) (by kernel_rfl)) qd))))) (ql (qo (qb 1))))) qP) (qg (ZE (qg6 (DS (qJ (qa qe (qa qe qd))) (DS (qJ (qa qe (qa qe qd))) (DS (qJ (qa qe (qa qe qd))) (DS (qJ (qa qe (qa (EZ qe) qd))) (DS (UC (qb 0) (VS qe) (VS qe)) qli))))) (qr (qb 0) qe)) (zR rfl (qp (qv (i := 3) (jL.nd)) (qp (qv (i := 4) (jL.nd)) zQ)))) (ql (qo (VP ["_law_t","_law_down","_law_along"] [none,some 3,some 4] rfl (zD rfl m_range (qa (qr (qb 0) (EZ qe)) qd) (h1 := by intro _ _ _ h;simpa [qc,qj] using h)) (fun _ _ _ => (jgn 0)) (fun _ _ _ => jk) (fun _ _ _ => (qJ (qa (zu (qb 0) (qb 1)) (qa (zu (qb 0) (qb 2)) qd)))) (by kernel_rfl) (by kernel_rfl)))))))) read
abbrev QA : Stmt := top 44
abbrev Y5 : List Str := ["_law_dealing","_law_two","_law_one","_law_other"]
abbrev EO : List Str := ["_law_dealing"]
theorem VR : FnScope Y5 EO (qi QA) := ⟨rfl,rfl,rfl,by decide +kernel,rfl,by decide +kernel,by decide +kernel⟩
def YR (S_law_size : Sp3) : TS3 := (qM (jq (tb3 (o3 (in3 false) (o3 ix3 (v3 0) (c3 (.int 0))) (jr (qc (c3 (.str "skew")) (qc (c3 (.str "rests")) qj))))) (qR (qcl (v3 0) (sp3 (c3 (.int 1))) (sp3 (c3 (.int 4))))) qL) (qM (jq (tb3 (o3 (jQ false) (o3 ix3 (v3 0) (c3 (.int 0))) (c3 (.str "bits")))) (qM (zm (VF (qc (c3 (.int 1)) (qc (c3 (.int 2)) (qc (c3 (.int 4)) (qc (c3 (.int 8)) (qc (c3 (.int 16)) (qc (c3 (.int 32)) qj))))))) (gn3 1)) (qR (jr (qc (o3 ix3 (v3 1) (o3 ix3 (v3 0) (c3 (.int 1)))) (qc (o3 ix3 (v3 1) (o3 ix3 (v3 0) (c3 (.int 2)))) (qc (o3 ix3 (v3 1) (cb3 DC (qc (o3 ix3 (v3 0) (c3 (.int 3))) qj))) qj)))))) qL) (qM (jq (tb3 (o3 (jQ false) (o3 ix3 (v3 0) (c3 (.int 0))) (c3 (.str "table")))) (qR (jr (qc (cb3 DC (qc (o3 ix3 (v3 0) (c3 (.int 2))) qj)) (qc (cb3 DC (qc (o3 ix3 (o3 ix3 (v3 0) (c3 (.int 2))) (c3 (.int 0))) qj)) (qc (o3 ix3 (v3 0) (c3 (.int 1))) qj))))) qL) (qM (CY 2 3 (qc (cb3 S_law_size (qc (o3 ix3 (v3 0) (c3 (.int 1))) qj)) (qc (cb3 S_law_size (qc (o3 ix3 (v3 0) (c3 (.int 2))) qj)) qj))) (qR (cb3 VJ (qc (lc3 (N2 (qc (v3 2) (qc (v3 3) qj))) (jm 2 (qu (gn3 0) (qu (gn3 1) je))) tt3 (o3 (iC QP (· * ·)) (v3 0) (v3 1)) [none,none]) qj)))))))
theorem K6 {S_law_size : Sp3} (F : Fun K "_law_size" "_law_size" QA f fd) (bd : zb K fd EO []) (hm : mg "_law_size" = some (.ref f)) (zl : Fn3 P w K mg base k "_law_size" S_law_size) (m_len : mg "len" = none) (m_zip : mg "zip" = none) (m_tuple : mg "tuple" = none)
  (read : Rd sp 1 (YR S_law_size) Y5) : Fn3 P w K mg base (k + 1) "_law_size" sp :=
 qy (t3 := (YR S_law_size)) F VR bd hm (fun cdv A outer s H E hr => (qg (zM (qO TF qb0 (qr (qb 0) qe) (qJ (qa zg (qa zg qd))) (by with_unfolding_all rfl)) (ql (qo (UC (qb 0) (VS qe) (VS qe)))) qP) (qg (zM (qO (za hr.units) qH (qr (qb 0) qe) zg (qB _)) (qg (qX 1 VR.nd (QH (qa qe (qa qe (qa qe (qa qe (qa qe (qa qe qd)))))))) (ql (qo (qJ (qa (qr (qb 1) (qr (qb 0) qe)) (qa (qr (qb 1) (qr (qb 0) qe)) (qa (qr (qb 1) (qA zI ju rfl m_len PySem.boot_len (qa (qr (qb 0) qe) qd))) qd))))))) qP) (qg (zM (qO (za hr.units) qH (qr (qb 0) qe) zg (qB _)) (ql (qo (qJ (qa (qA zI ju rfl m_len PySem.boot_len (qa (qr (qb 0) qe) qd)) (qa (qA zI ju rfl m_len PySem.boot_len (qa (qr (qr (qb 0) qe) qe) qd)) (qa (qr (qb 0) qe) qd)))))) qP) (qg (WF (i := 2) (j := 3) rfl VR.nd rfl rfl (by decide) rfl rfl (qa (qh zl hr rfl (qa (qr (qb 0) qe) qd)) (qa (qh zl hr rfl (qa (qr (qb 0) qe) qd)) qd))) (ql (qo (jd ZW DX rfl m_tuple PyProof.Rows.boot_tuple (qa (VP ["_law_x","_law_y"] [none,none] rfl (qfC rfl m_zip (qa (qb 2) (qa (qb 3) qd))) (fun _ _ _ => (zR rfl (qp (jgn 0) (qp (jgn 1) zQ)))) (fun _ _ _ => jk) (fun _ _ _ => (zu (qb 0) (qb 1))) (by kernel_rfl) (by kernel_rfl)) qd))))))))) read
abbrev jh : Stmt := top 45
abbrev Q1 : List Str := ["_law_dealing","_law_walk_here","_law_rows","_law_columns","_law_banks","_law_cells_here","_law_downs","_law_alongs","_law_found","_law_i"]
abbrev YB : List Str := ["_law_dealing","_law_walk_here"]
theorem q0 : FnScope Q1 YB (qi jh) := ⟨rfl,rfl,rfl,by decide +kernel,rfl,by decide +kernel,by decide +kernel⟩
theorem SB {S_law_size : Sp3} {S_law_cells : Sp3} (F : Fun K "_law_starts" "_law_starts" jh f fd) (bd : zb K fd YB []) (hm : mg "_law_starts" = some (.ref f)) (zl : Fn3 P w K mg base k "_law_size" S_law_size) (zy : Fn3 P w K mg base k "_law_cells" S_law_cells) (m_min : mg "min" = none) (m_max : mg "max" = none) (m_range : mg "range" = none)
  (read : Rd sp 2 (Bk.QX S_law_size S_law_cells) Q1) : Fn3 P w K mg base (k + 1) "_law_starts" sp :=
 qy (t3 := (Bk.QX S_law_size S_law_cells)) F q0 bd hm (fun cdv A outer s H E hr => (qg (ZE (qh zl hr rfl (qa (qb 0) qd)) (zR rfl (qp (qv (i := 2) (q0.nd)) (qp (qv (i := 3) (q0.nd)) (qp (qv (i := 4) (q0.nd)) zQ))))) (qg (qX 5 q0.nd (qh zy hr rfl (qa (qb 1) qd))) (qg (WF (i := 6) (j := 7) rfl q0.nd rfl rfl (by decide) rfl rfl (qa (VP ["_law_p","_law_q"] [none,none] rfl (VG (qb 5)) (fun _ _ _ => (zR rfl (qp (jgn 0) (qp (jgn 1) zQ)))) (fun _ _ _ => jk) (fun _ _ _ => (qb 0)) (by kernel_rfl) (by kernel_rfl)) (qa (VP ["_law_p","_law_q"] [none,none] rfl (VG (qb 5)) (fun _ _ _ => (zR rfl (qp (jgn 0) (qp (jgn 1) zQ)))) (fun _ _ _ => jk) (fun _ _ _ => (qb 1)) (by kernel_rfl) (by kernel_rfl)) qd))) (qg (qX 8 q0.nd (QH qd)) (qg (VH PassesOwn.never rfl (YJ rfl m_range (qa (EZ (qA (UL rfl) DF rfl m_min PyProof.Rows.boot_min (qa (qb 6) qd))) (qa (EW (qb 2) (qA (US rfl) DA rfl m_max PyProof.Rows.boot_max (qa (qb 6) qd))) qd)) (h1 := by intro _ _ _ h;simpa [qc,qj] using h)) (qv (i := 9) (q0.nd)) (ql (K3 (SZ (qb 8) (qa (VP ["_law_j","_law_i"] [none,some 9] rfl (YJ rfl m_range (qa (EZ (qA (UL rfl) DF rfl m_min PyProof.Rows.boot_min (qa (qb 7) qd))) (qa (EW (qb 3) (qA (US rfl) DA rfl m_max PyProof.Rows.boot_max (qa (qb 7) qd))) qd)) (h1 := by intro _ _ _ h;simpa [qc,qj] using h)) (fun _ _ _ => (jgn 0)) (fun _ _ _ => jk) (fun _ _ _ => (qJ (qa (qb 1) (qa (qb 0) qd)))) (by kernel_rfl) (by kernel_rfl)) qd))))) (ql (qo (qb 8))))))))) read
abbrev jn : Stmt := top 46
abbrev QY : List Str := ["_law_numbers"]
abbrev YH : List Str := ["_law_numbers"]
theorem RV : FnScope QY YH (qi jn) := ⟨rfl,rfl,rfl,by decide +kernel,rfl,by decide +kernel,by decide +kernel⟩
def Q5 : TS3 := (qR (cb3 qaj (qc (lc3 (SI (qc (v3 0) qj)) (jm 2 (qu (gn3 0) (qu (gn3 1) je))) tt3 (o3 (in3 true) (v3 1) (qcl (v3 2) np3 (sp3 (v3 0)))) [none,none,some 0]) qj)))
theorem C0 (F : Fun K "_law_unlike" "_law_unlike" jn f fd) (bd : zb K fd YH []) (hm : mg "_law_unlike" = some (.ref f))  (m_enumerate : mg "enumerate" = none) (m_all : mg "all" = none)
  (read : Rd sp 1 (Q5) QY) : Fn3 P w K mg base (k + 1) "_law_unlike" sp :=
 qy (t3 := (Q5)) F RV bd hm (fun cdv A outer s H E hr => (ql (qo (qA (Q7 rfl) LO rfl m_all PyProof.Rows.boot_all (qa (VP ["_law_k","_law_number","_law_numbers"] [none,none,some 0] rfl (qaW rfl m_enumerate (qa (qb 0) qd)) (fun _ _ _ => (zR rfl (qp (jgn 0) (qp (jgn 1) zQ)))) (fun _ _ _ => jk) (fun _ _ _ => (Q0 SL qb0 (qb 1) (UC (qb 2) KW (VS (qb 0))) (by with_unfolding_all rfl))) (by kernel_rfl) (by kernel_rfl)) qd))))) read
abbrev QB : Stmt := top 47
abbrev CI : List Str := ["_law_found","_law_due"]
abbrev EM : List Str := ["_law_found","_law_due"]
theorem K7 : FnScope CI EM (qi QB) := ⟨rfl,rfl,rfl,by decide +kernel,rfl,by decide +kernel,by decide +kernel⟩
theorem QC {S_law_same : Sp3} (F : Fun K "_law_same" "_law_same" QB f fd) (bd : zb K fd EM []) (hm : mg "_law_same" = some (.ref f)) (F_law_same : Fn3 P w K mg base k "_law_same" S_law_same) (m_isinstance : mg "isinstance" = none) (m_list : mg "list" = none) (m_tuple : mg "tuple" = none) (m_zip : mg "zip" = none) (m_all : mg "all" = none) (m_len : mg "len" = none) (m_str : mg "str" = none) (m_bool : mg "bool" = none) (m_int : mg "int" = none)
  (read : Rd sp 2 (Bk.ET S_law_same) CI) : Fn3 P w K mg base (k + 1) "_law_same" sp :=
 qy (t3 := (Bk.ET S_law_same)) F K7 bd hm (fun cdv A outer s H E hr => (qg (zM (EV (qaU (qb 1) rfl m_isinstance rfl m_list PyProof.Rows.boot_list rfl m_tuple PyProof.Rows.boot_tuple)) (qg (zM (jpt (qiS (qO (qce hr.units) LV (J3 (qb 0) rfl m_isinstance rfl m_list PyProof.Rows.boot_list) (J3 (qb 1) rfl m_isinstance rfl m_list PyProof.Rows.boot_list) (qB _)) (qdL (qO (qce hr.units) LV (J3 (qb 0) rfl m_isinstance rfl m_tuple PyProof.Rows.boot_tuple) (J3 (qb 1) rfl m_isinstance rfl m_tuple PyProof.Rows.boot_tuple) (qB _))))) (ql (qo qaV)) qP) (ql (qo (ZN (Q0 (za hr.units) qH (qA zI ju rfl m_len PySem.boot_len (qa (qb 0) qd)) (qA zI ju rfl m_len PySem.boot_len (qa (qb 1) qd)) (qB _)) (UZ (qA (Q7 rfl) LO rfl m_all PyProof.Rows.boot_all (qa (VP ["_law_one","_law_other"] [none,none] rfl (qfC rfl m_zip (qa (qb 0) (qa (qb 1) qd))) (fun _ _ _ => (zR rfl (qp (jgn 0) (qp (jgn 1) zQ)))) (fun _ _ _ => jk) (fun _ _ _ => (qh F_law_same hr rfl (qa (qb 0) (qa (qb 1) qd)))) (by kernel_rfl) (by kernel_rfl)) qd))))))) qP) (qg (zM (jpt (qiS (qO MW RX (qb 1) EU (qB _)) (qdL (EV (qaU (qb 1) rfl m_isinstance rfl m_str PyProof.Rows.boot_str rfl m_bool PyProof.Rows.boot_bool))))) (ql (qo (ZN (Q0 (za hr.units) qH (qb 0) (qb 1) (qB _)) (ZN (Q0 (za hr.units) qH (J3 (qb 0) rfl m_isinstance rfl m_bool PyProof.Rows.boot_bool) (J3 (qb 1) rfl m_isinstance rfl m_bool PyProof.Rows.boot_bool) (qB _)) (UZ (Q0 (za hr.units) qH (Q0 MW RX (qb 0) EU (qB _)) (Q0 MW RX (qb 1) EU (qB _)) (qB _))))))) qP) (ql (qo (ZN (J3 (qb 0) rfl m_isinstance rfl m_int PyProof.Rows.boot_int) (ZN (qeK (J3 (qb 0) rfl m_isinstance rfl m_bool PyProof.Rows.boot_bool)) (UZ (Q0 (za hr.units) qH (qb 0) (qb 1) (qB _)))))))))) read
abbrev zc : Stmt := top 48
abbrev zi : List Str := ["_law_numbers","_law_k","_law_number"]
abbrev jy : List Str := ["_law_numbers"]
theorem jg : FnScope zi jy (qi zc) := ⟨rfl,rfl,rfl,by decide +kernel,rfl,by decide +kernel,by decide +kernel⟩
def zK : TS3 := (qM (RK (SI (qc (v3 0) qj)) (jm 2 (qu (gn3 1) (qu (gn3 2) je))) (jq (tb3 (o3 (in3 false) (v3 2) (qcl (v3 0) (sp3 (o3 z9 (v3 1) (c3 (.int 1)))) np3))) (qR (jr (qc (v3 1) (qc (o3 z9 (o3 z9 (v3 1) (c3 (.int 1))) (bm3 qfF (qcl (v3 0) (sp3 (o3 z9 (v3 1) (c3 (.int 1)))) np3) (qc (v3 2) qj))) qj)))) qL)) (qR (jr qj)))
theorem UI (F : Fun K "_law_first_alike" "_law_first_alike" zc f fd) (bd : zb K fd jy []) (hm : mg "_law_first_alike" = some (.ref f))  (m_enumerate : mg "enumerate" = none)
  (read : Rd sp 1 (zK) zi) : Fn3 P w K mg base (k + 1) "_law_first_alike" sp :=
 qy (t3 := (zK)) F jg bd hm (fun cdv A outer s H E hr => (qg (VH PassesOwn.never rfl (qaW rfl m_enumerate (qa (qb 0) qd)) (zR rfl (qp (qv (i := 1) (jg.nd)) (qp (qv (i := 2) (jg.nd)) zQ))) (ql (zM (qO TF qb0 (qb 2) (UC (qb 0) (VS (qG (qb 1) qe)) KW) (by with_unfolding_all rfl)) (ql (qo (qJ (qa (qb 1) (qa (qG (qG (qb 1) qe) (qdn (UC (qb 0) (VS (qG (qb 1) qe)) KW) (qa (qb 2) qd))) qd))))) qP))) (ql (qo (qJ qd))))) read
abbrev J2 : Stmt := top 49
abbrev qau : List Str := ["_law_script","_law_k","_law_left_here","_law_dealing","_law_turn","_law_walk_here","_law_some","_law_rests_here","_law_clear","_law_due"]
abbrev qiX : List Str := ["_law_script"]
theorem J6 : FnScope qau qiX (qi J2) := ⟨rfl,rfl,rfl,by decide +kernel,rfl,by decide +kernel,by decide +kernel⟩
def qhy (S_law_left : Sp3) (S_law_plain : Sp3) (S_law_walk : Sp3) (S_law_starts : Sp3) (S_rests_of : Sp3) (S_law_unlike : Sp3) (S_clear_starts : Sp3) (S_law_same : Sp3) (S_law_first_alike : Sp3) (S_clash : Sp3) : TS3 := (qM (RK (jO (qc (o3 z9 (c3 (.int 1)) (cb3 qhj (qc (c3 (.int 5)) (qc (cb3 DC (qc (v3 0) qj)) qj)))) qj)) (gn3 1) (qM (zm (cb3 S_law_left (qc (v3 0) (qc (v3 1) qj))) (gn3 2)) (qM (zm (cb3 S_law_plain (qc (v3 2) qj)) (gn3 3)) (RK (jO (qc (c3 (.int 3)) qj)) (gn3 4) (qM (zm (cb3 S_law_walk (qc (v3 2) qj)) (gn3 5)) (qM (zm (cb3 S_law_starts (qc (v3 3) (qc (v3 5) qj))) (gn3 6)) (qM (zm (cb3 XC (qc (cb3 S_rests_of (qc (v3 3) (qc (v3 5) qj))) qj)) (gn3 7)) (qM (zm (cb3 S_law_unlike (qc (v3 7) qj)) (gn3 8)) (qM (jq (N8 (tb3 (cb3 S_law_same (qc (cb3 S_clear_starts (qc (v3 3) (qc (v3 5) qj))) (qc (if3 (tb3 (v3 8)) (v3 6) (VF qj)) qj))))) (qR (c3 (.bl false))) qL) (qM (zm (c3 .non) (gn3 9)) (qM (jq (qgg (N8 (tb3 (v3 8))) (tb3 (o3 (jQ true) (v3 6) (VF qj)))) (zm (o3 z9 (jr (qc (o3 ix3 (v3 6) (c3 (.int 0))) qj)) (cb3 S_law_first_alike (qc (v3 7) qj))) (gn3 9)) qL) (jq (N8 (tb3 (cb3 S_law_same (qc (cb3 S_clash (qc (v3 3) (qc (v3 5) qj))) (qc (v3 9) qj))))) (qR (c3 (.bl false))) qL)))))))))))) (qR (c3 (.bl true))))
theorem qkj {S_law_left : Sp3} {S_law_plain : Sp3} {S_law_walk : Sp3} {S_law_starts : Sp3} {S_rests_of : Sp3} {S_law_unlike : Sp3} {S_clear_starts : Sp3} {S_law_same : Sp3} {S_law_first_alike : Sp3} {S_clash : Sp3} (F : Fun K "law" "law" J2 f fd) (F_law_left : Fn3 P w K mg base k "_law_left" S_law_left) (F_law_plain : Fn3 P w K mg base k "_law_plain" S_law_plain) (F_law_walk : Fn3 P w K mg base k "_law_walk" S_law_walk) (zo : Fn3 P w K mg base k "_law_starts" S_law_starts) (zV : Fn3 P w K mg base k "rests_of" S_rests_of) (zp : Fn3 P w K mg base k "_law_unlike" S_law_unlike) (qU : Fn3 P w K mg base k "clear_starts" S_clear_starts) (F_law_same : Fn3 P w K mg base k "_law_same" S_law_same) (qF : Fn3 P w K mg base k "_law_first_alike" S_law_first_alike) (J5 : Fn3 P w K mg base k "clash" S_clash) (m_len : mg "len" = none) (m_min : mg "min" = none) (m_range : mg "range" = none) (m_list : mg "list" = none)
  (read : Rd sp 1 (qhy S_law_left S_law_plain S_law_walk S_law_starts S_rests_of S_law_unlike S_clear_starts S_law_same S_law_first_alike S_clash) qau) : FnOk P w K mg base CX0 (k + 1) f fd qiX (lSp K sp) :=
 qdw (t3 := (qhy S_law_left S_law_plain S_law_walk S_law_starts S_rests_of S_law_unlike S_clear_starts S_law_same S_law_first_alike S_clash)) F J6 (fun cdv A outer s H E hr => (qg (VH PassesOwn.never rfl (zD rfl m_range (qa (qG qe (qA (qa4 rfl) qgA rfl m_min PyProof.Rows.boot_min (qa qe (qa (qA zI ju rfl m_len PySem.boot_len (qa (qb 0) qd)) qd)))) qd) (h1 := by intro _ _ _ h;simpa [qc,qj] using h)) (qv (i := 1) (J6.nd)) (qg (qX 2 J6.nd (qh F_law_left hr rfl (qa (qb 0) (qa (qb 1) qd)))) (qg (qX 3 J6.nd (qh F_law_plain hr rfl (qa (qb 2) qd))) (ql (VH PassesOwn.never rfl (zD rfl m_range (qa qe qd) (h1 := by intro _ _ _ h;simpa [qc,qj] using h)) (qv (i := 4) (J6.nd)) (qg (qX 5 J6.nd (qh F_law_walk hr rfl (qa (qb 2) qd))) (qg (qX 6 J6.nd (qh zo hr rfl (qa (qb 3) (qa (qb 5) qd)))) (qg (qX 7 J6.nd (jd J8 R5 rfl m_list PyProof.Rows.boot_list (qa (qh zV hr rfl (qa (qb 3) (qa (qb 5) qd))) qd))) (qg (qX 8 J6.nd (qh zp hr rfl (qa (qb 7) qd))) (qg (zM (S0 (EV (qh F_law_same hr rfl (qa (qh qU hr rfl (qa (qb 3) (qa (qb 5) qd))) (qa (qcx (EV (qb 8)) (qb 6) (QH qd)) qd))))) (ql (qo qaV)) qP) (qg (qX 9 J6.nd EU) (qg (zM (jpt (qi1 (S0 (EV (qb 8))) (qg4 (qO (qce hr.units) LV (qb 6) (QH qd) (qB _))))) (ql (qX 9 J6.nd (qG (qJ (qa (qr (qb 6) qe) qd)) (qh qF hr rfl (qa (qb 7) qd))))) qP) (ql (zM (S0 (EV (qh F_law_same hr rfl (qa (qh J5 hr rfl (qa (qb 3) (qa (qb 5) qd))) (qa (qb 9) qd))))) (ql (qo qaV)) qP)))))))))))))) (ql (qo qaV)))) read
end K22
namespace K22
open PySem L2 L3 Pu
def JN : PuS (Bk.JJ) := (Q9 (SR (qmU (fun t => ZU t "int") (bV 0)) (qjz (qmU (fun t => ZU t "bool") (bV 0)))))
def ze : List PyData → Option PyData := Pu.run JN.f 1 1 1000000000 false
theorem S8 : Rd (PSp ze false) 1 (Bk.JJ) ZX := qT JN ZX 1 1000000000 false
theorem TX {x0 : PyData} : ze [x0] = JU false (JN.f 1000000000 [.sh x0]) := id rfl
def UF : PuS (Bk.UA (PSp ze false)) := (Q9 (SR (qmU (fun t => ZU t "tuple") (bV 0)) (SR (bO (X6 false) (qz qcn (qf (bV 0) qD)) (qN 2)) (SR (qz (qZ ze false) (qf (bO zq (bV 0) (qN 0)) qD)) (qz (qZ ze false) (qf (bO zq (bV 0) (qN 1)) qD))))))
def zk : List PyData → Option PyData := Pu.run UF.f 1 1 1000000000 false
theorem NY : Rd (PSp zk false) 1 (Bk.UA (PSp ze false)) ZM := qT UF ZM 1 1000000000 false
theorem NJ {x0 : PyData} : zk [x0] = JU false (UF.f 1000000000 [.sh x0]) := id rfl
def Z8 : PuS (Bk.JF (PSp (Pv.qm 1) false)) := (QQ (XJ (qz (qZ (Pv.qm 1) false) (qf (bV 0) qD)) (W6 3 (qW (gN 2) (qW (gN 3) (qW (gN 4) W7)))) [true] ⟨rfl⟩) (Q9 (bO UB (bO (opC QP (· * ·)) (bO zq (bV 1) (qN 0)) (bV 3)) (bO zq (bV 1) (qN 1)))))
def zf : List PyData → Option PyData := Pu.run Z8.f 2 5 1000000000 false
theorem S5 : Rd (PSp zf false) 2 (Bk.JF (PSp (Pv.qm 1) false)) QE := qT Z8 QE 2 1000000000 false
theorem TW {x0 x1 : PyData} : zf [x0,x1] = JU false (Z8.f 1000000000 [.sh x0,.sh x1,.un,.un,.un]) := id rfl
def UG : PuS (Bk.UQ (PSp zk false) (PSp (Pv.qm 1) false)) := (QQ (sIf (qhS (bTb (qz (qZ zk false) (qf (bV 1) qD)))) (Q9 (bBl false)) QS) (QQ (XJ (qz (qZ (Pv.qm 1) false) (qf (bV 0) qD)) (W6 3 (qW (gN 2) (qW (gN 3) (qW (gN 4) W7)))) [true] ⟨rfl⟩) (Q9 (SR (bCh (opB fun i j => decide (i ≤ j)) (opB fun i j => decide (i < j)) (qN 0) (bO zq (bV 1) (qN 0)) (bV 2)) (bCh (opB fun i j => decide (i ≤ j)) (opB fun i j => decide (i < j)) (qN 0) (bO zq (bV 1) (qN 1)) (bV 3))))))
def jK : List PyData → Option PyData := Pu.run UG.f 2 5 1000000000 false
theorem NH : Rd (PSp jK false) 2 (Bk.UQ (PSp zk false) (PSp (Pv.qm 1) false)) JX := qT UG JX 2 1000000000 false
theorem NC {x0 x1 : PyData} : jK [x0,x1] = JU false (UG.f 1000000000 [.sh x0,.sh x1,.un,.un,.un]) := id rfl
def YG : PuS (Bk.UJ (PSp zf false) (PSp (fun _ => none) false) (PSp (fun _ => none) false)) := (QQ (qag (bO zq (bV 0) (qN 0)) 2 [true] ⟨rfl⟩) (QQ (sIf (bTb (bO (X6 false) (bV 2) (C1 "skew"))) (Q9 (bO (opC (fun _ j => 0 < j) (· % ·)) (bO UB (bO (opC QP (· * ·)) (bO zq (bV 0) (qN 4)) (bO zq (bV 1) (qN 0))) (bO (opC QP (· * ·)) (bO zq (bV 0) (qN 5)) (bO zq (bV 1) (qN 1)))) (bO zq (bV 0) (qN 3)))) QS) (QQ (sIf (bTb (bO (X6 false) (bV 2) (C1 "rests"))) (Q9 (bO (opC (fun _ j => 0 < j) (· % ·)) (qz (qZ zf false) (qf (bV 0) (qf (bV 1) qD))) (bO zq (bV 0) (qN 3)))) QS) (QQ (sIf (bTb (bO (X6 false) (bV 2) (C1 "bits"))) (Q9 (qz (qZ (fun _ => none) false) (qf (bO zq (bV 0) (qN 3)) (qf (qz (qZ zf false) (qf (bV 0) (qf (bV 1) qD))) qD)))) QS) (QQ (sIf (bTb (bO (X6 false) (bV 2) (C1 "table"))) (Q9 (bO zq (bO zq (bO zq (bV 0) (qN 2)) (bO zq (bV 1) (qN 0))) (bO zq (bV 1) (qN 1)))) QS) (Q9 (qz (qZ (fun _ => none) false) (qf (bO zq (bV 0) (qN 1)) (qf (bO zq (bV 0) (qN 2)) (qf (bV 1) qD))))))))))
def jD : List PyData → Option PyData := Pu.run YG.f 2 3 1000000000 false
theorem NR : Rd (PSp jD false) 2 (Bk.UJ (PSp zf false) (PSp (fun _ => none) false) (PSp (fun _ => none) false)) J1 := qT YG J1 2 1000000000 false
theorem N9 {x0 x1 : PyData} : jD [x0,x1] = JU false (YG.f 1000000000 [.sh x0,.sh x1,.un]) := id rfl
def UX : PuS (Bk.UU (PSp Pv.qq true)) := (Q9 (bLc (qal (qz (qZ Pv.qq true) (qf (bV 0) qD))) (W6 2 (qW (gN 0) (qW (gN 1) W7))) bTt (EH (qf (bO UB (bO zq (bV 2) (qN 0)) (bV 0)) (qf (bO UB (bO zq (bV 2) (qN 1)) (bV 1)) qD)) ⟨rfl⟩) [none,none,some 1] ⟨rfl⟩))
def zh : List PyData → Option PyData := Pu.run UX.f 2 2 1000000000 true
theorem NX : Rd (PSp zh true) 2 (Bk.UU (PSp Pv.qq true)) UO := qT UX UO 2 1000000000 true
theorem N4 {x0 x1 : PyData} : zh [x0,x1] = JU true (UX.f 1000000000 [.sh x0,.sh x1]) := id rfl
def YT : PuS (Bk.YN (PSp zh true) (PSp jK false) (PSp zk false)) := (Q9 (SR (qz (qZ zk false) (qf (bV 2) qD)) (qz qmM (qf (bLc (qal (qz (qZ zh true) (qf (bV 1) (qf (bV 2) qD)))) (gN 0) bTt (qz (qZ jK false) (qf (bV 1) (qf (bV 0) qD))) [none,some 0] ⟨rfl⟩) qD))))
def zX : List PyData → Option PyData := Pu.run YT.f 3 3 1000000000 false
theorem KS : Rd (PSp zX false) 3 (Bk.YN (PSp zh true) (PSp jK false) (PSp zk false)) YX := qT YT YX 3 1000000000 false
theorem LC {x0 x1 x2 : PyData} : zX [x0,x1,x2] = JU false (YT.f 1000000000 [.sh x0,.sh x1,.sh x2]) := id rfl
def VC : PuS (Bk.YV (PSp zX false) (PSp zh true)) := (QQ (sIf (qhS (bTb (qz (qZ zX false) (qf (bV 0) (qf (bV 1) (qf (bV 2) qD)))))) qpC QS) (Q9 (qz (qZ zh true) (qf (bV 1) (qf (bV 2) qD)))))
def zY : List PyData → Option PyData := Pu.run VC.f 3 3 1000000000 true
theorem LD : Rd (PSp zY true) 3 (Bk.YV (PSp zX false) (PSp zh true)) YZ := qT VC YZ 3 1000000000 true
theorem LQ {x0 x1 x2 : PyData} : zY [x0,x1,x2] = JU true (VC.f 1000000000 [.sh x0,.sh x1,.sh x2]) := id rfl
def Q4 : PuS (Bk.QZ (PSp zY true) (PSp jD false)) := (Q9 (bLc (qal (qz (qZ zY true) (qf (bV 0) (qf (bV 1) (qf (bV 2) qD))))) (gN 0) bTt (qz (qZ jD false) (qf (bV 1) (qf (bV 0) qD))) [none,some 0] ⟨rfl⟩))
def qx : List PyData → Option PyData := Pu.run Q4.f 3 3 1000000000 true
theorem RA : Rd (PSp qx true) 3 (Bk.QZ (PSp zY true) (PSp jD false)) jI := qT Q4 jI 3 1000000000 true
theorem R6 {x0 x1 x2 : PyData} : qx [x0,x1,x2] = JU true (Q4.f 1000000000 [.sh x0,.sh x1,.sh x2]) := id rfl
def RJ : PuS (Bk.CP (PSp (Pv.zJ 1) true) (PSp qx true) (PSp Pv.qt false)) := (QQ (qgB (qal (qz (qZ (Pv.zJ 1) true) (qf (bV 0) (qf (bV 1) qD)))) (gN 2) (QQ (qag (qz (qZ Pv.qt false) (qf (qz (qZ qx true) (qf (bV 0) (qf (bV 1) (qf (bV 2) qD)))) qD)) 3 [true,true,true] ⟨rfl⟩) (sIf (bTb (bO (qf9 true) (bV 3) qhd)) (Q9 (EH (qf (bV 2) (qf (bO zq (bV 3) (qN 0)) (qf (bO zq (bV 3) (qN 1)) qD))) ⟨rfl⟩)) QS)) [true,true] ⟨rfl⟩) (Q9 qhd))
def J5 : List PyData → Option PyData := Pu.run RJ.f 2 4 1000000000 false
theorem qds : Rd (PSp J5 false) 2 (Bk.CP (PSp (Pv.zJ 1) true) (PSp qx true) (PSp Pv.qt false)) DU := qT RJ DU 2 1000000000 false
theorem qdu {x0 x1 : PyData} : J5 [x0,x1] = JU false (RJ.f 1000000000 [.sh x0,.sh x1,.un,.un]) := id rfl
def jz : PuS (K22.jA (PSp (Pv.zJ 1) true) (PSp qx true) (PSp Pv.qt false)) := (Q9 (bLc (qal (qz (qZ (Pv.zJ 1) true) (qf (bV 0) (qf (bV 1) qD)))) (gN 0) (bTb (bO (qf9 false) (qz (qZ Pv.qt false) (qf (qz (qZ qx true) (qf (bV 1) (qf (bV 2) (qf (bV 0) qD)))) qD)) qhd)) (bV 0) [none,some 0,some 1] ⟨rfl⟩))
def qU : List PyData → Option PyData := Pu.run jz.f 2 2 1000000000 true
theorem DO : Rd (PSp qU true) 2 (K22.jA (PSp (Pv.zJ 1) true) (PSp qx true) (PSp Pv.qt false)) zT := qT jz zT 2 1000000000 true
theorem W4 {x0 x1 : PyData} : qU [x0,x1] = JU true (jz.f 1000000000 [.sh x0,.sh x1]) := id rfl
def Y4 : PwS 0 (Bk.Y9 Bk.jP Bk.qQ) := (qaf (qks (eDr qeM (aOf qD)) (W6 2 (qW (gN 1) (qW (gN 2) W7))) [] ⟨rfl⟩ ⟨rfl⟩) (qaf (qcp (eO UB (eOf (qN 1)) (eDr LN (TD (eO zq (eOf (qcR (qf (qN 8) (qf (qN 8) (qf (qN 17) (qf (qN 32) qD)))) ⟨rfl⟩)) (eDr LN (aOf (qf (qN 4) qD)))) (aOf qD)))) 3 [] ⟨rfl⟩ ⟨rfl⟩) (qaf (qcp (eO zq (eOf (qcR (qf (bV 3) (qf (qN 10) (qf (qN 100) qD))) ⟨rfl⟩)) (eDr LN (aOf (qf (qN 3) qD)))) 4 [false,false,false,true] ⟨rfl⟩ ⟨rfl⟩) (qku (qnb (TD (eOf (C1 "skew")) (TD (eOf (bV 1)) (TD (eOf (bV 2)) (TD (eOf (bV 3)) (TD (eDr LN (aOf (qf (bV 4) qD))) (TD (eDr LN (aOf (qf (bV 4) qD))) (aOf qD))))))) ⟨rfl⟩)))))
def j2 : Wm := qnq Y4 1 5 false
theorem K9 : Rd (DSp j2.W false) 1 (Bk.Y9 Bk.jP Bk.qQ) ZG := qbu Y4 ZG 1 false
theorem KK {n : Nat} {Q : QD} : j2.W [] n Q = (0 + 1 = 1∧Y4.w [.un,.un,.un,.un,.un] n (qmV false Q)) := id rfl
def ZT : PwS 0 (K22.JK Bk.qQ Bk.QV (DSp j2.W false)) := (qku (eIf (cTb (eO (X6 false) (eDr LN (aOf (qf (qN 3) qD))) (eOf (qN 0)))) (eDr qei (aOf qD)) (eDr (dSp j2 false) (aOf qD))))
def jv : Wm := qnq ZT 1 1 false
theorem T6 : Rd (DSp jv.W false) 1 (K22.JK Bk.qQ Bk.QV (DSp j2.W false)) JB := qbu ZT JB 1 false
theorem SO {n : Nat} {Q : QD} : jv.W [] n Q = (0 + 1 = 1∧ZT.w [.un] n (qmV false Q)) := id rfl
def zz : PuS (Bk.JQ) := (QQ (sIf (bTb (bO (X6 false) (bO zq (bV 0) (qN 0)) (C1 "cells"))) (Q9 (qz qke (qf (bO zq (bV 0) (qN 1)) qD))) QS) (QQ (sIf (bTb (bO (X6 false) (bO zq (bV 0) (qN 0)) (C1 "block"))) (QQ (qag (qcR qD ⟨rfl⟩) 1 [] ⟨rfl⟩) (QQ (qgB (LZ (qf (bO zq (bV 0) (qN 1)) qD)) (gN 2) (qoL (bLc (LZ (qf (bO zq (bV 0) (qN 2)) qD)) (gN 0) bTt (EH (qf (bV 1) (qf (bV 0) qD)) ⟨rfl⟩) [none,some 2] ⟨rfl⟩) 1 [true,false,true] ⟨rfl⟩) [true] ⟨rfl⟩) (qhO 1))) QS) (QQ (XJ (qmk ["row","column","slant","back","step"] (qf (EH (qf (qN 0) (qf (qN 1) qD)) ⟨rfl⟩) (qf (EH (qf (qN 1) (qf (qN 0) qD)) ⟨rfl⟩) (qf (EH (qf (qN 1) (qf (qN 1) qD)) ⟨rfl⟩) (qf (EH (qf (qN 1) (qf (qhn (qN 1)) qD)) ⟨rfl⟩) (qf (bSl (bV 0) (bSp (qN 1)) (bSp (qN 3))) qD))))) (bO zq (bV 0) (qN 0))) (W6 2 (qW (gN 3) (qW (gN 4) W7))) [true] ⟨rfl⟩) (Q9 (bLc (LZ (qf (bO zq (bV 0) (qhn (qN 1))) qD)) (gN 0) bTt (EH (qf (bO (opC QP (· * ·)) (bV 0) (bV 1)) (qf (bO (opC QP (· * ·)) (bV 0) (bV 2)) qD)) ⟨rfl⟩) [none,some 3,some 4] ⟨rfl⟩)))))
def zy : List PyData → Option PyData := Pu.run zz.f 1 5 1000000000 true
theorem KA : Rd (PSp zy true) 1 (Bk.JQ) ZV := qT zz ZV 1 1000000000 true
theorem SS {x0 : PyData} : zy [x0] = JU true (zz.f 1000000000 [.sh x0,.un,.un,.un,.un]) := id rfl
def ZQ : PuS (K22.YR (PSp (fun _ => none) false)) := (QQ (sIf (bTb (bO (qmX false) (bO zq (bV 0) (qN 0)) (EH (qf (C1 "skew") (qf (C1 "rests") qD)) ⟨rfl⟩))) (Q9 (bSl (bV 0) (bSp (qN 1)) (bSp (qN 4)))) QS) (QQ (sIf (bTb (bO (X6 false) (bO zq (bV 0) (qN 0)) (C1 "bits"))) (QQ (qag (qcR (qf (qN 1) (qf (qN 2) (qf (qN 4) (qf (qN 8) (qf (qN 16) (qf (qN 32) qD)))))) ⟨rfl⟩) 1 [] ⟨rfl⟩) (Q9 (EH (qf (bO zq (bV 1) (bO zq (bV 0) (qN 1))) (qf (bO zq (bV 1) (bO zq (bV 0) (qN 2))) (qf (bO zq (bV 1) (qz qcn (qf (bO zq (bV 0) (qN 3)) qD))) qD))) ⟨rfl⟩))) QS) (QQ (sIf (bTb (bO (X6 false) (bO zq (bV 0) (qN 0)) (C1 "table"))) (Q9 (EH (qf (qz qcn (qf (bO zq (bV 0) (qN 2)) qD)) (qf (qz qcn (qf (bO zq (bO zq (bV 0) (qN 2)) (qN 0)) qD)) (qf (bO zq (bV 0) (qN 1)) qD))) ⟨rfl⟩)) QS) (QQ (qn3 (qf (qz (qZ (fun _ => none) false) (qf (bO zq (bV 0) (qN 1)) qD)) (qf (qz (qZ (fun _ => none) false) (qf (bO zq (bV 0) (qN 2)) qD)) qD)) 2 3 [true] ⟨rfl⟩) (Q9 (qz qmL (qf (bLc (qpb (qf (bV 2) (qf (bV 3) qD))) (W6 2 (qW (gN 0) (qW (gN 1) W7))) bTt (bO (opC QP (· * ·)) (bV 0) (bV 1)) [none,none] ⟨rfl⟩) qD)))))))
def zl : List PyData → Option PyData := Pu.run ZQ.f 1 4 1000000000 false
theorem LF : Rd (PSp zl false) 1 (K22.YR (PSp (fun _ => none) false)) Y5 := qT ZQ Y5 1 1000000000 false
theorem LJ {x0 : PyData} : zl [x0] = JU false (ZQ.f 1000000000 [.sh x0,.un,.un,.un]) := id rfl
def QU : PuS (Bk.QX (PSp zl false) (PSp zy true)) := (QQ (XJ (qz (qZ zl false) (qf (bV 0) qD)) (W6 3 (qW (gN 2) (qW (gN 3) (qW (gN 4) W7)))) [true] ⟨rfl⟩) (QQ (qag (qz (qZ zy true) (qf (bV 1) qD)) 5 [false,true] ⟨rfl⟩) (QQ (qn3 (qf (bLc (qal (bV 5)) (W6 2 (qW (gN 0) (qW (gN 1) W7))) bTt (bV 0) [none,none] ⟨rfl⟩) (qf (bLc (qal (bV 5)) (W6 2 (qW (gN 0) (qW (gN 1) W7))) bTt (bV 1) [none,none] ⟨rfl⟩) qD)) 6 7 [false,false,false,false,false,true] ⟨rfl⟩) (QQ (qag (qcR qD ⟨rfl⟩) 8 [] ⟨rfl⟩) (QQ (qgB (LZ (qf (qhn (qz qaD (qf (bV 6) qD))) (qf (bO (opI (· - ·)) (bV 2) (qz qcc (qf (bV 6) qD))) qD))) (gN 9) (qoL (bLc (LZ (qf (qhn (qz qaD (qf (bV 7) qD))) (qf (bO (opI (· - ·)) (bV 3) (qz qcc (qf (bV 7) qD))) qD))) (gN 0) bTt (EH (qf (bV 1) (qf (bV 0) qD)) ⟨rfl⟩) [none,some 9] ⟨rfl⟩) 8 [false,false,false,true,false,false,false,true,false,true] ⟨rfl⟩) [false,false,true,false,false,false,true] ⟨rfl⟩) (qhO 8))))))
def zo : List PyData → Option PyData := Pu.run QU.f 2 10 1000000000 true
theorem SD : Rd (PSp zo true) 2 (Bk.QX (PSp zl false) (PSp zy true)) Q1 := qT QU Q1 2 1000000000 true
theorem CL {x0 x1 : PyData} : zo [x0,x1] = JU true (QU.f 1000000000 [.sh x0,.sh x1,.un,.un,.un,.un,.un,.un,.un,.un]) := id rfl
def Q6 : PuS (K22.Q5) := (Q9 (qz qmM (qf (bLc (qdz (qf (bV 0) qD)) (W6 2 (qW (gN 0) (qW (gN 1) W7))) bTt (bO (qmX true) (bV 1) (bSl (bV 2) bNp (bSp (bV 0)))) [none,none,some 0] ⟨rfl⟩) qD)))
def zp : List PyData → Option PyData := Pu.run Q6.f 1 1 1000000000 false
theorem R0 : Rd (PSp zp false) 1 (K22.Q5) QY := qT Q6 QY 1 1000000000 false
theorem CN {x0 : PyData} : zp [x0] = JU false (Q6.f 1000000000 [.sh x0]) := id rfl
def zL : PuS (K22.zK) := (QQ (qgB (qdz (qf (bV 0) qD)) (W6 2 (qW (gN 1) (qW (gN 2) W7))) (sIf (bTb (bO (qmX false) (bV 2) (bSl (bV 0) (bSp (bO UB (bV 1) (qN 1))) bNp))) (Q9 (EH (qf (bV 1) (qf (bO UB (bO UB (bV 1) (qN 1)) (qoP (bSl (bV 0) (bSp (bO UB (bV 1) (qN 1))) bNp) (qf (bV 2) qD))) qD)) ⟨rfl⟩)) QS) [true] ⟨rfl⟩) (Q9 (EH qD ⟨rfl⟩)))
def qF : List PyData → Option PyData := Pu.run zL.f 1 3 1000000000 false
theorem UY : Rd (PSp qF false) 1 (K22.zK) zi := qT zL zi 1 1000000000 false
theorem UV {x0 : PyData} : qF [x0] = JU false (zL.f 1000000000 [.sh x0,.un,.un]) := id rfl
def qoI (S_law_plain : Sp3) (S_law_walk : Sp3) (S_law_starts : Sp3) (S_rests_of : Sp3) (S_law_unlike : Sp3) (S_clear_starts : Sp3) (S_law_same : Sp3) (S_law_first_alike : Sp3) (S_clash : Sp3) : TS3 := (qM (zm (cb3 S_law_plain (qc (v3 2) qj)) (gn3 3)) (RK (jO (qc (c3 (.int 3)) qj)) (gn3 4) (qM (zm (cb3 S_law_walk (qc (v3 2) qj)) (gn3 5)) (qM (zm (cb3 S_law_starts (qc (v3 3) (qc (v3 5) qj))) (gn3 6)) (qM (zm (cb3 XC (qc (cb3 S_rests_of (qc (v3 3) (qc (v3 5) qj))) qj)) (gn3 7)) (qM (zm (cb3 S_law_unlike (qc (v3 7) qj)) (gn3 8)) (qM (jq (N8 (tb3 (cb3 S_law_same (qc (cb3 S_clear_starts (qc (v3 3) (qc (v3 5) qj))) (qc (if3 (tb3 (v3 8)) (v3 6) (VF qj)) qj))))) (qR (c3 (.bl false))) qL) (qM (zm (c3 .non) (gn3 9)) (qM (jq (qgg (N8 (tb3 (v3 8))) (tb3 (o3 (jQ true) (v3 6) (VF qj)))) (zm (o3 z9 (jr (qc (o3 ix3 (v3 6) (c3 (.int 0))) qj)) (cb3 S_law_first_alike (qc (v3 7) qj))) (gn3 9)) qL) (jq (N8 (tb3 (cb3 S_law_same (qc (cb3 S_clash (qc (v3 3) (qc (v3 5) qj))) (qc (v3 9) qj))))) (qR (c3 (.bl false))) qL))))))))))
def RB := ((qaf (qcp (eDr qhP (aOf qD)) 5 [] ⟨rfl⟩ ⟨rfl⟩) (qaf (qcp (eOf (qz (qZ zo true) (qf (bV 3) (qf (bV 5) qD)))) 6 [false,false,false,true,false,true] ⟨rfl⟩ ⟨rfl⟩) (qaf (qcp (eOf (qz qke (qf (qz (qZ Pv.zV false) (qf (bV 3) (qf (bV 5) qD))) qD))) 7 [false,false,false,true,false,true] ⟨rfl⟩ ⟨rfl⟩) (qaf (qcp (eOf (qz (qZ zp false) (qf (bV 7) qD))) 8 [false,false,false,false,false,false,false,true] ⟨rfl⟩ ⟨rfl⟩) (qaf (wIf (cOf (qhS (bTb (qz (qgt 4) (qf (qz (qZ qU true) (qf (bV 3) (qf (bV 5) qD))) (qf (bIf (bTb (bV 8)) (bV 6) (qcR qD ⟨rfl⟩)) qD)))))) (qku (eOf (bBl false))) qdd) (qaf (qcp (eOf qhd) 9 [] ⟨rfl⟩ ⟨rfl⟩) (qaf (wIf (cOf (qo5 (qhS (bTb (bV 8))) (bTb (bO (X6 true) (bV 6) (qcR qD ⟨rfl⟩))))) (qcp (eOf (bO UB (EH (qf (bO zq (bV 6) (qN 0)) qD) ⟨rfl⟩) (qz (qZ qF false) (qf (bV 7) qD)))) 9 [false,false,false,false,false,false,true,true] ⟨rfl⟩ ⟨rfl⟩) qdd) (wIf (cOf (qhS (bTb (qz (qgt 4) (qf (qz (qZ J5 false) (qf (bV 3) (qf (bV 5) qD))) (qf (bV 9) qD)))))) (qku (eOf (bBl false))) qdd)))))))) : PwS 2 _)
def qc8 : PwS 2 (qoI (DSp jv.W false) Bk.JD (PSp zo true) (PSp Pv.zV false) (PSp zp false) (PSp qU true) (Bk.jw 5) (PSp qF false) (PSp J5 false)) := (qaf (qcp (eDr (dSp jv false) (aOf qD)) 3 [] ⟨rfl⟩ ⟨rfl⟩) (qpe (iOf (LZ (qf (qN 3) qD))) (gN 4) RB [] ⟨rfl⟩ ⟨rfl⟩))
theorem qlp (h : ∀ k : Nat,k ≤ 60 → qc8.w [.un,.sh (.int k),.un,.un,.un,.un,.un,.un,.un,.un] 0 okW) : Rd CJ 1 (K22.qhy Bk.JG (DSp jv.W false) Bk.JD (PSp zo true) (PSp Pv.zV false) (PSp zp false) (PSp qU true) (Bk.jw 5) (PSp qF false) (PSp J5 false)) qau := qdA qc8 qau 5 7 ⟨by decide,by decide⟩ rfl h
end K22
namespace K22
open PySem L2 L3 Pu Pv
open Bk (Wk Dl Dr ji zS)
theorem s1 : ZU "int" "int" = true := rfl
theorem s2 : ZU "int" "bool" = false := rfl
theorem s3 : ZU "tuple" "tuple" = true := rfl
theorem t2 : ((1 + 1 : Nat) : Int) = 2 := rfl
theorem qnp {i : Int} : ze [.int i] = some (.bool true) := by
 rw [TX]
 try simp only [Pu.pwA,JN,s1,s2]
theorem qkq {p : Int × Int} : zk [pD p] = some (.bool true) := by
 rw [NJ]
 try simp only [Pu.pwA,UF,pD,s3,t2,qnp]
def inT (d : Dl) (p : Int × Int) : Prop := (0 ≤ p.1∧p.1 < d.R)∧(0 ≤ p.2∧p.2 < d.C)
theorem qmT {d : Dl} (hp : Pl d) : d.dep < 1 := by cases d <;> simp [Pl] at hp <;> simp [Dl.dep]
theorem qm7 {d : Dl} {p : Int × Int} (hp : Pl d) (ok : d.Ok) (h : inT d p) : jK [dlD d,pD p] = some (.bool true) := by
 obtain ⟨⟨h1,h2⟩,h3,h4⟩ := h
 have e := qkq (p := p)
 rw [NC]
 simp only [pD] at e
 try simp only [Pu.pwA,UG,pD,e,qiZ d 1 (qmT hp) ok,szD,h1,h2,h3,h4]
theorem qpZ {d : Dl} {p : Int × Int} (hp : Pl d) (ok : d.Ok) (h : inT d p) : zf [dlD d,pD p] = some (.int (p.1 * d.C + p.2)) := by
 obtain ⟨⟨h1,h2⟩,h3,h4⟩ := h
 have l := Dl.lims ok
 have := l.r1;have := l.r2;have := l.c1;have := l.c2
 rw [TW]
 try simp (disch := omega) only [Pu.pwA,Z8,pD,qiZ d 1 (qmT hp) ok,szD,U7]
def bk (d : Dl) (p : Int × Int) : Int := (fA d * p.1 + fB d * p.2) % d.B
theorem qpR {d : Dl} {p : Int × Int} (hp : Pl d) (ok : d.Ok) (h : inT d p) : jD [dlD d,pD p] = some (.int (bk d p)) := by
 have no := qpZ hp ok h
 obtain ⟨⟨h1,h2⟩,h3,h4⟩ := h
 have l := Dl.lims ok
 have := l.r1;have := l.r2;have := l.c1;have := l.c2
 have f := qgx hp ok
 rw [N9]
 cases d with
 | skew r c b x y =>
  simp only [fA,fB,Dl.B,Dl.R,Dl.C,bk] at *
  try simp (disch := omega) only [Pu.pwA,YG,dlD,pD,eq_self,U7,qch]
 | rests r c b q =>
  simp only [fA,fB,Dl.B,Dl.R,Dl.C,bk] at *
  simp only [dlD,pD] at no
  try simp (disch := omega) only [Pu.pwA,YG,dlD,pD,eq_self,L3.R7,no,qch]
  rw [Int.one_mul,Int.mul_comm]
 | _ => simp [Pl] at hp
def sh (s : Int × Int) (cs : List (Int × Int)) : List (Int × Int) := cs.map fun p => (s.1 + p.1,s.2 + p.2)
theorem qoY {w : Wk} {s : Int × Int} (ok : Big w) : zh [Wk.d w,pD s] = some (.list ((sh s w.pc).map pD)) := by
 have hl := WS ok
 rw [N4]
 try simp only [Pu.pwA,UX,Y8 ok]
 rw [QJ (ds := w.pc.map pD) (fs := (sh s w.pc).map pD)]
 ·try simp only [Pu.pwA]
 ·try simp only [Pu.pwA,Y8 ok]
 ·rw [sh,List.map_map]
  refine zN fun p hp => ?_
  try simp only [Pu.pwA,JT,pD,Function.comp_def]
 ·simp [sh];omega
theorem qn7 {d : Dl} {w : Wk} {s : Int × Int} (hp : Pl d) (okd : d.Ok) (ok : Big w) (h : ∀ q ∈ sh s w.pc,inT d q) : zX [dlD d,Wk.d w,pD s] = some (.bool true) := by
 have hl := WS ok
 rw [LC]
 try simp only [Pu.pwA,YT,qkq]
 rw [QJ (ds := (sh s w.pc).map pD) (fs := ((sh s w.pc).map fun _ => true).map PyData.bool)]
 ·try simp only [Pu.pwA,MZ]
  simp
 ·try simp only [Pu.pwA,qoY ok]
 ·rw [List.map_map]
  refine zN fun q hq => ?_
  try simp only [Pu.pwA,JT,qm7 hp okd (h q hq),Function.comp_def]
 ·simp [sh];omega
theorem qpK {d : Dl} {w : Wk} {s : Int × Int} (hp : Pl d) (okd : d.Ok) (ok : Big w) (h : ∀ q ∈ sh s w.pc,inT d q) : zY [dlD d,Wk.d w,pD s] = some (.list ((sh s w.pc).map pD)) := by
 rw [LQ]
 try simp only [Pu.pwA,VC,qn7 hp okd ok h,qoY ok]
def bks (d : Dl) (s : Int × Int) (cs : List (Int × Int)) : List Int := (sh s cs).map (bk d)
theorem qpA {d : Dl} {w : Wk} {s : Int × Int} (hp : Pl d) (okd : d.Ok) (ok : Big w) (h : ∀ q ∈ sh s w.pc,inT d q) : qx [dlD d,Wk.d w,pD s] = some (.list ((bks d s w.pc).map PyData.int)) := by
 have hl := WS ok
 rw [R6]
 try simp only [Pu.pwA,Q4]
 rw [QJ (ds := (sh s w.pc).map pD) (fs := (bks d s w.pc).map PyData.int)]
 ·try simp only [Pu.pwA]
 ·try simp only [Pu.pwA,qpK hp okd ok h]
 ·rw [bks,List.map_map]
  refine zN fun q hq => ?_
  try simp only [Pu.pwA,JT,qpR hp okd (h q hq),Function.comp_def]
 ·simp [bks,sh];omega
end K22
namespace K22
open PySem L2 L3 Pu Pv
open Bk (Wk Dl Dr ji zS faO Fst Un2 zU jB)
theorem TC {ns ms : List Int} (hl : ns.length = ms.length) (h : ∀ i j,i < ns.length → j < ns.length → (ns[i]? = ns[j]? ↔ ms[i]? = ms[j]?)) {i j : Nat} (F : Fst ns i j) : Fst ms i j := by
 obtain ⟨a,b,c,d,e⟩ := F
 refine ⟨a,by omega,fun x y hx hxy hy => ?_,fun y hy hyj => ?_,?_⟩
 ·rw [← hl] at hy
  exact fun z => c x y hx hxy hy ((h x y (by omega) hy).mpr z)
 ·exact fun z => d y hy hyj ((h i y (by omega) (by omega)).mpr z)
 ·exact (h i j (by omega) b).mp e
theorem qaB {ns ms : List Int} (hl : ns.length = ms.length) (h : ∀ i j,i < ns.length → j < ns.length → (ns[i]? = ns[j]? ↔ ms[i]? = ms[j]?)) : faO ns = faO ms := by
 by_cases c : ∃ ij : Nat × Nat,Fst ns ij.1 ij.2
 ·obtain ⟨⟨i,j⟩,F⟩ := c
  rw [zU F,zU (TC hl h F)]
 ·have c' : ¬ ∃ ij : Nat × Nat,Fst ms ij.1 ij.2 := fun ⟨ij,F⟩ => c ⟨ij,TC hl.symm (fun i j hi hj => (h i j (by omega) (by omega)).symm) F⟩
  unfold Bk.faO
  rw [dif_neg c,dif_neg c']
theorem T4 {B c x y : Int} (hB : 0 < B) : ((c + x) % B = (c + y) % B) ↔ (x % B = y % B) := by
 constructor
 ·intro h
  have := Int.emod_eq_emod_iff_emod_sub_eq_zero.mp h
  rw [show c + x - (c + y) = x - y by omega] at this
  exact Int.emod_eq_emod_iff_emod_sub_eq_zero.mpr this
 ·intro h
  rw [Int.add_emod,h,← Int.add_emod]
theorem qj5 {d : Dl} {s : Int × Int} {cs : List (Int × Int)} (hB : 0 < d.B) : faO (bks d s cs) = faO (rst d.B (fA d) (fB d) cs) := by
 have g : ∀ i (hi : i < cs.length),(bks d s cs)[i]? = some ((fA d * s.1 + fB d * s.2 + (fA d * cs[i].1 + fB d * cs[i].2)) % d.B)∧(rst d.B (fA d) (fB d) cs)[i]? = some ((fA d * cs[i].1 + fB d * cs[i].2) % d.B) := fun i hi => by
  constructor
  ·rw [bks,sh,List.map_map,List.getElem?_map,List.getElem?_eq_getElem hi,Option.map_some]
   simp only [bk,Function.comp_def]
   congr 2
   rw [Int.mul_add,Int.mul_add];omega
  ·rw [rst,List.getElem?_map,List.getElem?_eq_getElem hi,Option.map_some]
 refine qaB (by simp [bks,sh,rst]) fun i j hi hj => ?_
 have hi' : i < cs.length := by simpa [bks,sh] using hi
 have hj' : j < cs.length := by simpa [bks,sh] using hj
 rw [(g i hi').1,(g j hj').1,(g i hi').2,(g j hj').2,Option.some.injEq,Option.some.injEq]
 exact T4 hB
theorem qoo {R C : Int} {cs : List (Int × Int)} {s : Int × Int} (h : s ∈ stI R C cs) {p : Int × Int} (hp : p ∈ cs) : (0 ≤ s.1 + p.1∧s.1 + p.1 < R)∧(0 ≤ s.2 + p.2∧s.2 + p.2 < C) := by
 obtain ⟨i,hi,h⟩ := List.mem_flatMap.mp h
 obtain ⟨j,hj,rfl⟩ := List.mem_map.mp h
 have a := ME hi
 have b := ME hj
 have m1 := N7 (show p.1 ∈ dn cs from List.mem_map.mpr ⟨p,hp,rfl⟩)
 have m2 := qde (show p.1 ∈ dn cs from List.mem_map.mpr ⟨p,hp,rfl⟩)
 have m3 := N7 (show p.2 ∈ al cs from List.mem_map.mpr ⟨p,hp,rfl⟩)
 have m4 := qde (show p.2 ∈ al cs from List.mem_map.mpr ⟨p,hp,rfl⟩)
 simp only
 omega
theorem qoe {d : Dl} {cs : List (Int × Int)} {s : Int × Int} (h : s ∈ stI d.R d.C cs) : ∀ q ∈ sh s cs,inT d q := fun q hq => by
 obtain ⟨p,hp,rfl⟩ := List.mem_map.mp hq
 exact qoo h hp
theorem qjn {d : Dl} {w : Wk} {s : Int × Int} (hp : Pl d) (okd : d.Ok) (ok : Big w) (h : s ∈ stI d.R d.C w.pc) : (qx [dlD d,Wk.d w,pD s]).bind (fun x => qt [x]) = some (faD (rst d.B (fA d) (fB d) w.pc)) := by
 have hl := WS ok
 rw [qpA hp okd ok (qoe h),Option.bind_some,qjJ (by simp [bks,sh];omega)]
 have := qj5 (d := d) (s := s) (cs := w.pc) (by have := (Dl.lims okd).b1;omega)
 unfold faD
 rw [this]
def clD (d : Dl) (w : Wk) : PyData := match faO (rst d.B (fA d) (fB d) w.pc),stI d.R d.C w.pc with
 | some (i,j),s :: _ => .tuple [pD s,.int i,.int j]
 | _,_ => .none
theorem qpw {d : Dl} {w : Wk} (hp : Pl d) (okd : d.Ok) (ok : Big w) (hc : Cb w.pc) : J5 [dlD d,Wk.d w] = some (clD d w) := by
 have l := Dl.lims okd
 rw [qdu]
 try simp only [Pu.pwA,RJ,qpn (qmT hp) okd ok hc]
 have tn : ∀ s ∈ stI d.R d.C w.pc,∃ bs,qx [dlD d,Wk.d w,pD s] = some bs∧qt [bs] = some (faD (rst d.B (fA d) (fB d) w.pc)) := fun s hs => Option.bind_eq_some_iff.mp (qjn hp okd ok hs)
 cases e : faO (rst d.B (fA d) (fB d) w.pc) with
 | none =>
  have ed : clD d w = .none := by unfold clD;rw [e]
  have ef : faD (rst d.B (fA d) (fB d) w.pc) = .none := by unfold faD;rw [e]
  rw [ed]
  refine CO (Q := fun o => JU false o = _) (stI d.R d.C w.pc) (fun _ ρ => ∃ s2 s3,ρ = [.sh (dlD d),.sh (Wk.d w),s2,s3]) ⟨_,_,rfl⟩ ?_ ?_
  ·rintro i s ρ hx ⟨s2,s3,rfl⟩
   obtain ⟨bs,e1,e2⟩ := tn s (List.mem_of_getElem? hx)
   rw [ef] at e2
   try simp only [Pu.pwA,e1,e2]
   exact ⟨_,_,rfl⟩
  ·rintro ρ ⟨s2,s3,rfl⟩
   try simp only [Pu.pwA]
 | some ij =>
  obtain ⟨i,j⟩ := ij
  have ef : faD (rst d.B (fA d) (fB d) w.pc) = .tuple [.int i,.int j] := by unfold faD;rw [e]
  cases est : stI d.R d.C w.pc with
  | nil =>
   have ed : clD d w = .none := by unfold clD;rw [e,est]
   rw [ed]
   try simp only [Pu.pwA,List.map_nil,X0]
  | cons s ss =>
   have ed : clD d w = .tuple [pD s,.int i,.int j] := by unfold clD;rw [e,est]
   rw [ed]
   obtain ⟨bs,e1,e2⟩ := tn s (by rw [est];simp)
   rw [ef] at e2
   try simp only [Pu.pwA,List.map_cons,X0,e1,e2]
def csD (d : Dl) (w : Wk) : List (Int × Int) := if (faO (rst d.B (fA d) (fB d) w.pc)).isNone then stI d.R d.C w.pc else []
theorem qpJ {d : Dl} {w : Wk} (hp : Pl d) (okd : d.Ok) (ok : Big w) (hc : Cb w.pc) : qU [dlD d,Wk.d w] = some (.list ((csD d w).map pD)) := by
 have l := Dl.lims okd
 have sl := qbo (R := d.R) (C := d.C) hc l.r2 l.c2
 rw [W4]
 try simp only [Pu.pwA,jz]
 have tn : ∀ s ∈ stI d.R d.C w.pc,∃ bs,qx [dlD d,Wk.d w,pD s] = some bs∧qt [bs] = some (faD (rst d.B (fA d) (fB d) w.pc)) := fun s hs => Option.bind_eq_some_iff.mp (qjn hp okd ok hs)
 have ef : csD d w = (stI d.R d.C w.pc).filter fun _ => (faO (rst d.B (fA d) (fB d) w.pc)).isNone := by
  unfold csD
  cases (faO (rst d.B (fA d) (fB d) w.pc)).isNone with
  | true => rw [if_pos rfl];exact (List.filter_eq_self.mpr fun _ _ => rfl).symm
  | false => simp
 rw [QJ (ds := (stI d.R d.C w.pc).map pD) (fs := (csD d w).map pD)]
 ·try simp only [Pu.pwA]
 ·try simp only [Pu.pwA,qpn (qmT hp) okd ok hc]
 ·rw [ef]
  refine NU fun s hs => ?_
  obtain ⟨bs,e1,e2⟩ := tn s hs
  cases e : faO (rst d.B (fA d) (fB d) w.pc) with
  | none =>
   have : faD (rst d.B (fA d) (fB d) w.pc) = .none := by unfold faD;rw [e]
   rw [this] at e2
   try simp only [Pu.pwA,JT,e1,e2,Option.isNone_none]
  | some ij =>
   have : faD (rst d.B (fA d) (fB d) w.pc) = .tuple [.int ij.1,.int ij.2] := by unfold faD;rw [e]
   rw [this] at e2
   try simp only [Pu.pwA,JT,e1,e2,Option.isNone_some]
 ·rw [ef,List.length_map]
  exact Nat.le_trans (List.length_filter_le _ _) sl
end K22
namespace K22
open PySem L2 L3 Pu Pv
open Bk (Wk Dl Dr ji zS YL lnD lnA faO Fst Un2 zU jB)
theorem qcd {i : Nat} {es ds : List PyData} {ρ : Rho} (h : slot ρ i = some ds) (hl : ds.length + es.length ≤ 16777216) : qk5 i (.list es) ρ = some (.nx (ρ.set i (.ow (ds ++ es)))) := by unfold qk5;rw [h];simp only [Option.bind_some];exact zC hl
theorem qgk {s : Str} {m : Int} : slD (.tuple [.str s,.int m]) (some 1) (some 3) = some (.tuple [.int m]) := D7 (by simp [HT.sIx])
theorem qgj {s : Str} {u v m : Int} : slD (.tuple [.str s,.int u,.int v,.int m]) (some 1) (some 3) = some (.tuple [.int u,.int v]) := D7 (by simp [HT.sIx])
theorem qn9 {x y : PyData} : L2.atI [x,y] (-1) = some y := rfl
theorem qns {x y z w : PyData} : L2.atI [x,y,z,w] (-1) = some w := rfl
theorem qpP {w : Wk} (ok : Big w) : zy [Wk.d w] = some (.list (w.pc.map pD)) := by
 rw [SS]
 cases w with
 | cells ps =>
  try simp only [Pu.pwA,zz,Wk.d,eq_self,Wk.pc]
 | block h v =>
  obtain ⟨h1,h2⟩ := ok
  try simp (disch := omega) only [Pu.pwA,zz,Wk.d,eq_self,L3.VI,Wk.pc,qcr,Int.toNat_natCast]
  rw [Option.bind_assoc]
  refine CO (Q := fun o => JU true o = _) (QR 0 h) (fun i ρ => ∃ s2 s3 s4,ρ = [.sh (Wk.d (.block h v)),.ow ((zS i v).map pD),s2,s3,s4]) ⟨_,_,_,rfl⟩ ?_ ?_
  ·rintro i x ρ hx ⟨s2,s3,s4,rfl⟩
   obtain ⟨hi,rfl⟩ := VB hx
   try simp only [Pu.pwA,Wk.d]
   rw [QJ (ds := (QR 0 v).map PyData.int) (fs := ((List.range v).map fun (q : Nat) => ((i : Int),(q : Int))).map pD)]
   rotate_left
   ·try simp (disch := omega) only [Pu.pwA,qcr,Int.toNat_natCast]
   ·unfold QR
    rw [List.map_map,List.map_map]
    refine zN fun q hq => ?_
    try simp only [Pu.pwA,JT,pD,Int.zero_add,Function.comp_def]
   ·simp;omega
   try simp only [Pu.pwA]
   rw [qcd (ds := (zS i v).map pD) rfl (by
    have := Nat.mul_le_mul (show i ≤ 1000 by omega) h2
    rw [List.length_map,Bk.V9,List.length_map,List.length_map,List.length_range];omega)]
   try simp only [Pu.pwA]
   rw [Bk.CH,List.map_append]
   exact ⟨_,_,_,rfl⟩
  ·rintro ρ ⟨s2,s3,s4,rfl⟩
   rw [ZY]
   try simp only [Pu.pwA]
 | step d a m =>
  obtain ⟨h1,h2,h3⟩ := ok
  have e5 : qc1 ["row","column","slant","back","step"] [.tuple [.int 0,.int 1],.tuple [.int 1,.int 0],.tuple [.int 1,.int 1],.tuple [.int 1,.int (-1)],.tuple [.int d,.int a]] "step" = some (.tuple [.int d,.int a]) := rfl
  try simp only [Pu.pwA,zz,Wk.d,L3.V6,L3.UE,Wk.pc,qgj,e5]
  rw [QJ (ds := (QR 0 m).map PyData.int) (fs := (ji d a m).map pD)]
  ·try simp only [Pu.pwA]
  ·try simp (disch := omega) only [Pu.pwA,qns,qcr,Int.toNat_natCast]
  ·unfold ji QR
   rw [List.map_map,List.map_map]
   refine zN fun t ht => ?_
   have := List.mem_range.mp ht
   try simp (disch := omega) only [Pu.pwA,JT,pD,U7,Int.zero_add,Function.comp_def]
  ·simp [ji];omega
 | line k m =>
  obtain ⟨h1,h2⟩ := ok
  have key : ∀ (d a : Int),(-1000 ≤ d∧d ≤ 1000) → (-1000 ≤ a∧a ≤ 1000) → ∀ s : Str,Str.ofString "cells" ≠ s → Str.ofString "block" ≠ s → qc1 ["row","column","slant","back","step"] [.tuple [.int 0,.int 1],.tuple [.int 1,.int 0],.tuple [.int 1,.int 1],.tuple [.int 1,.int (-1)],.tuple [.int (m : Int)]] s = some (.tuple [.int d,.int a]) → JU true (zz.f 1000000000 [.sh (.tuple [.str s,.int (m : Int)]),.un,.un,.un,.un]) = some (.list ((ji d a m).map pD)) := by
   intro d a hd ha s n1 n2 e5
   have n1' : ¬ s = Str.ofString "cells" := fun z => n1 z.symm
   have n2' : ¬ s = Str.ofString "block" := fun z => n2 z.symm
   try simp only [Pu.pwA,zz,n1',n2',qgk,e5]
   rw [QJ (ds := (QR 0 m).map PyData.int) (fs := (ji d a m).map pD)]
   ·try simp only [Pu.pwA]
   ·try simp (disch := omega) only [Pu.pwA,qn9,qcr,Int.toNat_natCast]
   ·unfold ji QR
    rw [List.map_map,List.map_map]
    refine zN fun t ht => ?_
    have := List.mem_range.mp ht
    try simp (disch := omega) only [Pu.pwA,JT,pD,U7,Int.zero_add,Function.comp_def]
   ·simp [ji];omega
  have : (k = 0 ∨ k = 1 ∨ k = 2 ∨ k = 3) := by omega
  rcases this with rfl | rfl | rfl | rfl
  ·exact key 0 1 (by omega) (by omega) "row" (by decide) (by decide) rfl
  ·exact key 1 0 (by omega) (by omega) "column" (by decide) (by decide) rfl
  ·exact key 1 1 (by omega) (by omega) "slant" (by decide) (by decide) rfl
  ·exact key 1 (-1) (by omega) (by omega) "back" (by decide) (by decide) rfl
theorem NB {s : Str} (h : s = Str.ofString "skew" ∨ s = Str.ofString "rests") : inD false (.str s) (.tuple [.str "skew",.str "rests"]) = some (.bool true) := by
 refine (zC (by simp [TH])).trans ?_
 rcases h with rfl | rfl <;> rfl
theorem qi0 {i j : Nat} {m : List Bool} {x y : List PyData} {ρ : Rho} : qmS i j m [.list x,.list y] ρ = some (.nx (((dm m ρ).set i (.sh (.list x))).set j (.sh (.list y)))) := id rfl
theorem qoC {d : Dl} (hp : Pl d) : zl [dlD d] = some (szD d) := by
 rw [LJ]
 cases d with
 | skew r c b x y =>
  have c1 : slD (.tuple [.str "skew",.int r,.int c,.int b,.int x,.int y]) (some 1) (some 4) = some (.tuple [.int r,.int c,.int b]) := D7 (by simp [HT.sIx])
  try simp only [Pu.pwA,ZQ,dlD,NB (.inl rfl),c1,szD,Dl.R,Dl.C,Dl.B]
 | rests r c b q =>
  have c1 : slD (.tuple [.str "rests",.int r,.int c,.int b,.int q]) (some 1) (some 4) = some (.tuple [.int r,.int c,.int b]) := D7 (by simp [HT.sIx])
  try simp only [Pu.pwA,ZQ,dlD,NB (.inr rfl),c1,szD,Dl.R,Dl.C,Dl.B]
 | _ => simp [Pl] at hp
theorem qog {d : Dl} {w : Wk} (hp : Pl d) (okd : d.Ok) (ok : Big w) (hc : Cb w.pc) : zo [dlD d,Wk.d w] = some (.list ((stI d.R d.C w.pc).map pD)) := by
 have hl := WS ok
 have l := Dl.lims okd
 have := l.r1;have := l.r2;have := l.c1;have := l.c2
 obtain ⟨⟨h1,h2,h3⟩,⟨h4,h5,h6⟩⟩ := hc.lim
 rw [CL]
 try simp only [Pu.pwA,QU,qoC hp,szD,qpP ok]
 rw [QJ (ds := w.pc.map pD) (fs := (dn w.pc).map PyData.int) rfl (by
  rw [dn,List.map_map]
  refine zN fun p hp => ?_
  try simp only [Pu.pwA,JT,pD,Function.comp_def]) (by simp [dn];omega)]
 try simp only [Pu.pwA]
 rw [QJ (ds := w.pc.map pD) (fs := (al w.pc).map PyData.int) rfl (by
  rw [al,List.map_map]
  refine zN fun p hp => ?_
  try simp only [Pu.pwA,JT,pD,Function.comp_def]) (by simp [al];omega)]
 try simp only [Pu.pwA]
 have n1 : dn w.pc ≠ [] := by simp [dn,hc.ne]
 have n2 : al w.pc ≠ [] := by simp [al,hc.ne]
 try simp (disch := omega) only [Pu.pwA,qi0,qdq n1,qdh n1,qhp]
 have row : ∀ i : Int,(QR (-(mn (al w.pc))) (d.C - mx (al w.pc) - -(mn (al w.pc))).toNat).length ≤ 4096 := fun i => by rw [ZY];omega
 have rows : (QR (-(mn (dn w.pc))) (d.R - mx (dn w.pc) - -(mn (dn w.pc))).toNat).length ≤ 4096 := by rw [ZY];omega
 have fl : ∀ i,(((QR (-(mn (dn w.pc))) (d.R - mx (dn w.pc) - -(mn (dn w.pc))).toNat).take i).flatMap fun i => (QR (-(mn (al w.pc))) (d.C - mx (al w.pc) - -(mn (al w.pc))).toNat).map fun j => (i,j)).length ≤ i * 4096 := fun i => by
  rw [R4]
  exact Nat.mul_le_mul (by rw [List.length_take];omega) (row 0)
 refine CO (Q := fun o => JU true o = _) (QR (-(mn (dn w.pc))) (d.R - mx (dn w.pc) - -(mn (dn w.pc))).toNat) (fun i ρ => ∃ s9,ρ = [.sh (dlD d),.sh (Wk.d w),.sh (.int d.R),.sh (.int d.C),.sh (.int d.B),.sh (.list (w.pc.map pD)),.sh (.list ((dn w.pc).map PyData.int)),.sh (.list ((al w.pc).map PyData.int)),.ow ((((QR (-(mn (dn w.pc))) (d.R - mx (dn w.pc) - -(mn (dn w.pc))).toNat).take i).flatMap fun i => (QR (-(mn (al w.pc))) (d.C - mx (al w.pc) - -(mn (al w.pc))).toNat).map fun j => (i,j)).map pD),s9]) ⟨_,rfl⟩ ?_ ?_
 ·rintro i x ρ hx ⟨s9,rfl⟩
  have hi := (List.getElem?_eq_some_iff.mp hx).1
  try simp only [Pu.pwA]
  rw [QJ (ds := (QR (-(mn (al w.pc))) (d.C - mx (al w.pc) - -(mn (al w.pc))).toNat).map PyData.int) (fs := ((QR (-(mn (al w.pc))) (d.C - mx (al w.pc) - -(mn (al w.pc))).toNat).map fun j => (x,j)).map pD)]
  rotate_left
  ·try simp (disch := omega) only [Pu.pwA,qdq n2,qdh n2,qhp]
  ·rw [List.map_map]
   refine zN fun q hq => ?_
   try simp only [Pu.pwA,JT,pD,Function.comp_def]
  ·rw [List.length_map,List.length_map];have := row 0;omega
  try simp only [Pu.pwA]
  rw [qcd rfl (by
   rw [List.length_map,List.length_map,List.length_map]
   have a := fl i;have b := row 0
   have := Nat.mul_le_mul (show i ≤ 4095 by omega) (Nat.le_refl 4096)
   omega)]
  try simp only [Pu.pwA]
  rw [List.take_add_one,hx,Option.toList_some,List.flatMap_append,List.map_append]
  exact ⟨.sh (.int x),by simp⟩
 ·rintro ρ ⟨s9,rfl⟩
  rw [List.take_length]
  try simp only [Pu.pwA]
  rfl
theorem qid {n : Nat} {Q : QD} (hn : n < 900000) (h : ∀ r c b x y : Int,(1 ≤ r∧r ≤ 16) → (1 ≤ c∧c ≤ 16) → (1 ≤ b∧b ≤ 32) → (0 ≤ x∧x ≤ 99) → (0 ≤ y∧y ≤ 99) → Q (dlD (.skew r c b x y)) (n + 9)) : j2.W [] n Q := by
 rw [KK]
 refine ⟨rfl,?_⟩
 unfold Y4
 refine V8 fun Y1 h1 => ?_
 try simp only [Pu.pwA]
 refine ⟨by omega,fun r c hr hc => ?_⟩
 try simp only [Pu.pwA]
 rw [h1]
 refine V8 fun Y2 h2 => ?_
 try simp only [Pu.pwA]
 refine ⟨by omega,by omega,fun d h0 h1 => ?_⟩
 refine qbZ (ks := [8,8,17,32]) h0 (by simpa using h1) fun k hk => ?_
 have hk2 : 8 ≤ k∧k ≤ 32 := by simp at hk;omega
 try simp only [Pu.pwA]
 refine ⟨by omega,by omega,fun b b0 b1 => ?_⟩
 try simp only [Pu.pwA]
 rw [h2]
 refine V8 fun Y3 h3 => ?_
 try simp only [Pu.pwA]
 refine ⟨by omega,by omega,fun e e0 e1 => ?_⟩
 refine qbZ (ks := [1 + b,10,100]) e0 (by simpa using e1) fun w hw => ?_
 have hw2 : 1 ≤ w∧w ≤ 100 := by simp at hw;omega
 try simp only [Pu.pwA]
 rw [h3]
 try simp only [Pu.pwA]
 refine ⟨by omega,by omega,fun x x0 x1 => ?_⟩
 try simp only [Pu.pwA]
 refine ⟨by omega,by omega,fun y y0 y1 => ?_⟩
 try simp only [Pu.pwA]
 exact ⟨_,by omega,h r c (1 + b) x y hr hc (by omega) (by omega) (by omega)⟩
def P99 : Dl → Prop
 | .skew _ _ _ x y => x ≤ 99∧y ≤ 99
 | .rests .. => True
 | _ => False
theorem p99 {d : Dl} (h : P99 d) : Pl d := by cases d <;> simp [P99] at h <;> trivial
theorem qhb {n : Nat} {Q : QD} (hn : n < 800000) (h : ∀ d : Dl,P99 d → Dr d 16 16 32 → Q (dlD d) (n + 11)) : jv.W [] n Q := by
 rw [SO]
 refine ⟨rfl,?_⟩
 try simp only [Pu.pwA,ZT]
 refine ⟨by omega,by omega,fun d h0 h1 => ?_⟩
 by_cases e : d = 0
 ·try simp only [Pu.pwA,e]
  exact ⟨by omega,fun r c b p D => ⟨_,by omega,h (.rests r c b p) trivial D⟩⟩
 ·try simp only [Pu.pwA,e]
  refine qid (by omega) fun r c b x y hr hc hb hx hy => ⟨_,by omega,h (.skew r c b x y) ⟨hx.2,hy.2⟩ ⟨?_,hr.2,hc.2,hb.2⟩⟩
  simp only [Dl.Ok]
  omega
end K22
namespace K22
open PySem L2 L3 Pu Pv
open Bk (Wk Dl Dr ji zS YL lnD lnA faO Fst Un2 zU jB E7)
theorem KT {neg : Bool} {n : Int} {ms : List Int} : inD neg (.int n) (.list (ms.map PyData.int)) = some (.bool (if neg then !(ms.any (· == n)) else ms.any (· == n))) := by
 refine (zC ⟨rfl,by simp [TH]⟩).trans ?_
 rw [List.any_map]
 rfl
theorem qiu {ns : List Int} {k : Nat} : SF (ns.map PyData.int) none (some (k : Int)) = (ns.take k).map PyData.int := by
 unfold SF
 rw [HT.qb5,HT.MD,List.drop_zero,Nat.sub_zero,List.map_take,List.take_eq_take_iff]
 omega
theorem MF {ns : List Int} {k : Nat} : SF (ns.map PyData.int) (some (k : Int)) none = (ns.drop k).map PyData.int := by
 unfold SF
 rw [HT.qb5,HT.MD,List.take_of_length_le (by simp)]
 rw [List.map_drop]
 by_cases h : k ≤ ns.length
 ·rw [List.length_map,Nat.min_eq_left h]
 ·rw [List.length_map,Nat.min_eq_right (by omega),List.drop_eq_nil_of_le (by simp),List.drop_eq_nil_of_le (by simp;omega)]
theorem qgh {xs : List PyData} {lo hi : Option Int} : slD (.list xs) lo hi = some (.list (SF xs lo hi)) := id rfl
theorem qpE {ns : List Int} (hl : ns.length ≤ 1000000) : zp [.list (ns.map PyData.int)] = some (.bool (unB ns)) := by
 rw [CN]
 try simp only [Pu.pwA,Q6]
 rw [QJ (ds := (ns.zipIdx 0).map fun p => PyData.tuple [.int (p.2 : Int),.int p.1]) (fs := ((ns.zipIdx 0).map fun p => !((ns.take p.2).any (· == p.1))).map PyData.bool)]
 rotate_left
 ·try simp only [Pu.pwA,qbN]
 ·rw [List.map_map]
  refine zN fun p hp => ?_
  try simp only [Pu.pwA,JT,qgh,qiu,KT,Function.comp_def]
 ·simp;omega
 try simp only [Pu.pwA,MZ]
 congr 2
 rw [Bool.eq_iff_iff,qgi,List.all_map,List.all_eq_true]
 constructor
 ·intro h a b ha hab hb e
  have := h (ns[b],b) (by rw [List.mem_iff_getElem?];exact ⟨b,by rw [List.getElem?_zipIdx,List.getElem?_eq_getElem hb];simp⟩)
  simp only [id,Function.comp_def,Bool.not_eq_true',List.any_eq_false,beq_iff_eq] at this
  have ha' : a < ns.length := by omega
  rw [List.getElem?_eq_getElem ha',List.getElem?_eq_getElem hb,Option.some.injEq] at e
  exact this (ns[a]) (by rw [List.mem_iff_getElem?];exact ⟨a,by rw [List.getElem?_take,if_pos hab,List.getElem?_eq_getElem ha']⟩) e
 ·rintro h ⟨x,k⟩ hm
  obtain ⟨i,hi⟩ := List.mem_iff_getElem?.mp hm
  obtain ⟨h1,rfl,h3⟩ := X3 hi
  simp only [id,Function.comp_def,Bool.not_eq_true',List.any_eq_false,beq_iff_eq]
  intro y hy e
  subst e
  obtain ⟨a,ha⟩ := List.mem_iff_getElem?.mp hy
  rw [List.getElem?_take] at ha
  split at ha
  ·rename_i lt
   exact h a k (by omega) lt h3 (by rw [ha,h1])
  ·cases ha
theorem T5 {x : Int} : ∀ (l : List Int) (n : Nat),l[n]? = some x → (∀ a,a < n → l[a]? ≠ some x) → List.idxOf x l = n
 | [],n,h,_ => by simp at h
 | y :: l,0,h,_ => by
  simp at h;subst h
  exact List.idxOf_cons_self
 | y :: l,n + 1,h,hn => by
  have : y ≠ x := fun e => hn 0 (by omega) (by simp [e])
  rw [List.idxOf_cons,show (y == x) = false from by simpa using this]
  exact congrArg (· + 1) (T5 l n (by simpa using h) fun a ha => by have := hn (a + 1) (by omega);simpa using this)
theorem qev : ∀ {ms : List Int},(∀ m ∈ ms,0 ≤ m∧m < 1048576) → PyData.weightAll (ms.map PyData.int) ≤ ms.length * 21
 | [],_ => by simp [PyData.weightAll]
 | m :: ms,h => by
  have ih := qev (ms := ms) fun x hx => h x (by simp [hx])
  have hm := h m (by simp)
  have : PyData.weight (.int m) ≤ 20 := by
   simp only [PyData.weight]
   split
   ·omega
   ·have := log2_lt (n := m.natAbs) (k := 20) (by omega) (by decide);omega
  simp only [List.map_cons,PyData.weightAll,List.length_cons]
  omega
theorem qnJ {ms : List Int} {k : Int} (hk : k ∈ ms) (hb : ∀ m ∈ ms,0 ≤ m∧m < 1048576) (hl : ms.length ≤ 1000) : qja (.list (ms.map PyData.int)) [.int k] = some (.int (List.idxOf k ms : Nat)) := by
 unfold qja
 simp only [WB,Option.bind_some]
 refine zC ⟨?_,hk⟩
 have w := qev hb
 simp only [PyData.layable0,PyData.canLay0,PyProof.Rows.canLayAll_ints,PyData.depth,PyProof.Rows.depthAll_ints,PyData.weight,Bool.true_and,Bool.and_eq_true,decide_eq_true_eq]
 exact ⟨by decide,decide_eq_true (Nat.le_trans w (Nat.le_trans (Nat.mul_le_mul_right 21 hl) (show 1000 * 21 ≤ 2 ^ 20 by decide)))⟩
theorem qnz {ns : List Int} {i j : Nat} (hb : ∀ m ∈ ns,0 ≤ m∧m < 1048576) (hl : ns.length ≤ 1000) (F : Fst ns i j) : qF [.list (ns.map PyData.int)] = some (.tuple [.int i,.int j]) := by
 have ij := F.ij
 have jl := F.jl
 have hi : i < ns.length := by omega
 rw [UV]
 try simp only [Pu.pwA,zL,qbN]
 refine qb6 (Q := fun o => JU false o = _) (ns.zipIdx 0) i (ns[i],i) (.tuple [.int i,.int j]) false (by rw [List.getElem?_zipIdx,List.getElem?_eq_getElem hi];simp) (fun _ ρ => ∃ s1 s2,ρ = [.sh (.list (ns.map PyData.int)),s1,s2]) ⟨_,_,rfl⟩ ?_ ?_ ?_
 ·rintro k ⟨x,n⟩ ρ hk hx ⟨s1,s2,rfl⟩
  obtain ⟨h1,rfl,h3⟩ := X3 hx
  have e : SF (ns.map PyData.int) (some ((n : Int) + 1)) none = (ns.drop (n + 1)).map PyData.int := MF (k := n + 1)
  have ea : (ns.drop (n + 1)).any (· == x) = false := by
   rw [List.any_eq_false]
   intro y hy z
   rw [beq_iff_eq] at z
   subst z
   obtain ⟨a,ha⟩ := List.mem_iff_getElem?.mp hy
   rw [List.getElem?_drop] at ha
   exact F.un n (n + 1 + a) hk (by omega) (List.getElem?_eq_some_iff.mp ha).1 (by rw [h1,ha])
  try simp only [Pu.pwA,qgh,e,KT,ea]
  exact ⟨_,_,rfl⟩
 ·rintro ρ ⟨s1,s2,rfl⟩
  have e : SF (ns.map PyData.int) (some ((i : Int) + 1)) none = (ns.drop (i + 1)).map PyData.int := MF (k := i + 1)
  have ej : (ns.drop (i + 1))[j - (i + 1)]? = some ns[i] := by
   rw [List.getElem?_drop,show i + 1 + (j - (i + 1)) = j by omega,← F.eq,List.getElem?_eq_getElem hi]
  have em : ns[i] ∈ ns.drop (i + 1) := List.mem_of_getElem? ej
  have ea : (ns.drop (i + 1)).any (· == ns[i]) = true := by
   rw [List.any_eq_true];exact ⟨_,em,beq_self_eq_true _⟩
  have ei : List.idxOf ns[i] (ns.drop (i + 1)) = j - (i + 1) := T5 _ _ ej fun a ha z => by
   rw [List.getElem?_drop] at z
   exact F.nb (i + 1 + a) (by omega) (by omega) (by rw [z,List.getElem?_eq_getElem hi])
  have ix := qnJ em (fun m hm => hb m (List.mem_of_mem_drop hm)) (by rw [List.length_drop];omega)
  rw [ei] at ix
  try simp only [Pu.pwA,qgh,e,KT,ea,ix]
  rw [show ((i : Int) + 1 + ((j - (i + 1) : Nat) : Int)) = (j : Int) by omega]
 ·try simp only [Pu.pwA]
end K22
namespace K22
open PySem L2 L3 Pu Pv
open Bk (Wk Dl Dr ji zS YL lnD lnA faO Fst Un2 zU jB E7)
theorem RH {t : Nat} {u : Int} (h : t ≤ 16) (hu : -16 ≤ u∧u ≤ 16) : -256 ≤ (t : Int) * u∧(t : Int) * u ≤ 256 := by
 have a : (t : Int) * u ≤ (t : Int) * 16 := Int.mul_le_mul_of_nonneg_left hu.2 (Int.natCast_nonneg _)
 have b : (t : Int) * (-16) ≤ (t : Int) * u := Int.mul_le_mul_of_nonneg_left hu.1 (Int.natCast_nonneg _)
 omega
theorem qoq {w : Wk} (ok : w.Ok) : Cb w.pc := by
 have h := Bk.qfw ok
 refine ⟨fun e => by rw [e] at h;simp at h,fun p hp => ?_⟩
 cases w with
 | cells ps => have := ok.2.2.2 p hp;omega
 | block h v =>
  obtain ⟨i,hi,hq⟩ := List.mem_flatMap.mp hp
  obtain ⟨j,hj,rfl⟩ := List.mem_map.mp hq
  have := List.mem_range.mp hi
  have := List.mem_range.mp hj
  obtain ⟨_,_,h3,h4,_⟩ := ok
  simp only;omega
 | step u v m =>
  obtain ⟨t,ht,rfl⟩ := List.mem_map.mp hp
  have := List.mem_range.mp ht
  obtain ⟨h1,h2,h3,h4⟩ := ok
  have b1 := RH (t := t) (u := u) (by omega) h1
  have b2 := RH (t := t) (u := v) (by omega) h2
  simp only;omega
 | line k m =>
  obtain ⟨t,ht,rfl⟩ := List.mem_map.mp hp
  have := List.mem_range.mp ht
  obtain ⟨h1,h2,h3⟩ := ok
  have b0 : (-16 ≤ Bk.lnD k∧Bk.lnD k ≤ 16)∧(-16 ≤ Bk.lnA k∧Bk.lnA k ≤ 16) := by
   match k,h1 with
   | 0,_ => decide
   | 1,_ => decide
   | 2,_ => decide
   | 3,_ => decide
  have b1 := RH (t := t) (u := Bk.lnD k) (by omega) b0.1
  have b2 := RH (t := t) (u := Bk.lnA k) (by omega) b0.2
  simp only;omega
theorem qga {ns : List Int} {i j : Nat} (h : faO ns = some (i,j)) : Fst ns i j := by
 unfold Bk.faO at h
 split at h
 ·rename_i c
  have := c.choose_spec
  rw [Option.some.inj h] at this
  exact this
 ·cases h
theorem qib {cs : List (Int × Int)} (h : cs.length ≤ 1000000) : Bk.JZ 4 (.list (cs.map pD)) := by
 refine ⟨by simpa using h,fun d hd => ?_⟩
 obtain ⟨p,_,rfl⟩ := List.mem_map.mp hd
 simp [pD,Bk.JZ]
theorem qbH {n : Bool} {ps : List (Int × Int)} : eqD n (.list (ps.map pD)) (.list []) = some (.bool (if n then !decide (ps = []) else decide (ps = []))) := by
 have dp : ∀ ps : List (Int × Int),qcS (ps.map pD) ≤ 1 := fun ps => by
  induction ps with
  | nil => simp [qcS]
  | cons p ps ih => simp only [List.map_cons,qcS,pD,dpt];omega
 have h : qcF (.list (ps.map pD)) (.list []) = none := rfl
 unfold eqD
 rw [h]
 simp only
 rw [zC (by have := dp ps;simp only [dpt];omega)]
 cases ps <;> simp [ZP,VZ]
theorem qkP : ∀ k : Nat,k ≤ 60 → qc8.w [.un,.sh (.int k),.un,.un,.un,.un,.un,.un,.un,.un] 0 okW := by
 intro k hk
 unfold qc8
 refine V8 fun Y1 h1 => ?_
 try simp only [Pu.pwA]
 refine qhb (by omega) fun d h99 D => ?_
 have hp := p99 h99
 have ok := D.ok
 have hR := D.r2;have hC := D.c2;have hB := D.b2
 have lm := Dl.lims ok
 try simp only [Pu.pwA]
 rw [h1]
 try simp (disch := omega) only [Pu.pwA,qcr]
 refine qc4 (QR 0 (3 : Int).toNat) RB.mn (fun i ρ n => n ≤ 100 + 100 * i∧∃ s4 s5 s6 s7 s8 s9,ρ = [.un,.sh (.int k),.un,.sh (dlD d),s4,s5,s6,s7,s8,s9]) ⟨by omega,_,_,_,_,_,_,rfl⟩ ?_ ?_
 ·rintro i x ρ n hx ⟨hn,s4,s5,s6,s7,s8,s9,rfl⟩
  have hi := (List.getElem?_eq_some_iff.mp hx).1
  have hi' : i < 3 := hi
  refine ⟨_,rfl,?_⟩
  unfold RB
  refine V8 fun Z1 g1 => ?_
  try simp only [Pu.pwA]
  refine ⟨by omega,fun w hw => ?_⟩
  have big := qkZ hw
  have cb := qoq hw
  have pl := Bk.qfw hw
  have fr := qgx hp ok
  try simp only [Pu.pwA]
  rw [g1]
  refine V8 fun Z2 g2 => ?_
  try simp only [Pu.pwA,qog hp ok big cb]
  rw [g2]
  refine V8 fun Z3 g3 => ?_
  try simp only [Pu.pwA,qpV hp ok big]
  rw [g3]
  refine V8 fun Z4 g4 => ?_
  generalize hrs : rst d.B (fA d) (fB d) w.pc = rs
  have rl : rs.length = w.pc.length := by rw [← hrs,qhi]
  try simp only [Pu.pwA,qpE (ns := rs) (by omega)]
  rw [g4]
  have dst : Bk.JZ 4 (.list ((stI d.R d.C w.pc).map pD)) := qib (by
   have : (stI d.R d.C w.pc).length ≤ 4096 := by
    unfold Pv.stI
    obtain ⟨⟨l1,l2,l3⟩,⟨l4,l5,l6⟩⟩ := cb.lim
    rw [R4,ZY,ZY]
    exact Nat.le_trans (Nat.mul_le_mul (show _ ≤ 64 by omega) (show _ ≤ 64 by omega)) (by decide)
   omega)
  have fin : ∀ {s6 s7 s8 s9 : Sl},n + 60 ≤ 100 + 100 * (i + 1)∧∃ t4 t5 t6 t7 t8 t9,[Sl.un,.sh (.int k),.un,.sh (dlD d),.sh (.int x),.sh (Wk.d w),s6,s7,s8,s9] = [Sl.un,.sh (.int k),.un,.sh (dlD d),t4,t5,t6,t7,t8,t9] := fun {_ _ _ _} => ⟨by omega,_,_,_,_,_,_,rfl⟩
  have cl := qpw hp ok big cb
  have cs := qpJ hp ok big cb
  unfold clD at cl
  unfold csD at cs
  rw [hrs] at cl cs
  cases e : faO rs with
  | none =>
   have eu : unB rs = true := by unfold unB;rw [e];rfl
   rw [e] at cl cs
   simp only [Option.isNone_none,if_true] at cs
   refine V8 fun Z5 g5 => ?_
   try simp only [Pu.pwA,eu,cs,WJ (n := 4) dst]
   rw [g5]
   refine V8 fun Z6 g6 => ?_
   try simp only [Pu.pwA]
   rw [g6]
   refine V8 fun Z7 g7 => ?_
   try simp only [Pu.pwA]
   rw [g7]
   try simp only [Pu.pwA,cl,WJ (n := 4) (d := .none) (by simp [Bk.JZ])]
   exact fin
  | some ij =>
   obtain ⟨a,b⟩ := ij
   have eu : unB rs = false := by unfold unB;rw [e];rfl
   rw [e] at cl cs
   simp only [Option.isNone_some,Bool.false_eq_true,if_false,List.map_nil] at cs
   have F : Fst rs a b := qga e
   have rb : ∀ m ∈ rs,0 ≤ m∧m < 1048576 := fun m hm => by
    rw [← hrs] at hm
    obtain ⟨p,_,rfl⟩ := List.mem_map.mp hm
    have b1 := fr.2.2.1;have b2 := fr.2.2.2
    exact ⟨Int.emod_nonneg _ (by omega),Int.lt_of_lt_of_le (Int.emod_lt_of_pos _ (by omega)) (by omega)⟩
   have lfa := qnz (ns := rs) rb (by omega) F
   refine V8 fun Z5 g5 => ?_
   try simp only [Pu.pwA,eu,cs,WJ (n := 4) (d := .list []) (by simp [Bk.JZ])]
   rw [g5]
   refine V8 fun Z6 g6 => ?_
   try simp only [Pu.pwA]
   rw [g6]
   refine V8 fun Z7 g7 => ?_
   cases es : stI d.R d.C w.pc with
   | nil =>
    rw [es] at cl
    have e0 := qbH (n := true) (ps := [])
    simp only [List.map_nil] at e0
    try simp only [Pu.pwA,List.map_nil,e0]
    rw [g7]
    try simp only [Pu.pwA,cl,WJ (n := 4) (d := .none) (by simp [Bk.JZ])]
    exact fin
   | cons s0 ss =>
    rw [es] at cl
    have e0 := qbH (n := true) (ps := s0 :: ss)
    have e1 : L2.atI ((s0 :: ss).map pD) 0 = some (pD s0) := by rw [show (0 : Int) = ((0 : Nat) : Int) from rfl,atN (by simp)];rfl
    have e2 : qie (.tuple [pD s0]) (.tuple [.int a,.int b]) = some (.tuple [pD s0,.int a,.int b]) := zC (by rw [sizeLine_eq];simp)
    try simp only [Pu.pwA,e0,e1,lfa,e2]
    rw [g7]
    try simp only [Pu.pwA,cl,WJ (n := 4) (d := .tuple [pD s0,.int a,.int b]) (by simp [Bk.JZ,pD])]
    exact fin
 ·rintro ρ n ⟨hn,s4,s5,s6,s7,s8,s9,rfl⟩
  try simp only [Pu.pwA]
end K22
namespace K22
open PySem L2 L3 Bk
abbrev qkG : Env := { scope := PySem.Challenge.pw_bankwalk_k22_rests_tell_all.main.scope,locals := mainNs,globals := mainNs,cells := [],code := .ref 13,frame := some 14 }
abbrev qbl : List Stmt := PySem.W.behindTheImports PySem.Challenge.pw_bankwalk_k22_rests_tell_all
abbrev RF : Code := .body qbl qkG
abbrev qj6 : List Frame := [PySem.W.topFrame ⟨0,0,0,0⟩]
def qS : Obj := Hd.oT []
def jp : Obj := ⟨.none,none,.fields #[],#[]⟩
def qmR : Obj := Hd.oC [.str "<module>" 182,.str "<module>" 183,.str "/claim/cut.py" 184,.int (1) 0,.int (0) 0,.int (0) 0,.int (0) 0,.int (0) 0,.ref 11,.bool false,.int (181) 0,.ref 12,.none,.none,.none,.none,.int (185) 0,.int (1) 0,.str "/claim/cut.py" 186]
def qmZ : Obj := ⟨.type "frame",none,.plain,#[some (.ref 13),some (.ref 3),some (.ref 3),none,some (.str "__main__" 164),none,some (.ref 0)]⟩
def qjq (P : Params) : Heap := ⟨Array.mk [PySem.W.boot_o_0 P,PySem.W.boot_o_1 P,PySem.W.boot_o_2 P,PySem.W.boot_o_3 P,PySem.W.boot_o_4 P,PySem.W.boot_o_5 P,PySem.W.boot_o_6 P,PySem.W.boot_o_7 P,PySem.W.boot_o_8 P,PySem.W.boot_o_9 P,PySem.W.boot_o_10 P,qS,jp,qmR,qmZ],{ }⟩
def qij (P : Params) : PySem.W.BT := (Hd.nd (PySem.W.boot_o_0 P) (Hd.nd (PySem.W.boot_o_1 P) (Hd.nd (PySem.W.boot_o_3 P) (Hd.lf (PySem.W.boot_o_7 P)) (Hd.lf qS)) (Hd.nd (PySem.W.boot_o_5 P) (Hd.lf (PySem.W.boot_o_9 P)) (Hd.lf qmR))) (Hd.nd (PySem.W.boot_o_2 P) (Hd.nd (PySem.W.boot_o_4 P) (Hd.lf (PySem.W.boot_o_8 P)) (Hd.lf jp)) (Hd.nd (PySem.W.boot_o_6 P) (Hd.lf (PySem.W.boot_o_10 P)) (Hd.lf qmZ))))
set_option maxRecDepth 100000 in
set_option maxHeartbeats 0 in
theorem qjV (w : World) (os : OsState) : PySem.W.topGo treeTable PySem.Challenge.pw_bankwalk_k22_rests_tell_all w 11 (some (Value.ref 6)) 12 ⟨PySem.W.boot_heap w.params,Array.mk [],PySem.W.boot_drawn,PySem.W.boot_toks,os⟩ (PySem.W.topStub PySem.Challenge.pw_bankwalk_k22_rests_tell_all) = some (⟨qjq w.params,#[],{ },187,os⟩,⟨denote treeTable RF,RF,⟨0,0,0,0⟩,qj6⟩) := by kernel_rfl
set_option maxRecDepth 100000 in
set_option maxHeartbeats 0 in
theorem qi8 (w : World) (os : OsState) : PySem.W.segRun treeTable PySem.Challenge.pw_bankwalk_k22_rests_tell_all w 11 (some (Value.ref 6)) 1 1 ⟨qjq w.params,#[],{ },187,os⟩ (PySem.W.blockOf qbl qkG RF ⟨0,0,0,0⟩ qj6) = some (.next,(⟨qij w.params,15,{ },#[],{ },187,os⟩ : PySem.W.SharedT).abs,RF,⟨0,0,0,0⟩) := by kernel_rfl
def qpL (P : Params) : Obj := Hd.oD P 24 [(.str "__name__" 165,.str "bankwalk.walks" 336),(.str "__doc__" 166,.none),(.str "__package__" 167,.none),(.str "__loader__" 168,.builtin "__main__.__loader__#opaque"),(.str "__spec__" 169,.none),(.str "__annotations__" 170,.ref 6),(.str "__builtins__" 171,.ref 4),(.str "__file__" 173,.str "/claim/cut.py" 172),(.str "__cached__" 174,.none),(.str "is_number" 195,.ref 21),(.str "is_pair" 202,.ref 28),(.str "first_alike" 211,.ref 35),(.str "BankError" 231,.ref 45),(.str "NoStart" 247,.ref 58),(.str "size_of" 263,.ref 67),(.str "number_of" 274,.ref 74),(.str "is_word" 285,.ref 81),(.str "odd_in_common" 295,.ref 88),(.str "bits_bank" 301,.ref 93),(.str "parted" 312,.ref 100),(.str "joined_bank" 326,.ref 107),(.str "bank_in" 335,.ref 114),(.str "STRIDES" 355,.ref 115),(.str "strung" 361,.ref 124)]
def qpO : Obj := ⟨.none,none,.fields #[.int (2) 0,.int (0) 0,.ref 20,.int (4) 0,.int (0) 0,.ref 27,.int (6) 0,.int (0) 0,.ref 34,.int (13) 0,.int (0) 0,.ref 41,.int (15) 0,.int (0) 0,.ref 54,.int (18) 0,.int (0) 0,.ref 66,.int (29) 0,.int (0) 0,.ref 73,.int (32) 0,.int (0) 0,.ref 80,.int (37) 0,.int (0) 0,.ref 87,.int (44) 0,.int (0) 0,.ref 92,.int (46) 0,.int (0) 0,.ref 99,.int (49) 0,.int (0) 0,.ref 106,.int (53) 0,.int (0) 0,.ref 113,.int (66) 0,.int (0) 0,.ref 123],#[]⟩
def qpi : Obj := Hd.oN ZM 192
def qpk : Obj := Hd.oG "is_number" jC
def qnt : Obj := Hd.oK "is_number" 189 2 1 181 15 16 .none (.ref 17) (.ref 18) 19 193 194
def qhA : Obj := Hd.oF "is_number" jC (.str "bankwalk.basics" 187) (.ref 20)
def qjg : Obj := Hd.oN ZM 199
def qit : Obj := Hd.oG "is_pair" ZI
def qgq : Obj := Hd.oK "is_pair" 196 4 1 181 22 23 .none (.ref 24) (.ref 25) 26 200 201
def qf5 : Obj := Hd.oF "is_pair" ZI (.str "bankwalk.basics" 187) (.ref 27)
def qje : Obj := Hd.oN ZZ 206
def qjN : Obj := Hd.oG "first_alike" zP
def qhI : Obj := Hd.oK "first_alike" 203 6 1 181 29 30 .none (.ref 31) (.ref 32) 33 209 210
def qhq : Obj := Hd.oF "first_alike" zP (.str "bankwalk.basics" 187) (.ref 34)
def qkt : Obj := Hd.oT [.type "ValueError"]
def qcW : Obj := ⟨.type "builtin_function_or_method",none,.fields #[.builtin "type.__prepare__",.type "type"],#[]⟩
def qlX (P : Params) : Obj := Hd.oD P 4 [(.str "__module__" 221,.str "bankwalk.errors" 212),(.str "__qualname__" 223,.str "BankError" 222),(.str "__firstlineno__" 225,.int (13) 224),(.str "__static_attributes__" 226,.ref 43)]
def qmf : Obj := Hd.oC [.str "BankError" 216,.str "BankError" 217,.str "/claim/cut.py" 218,.int (13) 0,.int (0) 0,.int (0) 0,.int (0) 0,.int (0) 0,.ref 39,.bool false,.int (181) 0,.ref 40,.none,.none,.none,.none,.int (219) 0,.int (13) 0,.str "/claim/cut.py" 220]
def qkB : Obj := ⟨.type "frame",none,.plain,#[some (.ref 41),some (.ref 3),some (.ref 38),none,some (.str "bankwalk.errors" 212),none,some (.ref 0)]⟩
def qjF (P : Params) : Obj := Hd.oD P 3 [(.str "__module__" 221,.str "bankwalk.errors" 212),(.str "__firstlineno__" 225,.int (13) 224),(.str "__static_attributes__" 226,.ref 43),(.str "__weakref__" 228,.ref 46),(.str "__doc__" 229,.none)]
def qlU : Obj := ⟨.type "type",none,.cls ({ name := Str.ofString "BankError",bases := [Value.type "ValueError"],  mro :=     [Value.ref 45,Value.type "ValueError",Value.type "Exception",Value.type "BaseException",Value.type "object"],  ns := 44,qualname := Str.ofString "BankError",subclasses := [Value.ref 58] }),#[some (.ref 36),none,some (.str "BankError" 214),some (.str "BankError" 222),some (.builtin "ValueError.__new__"),some (.bool true)]⟩
def qlV : Obj := ⟨.type "getset_descriptor",none,.fields #[.str "__weakref__" 227,.ref 45,.builtin "ExceptionGroup.__weakref__",.none],#[]⟩
def qlj : Obj := ⟨.type "super",none,.fields #[.ref 45,.ref 45,.ref 45],#[]⟩
def qkn : Obj := ⟨.type "builtin_function_or_method",none,.fields #[.builtin "object.__init_subclass__",.ref 45],#[]⟩
def qkl : Obj := Hd.oT [.ref 45]
def qjv (P : Params) : Obj := Hd.oD P 4 [(.str "__module__" 239,.str "bankwalk.errors" 212),(.str "__qualname__" 241,.str "NoStart" 240),(.str "__firstlineno__" 243,.int (15) 242),(.str "__static_attributes__" 244,.ref 56)]
def qmt : Obj := Hd.oC [.str "NoStart" 234,.str "NoStart" 235,.str "/claim/cut.py" 236,.int (15) 0,.int (0) 0,.int (0) 0,.int (0) 0,.int (0) 0,.ref 52,.bool false,.int (181) 0,.ref 53,.none,.none,.none,.none,.int (237) 0,.int (15) 0,.str "/claim/cut.py" 238]
def qk0 : Obj := ⟨.type "frame",none,.plain,#[some (.ref 54),some (.ref 3),some (.ref 51),none,some (.str "bankwalk.errors" 212),none,some (.ref 0)]⟩
def qlo (P : Params) : Obj := Hd.oD P 2 [(.str "__module__" 239,.str "bankwalk.errors" 212),(.str "__firstlineno__" 243,.int (15) 242),(.str "__static_attributes__" 244,.ref 56),(.str "__doc__" 245,.none)]
def qiR : Obj := ⟨.type "type",none,.cls ({ name := Str.ofString "NoStart",bases := [Value.ref 45],  mro :=     [Value.ref 58,Value.ref 45,Value.type "ValueError",Value.type "Exception",Value.type "BaseException",      Value.type "object"],  ns := 57,qualname := Str.ofString "NoStart" }),#[some (.ref 49),none,some (.str "NoStart" 232),some (.str "NoStart" 240),some (.builtin "ValueError.__new__"),some (.bool true)]⟩
def qlF : Obj := ⟨.type "super",none,.fields #[.ref 58,.ref 58,.ref 58],#[]⟩
def qlg : Obj := ⟨.type "builtin_function_or_method",none,.fields #[.builtin "object.__init_subclass__",.ref 58],#[]⟩
def qlL : Obj := Hd.oN DN 253
def qlW : Obj := Hd.oG "size_of" ZS
def qhs : Obj := Hd.oK "size_of" 250 18 1 181 61 62 .none (.ref 63) (.ref 64) 65 261 262
def qhc : Obj := Hd.oF "size_of" ZS (.str "bankwalk.dealings" 248) (.ref 66)
def qkM : Obj := Hd.oN QE 267
def qjl : Obj := Hd.oG "number_of" jE
def qgr : Obj := Hd.oK "number_of" 264 29 2 181 68 69 .none (.ref 70) (.ref 71) 72 272 273
def qhx : Obj := Hd.oF "number_of" jE (.str "bankwalk.dealings" 248) (.ref 73)
def qlc : Obj := Hd.oN JX 278
def qky : Obj := Hd.oG "is_word" ZK
def qgF : Obj := Hd.oK "is_word" 275 32 2 181 75 76 .none (.ref 77) (.ref 78) 79 283 284
def qhe : Obj := Hd.oF "is_word" ZK (.str "bankwalk.dealings" 248) (.ref 80)
def qmp : Obj := Hd.oN W0 289
def qjR : Obj := Hd.oG "odd_in_common" jS
def qhG : Obj := Hd.oK "odd_in_common" 286 37 2 181 82 83 .none (.ref 84) (.ref 85) 86 293 294
def qfZ : Obj := Hd.oF "odd_in_common" jS (.str "bankwalk.dealings" 248) (.ref 87)
def qiU : Obj := Hd.oG "bits_bank" YK
def qg9 : Obj := Hd.oK "bits_bank" 296 44 2 181 89 90 .none .none .none 91 299 300
def qgH : Obj := Hd.oF "bits_bank" YK (.str "bankwalk.dealings" 248) (.ref 92)
def qjI : Obj := Hd.oN qcY 305
def qjp : Obj := Hd.oG "parted" WD
def qgu : Obj := Hd.oK "parted" 302 46 3 181 94 95 .none (.ref 96) (.ref 97) 98 310 311
def qgE : Obj := Hd.oF "parted" WD (.str "bankwalk.dealings" 248) (.ref 99)
def qiM : Obj := Hd.oN CK 316
def qia : Obj := Hd.oG "joined_bank" ZB
def qg1 : Obj := Hd.oK "joined_bank" 313 49 3 181 101 102 .none (.ref 103) (.ref 104) 105 324 325
def qgO : Obj := Hd.oF "joined_bank" ZB (.str "bankwalk.dealings" 248) (.ref 106)
def qkR : Obj := Hd.oN J1 330
def qlw : Obj := Hd.oG "bank_in" ZF
def qgc : Obj := Hd.oK "bank_in" 327 53 2 181 108 109 .none (.ref 110) (.ref 111) 112 333 334
def qf0 : Obj := Hd.oF "bank_in" ZF (.str "bankwalk.dealings" 248) (.ref 113)
def qge (P : Params) : Obj := Hd.oD P 4 [(.str "row" 338,.ref 116),(.str "column" 341,.ref 117),(.str "slant" 344,.ref 118),(.str "back" 347,.ref 119)]
def qgf : Obj := Hd.oT [.int (0) 339,.int (1) 340]
def qgL : Obj := Hd.oT [.int (1) 342,.int (0) 343]
def qgz : Obj := Hd.oT [.int (1) 345,.int (1) 346]
def qgv : Obj := Hd.oT [.int (1) 348,.int (-1) 350]
def qkC : Obj := Hd.oG "strung" YD
def qgQ : Obj := Hd.oK "strung" 356 66 3 181 120 121 .none .none .none 122 359 360
def qgU : Obj := Hd.oF "strung" YD (.str "bankwalk.walks" 336) (.ref 123)
def qlT (P : Params) : PySem.W.BT := (Hd.nd (PySem.W.boot_o_0 P) (Hd.nd (PySem.W.boot_o_1 P) (Hd.nd (qpL P) (Hd.nd (PySem.W.boot_o_7 P) (Hd.nd qS (Hd.nd qje (Hd.lf qlL) (Hd.lf jp)) (Hd.nd qlj (Hd.lf qky) (Hd.lf qS))) (Hd.nd jp (Hd.nd qS (Hd.lf qS) (Hd.lf qiM)) (Hd.nd qk0 (Hd.lf qhG) (Hd.lf qgv)))) (Hd.nd qS (Hd.nd qpk (Hd.nd qhq (Hd.lf qhc) (Hd.lf qgu)) (Hd.nd (qjv P) (Hd.lf jp) (Hd.lf (qge P)))) (Hd.nd qgq (Hd.nd qS (Hd.lf qS) (Hd.lf qgO)) (Hd.nd qlF (Hd.lf qiU) (Hd.lf qgQ))))) (Hd.nd (PySem.W.boot_o_5 P) (Hd.nd (PySem.W.boot_o_9 P) (Hd.nd qpi (Hd.nd qjN (Hd.lf qlW) (Hd.lf qS)) (Hd.nd qkl (Hd.lf qhe) (Hd.lf qgc))) (Hd.nd qS (Hd.nd qmf (Hd.lf qgr) (Hd.lf qia)) (Hd.nd (qlo P) (Hd.lf qS) (Hd.lf jp)))) (Hd.nd qmR (Hd.nd qhA (Hd.nd qcW (Hd.lf jp) (Hd.lf qS)) (Hd.nd jp (Hd.lf qS) (Hd.lf qgL))) (Hd.nd qS (Hd.nd qlU (Hd.lf qlc) (Hd.lf jp)) (Hd.nd qS (Hd.lf qgH) .nil))))) (Hd.nd (PySem.W.boot_o_2 P) (Hd.nd (PySem.W.boot_o_4 P) (Hd.nd (PySem.W.boot_o_8 P) (Hd.nd jp (Hd.nd qS (Hd.lf qS) (Hd.lf qjI)) (Hd.nd qkn (Hd.lf qgF) (Hd.lf qlw))) (Hd.nd qjg (Hd.nd jp (Hd.lf qjl) (Hd.lf qS)) (Hd.nd qS (Hd.lf qfZ) (Hd.lf qS)))) (Hd.nd qpO (Hd.nd qnt (Hd.nd qkt (Hd.lf qS) (Hd.lf qgE)) (Hd.nd qS (Hd.lf qmp) (Hd.lf qgf))) (Hd.nd qf5 (Hd.nd (qjF P) (Hd.lf jp) (Hd.lf qS)) (Hd.nd qlg (Hd.lf qg9) (Hd.lf qgU))))) (Hd.nd (PySem.W.boot_o_6 P) (Hd.nd (PySem.W.boot_o_10 P) (Hd.nd qS (Hd.nd qhI (Hd.lf qhs) (Hd.lf qjp)) (Hd.nd qcW (Hd.lf qS) (Hd.lf qf0))) (Hd.nd qit (Hd.nd qkB (Hd.lf qhx) (Hd.lf qg1)) (Hd.nd qiR (Hd.lf jp) (Hd.lf qkC)))) (Hd.nd qmZ (Hd.nd qS (Hd.nd (qlX P) (Hd.lf qkM) (Hd.lf jp)) (Hd.nd qmt (Hd.lf qjR) (Hd.lf qgz))) (Hd.nd jp (Hd.nd qlV (Hd.lf qS) (Hd.lf qkR)) (Hd.nd jp (Hd.lf qS) .nil))))))
abbrev qeb : List Stmt := (qbl.drop 0).take 19
def qd3 (os : OsState) (w : World) : Prop := PySem.W.segRunT treeTable PySem.Challenge.pw_bankwalk_k22_rests_tell_all w 11 (some (Value.ref 6)) 1 898 (⟨qij w.params,15,{ },#[],{ },187,os⟩ : PySem.W.SharedT) (PySem.W.piecesOf qeb qkG RF ⟨0,0,0,0⟩ qj6) = some (.next,(⟨qlT w.params,125,{ },#[],{ },362,os⟩ : PySem.W.SharedT),RF,⟨66,0,67,55⟩)
set_option maxRecDepth 100000 in
set_option maxHeartbeats 0 in
theorem qj0 (w : World) (os : OsState) : qd3 os w :=
 PySem.W.byRow2 "special-get-raises" (P := qd3 os) (fun w => show _ = _ by kernel_rfl) (fun w => show _ = _ by kernel_rfl) w
def qmo (P : Params) : Obj := Hd.oD P 52 [(.str "__name__" 165,.str "law_bankwalk_k22_rests_tell_all" 442),(.str "__doc__" 166,.none),(.str "__package__" 167,.none),(.str "__loader__" 168,.builtin "__main__.__loader__#opaque"),(.str "__spec__" 169,.none),(.str "__annotations__" 170,.ref 6),(.str "__builtins__" 171,.ref 4),(.str "__file__" 173,.str "/claim/cut.py" 172),(.str "__cached__" 174,.none),(.str "is_number" 195,.ref 21),(.str "is_pair" 202,.ref 28),(.str "first_alike" 211,.ref 35),(.str "BankError" 231,.ref 45),(.str "NoStart" 247,.ref 58),(.str "size_of" 263,.ref 67),(.str "number_of" 274,.ref 74),(.str "is_word" 285,.ref 81),(.str "odd_in_common" 295,.ref 88),(.str "bits_bank" 301,.ref 93),(.str "parted" 312,.ref 100),(.str "joined_bank" 326,.ref 107),(.str "bank_in" 335,.ref 114),(.str "STRIDES" 355,.ref 115),(.str "strung" 361,.ref 124),(.str "cells_of" 367,.ref 129),(.str "starts" 373,.ref 134),(.str "shifted" 379,.ref 139),(.str "is_start" 385,.ref 144),(.str "words_of" 394,.ref 151),(.str "factors_of" 403,.ref 158),(.str "rests_by" 409,.ref 163),(.str "rests_of" 417,.ref 170),(.str "banks_from" 425,.ref 175),(.str "clash" 435,.ref 182),(.str "clear_starts" 441,.ref 187),(.str "_law_mix" 452,.ref 194),(.str "_law_left" 462,.ref 201),(.str "_law_pick" 471,.ref 208),(.str "_law_sides" 481,.ref 215),(.str "_law_gcd" 489,.ref 222),(.str "_law_skew" 500,.ref 229),(.str "_law_rests" 512,.ref 236),(.str "_law_plain" 519,.ref 243),(.str "_law_many" 526,.ref 250),(.str "_law_walk" 543,.ref 257),(.str "_law_cells" 549,.ref 262),(.str "_law_size" 555,.ref 267),(.str "_law_starts" 561,.ref 272),(.str "_law_unlike" 567,.ref 277),(.str "_law_same" 573,.ref 282),(.str "_law_first_alike" 582,.ref 289),(.str "law" 598,.ref 296)]
def qoD : Obj := ⟨.none,none,.fields #[.int (2) 0,.int (0) 0,.ref 20,.int (4) 0,.int (0) 0,.ref 27,.int (6) 0,.int (0) 0,.ref 34,.int (13) 0,.int (0) 0,.ref 41,.int (15) 0,.int (0) 0,.ref 54,.int (18) 0,.int (0) 0,.ref 66,.int (29) 0,.int (0) 0,.ref 73,.int (32) 0,.int (0) 0,.ref 80,.int (37) 0,.int (0) 0,.ref 87,.int (44) 0,.int (0) 0,.ref 92,.int (46) 0,.int (0) 0,.ref 99,.int (49) 0,.int (0) 0,.ref 106,.int (53) 0,.int (0) 0,.ref 113,.int (66) 0,.int (0) 0,.ref 123,.int (68) 0,.int (0) 0,.ref 128,.int (78) 0,.int (0) 0,.ref 133,.int (84) 0,.int (0) 0,.ref 138,.int (86) 0,.int (0) 0,.ref 143,.int (88) 0,.int (0) 0,.ref 150,.int (93) 0,.int (0) 0,.ref 157,.int (97) 0,.int (0) 0,.ref 162,.int (100) 0,.int (0) 0,.ref 169,.int (103) 0,.int (0) 0,.ref 174,.int (105) 0,.int (0) 0,.ref 181,.int (111) 0,.int (0) 0,.ref 186,.int (114) 0,.int (0) 0,.ref 193,.int (117) 0,.int (0) 0,.ref 200,.int (121) 0,.int (0) 0,.ref 207,.int (128) 0,.int (0) 0,.ref 214,.int (132) 0,.int (0) 0,.ref 221,.int (136) 0,.int (0) 0,.ref 228,.int (141) 0,.int (0) 0,.ref 235,.int (149) 0,.int (0) 0,.ref 242,.int (151) 0,.int (0) 0,.ref 249,.int (153) 0,.int (0) 0,.ref 256,.int (172) 0,.int (0) 0,.ref 261,.int (182) 0,.int (0) 0,.ref 266,.int (192) 0,.int (0) 0,.ref 271,.int (200) 0,.int (0) 0,.ref 276,.int (202) 0,.int (0) 0,.ref 281,.int (210) 0,.int (0) 0,.ref 288,.int (215) 0,.int (0) 0,.ref 295],#[]⟩
def qop : Obj := Hd.oG "cells_of" QM
def qkw : Obj := Hd.oK "cells_of" 362 68 1 181 125 126 .none .none .none 127 365 366
def qh6 : Obj := Hd.oF "cells_of" QM (.str "bankwalk.walks" 336) (.ref 128)
def qon : Obj := Hd.oG "starts" YF
def qjd : Obj := Hd.oK "starts" 368 78 2 181 130 131 .none .none .none 132 371 372
def qkX : Obj := Hd.oF "starts" YF (.str "bankwalk.walks" 336) (.ref 133)
def qnM : Obj := Hd.oG "shifted" ZR
def qla : Obj := Hd.oK "shifted" 374 84 2 181 135 136 .none .none .none 137 377 378
def qjB : Obj := Hd.oF "shifted" ZR (.str "bankwalk.walks" 336) (.ref 138)
def qoE : Obj := Hd.oG "is_start" j6
def qio : Obj := Hd.oK "is_start" 380 86 3 181 140 141 .none .none .none 142 383 384
def qjL : Obj := Hd.oF "is_start" j6 (.str "bankwalk.walks" 336) (.ref 143)
def qng : Obj := Hd.oN jI 389
def qnk : Obj := Hd.oG "words_of" QG
def qjU : Obj := Hd.oK "words_of" 386 88 3 181 145 146 .none (.ref 147) (.ref 148) 149 392 393
def qkQ : Obj := Hd.oF "words_of" QG (.str "bankwalk.walks" 336) (.ref 150)
def qnU : Obj := Hd.oN YI 400
def qos : Obj := Hd.oG "factors_of" jo
def qh9 : Obj := Hd.oK "factors_of" 397 93 1 181 152 153 .none (.ref 154) (.ref 155) 156 401 402
def qi4 : Obj := Hd.oF "factors_of" jo (.str "bankwalk.rests" 395) (.ref 157)
def qou : Obj := Hd.oG "rests_by" j3
def qma : Obj := Hd.oK "rests_by" 404 97 3 181 159 160 .none .none .none 161 407 408
def qdS : Obj := Hd.oF "rests_by" j3 (.str "bankwalk.rests" 395) (.ref 162)
def qh2 : Obj := Hd.oN zT 413
def qlz : Obj := Hd.oG "rests_of" j7
def qeV : Obj := Hd.oK "rests_of" 410 100 2 181 164 165 .none (.ref 166) (.ref 167) 168 415 416
def qdN : Obj := Hd.oF "rests_of" j7 (.str "bankwalk.rests" 395) (.ref 169)
def qlv : Obj := Hd.oG "banks_from" ja
def qem : Obj := Hd.oK "banks_from" 420 103 3 181 171 172 .none .none .none 173 423 424
def qeC : Obj := Hd.oF "banks_from" ja (.str "bankwalk.clashes" 418) (.ref 174)
def qmC : Obj := Hd.oN DU 429
def qlm : Obj := Hd.oG "clash" UP
def qd9 : Obj := Hd.oK "clash" 426 105 2 181 176 177 .none (.ref 178) (.ref 179) 180 433 434
def qd5 : Obj := Hd.oF "clash" UP (.str "bankwalk.clashes" 418) (.ref 181)
def qh7 : Obj := Hd.oG "clear_starts" zE
def qfx : Obj := Hd.oK "clear_starts" 436 111 2 181 183 184 .none .none .none 185 439 440
def qd8 : Obj := Hd.oF "clear_starts" zE (.str "bankwalk.clashes" 418) (.ref 186)
def qko : Obj := Hd.oN W1 447
def ql3 : Obj := Hd.oG "_law_mix" ZH
def qfg : Obj := Hd.oK "_law_mix" 444 114 2 181 188 189 .none (.ref 190) (.ref 191) 192 450 451
def qfD : Obj := Hd.oF "_law_mix" ZH (.str "law_bankwalk_k22_rests_tell_all" 442) (.ref 193)
def qjk : Obj := Hd.oN U8 456
def qjQ : Obj := Hd.oG "_law_left" QI
def qeF : Obj := Hd.oK "_law_left" 453 117 2 181 195 196 .none (.ref 197) (.ref 198) 199 460 461
def qfJ : Obj := Hd.oF "_law_left" QI (.str "law_bankwalk_k22_rests_tell_all" 442) (.ref 200)
def qlZ : Obj := Hd.oN EQ 466
def ql9 : Obj := Hd.oG "_law_pick" j8
def qe0 : Obj := Hd.oK "_law_pick" 463 121 2 181 202 203 .none (.ref 204) (.ref 205) 206 469 470
def qfU : Obj := Hd.oF "_law_pick" j8 (.str "law_bankwalk_k22_rests_tell_all" 442) (.ref 207)
def qlk : Obj := Hd.oN VU 475
def qlO : Obj := Hd.oG "_law_sides" jM
def qfG : Obj := Hd.oK "_law_sides" 472 128 1 181 209 210 .none (.ref 211) (.ref 212) 213 479 480
def qe3 : Obj := Hd.oF "_law_sides" jM (.str "law_bankwalk_k22_rests_tell_all" 442) (.ref 214)
def qkm : Obj := Hd.oN WK 485
def qlE : Obj := Hd.oG "_law_gcd" ZO
def qen : Obj := Hd.oK "_law_gcd" 482 132 2 181 216 217 .none (.ref 218) (.ref 219) 220 487 488
def qfk : Obj := Hd.oF "_law_gcd" ZO (.str "law_bankwalk_k22_rests_tell_all" 442) (.ref 221)
def qjC : Obj := Hd.oN ZG 493
def qkd : Obj := Hd.oG "_law_skew" QN
def qfQ : Obj := Hd.oK "_law_skew" 490 136 1 181 223 224 .none (.ref 225) (.ref 226) 227 498 499
def qep : Obj := Hd.oF "_law_skew" QN (.str "law_bankwalk_k22_rests_tell_all" 442) (.ref 228)
def qjt : Obj := Hd.oN VT 504
def qiN : Obj := Hd.oG "_law_rests" jH
def qdY : Obj := Hd.oK "_law_rests" 501 141 1 181 230 231 .none (.ref 232) (.ref 233) 234 510 511
def qdM : Obj := Hd.oF "_law_rests" jH (.str "law_bankwalk_k22_rests_tell_all" 442) (.ref 235)
def qld : Obj := Hd.oN YY 516
def qlC : Obj := Hd.oG "_law_plain" jN
def qdQ : Obj := Hd.oK "_law_plain" 513 149 1 181 237 238 .none (.ref 239) (.ref 240) 241 517 518
def qd7 : Obj := Hd.oF "_law_plain" jN (.str "law_bankwalk_k22_rests_tell_all" 442) (.ref 242)
def qkH : Obj := Hd.oN YY 523
def qmw : Obj := Hd.oG "_law_many" j4
def qdJ : Obj := Hd.oK "_law_many" 520 151 1 181 244 245 .none (.ref 246) (.ref 247) 248 524 525
def qfj : Obj := Hd.oF "_law_many" j4 (.str "law_bankwalk_k22_rests_tell_all" 442) (.ref 249)
def qiC : Obj := Hd.oN U2 530
def qjK : Obj := Hd.oG "_law_walk" j9
def qdI : Obj := Hd.oK "_law_walk" 527 153 1 181 251 252 .none (.ref 253) (.ref 254) 255 541 542
def qeE : Obj := Hd.oF "_law_walk" j9 (.str "law_bankwalk_k22_rests_tell_all" 442) (.ref 256)
def qkV : Obj := Hd.oG "_law_cells" jJ
def qfp : Obj := Hd.oK "_law_cells" 544 172 1 181 258 259 .none .none .none 260 547 548
def qft : Obj := Hd.oF "_law_cells" jJ (.str "law_bankwalk_k22_rests_tell_all" 442) (.ref 261)
def qjZ : Obj := Hd.oG "_law_size" QA
def qef : Obj := Hd.oK "_law_size" 550 182 1 181 263 264 .none .none .none 265 553 554
def qfa : Obj := Hd.oF "_law_size" QA (.str "law_bankwalk_k22_rests_tell_all" 442) (.ref 266)
def ql0 : Obj := Hd.oG "_law_starts" jh
def qeA : Obj := Hd.oK "_law_starts" 556 192 2 181 268 269 .none .none .none 270 559 560
def qeo : Obj := Hd.oF "_law_starts" jh (.str "law_bankwalk_k22_rests_tell_all" 442) (.ref 271)
def qkT : Obj := Hd.oG "_law_unlike" jn
def qea : Obj := Hd.oK "_law_unlike" 562 200 1 181 273 274 .none .none .none 275 565 566
def qfl : Obj := Hd.oF "_law_unlike" jn (.str "law_bankwalk_k22_rests_tell_all" 442) (.ref 276)
def qkA : Obj := Hd.oG "_law_same" QB
def qdG : Obj := Hd.oK "_law_same" 568 202 2 181 278 279 .none .none .none 280 571 572
def qec : Obj := Hd.oF "_law_same" QB (.str "law_bankwalk_k22_rests_tell_all" 442) (.ref 281)
def qjH : Obj := Hd.oN zi 577
def qi7 : Obj := Hd.oG "_law_first_alike" zc
def qfH : Obj := Hd.oK "_law_first_alike" 574 210 1 181 283 284 .none (.ref 285) (.ref 286) 287 580 581
def qff : Obj := Hd.oF "_law_first_alike" zc (.str "law_bankwalk_k22_rests_tell_all" 442) (.ref 288)
def ql1 : Obj := Hd.oN qau 586
def qi2 : Obj := Hd.oG "law" J2
def qeg : Obj := Hd.oK "law" 583 215 1 181 290 291 .none (.ref 292) (.ref 293) 294 596 597
def qeS : Obj := Hd.oF "law" J2 (.str "law_bankwalk_k22_rests_tell_all" 442) (.ref 295)
def qg5 (P : Params) : PySem.W.BT := (Hd.nd (PySem.W.boot_o_0 P) (Hd.nd (PySem.W.boot_o_1 P) (Hd.nd (qmo P) (Hd.nd (PySem.W.boot_o_7 P) (Hd.nd qS (Hd.nd qje (Hd.nd qlL (Hd.nd qop (Hd.lf qjK) .nil) (Hd.lf qS)) (Hd.nd jp (Hd.nd qS (Hd.lf qi7) .nil) (Hd.lf qS))) (Hd.nd qlj (Hd.nd qky (Hd.nd qio (Hd.lf qeA) .nil) (Hd.lf qe0)) (Hd.nd qS (Hd.lf qeC) (Hd.lf qld)))) (Hd.nd jp (Hd.nd qS (Hd.nd qS (Hd.nd qS (Hd.lf qS) .nil) (Hd.lf qjQ)) (Hd.nd qiM (Hd.nd qS (Hd.lf qeg) .nil) (Hd.lf jp))) (Hd.nd qk0 (Hd.nd qhG (Hd.nd qkQ (Hd.lf jp) .nil) (Hd.lf qe3)) (Hd.nd qgv (Hd.lf qS) (Hd.lf qS))))) (Hd.nd qS (Hd.nd qpk (Hd.nd qhq (Hd.nd qhc (Hd.nd jp (Hd.lf jp) .nil) (Hd.lf qS)) (Hd.nd qgu (Hd.nd qdS (Hd.lf jp) .nil) (Hd.lf qkd))) (Hd.nd (qjv P) (Hd.nd jp (Hd.nd qng (Hd.lf qkT) .nil) (Hd.lf qlk)) (Hd.nd (qge P) (Hd.lf qS) (Hd.lf qd7)))) (Hd.nd qgq (Hd.nd qS (Hd.nd qS (Hd.nd qjB (Hd.lf qfa) .nil) (Hd.lf jp)) (Hd.nd qgO (Hd.lf qS) (Hd.lf qdY))) (Hd.nd qlF (Hd.nd qiU (Hd.nd qS (Hd.lf qS) .nil) (Hd.lf qS)) (Hd.nd qgQ (Hd.lf qd8) (Hd.lf qS)))))) (Hd.nd (PySem.W.boot_o_5 P) (Hd.nd (PySem.W.boot_o_9 P) (Hd.nd qpi (Hd.nd qjN (Hd.nd qlW (Hd.nd qh6 (Hd.lf qeE) .nil) (Hd.lf qfg)) (Hd.nd qS (Hd.nd qou (Hd.lf qff) .nil) (Hd.lf qjC))) (Hd.nd qkl (Hd.nd qhe (Hd.nd qS (Hd.lf qS) .nil) (Hd.lf qS)) (Hd.nd qgc (Hd.lf jp) (Hd.lf qlC)))) (Hd.nd qS (Hd.nd qmf (Hd.nd qgr (Hd.nd qnM (Hd.lf qjZ) .nil) (Hd.lf qfJ)) (Hd.nd qia (Hd.lf qeV) (Hd.lf qS))) (Hd.nd (qlo P) (Hd.nd qS (Hd.nd jp (Hd.lf qdG) .nil) (Hd.lf jp)) (Hd.nd jp (Hd.lf qh7) (Hd.lf qdJ))))) (Hd.nd qmR (Hd.nd qhA (Hd.nd qcW (Hd.nd jp (Hd.nd qjd (Hd.lf qfp) .nil) (Hd.lf qjk)) (Hd.nd qS (Hd.nd jp (Hd.lf qS) .nil) (Hd.lf qep))) (Hd.nd jp (Hd.nd qS (Hd.nd qnk (Hd.lf qfl) .nil) (Hd.lf qlO)) (Hd.nd qgL (Hd.lf qd9) (Hd.lf jp)))) (Hd.nd qS (Hd.nd qlU (Hd.nd qlc (Hd.nd jp (Hd.lf jp) .nil) (Hd.lf qS)) (Hd.nd jp (Hd.lf qlv) (Hd.lf qS))) (Hd.nd qS (Hd.nd qgH (Hd.nd qh9 (Hd.lf qjH) .nil) (Hd.lf qen)) (Hd.nd qS (Hd.lf jp) (Hd.lf qiC))))))) (Hd.nd (PySem.W.boot_o_2 P) (Hd.nd (PySem.W.boot_o_4 P) (Hd.nd (PySem.W.boot_o_8 P) (Hd.nd jp (Hd.nd qS (Hd.nd qS (Hd.nd qkw (Hd.lf qdI) .nil) (Hd.lf ql3)) (Hd.nd qjI (Hd.nd jp (Hd.lf qfH) .nil) (Hd.lf jp))) (Hd.nd qkn (Hd.nd qgF (Hd.nd qjL (Hd.lf qeo) .nil) (Hd.lf qfU)) (Hd.nd qlw (Hd.lf qS) (Hd.lf qS)))) (Hd.nd qjg (Hd.nd jp (Hd.nd qjl (Hd.nd jp (Hd.lf jp) .nil) (Hd.lf qeF)) (Hd.nd qS (Hd.nd qlz (Hd.lf qeS) .nil) (Hd.lf qjt))) (Hd.nd qS (Hd.nd qfZ (Hd.nd qS (Hd.lf qkA) .nil) (Hd.lf qS)) (Hd.nd qS (Hd.lf jp) (Hd.lf qmw))))) (Hd.nd qoD (Hd.nd qnt (Hd.nd qkt (Hd.nd qS (Hd.nd qon (Hd.lf qkV) .nil) (Hd.lf jp)) (Hd.nd qgE (Hd.nd qS (Hd.lf ql1) .nil) (Hd.lf qfQ))) (Hd.nd qS (Hd.nd qmp (Hd.nd qS (Hd.lf qea) .nil) (Hd.lf qS)) (Hd.nd qgf (Hd.lf qlm) (Hd.lf qS)))) (Hd.nd qf5 (Hd.nd (qjF P) (Hd.nd jp (Hd.nd qS (Hd.lf qS) .nil) (Hd.lf qlZ)) (Hd.nd qS (Hd.lf jp) (Hd.lf qdM))) (Hd.nd qlg (Hd.nd qg9 (Hd.nd qos (Hd.lf jp) .nil) (Hd.lf qlE)) (Hd.nd qgU (Hd.lf qS) (Hd.lf jp)))))) (Hd.nd (PySem.W.boot_o_6 P) (Hd.nd (PySem.W.boot_o_10 P) (Hd.nd qS (Hd.nd qhI (Hd.nd qhs (Hd.nd qS (Hd.lf qS) .nil) (Hd.lf qfD)) (Hd.nd qjp (Hd.nd qma (Hd.lf qS) .nil) (Hd.lf qS))) (Hd.nd qcW (Hd.nd qS (Hd.nd jp (Hd.lf jp) .nil) (Hd.lf jp)) (Hd.nd qf0 (Hd.lf qmC) (Hd.lf qdQ)))) (Hd.nd qit (Hd.nd qkB (Hd.nd qhx (Hd.nd qla (Hd.lf qef) .nil) (Hd.lf qS)) (Hd.nd qg1 (Hd.lf qdN) (Hd.lf qiN))) (Hd.nd qiR (Hd.nd jp (Hd.nd qnU (Hd.lf qec) .nil) (Hd.lf qkm)) (Hd.nd qkC (Hd.lf qfx) (Hd.lf qfj))))) (Hd.nd qmZ (Hd.nd qS (Hd.nd (qlX P) (Hd.nd qkM (Hd.nd qkX (Hd.lf qft) .nil) (Hd.lf qS)) (Hd.nd jp (Hd.nd qh2 (Hd.lf qi2) .nil) (Hd.lf qS))) (Hd.nd qmt (Hd.nd qjR (Hd.nd qjU (Hd.lf qS) .nil) (Hd.lf qfG)) (Hd.nd qgz (Hd.lf qd5) (Hd.lf qkH)))) (Hd.nd jp (Hd.nd qlV (Hd.nd qS (Hd.nd qoE (Hd.lf ql0) .nil) (Hd.lf ql9)) (Hd.nd qkR (Hd.lf qem) (Hd.lf jp))) (Hd.nd jp (Hd.nd qS (Hd.nd qi4 (Hd.lf qS) .nil) (Hd.lf qfk)) (Hd.nd jp (Hd.lf qko) (Hd.lf qS))))))))
abbrev qeD : List Stmt := (qbl.drop 19).take 31
set_option maxRecDepth 100000 in
set_option maxHeartbeats 0 in
theorem qmE (w : World) (os : OsState) : PySem.W.segRunT treeTable PySem.Challenge.pw_bankwalk_k22_rests_tell_all w 11 (some (Value.ref 6)) 1 851 (⟨qlT w.params,125,{ },#[],{ },362,os⟩ : PySem.W.SharedT) (PySem.W.piecesOf qeD qkG RF ⟨66,0,67,55⟩ qj6) = some (.next,(⟨qg5 w.params,297,{ },#[],{ },599,os⟩ : PySem.W.SharedT),RF,⟨215,0,231,15⟩) := by kernel_rfl
abbrev qgT (P : Params) : Heap := PySem.W.absHeap (qg5 P) 297 { }
def Kf (P : Params) : PySem.W.Frag := [(3,qmo P),(20,qnt),(21,qhA),(27,qgq),(28,qf5),(34,qhI),(35,qhq),(66,qhs),(67,qhc),(73,qgr),(74,qhx),(80,qgF),(81,qhe),(87,qhG),(88,qfZ),(92,qg9),(93,qgH),(99,qgu),(100,qgE),(106,qg1),(107,qgO),(113,qgc),(114,qf0),(115,qge P),(116,qgf),(117,qgL),(118,qgz),(119,qgv),(123,qgQ),(124,qgU),(128,qkw),(129,qh6),(133,qjd),(134,qkX),(138,qla),(139,qjB),(143,qio),(144,qjL),(150,qjU),(151,qkQ),(157,qh9),(158,qi4),(162,qma),(163,qdS),(169,qeV),(170,qdN),(174,qem),(175,qeC),(181,qd9),(182,qd5),(186,qfx),(187,qd8),(193,qfg),(194,qfD),(200,qeF),(201,qfJ),(207,qe0),(208,qfU),(214,qfG),(215,qe3),(221,qen),(222,qfk),(228,qfQ),(229,qep),(235,qdY),(236,qdM),(242,qdQ),(243,qd7),(249,qdJ),(250,qfj),(256,qdI),(257,qeE),(261,qfp),(262,qft),(266,qef),(267,qfa),(271,qeA),(272,qeo),(276,qea),(277,qfl),(281,qdG),(282,qec),(288,qfH),(289,qff),(295,qeg),(296,qeS)]
theorem qju {l : PySem.W.OpenLaw} {w : World} {h : Heap} {mg : Str → Option Value} {fa : Addr} (X : (Kf w.params).In h) (G : h.Ns mainGlobals mg) (hfa : mg "law" = some (.ref fa)) :
  ∃ fd : FuncData,(∀ (s : Shared) (v : Value),BindsTo s fd ⟨[v],[]⟩ [("_law_script",v)])∧∀ base : Heap,(Kf w.params).In base → base.Ns mainGlobals mg → FnOk l.prog w (Kf w.params) mg base CX0 8 fa fd ["_law_script"] (lSp (Kf w.params) CJ) := by
 have e := hfa.symm.trans (Hd.zj X G "law" (.ref 296) (by kernel_rfl))
 cases e
 have F0 := Hd.zn (K := Kf w.params) "is_number" jC 21 (.str "bankwalk.basics" 187) (.ref 20) (by kernel_rfl) (by kernel_rfl) (by kernel_rfl)
 have b0 := F0.binds (ps := V0) fun _ _ _ _ _ _ us hl => by obtain ⟨_,rfl⟩ := Pu.T8 hl;rfl
 have m0 := Hd.zj X G "is_number" (.ref 21) (by kernel_rfl)
 have F1 := Hd.zn (K := Kf w.params) "is_pair" ZI 28 (.str "bankwalk.basics" 187) (.ref 27) (by kernel_rfl) (by kernel_rfl) (by kernel_rfl)
 have b1 := F1.binds (ps := WM) fun _ _ _ _ _ _ us hl => by obtain ⟨_,rfl⟩ := Pu.T8 hl;rfl
 have m1 := Hd.zj X G "is_pair" (.ref 28) (by kernel_rfl)
 have F2 := Hd.zn (K := Kf w.params) "first_alike" zP 35 (.str "bankwalk.basics" 187) (.ref 34) (by kernel_rfl) (by kernel_rfl) (by kernel_rfl)
 have b2 := F2.binds (ps := JL) fun _ _ _ _ _ _ us hl => by obtain ⟨_,rfl⟩ := Pu.T8 hl;rfl
 have m2 := Hd.zj X G "first_alike" (.ref 35) (by kernel_rfl)
 have F3 := Hd.zn (K := Kf w.params) "size_of" ZS 67 (.str "bankwalk.dealings" 248) (.ref 66) (by kernel_rfl) (by kernel_rfl) (by kernel_rfl)
 have b3 := F3.binds (ps := WL) fun _ _ _ _ _ _ us hl => by obtain ⟨_,rfl⟩ := Pu.T8 hl;rfl
 have m3 := Hd.zj X G "size_of" (.ref 67) (by kernel_rfl)
 have F4 := Hd.zn (K := Kf w.params) "number_of" jE 74 (.str "bankwalk.dealings" 248) (.ref 73) (by kernel_rfl) (by kernel_rfl) (by kernel_rfl)
 have b4 := F4.binds (ps := VY) fun _ _ _ _ _ _ us hl => by obtain ⟨_,_,rfl⟩ := Pu.TY hl;rfl
 have m4 := Hd.zj X G "number_of" (.ref 74) (by kernel_rfl)
 have F5 := Hd.zn (K := Kf w.params) "is_word" ZK 81 (.str "bankwalk.dealings" 248) (.ref 80) (by kernel_rfl) (by kernel_rfl) (by kernel_rfl)
 have b5 := F5.binds (ps := D8) fun _ _ _ _ _ _ us hl => by obtain ⟨_,_,rfl⟩ := Pu.TY hl;rfl
 have m5 := Hd.zj X G "is_word" (.ref 81) (by kernel_rfl)
 have F6 := Hd.zn (K := Kf w.params) "odd_in_common" jS 88 (.str "bankwalk.dealings" 248) (.ref 87) (by kernel_rfl) (by kernel_rfl) (by kernel_rfl)
 have b6 := F6.binds (ps := DY) fun _ _ _ _ _ _ us hl => by obtain ⟨_,_,rfl⟩ := Pu.TY hl;rfl
 have m6 := Hd.zj X G "odd_in_common" (.ref 88) (by kernel_rfl)
 have F7 := Hd.zn (K := Kf w.params) "bits_bank" YK 93 (.str "bankwalk.dealings" 248) (.ref 92) (by kernel_rfl) (by kernel_rfl) (by kernel_rfl)
 have b7 := F7.binds (ps := LL) fun _ _ _ _ _ _ us hl => by obtain ⟨_,_,rfl⟩ := Pu.TY hl;rfl
 have m7 := Hd.zj X G "bits_bank" (.ref 93) (by kernel_rfl)
 have F8 := Hd.zn (K := Kf w.params) "parted" WD 100 (.str "bankwalk.dealings" 248) (.ref 99) (by kernel_rfl) (by kernel_rfl) (by kernel_rfl)
 have b8 := F8.binds (ps := qdm) fun _ _ _ _ _ _ us hl => by obtain ⟨_,_,_,rfl⟩ := Pu.qgG hl;rfl
 have m8 := Hd.zj X G "parted" (.ref 100) (by kernel_rfl)
 have F9 := Hd.zn (K := Kf w.params) "joined_bank" ZB 107 (.str "bankwalk.dealings" 248) (.ref 106) (by kernel_rfl) (by kernel_rfl) (by kernel_rfl)
 have b9 := F9.binds (ps := RN) fun _ _ _ _ _ _ us hl => by obtain ⟨_,_,_,rfl⟩ := Pu.qgG hl;rfl
 have m9 := Hd.zj X G "joined_bank" (.ref 107) (by kernel_rfl)
 have F10 := Hd.zn (K := Kf w.params) "bank_in" ZF 114 (.str "bankwalk.dealings" 248) (.ref 113) (by kernel_rfl) (by kernel_rfl) (by kernel_rfl)
 have b10 := F10.binds (ps := WQ) fun _ _ _ _ _ _ us hl => by obtain ⟨_,_,rfl⟩ := Pu.TY hl;rfl
 have m10 := Hd.zj X G "bank_in" (.ref 114) (by kernel_rfl)
 have F11 := Hd.zn (K := Kf w.params) "strung" YD 124 (.str "bankwalk.walks" 336) (.ref 123) (by kernel_rfl) (by kernel_rfl) (by kernel_rfl)
 have b11 := F11.binds (ps := CQ) fun _ _ _ _ _ _ us hl => by obtain ⟨_,_,_,rfl⟩ := Pu.qgG hl;rfl
 have m11 := Hd.zj X G "strung" (.ref 124) (by kernel_rfl)
 have F12 := Hd.zn (K := Kf w.params) "cells_of" QM 129 (.str "bankwalk.walks" 336) (.ref 128) (by kernel_rfl) (by kernel_rfl) (by kernel_rfl)
 have b12 := F12.binds (ps := EB) fun _ _ _ _ _ _ us hl => by obtain ⟨_,rfl⟩ := Pu.T8 hl;rfl
 have m12 := Hd.zj X G "cells_of" (.ref 129) (by kernel_rfl)
 have F13 := Hd.zn (K := Kf w.params) "starts" YF 134 (.str "bankwalk.walks" 336) (.ref 133) (by kernel_rfl) (by kernel_rfl) (by kernel_rfl)
 have b13 := F13.binds (ps := RR) fun _ _ _ _ _ _ us hl => by obtain ⟨_,_,rfl⟩ := Pu.TY hl;rfl
 have m13 := Hd.zj X G "starts" (.ref 134) (by kernel_rfl)
 have F14 := Hd.zn (K := Kf w.params) "shifted" ZR 139 (.str "bankwalk.walks" 336) (.ref 138) (by kernel_rfl) (by kernel_rfl) (by kernel_rfl)
 have b14 := F14.binds (ps := WY) fun _ _ _ _ _ _ us hl => by obtain ⟨_,_,rfl⟩ := Pu.TY hl;rfl
 have m14 := Hd.zj X G "shifted" (.ref 139) (by kernel_rfl)
 have F15 := Hd.zn (K := Kf w.params) "is_start" j6 144 (.str "bankwalk.walks" 336) (.ref 143) (by kernel_rfl) (by kernel_rfl) (by kernel_rfl)
 have b15 := F15.binds (ps := ES) fun _ _ _ _ _ _ us hl => by obtain ⟨_,_,_,rfl⟩ := Pu.qgG hl;rfl
 have m15 := Hd.zj X G "is_start" (.ref 144) (by kernel_rfl)
 have F16 := Hd.zn (K := Kf w.params) "words_of" QG 151 (.str "bankwalk.walks" 336) (.ref 150) (by kernel_rfl) (by kernel_rfl) (by kernel_rfl)
 have b16 := F16.binds (ps := EF) fun _ _ _ _ _ _ us hl => by obtain ⟨_,_,_,rfl⟩ := Pu.qgG hl;rfl
 have m16 := Hd.zj X G "words_of" (.ref 151) (by kernel_rfl)
 have F17 := Hd.zn (K := Kf w.params) "factors_of" jo 158 (.str "bankwalk.rests" 395) (.ref 157) (by kernel_rfl) (by kernel_rfl) (by kernel_rfl)
 have b17 := F17.binds (ps := J4) fun _ _ _ _ _ _ us hl => by obtain ⟨_,rfl⟩ := Pu.T8 hl;rfl
 have m17 := Hd.zj X G "factors_of" (.ref 158) (by kernel_rfl)
 have F18 := Hd.zn (K := Kf w.params) "rests_by" j3 163 (.str "bankwalk.rests" 395) (.ref 162) (by kernel_rfl) (by kernel_rfl) (by kernel_rfl)
 have b18 := F18.binds (ps := EK) fun _ _ _ _ _ _ us hl => by obtain ⟨_,_,_,rfl⟩ := Pu.qgG hl;rfl
 have m18 := Hd.zj X G "rests_by" (.ref 163) (by kernel_rfl)
 have F19 := Hd.zn (K := Kf w.params) "rests_of" j7 170 (.str "bankwalk.rests" 395) (.ref 169) (by kernel_rfl) (by kernel_rfl) (by kernel_rfl)
 have b19 := F19.binds (ps := U1) fun _ _ _ _ _ _ us hl => by obtain ⟨_,_,rfl⟩ := Pu.TY hl;rfl
 have m19 := Hd.zj X G "rests_of" (.ref 170) (by kernel_rfl)
 have F20 := Hd.zn (K := Kf w.params) "banks_from" ja 175 (.str "bankwalk.clashes" 418) (.ref 174) (by kernel_rfl) (by kernel_rfl) (by kernel_rfl)
 have b20 := F20.binds (ps := JV) fun _ _ _ _ _ _ us hl => by obtain ⟨_,_,_,rfl⟩ := Pu.qgG hl;rfl
 have m20 := Hd.zj X G "banks_from" (.ref 175) (by kernel_rfl)
 have F21 := Hd.zn (K := Kf w.params) "clash" UP 182 (.str "bankwalk.clashes" 418) (.ref 181) (by kernel_rfl) (by kernel_rfl) (by kernel_rfl)
 have b21 := F21.binds (ps := LR) fun _ _ _ _ _ _ us hl => by obtain ⟨_,_,rfl⟩ := Pu.TY hl;rfl
 have m21 := Hd.zj X G "clash" (.ref 182) (by kernel_rfl)
 have F22 := Hd.zn (K := Kf w.params) "clear_starts" zE 187 (.str "bankwalk.clashes" 418) (.ref 186) (by kernel_rfl) (by kernel_rfl) (by kernel_rfl)
 have b22 := F22.binds (ps := Q8) fun _ _ _ _ _ _ us hl => by obtain ⟨_,_,rfl⟩ := Pu.TY hl;rfl
 have m22 := Hd.zj X G "clear_starts" (.ref 187) (by kernel_rfl)
 have F23 := Hd.zn (K := Kf w.params) "_law_mix" ZH 194 (.str "law_bankwalk_k22_rests_tell_all" 442) (.ref 193) (by kernel_rfl) (by kernel_rfl) (by kernel_rfl)
 have b23 := F23.binds (ps := WT) fun _ _ _ _ _ _ us hl => by obtain ⟨_,_,rfl⟩ := Pu.TY hl;rfl
 have m23 := Hd.zj X G "_law_mix" (.ref 194) (by kernel_rfl)
 have F24 := Hd.zn (K := Kf w.params) "_law_left" QI 201 (.str "law_bankwalk_k22_rests_tell_all" 442) (.ref 200) (by kernel_rfl) (by kernel_rfl) (by kernel_rfl)
 have b24 := F24.binds (ps := U0) fun _ _ _ _ _ _ us hl => by obtain ⟨_,_,rfl⟩ := Pu.TY hl;rfl
 have m24 := Hd.zj X G "_law_left" (.ref 201) (by kernel_rfl)
 have F25 := Hd.zn (K := Kf w.params) "_law_pick" j8 208 (.str "law_bankwalk_k22_rests_tell_all" 442) (.ref 207) (by kernel_rfl) (by kernel_rfl) (by kernel_rfl)
 have b25 := F25.binds (ps := U3) fun _ _ _ _ _ _ us hl => by obtain ⟨_,_,rfl⟩ := Pu.TY hl;rfl
 have m25 := Hd.zj X G "_law_pick" (.ref 208) (by kernel_rfl)
 have F26 := Hd.zn (K := Kf w.params) "_law_sides" jM 215 (.str "law_bankwalk_k22_rests_tell_all" 442) (.ref 214) (by kernel_rfl) (by kernel_rfl) (by kernel_rfl)
 have b26 := F26.binds (ps := VO) fun _ _ _ _ _ _ us hl => by obtain ⟨_,rfl⟩ := Pu.T8 hl;rfl
 have m26 := Hd.zj X G "_law_sides" (.ref 215) (by kernel_rfl)
 have F27 := Hd.zn (K := Kf w.params) "_law_gcd" ZO 222 (.str "law_bankwalk_k22_rests_tell_all" 442) (.ref 221) (by kernel_rfl) (by kernel_rfl) (by kernel_rfl)
 have b27 := F27.binds (ps := WH) fun _ _ _ _ _ _ us hl => by obtain ⟨_,_,rfl⟩ := Pu.TY hl;rfl
 have m27 := Hd.zj X G "_law_gcd" (.ref 222) (by kernel_rfl)
 have F28 := Hd.zn (K := Kf w.params) "_law_skew" QN 229 (.str "law_bankwalk_k22_rests_tell_all" 442) (.ref 228) (by kernel_rfl) (by kernel_rfl) (by kernel_rfl)
 have b28 := F28.binds (ps := EI) fun _ _ _ _ _ _ us hl => by obtain ⟨_,rfl⟩ := Pu.T8 hl;rfl
 have m28 := Hd.zj X G "_law_skew" (.ref 229) (by kernel_rfl)
 have F29 := Hd.zn (K := Kf w.params) "_law_rests" jH 236 (.str "law_bankwalk_k22_rests_tell_all" 442) (.ref 235) (by kernel_rfl) (by kernel_rfl) (by kernel_rfl)
 have b29 := F29.binds (ps := V1) fun _ _ _ _ _ _ us hl => by obtain ⟨_,rfl⟩ := Pu.T8 hl;rfl
 have m29 := Hd.zj X G "_law_rests" (.ref 236) (by kernel_rfl)
 have F30 := Hd.zn (K := Kf w.params) "_law_plain" jN 243 (.str "law_bankwalk_k22_rests_tell_all" 442) (.ref 242) (by kernel_rfl) (by kernel_rfl) (by kernel_rfl)
 have b30 := F30.binds (ps := VW) fun _ _ _ _ _ _ us hl => by obtain ⟨_,rfl⟩ := Pu.T8 hl;rfl
 have m30 := Hd.zj X G "_law_plain" (.ref 243) (by kernel_rfl)
 have F31 := Hd.zn (K := Kf w.params) "_law_many" j4 250 (.str "law_bankwalk_k22_rests_tell_all" 442) (.ref 249) (by kernel_rfl) (by kernel_rfl) (by kernel_rfl)
 have b31 := F31.binds (ps := U5) fun _ _ _ _ _ _ us hl => by obtain ⟨_,rfl⟩ := Pu.T8 hl;rfl
 have m31 := Hd.zj X G "_law_many" (.ref 250) (by kernel_rfl)
 have F32 := Hd.zn (K := Kf w.params) "_law_walk" j9 257 (.str "law_bankwalk_k22_rests_tell_all" 442) (.ref 256) (by kernel_rfl) (by kernel_rfl) (by kernel_rfl)
 have b32 := F32.binds (ps := EL) fun _ _ _ _ _ _ us hl => by obtain ⟨_,rfl⟩ := Pu.T8 hl;rfl
 have m32 := Hd.zj X G "_law_walk" (.ref 257) (by kernel_rfl)
 have F33 := Hd.zn (K := Kf w.params) "_law_cells" jJ 262 (.str "law_bankwalk_k22_rests_tell_all" 442) (.ref 261) (by kernel_rfl) (by kernel_rfl) (by kernel_rfl)
 have b33 := F33.binds (ps := V5) fun _ _ _ _ _ _ us hl => by obtain ⟨_,rfl⟩ := Pu.T8 hl;rfl
 have m33 := Hd.zj X G "_law_cells" (.ref 262) (by kernel_rfl)
 have F34 := Hd.zn (K := Kf w.params) "_law_size" QA 267 (.str "law_bankwalk_k22_rests_tell_all" 442) (.ref 266) (by kernel_rfl) (by kernel_rfl) (by kernel_rfl)
 have b34 := F34.binds (ps := EO) fun _ _ _ _ _ _ us hl => by obtain ⟨_,rfl⟩ := Pu.T8 hl;rfl
 have m34 := Hd.zj X G "_law_size" (.ref 267) (by kernel_rfl)
 have F35 := Hd.zn (K := Kf w.params) "_law_starts" jh 272 (.str "law_bankwalk_k22_rests_tell_all" 442) (.ref 271) (by kernel_rfl) (by kernel_rfl) (by kernel_rfl)
 have b35 := F35.binds (ps := YB) fun _ _ _ _ _ _ us hl => by obtain ⟨_,_,rfl⟩ := Pu.TY hl;rfl
 have m35 := Hd.zj X G "_law_starts" (.ref 272) (by kernel_rfl)
 have F36 := Hd.zn (K := Kf w.params) "_law_unlike" jn 277 (.str "law_bankwalk_k22_rests_tell_all" 442) (.ref 276) (by kernel_rfl) (by kernel_rfl) (by kernel_rfl)
 have b36 := F36.binds (ps := YH) fun _ _ _ _ _ _ us hl => by obtain ⟨_,rfl⟩ := Pu.T8 hl;rfl
 have m36 := Hd.zj X G "_law_unlike" (.ref 277) (by kernel_rfl)
 have F37 := Hd.zn (K := Kf w.params) "_law_same" QB 282 (.str "law_bankwalk_k22_rests_tell_all" 442) (.ref 281) (by kernel_rfl) (by kernel_rfl) (by kernel_rfl)
 have b37 := F37.binds (ps := EM) fun _ _ _ _ _ _ us hl => by obtain ⟨_,_,rfl⟩ := Pu.TY hl;rfl
 have m37 := Hd.zj X G "_law_same" (.ref 282) (by kernel_rfl)
 have F38 := Hd.zn (K := Kf w.params) "_law_first_alike" zc 289 (.str "law_bankwalk_k22_rests_tell_all" 442) (.ref 288) (by kernel_rfl) (by kernel_rfl) (by kernel_rfl)
 have b38 := F38.binds (ps := jy) fun _ _ _ _ _ _ us hl => by obtain ⟨_,rfl⟩ := Pu.T8 hl;rfl
 have m38 := Hd.zj X G "_law_first_alike" (.ref 289) (by kernel_rfl)
 have F39 := Hd.zn (K := Kf w.params) "law" J2 296 (.str "law_bankwalk_k22_rests_tell_all" 442) (.ref 295) (by kernel_rfl) (by kernel_rfl) (by kernel_rfl)
 have g_isinstance := Hd.VQ X G "isinstance" (by kernel_rfl)
 have g_bool := Hd.VQ X G "bool" (by kernel_rfl)
 have g_int := Hd.VQ X G "int" (by kernel_rfl)
 have g_len := Hd.VQ X G "len" (by kernel_rfl)
 have g_tuple := Hd.VQ X G "tuple" (by kernel_rfl)
 have g_range := Hd.VQ X G "range" (by kernel_rfl)
 have g_enumerate := Hd.VQ X G "enumerate" (by kernel_rfl)
 have g_sum := Hd.VQ X G "sum" (by kernel_rfl)
 have g_list := Hd.VQ X G "list" (by kernel_rfl)
 have g_STRIDES : Tb (Kf w.params) mg w "STRIDES" UH := ⟨115,_,4,Hd.zj X G "STRIDES" (.ref 115) (by kernel_rfl),(show (Kf w.params).lookup 115 = some ⟨.type "dict",none,.dict #[⟨PyData.keyHash w.params "row",.str "row" 338,.ref 116⟩,⟨PyData.keyHash w.params "column",.str "column" 341,.ref 117⟩,⟨PyData.keyHash w.params "slant",.str "slant" 344,.ref 118⟩,⟨PyData.keyHash w.params "back",.str "back" 347,.ref 119⟩] 4,#[]⟩ by kernel_rfl),rfl,(.cons (v := .ref 116) rfl (MQ (show (Kf w.params).lookup 116 = some ⟨.type "tuple",none,.seq #[.int (0) 339,.int (1) 340] 0,#[]⟩ by kernel_rfl)) (.cons (v := .ref 117) rfl (MQ (show (Kf w.params).lookup 117 = some ⟨.type "tuple",none,.seq #[.int (1) 342,.int (0) 343] 0,#[]⟩ by kernel_rfl)) (.cons (v := .ref 118) rfl (MQ (show (Kf w.params).lookup 118 = some ⟨.type "tuple",none,.seq #[.int (1) 345,.int (1) 346] 0,#[]⟩ by kernel_rfl)) (.cons (v := .ref 119) rfl (MQ (show (Kf w.params).lookup 119 = some ⟨.type "tuple",none,.seq #[.int (1) 348,.int (-1) 350] 0,#[]⟩ by kernel_rfl)) .nil))))⟩
 have g_min := Hd.VQ X G "min" (by kernel_rfl)
 have g_max := Hd.VQ X G "max" (by kernel_rfl)
 have g_all := Hd.VQ X G "all" (by kernel_rfl)
 have g_abs := Hd.VQ X G "abs" (by kernel_rfl)
 have g_zip := Hd.VQ X G "zip" (by kernel_rfl)
 have g_str := Hd.VQ X G "str" (by kernel_rfl)
 refine ⟨PySem.W.fnOf "law" "law" (JA J2) (jj J2) (qi J2) .none .none .none (.str "law_bankwalk_k22_rests_tell_all" 442) none (.ref 295) .none,fun s v => .of_eq rfl,fun base _ _ => ?_⟩
 have O_is_number := T9 (P := l.prog) (w := w) (base := base) (k := 0) F0 b0 m0  g_isinstance g_bool g_int S8
 have O_is_pair := NI (P := l.prog) (w := w) (base := base) (k := 1) F1 b1 m1 O_is_number g_len g_isinstance g_tuple NY
 have O_first_alike := XN (P := l.prog) (w := w) (base := base) (k := 0) F2 b2 m2  g_len g_range Pv.XB
 have O_odd_in_common := JI (P := l.prog) (w := w) (base := base) F6 b6 m6
 have O_bits_bank := Pu.Fn3.pz (JI (P := l.prog) (w := w) (base := base) F7 b7 m7) false
 have O_parted := JI (P := l.prog) (w := w) (base := base) F8 b8 m8
 have O_strung := qbq (P := l.prog) (w := w) (base := base) (k := 0) F11 b11 m11  g_range Pv.qbx
 have O_cells_of := K0 (P := l.prog) (w := w) (base := base) (k := 1) F12 b12 m12 O_strung g_list g_range g_STRIDES Pv.LU
 have O_shifted := NM (P := l.prog) (w := w) (base := base) (k := 2) F14 b14 m14 O_cells_of  NX
 have O_factors_of := RO (P := l.prog) (w := w) (base := base) (k := 0) F17 b17 m17   Pv.R8
 have O_rests_by := LP (P := l.prog) (w := w) (base := base) (k := 2) F18 b18 m18 O_cells_of g_tuple Pv.K5
 have O_rests_of := KU (P := l.prog) (w := w) (base := base) (k := 3) F19 b19 m19 (O_factors_of.mono (by decide)) O_rests_by  Pv.KN
 have O_law_mix := NF (P := l.prog) (w := w) (base := base) (k := 0) F23 b23 m23   Bk.NQ
 have O_law_left := LI (P := l.prog) (w := w) (base := base) (k := 0) F24 b24 m24  g_len g_abs Bk.LH
 have O_law_pick := KP (P := l.prog) (w := w) (base := base) (k := 1) F25 b25 m25 O_law_mix  Bk.KQ
 have O_law_sides := SW (P := l.prog) (w := w) (base := base) (k := 2) F26 b26 m26 O_law_pick  Bk.SK
 have O_law_gcd := NZ (P := l.prog) (w := w) (base := base) (k := 0) F27 b27 m27   Bk.N6
 have O_law_skew := KJ (P := l.prog) (w := w) (base := base) (k := 3) F28 b28 m28 O_law_sides (O_law_pick.mono (by decide))  K9
 have O_law_rests := TQ (P := l.prog) (w := w) (base := base) (k := 3) F29 b29 m29 O_law_sides (O_law_pick.mono (by decide)) (O_law_gcd.mono (by decide)) g_range Bk.SJ
 have O_law_plain := SV (P := l.prog) (w := w) (base := base) (k := 4) F30 b30 m30 (O_law_pick.mono (by decide)) O_law_rests O_law_skew  T6
 have O_law_many := KO (P := l.prog) (w := w) (base := base) (k := 2) F31 b31 m31 O_law_pick  Bk.KM
 have O_law_walk := LY (P := l.prog) (w := w) (base := base) (k := 3) F32 b32 m32 (O_law_pick.mono (by decide)) O_law_many g_int g_range g_tuple Bk.LA
 have O_law_cells := SY (P := l.prog) (w := w) (base := base) (k := 0) F33 b33 m33  g_list g_range KA
 have O_law_unlike := C0 (P := l.prog) (w := w) (base := base) (k := 0) F36 b36 m36  g_enumerate g_all R0
 have O_law_first_alike := UI (P := l.prog) (w := w) (base := base) (k := 0) F38 b38 m38  g_enumerate UY
 have O_joined_bank := Pu.Fn3.pz (JI (P := l.prog) (w := w) (base := base) F9 b9 m9) false
 have O_size_of_0 := Pu.Fn3.pz (JI (P := l.prog) (w := w) (base := base) F3 b3 m3) false
 have O_size_of_1 := NE (P := l.prog) (w := w) (base := base) (k := 0) F3 b3 m3 O_size_of_0 g_len (Pv.NP 0)
 have O_number_of := TV (P := l.prog) (w := w) (base := base) (k := 1) F4 b4 m4 O_size_of_1  S5
 have O_is_word := N0 (P := l.prog) (w := w) (base := base) (k := 2) F5 b5 m5 O_is_pair (O_size_of_1.mono (by decide))  NH
 have O_bank_in := NV (P := l.prog) (w := w) (base := base) (k := 2) F10 b10 m10 O_number_of (O_bits_bank.mono (by decide)) (O_joined_bank.mono (by decide))  NR
 have O_starts := qaP (P := l.prog) (w := w) (base := base) (k := 2) F13 b13 m13 (O_size_of_1.mono (by decide)) O_cells_of g_min g_max g_range (Pv.qbt 1)
 have O_is_start := KZ (P := l.prog) (w := w) (base := base) (k := 3) F15 b15 m15 O_shifted O_is_word (O_is_pair.mono (by decide)) g_all KS
 have O_words_of := KR (P := l.prog) (w := w) (base := base) (k := 4) F16 b16 m16 O_is_start (O_shifted.mono (by decide))  LD
 have O_banks_from := SC (P := l.prog) (w := w) (base := base) (k := 5) F20 b20 m20 O_words_of (O_bank_in.mono (by decide))  RA
 have O_clash := qc2 (P := l.prog) (w := w) (base := base) (k := 6) F21 b21 m21 (O_starts.mono (by decide)) O_banks_from (O_first_alike.mono (by decide))  qds
 have O_clear_starts := WU (P := l.prog) (w := w) (base := base) (k := 6) F22 b22 m22 (O_starts.mono (by decide)) O_banks_from (O_first_alike.mono (by decide))  DO
 have O_law_size_0 := Pu.Fn3.pz (JI (P := l.prog) (w := w) (base := base) F34 b34 m34) false
 have O_law_size_1 := K6 (P := l.prog) (w := w) (base := base) (k := 0) F34 b34 m34 O_law_size_0 g_len g_zip g_tuple LF
 have O_law_starts := SB (P := l.prog) (w := w) (base := base) (k := 1) F35 b35 m35 O_law_size_1 O_law_cells g_min g_max g_range SD
 have O_law_same_0 := JI (P := l.prog) (w := w) (base := base) F37 b37 m37
 have O_law_same_1 := QC (P := l.prog) (w := w) (base := base) (k := 0) F37 b37 m37 O_law_same_0 g_isinstance g_list g_tuple g_zip g_all g_len g_str g_bool g_int (Bk.QK 0)
 have O_law_same_2 := QC (P := l.prog) (w := w) (base := base) (k := 1) F37 b37 m37 O_law_same_1 g_isinstance g_list g_tuple g_zip g_all g_len g_str g_bool g_int (Bk.QK 1)
 have O_law_same_3 := QC (P := l.prog) (w := w) (base := base) (k := 2) F37 b37 m37 O_law_same_2 g_isinstance g_list g_tuple g_zip g_all g_len g_str g_bool g_int (Bk.QK 2)
 have O_law_same_4 := QC (P := l.prog) (w := w) (base := base) (k := 3) F37 b37 m37 O_law_same_3 g_isinstance g_list g_tuple g_zip g_all g_len g_str g_bool g_int (Bk.QK 3)
 have O_law_same_5 := QC (P := l.prog) (w := w) (base := base) (k := 4) F37 b37 m37 O_law_same_4 g_isinstance g_list g_tuple g_zip g_all g_len g_str g_bool g_int (Bk.QK 4)
 exact qkj (k := 7) F39 (O_law_left.mono (by decide)) (O_law_plain.mono (by decide)) (O_law_walk.mono (by decide)) (O_law_starts.mono (by decide)) (O_rests_of.mono (by decide)) (O_law_unlike.mono (by decide)) O_clear_starts (O_law_same_5.mono (by decide)) (O_law_first_alike.mono (by decide)) O_clash g_len g_min g_range g_list (qlp qkP)
set_option maxRecDepth 100000 in
set_option maxHeartbeats 0 in
theorem qkr (w : World) (os : OsState) : PySem.W.topRun treeTable PySem.Challenge.pw_bankwalk_k22_rests_tell_all w 11 (some (Value.ref 6)) 2 (⟨qg5 w.params,297,{ },#[],{ },599,os⟩ : PySem.W.SharedT).abs (PySem.W.restOf [] qkG RF ⟨215,0,231,15⟩ qj6) = some ⟨qgT w.params,#[],{ },599,os⟩ := by kernel_rfl
theorem qnP : (qeb ++ (qeD ++ [])) = qbl := by kernel_rfl
set_option maxRecDepth 100000 in
set_option maxHeartbeats 0 in
theorem qhM (w : World) (os : OsState) : PySem.W.topRun treeTable PySem.Challenge.pw_bankwalk_k22_rests_tell_all w 11 (some (Value.ref 6)) (12 + (1 + (898 + (851 + 2)))) ⟨PySem.W.boot_heap w.params,Array.mk [],PySem.W.boot_drawn,PySem.W.boot_toks,os⟩ (PySem.W.topStub PySem.Challenge.pw_bankwalk_k22_rests_tell_all) = some ⟨qgT w.params,#[],{ },599,os⟩ := by
 have h := (PySem.W.piece_app (PySem.W.segRun_of (qj0 w os)) (PySem.W.piece_app (PySem.W.segRun_of (qmE w os)) (qkr w os)))
 rw [qnP] at h
 exact PySem.W.go_top (qjV w os) (PySem.W.piece_block (qi8 w os) h)
abbrev Q : Program := PySem.W.view PySem.Challenge.pw_bankwalk_k22_rests_tell_all [1,2,3,5,6,8,9,10,11,12,13,14,15,17,18,19,20,21,22,23,25,26,27,29,30,31,33,34,35,36,37,38,39,40,41,42,43,44,45,46,47,48,49]
set_option maxRecDepth 100000 in
set_option maxHeartbeats 0 in
theorem left : PySem.W.LeftO PySem.Challenge.pw_bankwalk_k22_rests_tell_all Q ["STRIDES"] (fun s => PySem.W.xlAt Q [] s && PySem.W.recOk [] s) (fun s => ([3,20,21,27,28,34,35,66,67,73,74,80,81,87,88,92,93,99,100,106,107,113,114,115,116,117,118,119,123,124,128,129,133,134,138,139,143,144,150,151,157,158,162,163,169,170,174,175,181,182,186,187,193,194,200,201,207,208,214,215,221,222,228,229,235,236,242,243,249,250,256,257,261,262,266,267,271,272,276,277,281,282,288,289,295,296] : List Addr).map s.heap.get?) (fun w => (Kf w.params).map fun p => some p.2) 3620 :=
 PySem.W.LeftO.of_pieces (H₀ := PySem.W.boot_heap) (H₁ := qgT) (gs₀ := Array.mk []) (gs₁ := #[]) (d₀ := PySem.W.boot_drawn) (d₁ := { }) (k₀ := PySem.W.boot_toks) (k₁ := 599) (m₀ := 11) (ann := some (Value.ref 6)) (M := (12 + (1 + (898 + (851 + 2)))))
  (PySem.W.boot_open (by kernel_rfl) (by kernel_rfl) (fun s => by kernel_rfl)) (fun w => by kernel_rfl) qhM (by kernel_rfl) (fun w => by kernel_rfl)
end K22
open PySem PySem.W PyProof.Rows
set_option maxRecDepth 100000 in
set_option maxHeartbeats 0 in
theorem PySem.Challenge.cw_bankwalk_k22_rests_tell_all_holds : PySem.Challenge.rw_bankwalk_k22_rests_tell_all.Holds :=
 Hd.head (l := PySem.Challenge.rw_bankwalk_k22_rests_tell_all) (q := K22.Q) (loose := ["STRIDES"]) (K := K22.Kf) (as := [3,20,21,27,28,34,35,66,67,73,74,80,81,87,88,92,93,99,100,106,107,113,114,115,116,117,118,119,123,124,128,129,133,134,138,139,143,144,150,151,157,158,162,163,169,170,174,175,181,182,186,187,193,194,200,201,207,208,214,215,221,222,228,229,235,236,242,243,249,250,256,257,261,262,266,267,271,272,276,277,281,282,288,289,295,296]) (N := 3620) (k := 8) (x := "_law_script")
  (d := ⟨"law",L2.JA K22.J2,L2.jj K22.J2,L2.qi K22.J2,⟨215,0,231,15⟩⟩) (fun _ => by kernel_rfl) (by kernel_rfl) K22.left (by kernel_rfl) (by kernel_rfl) (by kernel_rfl) (by kernel_rfl) (by kernel_rfl)
  ⟨rfl,rfl,rfl,rfl,rfl,by decide +kernel⟩ (by w_witness2) rfl (by kernel_rfl) ⟨rfl,by decide,by decide,rfl⟩ (fun w => by kernel_rfl) fun w mg fa h KX G hmg => K22.qju KX G hmg
