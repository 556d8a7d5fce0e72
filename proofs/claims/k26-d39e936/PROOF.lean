import PyProof.Rows.All
import Wide.All
import OpenK.AllK
import Wide.FinOn
import Lean
import PyProof.EqAt
import PyProof.EqKinds
import PyProof.TupleCall
import PyProof.NeKinds
import KE.KRevSl
import PyProof.FactsAll.bool_2
import PyProof.Rows.EqBoolInt
import PyProof.Rows.IntBool
import PySem.Challenge.RW_bankwalk_k26_known_rests
-- CHANGE: your row's module here,as the last of these rows
set_option Elab.async false
set_option genSizeOf false
set_option genInjectivity false
noncomputable section
set_option linter.all false
set_option maxRecDepth 100000
namespace L2
open PySem PySem.Spec PyProof.Rows
abbrev Key := Sum Int Str
def qj8 : Key → Value → Bool
 | .inl k,v => Value.isInt k v
 | .inr x,v => Value.isStrOf x v
def qoQ (w : World) : Key → Int
 | .inl k => hashInt k
 | .inr x => hashStr w x
theorem zk : ∀ {k : Key} {v : Value},qj8 k v = true → (∃ i t,k = Sum.inl i∧v = Value.int i t) ∨ (∃ x t,k = Sum.inr x∧v = Value.str x t)
 | .inl i,v,h => by
  obtain ⟨t,e⟩ := Value.isInt_shape (k := i) (v := v) h
  exact .inl ⟨i,t,rfl,e⟩
 | .inr x,v,h => by
  obtain ⟨t,e⟩ := Value.isStrOf_shape (x := x) (v := v) h
  exact .inr ⟨x,t,rfl,e⟩
theorem qkk (a b : Int) : decide ((Sum.inl a : Key) = Sum.inl b) = (a == b) := by
 by_cases e : a = b
 ·subst e;simp
 ·have h : ¬ (Sum.inl a : Key) = Sum.inl b := fun q => e (Sum.inl.inj q)
  rw [decide_eq_false h]
  exact (beq_eq_false_iff_ne.mpr e).symm
theorem qhw (a b : Str) : decide ((Sum.inr a : Key) = Sum.inr b) = decide (a = b) := by
 by_cases e : a = b
 ·subst e;simp
 ·have h : ¬ (Sum.inr a : Key) = Sum.inr b := fun q => e (Sum.inr.inj q)
  rw [decide_eq_false h,decide_eq_false e]
theorem qjc (a : Int) (b : Str) : decide ((Sum.inl a : Key) = Sum.inr b) = false := decide_eq_false (fun q => nomatch q)
theorem qja (a : Str) (b : Int) : decide ((Sum.inr a : Key) = Sum.inl b) = false := decide_eq_false (fun q => nomatch q)
def NR (prog : Program) (w : World) : PySem.KeyKind prog w Key where
 is := qj8
 hash := qoQ w
 inj := fun v a b ha hb => by
  rcases zk ha with ⟨i,t,rfl,rfl⟩ | ⟨x,t,rfl,rfl⟩
  ·rcases zk hb with ⟨j,u,rfl,e⟩ | ⟨y,u,rfl,e⟩
   ·injection e with e1 _;rw [e1]
   ·exact nomatch e
  ·rcases zk hb with ⟨j,u,rfl,e⟩ | ⟨y,u,rfl,e⟩
   ·exact nomatch e
   ·injection e with e1 _;rw [e1]
 byValue := fun k v h => by
  rcases zk h with ⟨i,t,rfl,rfl⟩ | ⟨x,t,rfl,rfl⟩ <;> rfl
 pyHash := fun hv h => by
  rcases zk hv with ⟨i,t,rfl,rfl⟩ | ⟨x,t,rfl,rfl⟩
  ·exact wpAny_pyHash_int h
  ·exact wpAny_pyHash_str h
 eqBool := fun hu hv h => by
  rcases zk hu with ⟨i,t,rfl,rfl⟩ | ⟨x,t,rfl,rfl⟩
  ·rcases zk hv with ⟨j,u,rfl,rfl⟩ | ⟨y,u,rfl,rfl⟩
   ·rw [qkk] at h;exact wpAny_eqBool_int h
   ·rw [qjc] at h;exact SeqAt.EqAt.int_str i t y u _ _ _ _ h
  ·rcases zk hv with ⟨j,u,rfl,rfl⟩ | ⟨y,u,rfl,rfl⟩
   ·rw [qja] at h;exact SeqAt.EqAt.str_int x t j u _ _ _ _ h
   ·rw [qhw] at h;exact wpAny_eqBool_str h
 «strs» := fun k x t v h => by
  rcases zk h with ⟨i,u,rfl,e⟩ | ⟨y,u,rfl,e⟩
  ·exact nomatch e
  ·injection e with e1 _
   subst e1
   cases v <;> rfl
end L2
namespace L2
open PySem PySem.Spec PyProof.Rows
set_option genInjectivity true in
inductive V where
 | non | bl (b : Bool) | int (i : Int) | str (x : Str) | byt (b : Array UInt8) | flt (b : UInt64) | ref (a : Addr) | ty (n : String)
 deriving DecidableEq
def jg : V → Value → Prop
 | .non,u => u = Value.none
 | .bl b,u => u = Value.bool b
 | .int i,u => ∃ t,u = Value.int i t
 | .str x,u => ∃ t,u = Value.str x t
 | .byt b,u => ∃ t,u = Value.bytes b t
 | .flt b,u => ∃ t,u = Value.float b t
 | .ref a,u => u = Value.ref a
 | .ty n,u => u = Value.type n
abbrev zy : List V → List Value → Prop := Paired jg
theorem zy.length {xs : List V} {us : List Value} (r : zy xs us) : xs.length = us.length := Paired.length r
theorem zy.get : ∀ {xs : List V} {us : List Value} {i : Nat} {x : V},zy xs us → xs[i]? = some x → ∃ u,us[i]? = some u∧jg x u
 | _,_,_,_,.nil,e => by simp at e
 | _,_,0,_,.cons r _,e => by simp at e;subst e;exact ⟨_,rfl,r⟩
 | _,_,i + 1,x,.cons _ t,e => by
  obtain ⟨u,h1,h2⟩ := zy.get (i := i) (x := x) t (by simpa using e)
  exact ⟨u,by simpa using h1,h2⟩
theorem zy.set {x : V} {u : Value} (r : jg x u) : ∀ {xs : List V} {us : List Value} (i : Nat),zy xs us → zy (xs.set i x) (us.set i u)
 | _,_,_,.nil => .nil
 | _,_,0,.cons _ t => .cons r t
 | _,_,i + 1,.cons q t => .cons q (zy.set r i t)
theorem zy.append : ∀ {xs ys : List V} {us ws : List Value},zy xs us → zy ys ws → zy (xs ++ ys) (us ++ ws)
 | _,_,_,_,.nil,s => s
 | _,_,_,_,.cons r t,s => .cons r (zy.append t s)
theorem zy.take : ∀ {xs : List V} {us : List Value} (n : Nat),zy xs us → zy (xs.take n) (us.take n)
 | _,_,0,_ => .nil
 | _,_,_ + 1,.nil => .nil
 | _,_,n + 1,.cons r t => .cons r (zy.take n t)
theorem zy.drop : ∀ {xs : List V} {us : List Value} (n : Nat),zy xs us → zy (xs.drop n) (us.drop n)
 | _,_,0,r => r
 | _,_,_ + 1,.nil => .nil
 | _,_,n + 1,.cons _ t => zy.drop n t
def qn5 : Option V → Option Value → Prop
 | some v,some u => jg v u
 | none,none => True
 | _,_ => False
def KV {κ : Type} : List (κ × V) → List (κ × Value) → Prop := Paired fun (p : κ × V) (q : κ × Value) => p.1 = q.1∧jg p.2 q.2
def kV : Key → V
 | .inl i => .int i
 | .inr x => .str x
inductive HO where
 /-- a list -/
 | lst (xs : List V)
 /-- a tuple (never changes) -/
 | tup (xs : List V)
 /-- a dict whose keys are ints and texts;one whose keys are tuples of ints and texts (the empty one is both) -/
 | dK (kvs : List (Key × V)) | dT (kvs : List (List Key × V))
 /-- a set of ints: its members,its size -/
 | set (S : Int → Bool) (n : Nat)
 /-- an instance of the class at C,its dict at dx,its attributes -/
 | ins (C dx : Addr) (fs : List (Str × V))
 /-- the dict of the instance at x -/
 | own (x : Addr)
 /-- the dict of an exception -/
 | xd (fs : List (Str × V))
 /-- a bound method,f of x -/
 | met (f x : Addr)
 /-- a range object lo,lo + 1,.. below hi -/
 | rng (lo hi : Int)
 /-- a thing that is known to the object (the script;a dict while a loop walks it): read,never written while it is so -/
 | frz (o : Obj) (u : HO)
 /-- a code object's table -/
 | tbl (ps : Array Value)
 /-- any other thing,by what is true of its one object (a def of one's own: SetO a S n := HO.ext fun h => ..) -/
 | ext (φ : Heap → Prop)
abbrev Hp := Addr → Option HO
def upd (H : Hp) (a : Addr) (o : HO) : Hp := fun b => if b = a then some o else H b
theorem zj {H : Hp} {a : Addr} {o : HO} : upd H a o a = some o := by unfold upd;rw [if_pos rfl]
theorem qI {H : Hp} {a b : Addr} {o : HO} (h : b ≠ a) : upd H a o b = H b := by unfold upd;rw [if_neg h]
theorem qC {H : Hp} {a b : Addr} {o : HO} (h : H a = some o) (h' : H b = none) : a ≠ b := by
 intro e;subst e;rw [h] at h';cases h'
section
variable (P : Program) (w : World)
def Y0 (H : Hp) (h : Heap) (a : Addr) : HO → Prop
 | .lst xs => xs.length ≤ sizeLine∧∃ (its : List Value) (n : Nat),zy xs its∧h.get? a = some { cls := .type "list",data := .seq its.toArray n }
 | .tup xs => xs.length ≤ sizeLine∧∃ its : List Value,zy xs its∧IsTup h a its.toArray
 | .dK kvs => kvs.length ≤ sizeLine∧(a == sysModules) = false∧∃ vs,KV kvs vs∧h.DictOf (NR P w) a vs
 | .dT kvs => kvs.length ≤ sizeLine∧(a == sysModules) = false∧∃ xs : List (List Key × Addr × Value),
   Paired (fun (p : List Key × V) (q : List Key × Addr × Value) => p.1 = q.1∧H q.2.1 = some (.tup (p.1.map kV))∧jg p.2 q.2.2) kvs xs ∧
   ∃ o es ep,h.get? a = some o∧o.ExactDict∧o.data = .dict es ep∧es.toList = xs.map (entryOfKey (tupleKind (NR P w)))∧(xs.map (·.1)).Nodup
 | .set S n => h.SetOf (intKind P w) a S n
 | .ins C dx fs => H dx = some (.own a)∧fs.length ≤ 1000∧dx ≠ a∧h.get? a = some (PySem.W.instObj C dx) ∧
   ∃ mA,h.Ns1 dx mA∧(∀ f,qn5 (fs.lookup f) (mA f))∧PySem.Within mA (fs.map (·.1))
 | .own _ => ∃ o,h.get? a = some o
 | .xd fs => ∃ mA,h.Ns1 a mA∧∀ f,qn5 (fs.lookup f) (mA f)
 | .rng lo hi => ∃ t u v,h.get? a = some { cls := .type "range",data := .fields #[.int lo t,.int hi u,.int 1 v] }
 | .frz o u => h.get? a = some o∧Y0 H h a u
 | .tbl ps => h.get? a = some { cls := .none,data := .fields ps }
 | .met f x => h.get? a = some (PySem.W.methodObj (.ref f) (.ref x))
 | .ext φ => φ h∧(∃ o,h.get? a = some o)∧∀ h1 h2 : Heap,φ h1 → (∀ o,h1.get? a = some o → h2.get? a = some o) → φ h2
def HOk (H : Hp) (h : Heap) : Prop := ∀ a o,H a = some o → Y0 P w H h a o
end
section
variable {P : Program} {w : World} {H H' : Hp} {h h' : Heap} {a : Addr} {o : HO}
theorem Y0.lt (x : Y0 P w H h a o) : a < h.objs.size := by
 cases o with
 | lst xs => obtain ⟨_,_,_,_,e⟩ := x;exact Heap.lt_size e
 | tup xs => obtain ⟨_,_,_,p⟩ := x;exact p.lt
 | dK kvs => obtain ⟨_,_,_,_,o,_,_,e,_⟩ := x;exact Heap.lt_size e
 | dT kvs => obtain ⟨_,_,_,_,o,_,_,e,_⟩ := x;exact Heap.lt_size e
 | set S n => obtain ⟨o,_,_,_,e,_⟩ := x;exact Heap.lt_size e
 | ins C dx fs => obtain ⟨_,_,_,e,_⟩ := x;exact Heap.lt_size e
 | own y => obtain ⟨_,e⟩ := x;exact Heap.lt_size e
 | xd fs => obtain ⟨_,⟨_,_,_,e,_⟩,_⟩ := x;exact Heap.lt_size e
 | rng lo hi => obtain ⟨_,_,_,e⟩ := x;exact Heap.lt_size e
 | frz ob u => obtain ⟨e,_⟩ := x;exact Heap.lt_size e
 | tbl ps => exact Heap.lt_size (show h.get? a = some _ from x)
 | met f y => exact Heap.lt_size (show h.get? a = some _ from x)
 | ext φ => obtain ⟨_,⟨_,e⟩,_⟩ := x;exact Heap.lt_size e
theorem Paired.mapP {α β : Type} {F G : α → β → Prop} : ∀ {l₁ : List α} {l₂ : List β},Paired F l₁ l₂ → (∀ a b,F a b → G a b) → Paired G l₁ l₂
 | _,_,.nil,_ => .nil
 | _,_,.cons r t,f => .cons (f _ _ r) (Paired.mapP t f)
theorem Y0.stay (x : Y0 P w H h a o) (k : ∀ b u,(b = a ∨ H b = some (.own a)) → h.get? b = some u → h'.get? b = some u)
  (ho : ∀ b,H b = some (.own a) → H' b = some (.own a)) (ht : ∀ b xs,H b = some (.tup xs) → H' b = some (.tup xs)) : Y0 P w H' h' a o := by
 induction o with
 | lst xs => obtain ⟨z,its,n,r,e⟩ := x;exact ⟨z,its,n,r,k _ _ (.inl rfl) e⟩
 | tup xs => obtain ⟨z,its,r,ob,e,c⟩ := x;exact ⟨z,its,r,ob,k _ _ (.inl rfl) e,c⟩
 | dK kvs => obtain ⟨z,y,vs,r,ob,es,ep,e,c⟩ := x;exact ⟨z,y,vs,r,ob,es,ep,k _ _ (.inl rfl) e,c⟩
 | dT kvs =>
  obtain ⟨z,y,xs,r,ob,es,ep,e,c⟩ := x
  exact ⟨z,y,xs,Paired.mapP r fun p q z => ⟨z.1,ht _ _ z.2.1,z.2.2⟩,ob,es,ep,k _ _ (.inl rfl) e,c⟩
 | set S n => obtain ⟨ob,es,ep,t,e,c⟩ := x;exact ⟨ob,es,ep,t,k _ _ (.inl rfl) e,c⟩
 | ins C dx fs =>
  obtain ⟨d,z,ne,e,mA,⟨od,es,ep,e2,c⟩,r⟩ := x
  exact ⟨ho _ d,z,ne,k _ _ (.inl rfl) e,mA,⟨od,es,ep,k _ _ (.inr d) e2,c⟩,r⟩
 | own y => obtain ⟨ob,e⟩ := x;exact ⟨ob,k _ _ (.inl rfl) e⟩
 | xd fs => obtain ⟨mA,⟨od,es,ep,e,c⟩,r⟩ := x;exact ⟨mA,⟨od,es,ep,k _ _ (.inl rfl) e,c⟩,r⟩
 | rng lo hi => obtain ⟨t,u,v,e⟩ := x;exact ⟨t,u,v,k _ _ (.inl rfl) e⟩
 | frz ob u ih => obtain ⟨e,q⟩ := x;exact ⟨k _ _ (.inl rfl) e,ih q⟩
 | tbl ps =>
  have e : h.get? a = some { cls := .none,data := .fields ps } := x
  show h'.get? a = some { cls := .none,data := .fields ps }
  exact k a _ (.inl rfl) e
 | met f y =>
  have e : h.get? a = some (PySem.W.methodObj (.ref f) (.ref y)) := x
  show h'.get? a = some (PySem.W.methodObj (.ref f) (.ref y))
  exact k a _ (.inl rfl) e
 | ext φ => obtain ⟨p,⟨o,e⟩,st⟩ := x;exact ⟨st _ _ p fun o q => k _ _ (.inl rfl) q,⟨o,k _ _ (.inl rfl) e⟩,st⟩
theorem HOk.lt (x : HOk P w H h) (e : H a = some o) : a < h.objs.size := (x a o e).lt
theorem HOk.fresh (x : HOk P w H h) (e : h.objs.size ≤ a) : H a = none := by
 cases q : H a with
 | none => rfl
 | some u => exact absurd (Nat.lt_of_lt_of_le (x.lt q) e) (Nat.lt_irrefl _)
theorem HOk.kept (x : HOk P w H h) (k : ∀ b u,h.get? b = some u → h'.get? b = some u) : HOk P w H h' := fun a o e =>
 (x a o e).stay (fun b u _ q => k b u q) (fun _ q => q) fun _ _ q => q
theorem HOk.laid (x : HOk P w H h) (k : ∀ b u,h.get? b = some u → h'.get? b = some u) (hp : h.objs.size ≤ a) (new : Y0 P w (upd H a o) h' a o) : HOk P w (upd H a o) h' := fun b u e => by
 have hn := x.fresh hp
 by_cases hb : b = a
 ·subst hb;rw [zj] at e;cases e;exact new
 ·rw [qI hb] at e
  exact (x b u e).stay (fun c v _ q => k c v q) (fun c q => by rw [qI (qC q hn)];exact q) fun c xs q => by rw [qI (qC q hn)];exact q
end
def Rd (H : Hp) (a : Addr) (u : HO) : Prop := H a = some u ∨ ∃ o,H a = some (.frz o u)
theorem Rd.ok {P : Program} {w : World} {H : Hp} {h : Heap} {a : Addr} {u : HO} (r : Rd H a u) (x : HOk P w H h) : Y0 P w H h a u := by
 rcases r with r | ⟨o,r⟩
 ·exact x a u r
 ·obtain ⟨_,q⟩ := x a _ r
  exact q
def Mut : Option HO → Prop
 | some (.lst _) => True
 | some (.dK _) => True
 | some (.dT _) => True
 | some (.set _ _) => True
 | some (.ins _ _ _) => True
 | some (.ext _) => True
 | _ => False
section
variable {P : Program} {w : World} {H : Hp} {h h' : Heap} {x e : Addr} {o' : HO}
theorem HOk.write (ok : HOk P w H h) (mu : Mut (H x)) (he : e = x ∨ H e = some (.own x)) (k : ∀ b u,b ≠ e → h.get? b = some u → h'.get? b = some u) (heo : ∃ u,h'.get? e = some u)
  (new : Y0 P w (upd H x o') h' x o') : HOk P w (upd H x o') h' := fun b u q => by
 have nown : ∀ c y,H c = some (.own y) → c ≠ x := fun c y r z => by subst z;rw [r] at mu;exact mu
 have ntup : ∀ c xs,H c = some (.tup xs) → c ≠ x := fun c xs r z => by subst z;rw [r] at mu;exact mu
 by_cases hb : b = x
 ·subst hb;rw [zj] at q;cases q;exact new
 ·rw [qI hb] at q
  by_cases hbe : b = e
  ·have q' : H b = some (.own x) := by
    rcases he with z | z
    ·exact absurd (hbe.trans z) hb
    ·rw [hbe];exact z
   rw [q] at q';cases q'
   obtain ⟨v,hv⟩ := heo
   exact ⟨v,by rw [hbe];exact hv⟩
  ·refine (ok b u q).stay (fun c v hc r => k c v ?_ r) (fun c r => by rw [qI (nown c b r)];exact r) fun c xs r => by rw [qI (ntup c xs r)];exact r
   rcases hc with rfl | hc
   ·exact hbe
   ·rintro rfl
    rcases he with z | z
    ·exact nown c b hc z
    ·rw [hc] at z;cases z;exact hb rfl
end
structure Un (fs ex : List Addr) (H H' : Hp) (h h' : Heap) : Prop where
 keep : ∀ b o,h.get? b = some o → H b = none → b ∉ fs → b ∉ ex → h'.get? b = some o
 slot : ∀ b o,h.get? b = some o → H b = none → b ∈ fs → b ∉ ex → ∃ sl,h'.get? b = some { o with slots := sl }
 free : ∀ b o,h.get? b = some o → H b = none → b ∉ ex → H' b = none
 there : ∀ b o,h.get? b = some o → b ∉ ex → ∃ o',h'.get? b = some o'
 tups : ∀ b xs,H b = some (.tup xs) → H' b = some (.tup xs)
 frzs : ∀ b o u,H b = some (.frz o u) → H' b = some (.frz o u)
 tbls : ∀ b ps,H b = some (.tbl ps) → ∃ more,H' b = some (.tbl (ps ++ more))
section
variable {fs fs' ex ex' : List Addr} {H H1 H2 : Hp} {h h1 h2 h' : Heap} {a x e : Addr} {o : HO}
theorem Un.any (u : Un fs ex H H1 h h1) {b : Addr} {ob : Obj} (q : h.get? b = some ob) (n : H b = none) (hx : b ∉ ex) : ∃ sl,h1.get? b = some { ob with slots := sl } := by
 by_cases hb : b ∈ fs
 ·exact u.slot b ob q n hb hx
 ·exact ⟨ob.slots,u.keep b ob q n hb hx⟩
theorem Un.kept (k : ∀ b u,h.get? b = some u → h'.get? b = some u) : Un fs ex H H h h' :=
 ⟨fun b ob q _ _ _ => k b ob q,fun b ob q _ _ _ => ⟨ob.slots,k b ob q⟩,fun _ _ _ n _ => n,fun b ob q _ => ⟨ob,k b ob q⟩,fun _ _ q => q,fun _ _ _ q => q,fun _ ps q => ⟨#[],by rw [q];simp⟩⟩
theorem Un.refl : Un fs ex H H h h := Un.kept fun _ _ q => q
theorem Un.laid (k : ∀ b u,h.get? b = some u → h'.get? b = some u) (hp : h.objs.size ≤ a) (hn : H a = none) : Un fs ex H (upd H a o) h h' where
 keep := fun b u q _ _ _ => k b u q
 slot := fun b u q _ _ _ => ⟨u.slots,k b u q⟩
 free := fun b u q n _ => by rw [qI (Nat.ne_of_lt (Nat.lt_of_lt_of_le (Heap.lt_size q) hp))];exact n
 there := fun b u q _ => ⟨u,k b u q⟩
 tups := fun b xs q => by rw [qI (qC q hn)];exact q
 frzs := fun b u xs q => by rw [qI (qC q hn)];exact q
 tbls := fun b ps q => ⟨#[],by rw [qI (qC q hn),q];simp⟩
theorem Un.write (mu : Mut (H x)) (he : e = x ∨ H e = some (.own x)) (k : ∀ b u,b ≠ e → h.get? b = some u → h'.get? b = some u) (heo : ∃ u,h'.get? e = some u) : Un fs ex H (upd H x o) h h' := by
 have hx : ∀ b,H b = none → b ≠ x := fun b n z => by subst z;rw [n] at mu;exact mu
 have hb : ∀ b,H b = none → b ≠ e := fun b n z => by
  subst z
  rcases he with r | r
  ·exact hx b n r
  ·rw [n] at r;cases r
 have hm : ∀ b u,H b = some u → ¬ Mut (some u) → b ≠ x := fun b u q nm z => by subst z;rw [q] at mu;exact nm mu
 refine ⟨fun b u q n _ _ => k b u (hb b n) q,fun b u q n _ _ => ⟨u.slots,k b u (hb b n) q⟩,fun b u q n _ => by rw [qI (hx b n)];exact n,fun b u q _ => ?_,
  fun b xs q => by rw [qI (hm b _ q fun z => z)];exact q,fun b u xs q => by rw [qI (hm b _ q fun z => z)];exact q,fun b ps q => ⟨#[],by rw [qI (hm b _ q fun z => z),q];simp⟩⟩
 by_cases hbe : b = e
 ·subst hbe;exact heo
 ·exact ⟨u,k b u hbe q⟩
end
def trk (h : Heap) (H : Hp) : List Addr := (List.range h.objs.size).filter fun a => (H a).isSome
def qbU (h : Heap) (H : Hp) : Heap := PySem.W.hideAll h (trk h H)
theorem qae (h : Heap) (H : Hp) : (qbU h H).objs.size = h.objs.size := PySem.W.hideAll_size _ _
theorem qbP {h : Heap} {H : Hp} {b : Addr} {o : Obj} (e : h.get? b = some o) (n : H b = none) : (qbU h H).get? b = some o :=
 PySem.W.hideAll_get _ e fun hm => by
  have q : (H b).isSome = true := (List.mem_filter.mp hm).2
  rw [n] at q;simp at q
theorem qfC {h : Heap} {H : Hp} {b : Addr} {o : Obj} (e : (qbU h H).get? b = some o) : h.get? b = some o∧H b = none := by
 have e' : h.get? b = some o := PySem.W.of_hideAll (trk h H) e
 refine ⟨e',?_⟩
 cases q : H b with
 | none => rfl
 | some x =>
  have hm : b ∈ trk h H := List.mem_filter.mpr ⟨List.mem_range.mpr (Heap.lt_size e'),by simp [q]⟩
  have z : (qbU h H).get? b = none := PySem.W.hideAll_none (trk h H) hm
  rw [z] at e;cases e
def qfx (g h : Heap) (L : Addr) : List (Addr × Obj) := (List.range h.objs.size).filterMap fun a => if a = L ∨ (g.get? a).isSome = true then none else (h.get? a).map fun o => (a,o)
def QN (g h : Heap) (L d : Addr) : List (Addr × Obj) := (qfx g h L).filter fun p => decide (p.1 ≠ d)
end L2
namespace L2
open PySem PySem.Spec PyProof.Rows
structure Mod (K : PySem.W.Frag) (mg : Str → Option Value) (base : Heap) : Prop where
 kin : K.In base
 glob : base.Ns mainGlobals mg
 blt : ∃ mb,base.Ns builtinsNs mb∧∀ x : Str,x ≠ "__name__" → mb x = bootBuiltins x
 nolimit : base.NoLimit
structure Cx where
 prog : Program
 w : World
 K : PySem.W.Frag
 mg : Str → Option Value
 base : Heap
 A : Around
 N : List Str
 s₀ : Shared
 H₀ : Hp
 env : Env
 outer : List Env
 stack : List Env
 ex : List Addr
 fn : Str → Bool
 calm : Bool
 pn : List (Addr × Obj)
 xe : Value → Shared → Prop
def frs (l : List Env) : List Addr := l.filterMap (·.frame)
abbrev Cx.fs (X : Cx) : List Addr := frs X.outer
def Vis (sc : Scope) (x : Str) : Prop := sc.names.lookup x = some .local ∨ sc.names.lookup x = some .cell ∨ sc.names.lookup x = some .free
def Loc (sc : Scope) (x : Str) : Prop := sc.names.lookup x = some .local ∨ sc.names.lookup x = some .cell
def qoW (env : Env) (h : Heap) (m : Str → Option Value) (x : Str) (u : Value) : Prop :=
 (env.kindOf x = some .local∧m x = some u) ∨ ((env.kindOf x = some .cell ∨ env.kindOf x = some .free)∧∃ c,env.cells.lookup x = some c∧h.IsCell c (some u))
structure Cx.Ok (X : Cx) : Prop where
 mod : Mod X.K X.mg X.base
 kind : X.env.scope.kind = .function
 glob : X.env.globals = mainGlobals
 blt : X.env.builtins = builtinsNs
 above : X.s₀.heap.objs.size ≤ X.env.locals
 inj : ∀ x y c,X.env.cells.lookup x = some c → X.env.cells.lookup y = some c → x = y
 has : ∀ x,(X.env.kindOf x = some .cell ∨ X.env.kindOf x = some .free) → ∃ c,X.env.cells.lookup x = some c
 cab : ∀ x c,X.fn x = true → X.env.cells.lookup x = some c → X.s₀.heap.objs.size ≤ c
 hd : X.calm = true → X.A.handled = none
 frames : X.A.frames = some X.stack
 stk : X.stack = X.outer ∨ (X.stack = X.env :: X.outer∧X.env.frame = some X.env.locals)
 exf : ∀ b ∈ X.ex,b ≠ X.env.locals∧∀ x c,X.env.cells.lookup x = some c → c ≠ b
 bs : ∀ b o,X.base.get? b = some o → X.s₀.heap.get? b = some o∧X.H₀ b = none
 bsz : X.base.objs.size ≤ X.s₀.heap.objs.size
 noex : ∀ b o,X.base.get? b = some o → b ∉ X.ex
 exfs : ∀ b ∈ X.ex,b ∉ X.fs
 funs : X.s₀.heap.FunFrames X.base X.outer
 frf : ∀ b ∈ X.fs,X.H₀ b = none
structure Inv (X : Cx) (pins : List (Addr × Obj)) (σ : List (Option V)) (H : Hp) (s : Shared) : Prop where
 ok : X.Ok
 os : s.os = X.s₀.os
 bare : AllBare s.gens
 base : Un X.fs X.ex X.H₀ H X.s₀.heap s.heap
 loc : ∃ m,s.heap.Ns X.env.locals m∧∀ (i : Nat) (x : Str) (v : V),X.N[i]? = some x → σ[i]? = some (some v) → Vis X.env.scope x → ∃ u,jg v u∧qoW X.env s.heap m x u
 cell : ∀ x c,X.env.cells.lookup x = some c → ∃ v,s.heap.IsCell c v
 free : H X.env.locals = none
 freeC : ∀ x c,X.env.cells.lookup x = some c → H c = none
 pin : ∀ p ∈ X.pn ++ pins,s.heap.get? p.1 = some p.2∧H p.1 = none∧p.1 ≠ X.env.locals∧p.1 ∉ X.fs∧∀ v,p.2.data ≠ .cell v
 hok : HOk X.prog X.w H s.heap
 len : σ.length = X.N.length
section
variable {X : Cx} {pins : List (Addr × Obj)} {σ : List (Option V)} {H H' : Hp} {s : Shared} {h' : Heap}
theorem Cx.Ok.nofr (ok : X.Ok) {b : Addr} {o : Obj} (e : X.base.get? b = some o) : b ∉ X.fs := fun hb => by
 have := (ok.funs.mem hb).1
 rw [e] at this;cases this
theorem Inv.bs (I : Inv X pins σ H s) : ∀ b o,X.base.get? b = some o → s.heap.get? b = some o∧H b = none := fun b o e =>
 ⟨I.base.keep b o (I.ok.bs b o e).1 (I.ok.bs b o e).2 (I.ok.nofr e) (I.ok.noex b o e),I.base.free b o (I.ok.bs b o e).1 (I.ok.bs b o e).2 (I.ok.noex b o e)⟩
theorem Inv.bk (I : Inv X pins σ H s) : ∀ b o,X.base.get? b = some o → s.heap.get? b = some o := fun b o e => (I.bs b o e).1
theorem Inv.mod (I : Inv X pins σ H s) : Mod X.K X.mg X.base := I.ok.mod
theorem Inv.kIn (I : Inv X pins σ H s) : X.K.In s.heap := I.ok.mod.kin.keeps I.bk
theorem Inv.nolimit (I : Inv X pins σ H s) : s.heap.NoLimit := I.ok.mod.nolimit.keeps I.bk
theorem Inv.fr (I : Inv X pins σ H s) : ∃ m,Fr X.base X.env.locals s.heap m :=
 let ⟨m,hn,_⟩ := I.loc
 ⟨m,hn,I.bk,Nat.le_trans I.ok.bsz I.ok.above⟩
theorem Inv.lt (I : Inv X pins σ H s) : X.env.locals < s.heap.objs.size := let ⟨_,hn,_⟩ := I.loc;hn.lt
theorem Inv.sz (I : Inv X pins σ H s) : X.s₀.heap.objs.size ≤ s.heap.objs.size := Nat.le_trans I.ok.above (Nat.le_of_lt I.lt)
theorem Inv.nofs (I : Inv X pins σ H s) {a : Addr} (h : s.heap.objs.size ≤ a) : a ∉ X.fs := fun hb => by
 obtain ⟨_,o,ho,_⟩ := I.ok.funs.mem hb
 exact absurd (Nat.lt_of_lt_of_le (Heap.lt_size ho) (Nat.le_trans I.sz h)) (Nat.lt_irrefl _)
theorem Inv.cne (I : Inv X pins σ H s) : ∀ x c,X.env.cells.lookup x = some c → c ≠ X.env.locals := fun x c e z => by
 obtain ⟨v,o,ho,hd⟩ := I.cell x c e
 obtain ⟨m,⟨o',es,ep,ho',hd',_⟩,_⟩ := I.loc
 rw [z,ho'] at ho;cases ho;rw [hd'] at hd;cases hd
theorem Inv.funs (I : Inv X pins σ H s) : s.heap.FunFrames X.base X.outer := by
 have all : ∀ (l : List Env),(∀ b ∈ frs l,b ∈ X.fs) → X.s₀.heap.FunFrames X.base l → s.heap.FunFrames X.base l := by
  intro l
  induction l with
  | nil => intro _ _;trivial
  | cons env r ih =>
   intro hs hl
   obtain ⟨hk,⟨L,o,hf,hn,ho,hd⟩,hr⟩ := hl
   have hL : L ∈ X.fs := hs L (by unfold frs;rw [List.filterMap_cons,hf];exact List.mem_cons_self)
   obtain ⟨sl,e⟩ := I.base.slot L o ho (I.ok.frf L hL) hL fun z => I.ok.exfs L z hL
   exact ⟨hk,⟨L,_,hf,hn,e,hd⟩,ih (fun b hb => hs b (by unfold frs;rw [List.filterMap_cons,hf];exact List.mem_cons_of_mem _ hb)) hr⟩
 exact all X.outer (fun _ hb => hb) I.ok.funs
theorem Inv.stack (I : Inv X pins σ H s) : s.heap.FunFrames X.base X.stack := by
 rcases I.ok.stk with e | ⟨e,hf⟩
 ·rw [e];exact I.funs
 ·rw [e]
  obtain ⟨m,hn,_⟩ := I.loc
  refine .cons (by rw [I.ok.kind];decide) hf hn ?_ I.funs
  exact Heap.get?_none_of_le (Nat.le_trans I.ok.bsz I.ok.above)
theorem Inv.stkSub (I : Inv X pins σ H s) : ∀ b ∈ frs X.stack,b ∈ X.env.locals :: X.fs := fun b hb => by
 rcases I.ok.stk with e | ⟨e,hf⟩
 ·rw [e] at hb;exact List.mem_cons_of_mem _ hb
 ·rw [e] at hb
  unfold frs at hb
  rw [List.filterMap_cons,hf] at hb
  exact hb
theorem Inv.stkFree (I : Inv X pins σ H s) : ∀ b ∈ frs X.stack,H b = none := fun b hb => by
 rcases List.mem_cons.mp (I.stkSub b hb) with e | hb
 ·rw [e];exact I.free
 ·obtain ⟨_,o,ho,_⟩ := I.ok.funs.mem hb
  exact I.base.free b o ho (I.ok.frf b hb) fun z => I.ok.exfs b z hb
theorem Inv.step {g' : Array GenState} {t' : Nat} {d' : Drawn} {ch : List Addr} (I : Inv X pins σ H s)
  (hch : ∀ b ∈ ch,(b ∈ X.ex ∨ X.s₀.heap.objs.size ≤ b)∧b ≠ X.env.locals∧(∀ x c,X.env.cells.lookup x = some c → c ≠ b)∧∀ p ∈ X.pn ++ pins,p.1 ≠ b)
  (keep : ∀ b o,b ≠ X.env.locals → b ∉ X.fs → b ∉ ch → s.heap.get? b = some o → H b = none → h'.get? b = some o)
  (slot : ∀ b o,b ≠ X.env.locals → b ∈ X.fs → b ∉ ch → s.heap.get? b = some o → H b = none → ∃ sl,h'.get? b = some { o with slots := sl }) (free : ∀ b o,b ∉ ch → s.heap.get? b = some o → H b = none → H' b = none)
  (there : ∀ b o,b ∉ ch → s.heap.get? b = some o → ∃ o',h'.get? b = some o')
  (tups : ∀ b xs,H b = some (.tup xs) → H' b = some (.tup xs)) (frzs : ∀ b o u,H b = some (.frz o u) → H' b = some (.frz o u)) (tbls : ∀ b ps,H b = some (.tbl ps) → ∃ more,H' b = some (.tbl (ps ++ more)))
  (ns : ∀ m,s.heap.Ns X.env.locals m → h'.Ns X.env.locals m) (hok : HOk X.prog X.w H' h') (hg : AllBare g') :
  Inv X pins σ H' { s with heap := h',gens := g',drawn := d',toks := t' } := by
 have neL : ∀ b o,X.s₀.heap.get? b = some o → b ≠ X.env.locals := fun b o e => Nat.ne_of_lt (Nat.lt_of_lt_of_le (Heap.lt_size e) I.ok.above)
 have neC : ∀ b o,X.s₀.heap.get? b = some o → b ∉ X.ex → b ∉ ch := fun b o e hx hb => by
  rcases (hch b hb).1 with z | z
  ·exact hx z
  ·exact absurd (Nat.lt_of_lt_of_le (Heap.lt_size e) z) (Nat.lt_irrefl _)
 have cellK : ∀ x c,X.env.cells.lookup x = some c → ∀ v,s.heap.IsCell c v → h'.IsCell c v := fun x c e v ⟨o,ho,hd⟩ => by
  have nch : c ∉ ch := fun z => (hch c z).2.2.1 x c e rfl
  by_cases hc : c ∈ X.fs
  ·obtain ⟨sl,q⟩ := slot c o (I.cne x c e) hc nch ho (I.freeC x c e)
   exact ⟨_,q,hd⟩
  ·exact ⟨o,keep c o (I.cne x c e) hc nch ho (I.freeC x c e),hd⟩
 refine ⟨I.ok,I.os,hg,⟨fun b o e n hb hx => ?_,fun b o e n hb hx => ?_,fun b o e n hx => ?_,fun b o e hx => ?_,fun b xs e => tups b xs (I.base.tups b xs e),fun b o xs e => frzs b o xs (I.base.frzs b o xs e),fun b ps e => ?_⟩,?_,fun x c e => ?_,?_,fun x c e => ?_,fun p hp => ?_,hok,I.len⟩
 ·exact keep b o (neL b o e) hb (neC b o e hx) (I.base.keep b o e n hb hx) (I.base.free b o e n hx)
 ·obtain ⟨sl,e1⟩ := I.base.slot b o e n hb hx
  obtain ⟨sl',e2⟩ := slot b _ (neL b o e) hb (neC b o e hx) e1 (I.base.free b o e n hx)
  exact ⟨sl',e2⟩
 ·obtain ⟨o',e1⟩ := I.base.there b o e hx
  exact free b o' (neC b o e hx) e1 (I.base.free b o e n hx)
 ·obtain ⟨o',e1⟩ := I.base.there b o e hx
  exact there b o' (neC b o e hx) e1
 ·obtain ⟨m1,e1⟩ := I.base.tbls b ps e
  obtain ⟨m2,e2⟩ := tbls b _ e1
  exact ⟨m1 ++ m2,by rw [e2,Array.append_assoc]⟩
 ·obtain ⟨m,hn,hl⟩ := I.loc
  refine ⟨m,ns m hn,fun i x v e1 e2 e3 => ?_⟩
  obtain ⟨u,r,l⟩ := hl i x v e1 e2 e3
  refine ⟨u,r,?_⟩
  rcases l with l | ⟨k,c,e,z⟩
  ·exact .inl l
  ·exact .inr ⟨k,c,e,cellK x c e _ z⟩
 ·obtain ⟨v,z⟩ := I.cell x c e
  exact ⟨v,cellK x c e v z⟩
 ·obtain ⟨m,⟨o,_,_,ho,_⟩,_⟩ := I.loc
  exact free _ o (fun z => (hch _ z).2.1 rfl) ho I.free
 ·obtain ⟨v,o,ho,hd⟩ := I.cell x c e
  exact free c o (fun z => (hch c z).2.2.1 x c e rfl) ho (I.freeC x c e)
 ·obtain ⟨e,n,ne,nf,d⟩ := I.pin p hp
  have nch : p.1 ∉ ch := fun z => (hch p.1 z).2.2.2 p hp rfl
  exact ⟨keep p.1 p.2 ne nf nch e n,free p.1 p.2 nch e n,ne,nf,d⟩
theorem Inv.un {t' : Nat} (I : Inv X pins σ H s) (u : Un X.fs [] H H' s.heap h') (hok : HOk X.prog X.w H' h') : Inv X pins σ H' { s with heap := h',toks := t' } := by
 obtain ⟨m,⟨o,es,ep,ho,r⟩,_⟩ := id I.loc
 obtain ⟨sl,hL⟩ := u.any ho I.free (by simp)
 exact I.step (g' := s.gens) (d' := s.drawn) (ch := []) (fun _ z => nomatch z) (fun b o _ hb _ e n => u.keep b o e n hb (by simp)) (fun b o _ hb _ e n => u.slot b o e n hb (by simp)) (fun b o _ e n => u.free b o e n (by simp)) (fun b o _ e => u.there b o e (by simp)) u.tups u.frzs u.tbls (fun m' hm => by
  obtain ⟨o',es',ep',ho',r'⟩ := hm
  rw [ho] at ho';cases ho'
  exact ⟨_,es',ep',hL,r'⟩) hok I.bare
theorem Inv.call {g' : Array GenState} {t' : Nat} {d' : Drawn} {ch : List Addr} (I : Inv X pins σ H s) (u : Un (frs X.stack) ch H H' s.heap h') (hok : HOk X.prog X.w H' h') (hg : AllBare g')
  (hch : ∀ b ∈ ch,(b ∈ X.ex ∨ X.s₀.heap.objs.size ≤ b)∧b ≠ X.env.locals∧(∀ x c,X.env.cells.lookup x = some c → c ≠ b)∧∀ p ∈ X.pn ++ pins,p.1 ≠ b) :
  Inv X pins σ H' { s with heap := h',gens := g',drawn := d',toks := t' } := by
 obtain ⟨m,⟨o,es,ep,ho,r⟩,_⟩ := id I.loc
 obtain ⟨sl,hL⟩ := u.any ho I.free fun z => (hch _ z).2.1 rfl
 exact I.step (ch := ch) hch (fun b o hL hb hc e n => u.keep b o e n (fun z => (List.mem_cons.mp (I.stkSub b z)).elim hL hb) hc) (fun b o _ _ hc e n => u.any e n hc) (fun b o hc e n => u.free b o e n hc) (fun b o hc e => u.there b o e hc) u.tups u.frzs u.tbls (fun m' hm => by
  obtain ⟨o',es',ep',ho',r'⟩ := hm
  rw [ho] at ho';cases ho'
  exact ⟨_,es',ep',hL,r'⟩) hok hg
theorem Inv.turned {t' : Nat} {it : Addr} (I : Inv X pins σ H s) (k : ∀ b o,b ≠ it → s.heap.get? b = some o → h'.get? b = some o) (hn : H it = none) (hL : it ≠ X.env.locals)
  (h1 : it ∈ X.ex ∨ X.s₀.heap.objs.size ≤ it) (h2 : ∀ x c,X.env.cells.lookup x = some c → c ≠ it) (h3 : ∀ p ∈ X.pn ++ pins,p.1 ≠ it) : Inv X pins σ H { s with heap := h',toks := t' } := by
 have nit : ∀ b u,H b = some u → b ≠ it := fun b u e z => by rw [z,hn] at e;cases e
 refine I.step (g' := s.gens) (d' := s.drawn) (ch := [it]) (fun b hb => ?_) (fun b o _ _ hc e _ => k b o (fun z => hc (by simp [z])) e) (fun b o _ _ hc e _ => ⟨o.slots,k b o (fun z => hc (by simp [z])) e⟩) (fun _ _ _ _ n => n)
  (fun b o hc e => ⟨o,k b o (fun z => hc (by simp [z])) e⟩) (fun _ _ e => e) (fun _ _ _ e => e) (fun b ps e => ⟨#[],by rw [e];simp⟩) (fun m hm => ?_) (fun b u e => ?_) I.bare
 ·have e : b = it := by simpa using hb
  subst e
  exact ⟨h1,hL,h2,h3⟩
 ·obtain ⟨o,es,ep,ho,r⟩ := hm
  exact ⟨o,es,ep,k _ o (Ne.symm hL) ho,r⟩
 ·refine (I.hok b u e).stay (fun c v hc q => k c v ?_ q) (fun _ q => q) fun _ _ q => q
  rcases hc with z | z
  ·rw [z];exact nit b u e
  ·exact nit c _ z
theorem Inv.tok (I : Inv X pins σ H s) (t : Nat) : Inv X pins σ H { s with toks := t } := I.un (h' := s.heap) (t' := t) Un.refl I.hok
theorem Inv.kept {t' : Nat} (I : Inv X pins σ H s) (k : ∀ b u,s.heap.get? b = some u → h'.get? b = some u) : Inv X pins σ H { s with heap := h',toks := t' } := I.un (Un.kept k) (I.hok.kept k)
theorem Inv.laid {a : Addr} {o : HO} {t' : Nat} (I : Inv X pins σ H s) (k : ∀ b u,s.heap.get? b = some u → h'.get? b = some u) (hp : s.heap.objs.size ≤ a) (new : Y0 X.prog X.w (upd H a o) h' a o) :
  Inv X pins σ (upd H a o) { s with heap := h',toks := t' } := I.un (Un.laid k hp (I.hok.fresh hp)) (I.hok.laid k hp new)
theorem Inv.write {x e : Addr} {o : HO} {t' : Nat} (I : Inv X pins σ H s) (mu : Mut (H x)) (he : e = x ∨ H e = some (.own x)) (k : ∀ b u,b ≠ e → s.heap.get? b = some u → h'.get? b = some u) (heo : ∃ u,h'.get? e = some u)
  (new : Y0 X.prog X.w (upd H x o) h' x o) : Inv X pins σ (upd H x o) { s with heap := h',toks := t' } := I.un (Un.write mu he k heo) (I.hok.write mu he k heo new)
theorem Inv.pins_of {pins' : List (Addr × Obj)} (I : Inv X pins σ H s) (h : ∀ p ∈ pins',s.heap.get? p.1 = some p.2∧H p.1 = none∧p.1 ≠ X.env.locals∧p.1 ∉ X.fs∧∀ v,p.2.data ≠ .cell v) : Inv X pins' σ H s :=
 ⟨I.ok,I.os,I.bare,I.base,I.loc,I.cell,I.free,I.freeC,fun p hp => (List.mem_append.mp hp).elim (fun z => I.pin p (List.mem_append_left _ z)) (h p),I.hok,I.len⟩
theorem K5 {N : List Str} (hN : N.Nodup) {i j : Nat} {x : Str} (a : N[i]? = some x) (b : N[j]? = some x) : i = j := by
 obtain ⟨h1,e1⟩ := List.getElem?_eq_some_iff.mp a
 obtain ⟨h2,e2⟩ := List.getElem?_eq_some_iff.mp b
 exact (List.getElem_inj hN).mp (e1.trans e2.symm)
theorem SF {M : Model} {A : Around} {E : Value → Shared → Prop} {i : Nat} {x : Str} {v : V} {u : Value} {Q : Unit → Shared → Prop} (I : Inv X pins σ H s) (hN : X.N.Nodup) (hi : X.N[i]? = some x) (hx : Loc X.env.scope x) (r : jg v u)
  (h : ∀ s',Inv X pins (σ.set i (some v)) H s' → (∃ a,Heap.SameBut a s.heap s'.heap∧(a = X.env.locals ∨ X.env.cells.lookup x = some a)) → Q () s') (hf : X.fn x = true ∨ X.env.scope.names.lookup x = some .local := by first | exact .inl rfl | exact .inr rfl | assumption) : wpAny M A (storeName X.env x u) Q E s := by
 obtain ⟨m,hn,hl⟩ := id I.loc
 have hcls : (X.env.scope.kind == .class || (X.env.scope.kind == .module && X.env.locals != X.env.globals)) = false := by rw [I.ok.kind];rfl
 have hiσ : i < σ.length := by rw [I.len];exact (List.getElem?_eq_some_iff.mp hi).1
 have cne := I.cne
 have tracked : ∀ {a : Addr} {h' : Heap},(∃ o,s.heap.get? a = some o∧H a = none) → Heap.SameBut a s.heap h' → HOk X.prog X.w H h' := fun {a h'} ha hs b ob e => by
  obtain ⟨_,_,hfree⟩ := ha
  refine (I.hok b ob e).stay (fun c w' hc q => (hs.2 c ?_).trans q) (fun _ q => q) fun _ _ q => q
  rintro rfl
  rcases hc with rfl | hc
  ·rw [hfree] at e;cases e
  ·rw [hfree] at hc;cases hc
 rcases hx with hk | hk
 ·refine wpAny_storeName_local hk hn (fun h' hn' hs => ?_) hcls
  obtain ⟨oL,_,_,hoL,_⟩ := id hn
  refine h _ ⟨I.ok,I.os,I.bare,⟨fun b o e n hb hx => ?_,fun b o e n hb hx => ?_,I.base.free,fun b o e hx => ?_,I.base.tups,I.base.frzs,I.base.tbls⟩,⟨_,hn',fun j y v' e1 e2 e3 => ?_⟩,fun y c e => ?_,I.free,I.freeC,fun p hp => ?_,tracked ⟨oL,hoL,I.free⟩ hs,by simpa using I.len⟩ ⟨_,hs,.inl rfl⟩
  ·exact (hs.2 b (Nat.ne_of_lt (Nat.lt_of_lt_of_le (Heap.lt_size e) I.ok.above))).trans (I.base.keep b o e n hb hx)
  ·obtain ⟨sl,e1⟩ := I.base.slot b o e n hb hx
   exact ⟨sl,(hs.2 b (Nat.ne_of_lt (Nat.lt_of_lt_of_le (Heap.lt_size e) I.ok.above))).trans e1⟩
  ·obtain ⟨o',e1⟩ := I.base.there b o e hx
   exact ⟨o',(hs.2 b (Nat.ne_of_lt (Nat.lt_of_lt_of_le (Heap.lt_size e) I.ok.above))).trans e1⟩
  ·by_cases hj : j = i
   ·subst hj
    rw [hi] at e1;cases e1
    rw [List.getElem?_set_self hiσ] at e2
    cases e2
    exact ⟨u,r,.inl ⟨hk,by simp⟩⟩
   ·rw [List.getElem?_set_ne (Ne.symm hj)] at e2
    obtain ⟨u',r',q⟩ := hl j y v' e1 e2 e3
    refine ⟨u',r',?_⟩
    rcases q with ⟨k,e⟩ | ⟨k,c,e,z⟩
    ·refine .inl ⟨k,?_⟩
     have : y ≠ x := fun e => hj (K5 hN e1 (e ▸ hi))
     simp [this,e]
    ·exact .inr ⟨k,c,e,z.sameBut hs (cne y c e)⟩
  ·obtain ⟨w',z⟩ := I.cell y c e
   exact ⟨w',z.sameBut hs (cne y c e)⟩
  ·obtain ⟨e,n,ne,nf,d⟩ := I.pin p hp
   exact ⟨(hs.2 p.1 ne).trans e,n,ne,nf,d⟩
 ·have hfn : X.fn x = true := by
   rcases hf with z | z
   ·exact z
   ·rw [z] at hk;cases hk
  obtain ⟨c,hc⟩ := I.ok.has x (.inl hk)
  obtain ⟨w',z⟩ := I.cell x c hc
  refine wpAny_storeName_cell I.ok.kind hk hc z (fun h' hc' hs => ?_)
  obtain ⟨oc,hoc,hocd⟩ := id z
  refine h { s with heap := h' } ⟨I.ok,I.os,I.bare,⟨fun b o e n hb hx => ?_,fun b o e n hb hx => ?_,I.base.free,fun b o e hx => ?_,I.base.tups,I.base.frzs,I.base.tbls⟩,⟨m,hn.sameBut hs (Ne.symm (cne x c hc)),fun j y v' e1 e2 e3 => ?_⟩,fun y c' e => ?_,I.free,I.freeC,fun p hp => ?_,tracked ⟨oc,hoc,I.freeC x c hc⟩ hs,by simpa using I.len⟩ ⟨c,hs,.inr hc⟩
  ·exact (hs.2 b (Nat.ne_of_lt (Nat.lt_of_lt_of_le (Heap.lt_size e) (I.ok.cab x c hfn hc)))).trans (I.base.keep b o e n hb hx)
  ·obtain ⟨sl,e1⟩ := I.base.slot b o e n hb hx
   exact ⟨sl,(hs.2 b (Nat.ne_of_lt (Nat.lt_of_lt_of_le (Heap.lt_size e) (I.ok.cab x c hfn hc)))).trans e1⟩
  ·obtain ⟨o',e1⟩ := I.base.there b o e hx
   exact ⟨o',(hs.2 b (Nat.ne_of_lt (Nat.lt_of_lt_of_le (Heap.lt_size e) (I.ok.cab x c hfn hc)))).trans e1⟩
  ·by_cases hj : j = i
   ·subst hj
    rw [hi] at e1;cases e1
    rw [List.getElem?_set_self hiσ] at e2
    cases e2
    exact ⟨u,r,.inr ⟨.inl hk,c,hc,hc'⟩⟩
   ·rw [List.getElem?_set_ne (Ne.symm hj)] at e2
    obtain ⟨u',r',q⟩ := hl j y v' e1 e2 e3
    refine ⟨u',r',?_⟩
    rcases q with q | ⟨k,c',e,z'⟩
    ·exact .inl q
    ·refine .inr ⟨k,c',e,z'.sameBut hs ?_⟩
     rintro rfl
     exact hj (K5 hN e1 (I.ok.inj _ _ _ e hc ▸ hi))
  ·by_cases hcc : c' = c
   ·subst hcc;exact ⟨_,hc'⟩
   ·obtain ⟨w2,z2⟩ := I.cell y c' e
    exact ⟨w2,z2.sameBut hs hcc⟩
  ·obtain ⟨e,n,ne,nf,d⟩ := I.pin p hp
   refine ⟨(hs.2 p.1 ?_).trans e,n,ne,nf,d⟩
   intro q
   rw [q,hoc] at e
   have q' : oc = p.2 := Option.some.inj e
   exact d w' (by rw [← q'];exact hocd)
theorem j8 {M : Model} {A : Around} {E : Value → Shared → Prop} {i : Nat} {x : Str} {v : V} {u : Value} {Q : Unit → Shared → Prop} (I : Inv X pins σ H s) (hN : X.N.Nodup) (hi : X.N[i]? = some x) (hx : Loc X.env.scope x) (r : jg v u)
  (h : ∀ s',Inv X pins (σ.set i (some v)) H s' → Q () s') (hf : X.fn x = true ∨ X.env.scope.names.lookup x = some .local := by first | exact .inl rfl | exact .inr rfl | assumption) : wpAny M A (storeName X.env x u) Q E s :=
 SF I hN hi hx r (fun s' I' _ => h s' I') hf
theorem Inv.call' {s' : Shared} {ch : List Addr} (I : Inv X pins σ H s) (ho : s'.os = s.os) (u : Un (frs X.stack) ch H H' s.heap s'.heap) (hok : HOk X.prog X.w H' s'.heap) (hg : AllBare s'.gens)
  (hch : ∀ b ∈ ch,(b ∈ X.ex ∨ X.s₀.heap.objs.size ≤ b)∧b ≠ X.env.locals∧(∀ x c,X.env.cells.lookup x = some c → c ≠ b)∧∀ p ∈ X.pn ++ pins,p.1 ≠ b) : Inv X pins σ H' s' := by
 obtain ⟨h',g',d',t',o'⟩ := s'
 have e : o' = s.os := ho
 subst e
 exact I.call (g' := g') (t' := t') (d' := d') u hok hg hch
end
abbrev XK := Value → Option Addr → Hp → Prop
abbrev St := List (Option V)
abbrev VK := V → Hp → Prop
abbrev TE := St → Hp → VK → Prop
abbrev TT := St → Hp → (Bool → Hp → Prop) → Prop
abbrev TA := St → Hp → (List V → Hp → Prop) → Prop
structure Ends where
 nx : St → Hp → Prop
 rt : VK
 bk : St → Hp → Prop := fun _ _ => False
 ct : St → Hp → Prop := fun _ _ => False
abbrev TS := Ends → St → Hp → Prop
def EP (X : Cx) (pins : List (Addr × Obj)) (σ : St) (Q : VK) (u : Value) (s' : Shared) : Prop := ∃ v H',Inv X pins σ H' s'∧jg v u∧Q v H'
def TP (X : Cx) (pins : List (Addr × Obj)) (σ : St) (Q : Bool → Hp → Prop) (b : Bool) (s' : Shared) : Prop := ∃ H',Inv X pins σ H' s'∧Q b H'
def AP (X : Cx) (pins : List (Addr × Obj)) (σ : St) (Q : List V → Hp → Prop) (us : List Value) (s' : Shared) : Prop := ∃ vs H',Inv X pins σ H' s'∧zy vs us∧Q vs H'
def SP (X : Cx) (pins : List (Addr × Obj)) (D : Ends) (f : Flow) (s' : Shared) : Prop :=
 match f with
 | .next => ∃ σ' H',Inv X pins σ' H' s'∧D.nx σ' H'
 | .brk => ∃ σ' H',Inv X pins σ' H' s'∧D.bk σ' H'
 | .cont => ∃ σ' H',Inv X pins σ' H' s'∧D.ct σ' H'
 | .ret u => ∃ v σ' H',Inv X pins σ' H' s'∧jg v u∧D.rt v H'
def PE (X : Cx) (e : Expr) (t : TE) : Prop :=
 ∀ (pins : List (Addr × Obj)) (s : Shared) (σ : St) (H : Hp) (Q : VK),Inv X pins σ H s → t σ H Q → wpAny (model X.prog X.w) X.A (eval e X.env) (EP X pins σ Q) X.xe s
def PT (X : Cx) (e : Expr) (t : TT) : Prop :=
 ∀ (pins : List (Addr × Obj)) (s : Shared) (σ : St) (H : Hp) (Q : Bool → Hp → Prop),Inv X pins σ H s → t σ H Q → wpAny (model X.prog X.w) X.A (isTrue e X.env (eval e X.env)) (TP X pins σ Q) X.xe s
def PW (X : Cx) (e : Expr) (t : TT) : Prop :=
 ∀ (whole : Sem Value) (pins : List (Addr × Obj)) (s : Shared) (σ : St) (H : Hp) (Q : Bool → Hp → Prop),Inv X pins σ H s → t σ H Q → wpAny (model X.prog X.w) X.A (isTrue e X.env whole) (TP X pins σ Q) X.xe s
theorem PW.pt {X : Cx} {e : Expr} {t : TT} (h : PW X e t) : PT X e t := h _
def PA (X : Cx) (es : List Expr) (t : TA) : Prop :=
 ∀ (pos : Pos) (pins : List (Addr × Obj)) (s : Shared) (σ : St) (H : Hp) (Q : List V → Hp → Prop),Inv X pins σ H s → t σ H Q → wpAny (model X.prog X.w) X.A (spliced (backTo pos (starEach es X.env))) (AP X pins σ Q) X.xe s
def PS (X : Cx) (st : Stmt) (t : TS) : Prop :=
 ∀ (pins : List (Addr × Obj)) (s : Shared) (σ : St) (H : Hp) (D : Ends),Inv X pins σ H s → t D σ H → wpAny (model X.prog X.w) X.A (exec st X.env) (SP X pins D) X.xe s
def PSs (X : Cx) (st : List Stmt) (t : TS) : Prop :=
 ∀ (pins : List (Addr × Obj)) (s : Shared) (σ : St) (H : Hp) (D : Ends),Inv X pins σ H s → t D σ H → wpAny (model X.prog X.w) X.A (execs st X.env) (SP X pins D) X.xe s
theorem thn {α : Type} {t : Sem α} {Q Q' : α → Shared → Prop} {M : Model} {A : Around} {E : Value → Shared → Prop} {s : Shared} (h : wpAny M A t Q E s) (hQ : ∀ a s,Q a s → Q' a s) : wpAny M A t Q' E s := wpAny_mono h hQ fun _ _ x => x
end L2
namespace L2
open PySem PySem.Spec PyProof.Rows
section
variable {X : Cx}
def qpb (i : Nat) : TE := fun σ H Q => ∃ v,σ[i]? = some (some v)∧Q v H
def tC (v : V) : TE := fun _ H Q => Q v H
theorem qko {i : Nat} {x : Str} {pos : Pos} (hN : X.N[i]? = some x) (hv : Vis X.env.scope x) (hd : (x == ("__debug__" : Str)) = false := by decide) (hcd : (x == ("__classdict__" : Str)) = false := by decide) : PE X (.Name x pos) (qpb i) := by
 intro pins s σ H Q I h
 obtain ⟨v,e,h⟩ := h
 obtain ⟨m,hn,hl⟩ := I.loc
 obtain ⟨u,r,l⟩ := hl i x v hN e hv
 have fin : EP X pins σ Q u s := ⟨v,H,I,r,h⟩
 rcases l with ⟨hk,hm⟩ | ⟨hk,c,hc,hcell⟩
 ·exact wpAny_Name (wpAny_loadName_local I.ok.kind hk hn hm fin) hd
 ·rcases hk with hk | hk
  ·exact wpAny_Name (wpAny_loadName_cell I.ok.kind hk hc hcell fin) hd
  ·exact wpAny_Name (wpAny_loadName_free I.ok.kind hk hc hcell fin hcd) hd
theorem qke {i j pos} : PE X (.Constant (.int i) j pos) (tC (.int i)) := fun _ _ _ H _ I h => wpAny_Constant_int ⟨.int i,H,I.tok _,⟨_,rfl⟩,h⟩
theorem qng {b j pos} : PE X (.Constant (.bool b) j pos) (tC (.bl b)) := fun _ _ _ H _ I h => Constant_bool ⟨.bl b,H,I,rfl,h⟩
theorem qkc {j pos} : PE X (.Constant .none j pos) (tC .non) := fun _ _ _ H _ I h => Constant_none ⟨.non,H,I,rfl,h⟩
theorem qiL {x j pos} : PE X (.Constant (.str x) j pos) (tC (.str x)) := fun _ _ _ H _ I h => Calls.Constant_str ⟨.str x,H,I.tok _,⟨_,rfl⟩,h⟩
def Gl (X : Cx) (x : Str) : Prop := X.env.kindOf x = some .globalImplicit
theorem qaS {E : Value → Shared → Prop} {pins : List (Addr × Obj)} {s : Shared} {σ : St} {H : Hp} {x : Str} {u : Value} {pos : Pos} {Q : Value → Shared → Prop} (I : Inv X pins σ H s) (hg : Gl X x) (hm : X.mg x = some u) (h : Q u s)
  (hd : (x == ("__debug__" : Str)) = false := by decide) : wpAny (model X.prog X.w) X.A (eval (.Name x pos) X.env) Q E s :=
 Calls.Name_function_global I.ok.kind hg (Calls.loadGlobal_global (by rw [I.ok.glob];exact I.mod.glob.keeps I.bk) hm h) hd
theorem W7 {E : Value → Shared → Prop} {pins : List (Addr × Obj)} {s : Shared} {σ : St} {H : Hp} {x : Str} {u : Value} {pos : Pos} {Q : Value → Shared → Prop} (I : Inv X pins σ H s) (hg : Gl X x) (hm : X.mg x = none) (hv : bootBuiltins x = some u) (h : Q u s)
  (hn : x ≠ "__name__" := by decide) (hd : (x == ("__debug__" : Str)) = false := by decide) : wpAny (model X.prog X.w) X.A (eval (.Name x pos) X.env) Q E s := by
 obtain ⟨mb,h1,h2⟩ := I.mod.blt
 exact Calls.Name_function_global I.ok.kind hg (Calls.loadGlobal_builtin (by rw [I.ok.glob];exact I.mod.glob.keeps I.bk) hm (by rw [I.ok.blt];exact h1.keeps I.bk) ((h2 x hn).trans hv) h) hd
theorem qgg {x : Str} {v : V} {u : Value} {pos : Pos} (hg : Gl X x) (hm : X.mg x = some u) (r : jg v u) (hd : (x == ("__debug__" : Str)) = false := by decide) : PE X (.Name x pos) (tC v) :=
 fun _ _ _ H _ I h => qaS I hg hm ⟨v,H,I,r,h⟩ hd
theorem T4 {x : Str} {v : V} {u : Value} {pos : Pos} (hg : Gl X x) (hm : X.mg x = none) (hv : bootBuiltins x = some u) (r : jg v u) (hn : x ≠ "__name__" := by decide) (hd : (x == ("__debug__" : Str)) = false := by decide) : PE X (.Name x pos) (tC v) :=
 fun _ _ _ H _ I h => W7 I hg hm hv ⟨v,H,I,r,h⟩ hn hd
variable {a b : Expr} {ta tb : TE} {pos : Pos}
def tB (t : TE) : TT := fun σ H Q => t σ H fun x H1 => ∃ c,x = .bl c∧Q c H1
theorem qk4 {e : Expr} {t : TE} (h : PE X e t) (he : ∀ whole,isTrue e X.env whole = (do let v ← whole;standAt e.pos;holding [v] (truthy v)) := by intro _;rfl) : PT X e (tB t) := by
 intro pins s σ H Q I hw
 refine isTrue_plain (thn (h pins s σ H _ I hw) fun v s1 ⟨x,H1,I1,r1,q1⟩ => ?_) (he _)
 obtain ⟨d,rfl,q⟩ := q1
 cases r1
 exact wpAny_truthy_bool ⟨H1,I1,q⟩
variable {tA tB' : TT} {QN : List Expr}
def qpi (t u : TT) : TT := fun σ H Q => t σ H fun c H1 => if c = true then u σ H1 Q else Q false H1
def tOr (t u : TT) : TT := fun σ H Q => t σ H fun c H1 => if c = true then Q true H1 else u σ H1 Q
def qpa (t : TT) : TT := fun σ H Q => t σ H fun c H1 => Q (!c) H1
theorem qgu (ha : PT X a tA) : PW X (.BoolOp .And [a] pos) tA := by
 intro wh pins s σ H Q I h
 refine isTrue_and (thn (ha pins s σ H Q I h) fun c s1 e => ?_)
 cases c with
 | true => exact isTrue_and_nil e
 | false => exact e
theorem qij (ha : PT X a tA) : PW X (.BoolOp .Or [a] pos) tA := by
 intro wh pins s σ H Q I h
 refine isTrue_or (thn (ha pins s σ H Q I h) fun c s1 e => ?_)
 cases c with
 | false => exact isTrue_or_nil e
 | true => exact e
theorem qhM (ha : PT X a tA) (hb : PW X (.BoolOp .And (b :: QN) pos) tB') : PW X (.BoolOp .And (a :: b :: QN) pos) (qpi tA tB') := by
 intro wh pins s σ H Q I h
 refine isTrue_and (thn (ha pins s σ H _ I h) fun c s1 ⟨H1,I1,q1⟩ => ?_)
 cases c with
 | true => exact hb wh pins s1 σ H1 Q I1 q1
 | false => exact ⟨H1,I1,q1⟩
theorem qnM (ha : PT X a tA) (hb : PW X (.BoolOp .Or (b :: QN) pos) tB') : PW X (.BoolOp .Or (a :: b :: QN) pos) (tOr tA tB') := by
 intro wh pins s σ H Q I h
 refine isTrue_or (thn (ha pins s σ H _ I h) fun c s1 ⟨H1,I1,q1⟩ => ?_)
 cases c with
 | true => exact ⟨H1,I1,q1⟩
 | false => exact hb wh pins s1 σ H1 Q I1 q1
theorem qjB (ha : PT X a tA) : PT X (.UnaryOp .Not a pos) (qpa tA) := by
 intro pins s σ H Q I h
 exact isTrue_not (ha pins s σ H (fun c H1 => Q (!c) H1) I h)
def qmO (ta tb : TE) : TE := fun σ H Q => ta σ H fun x H1 => ∃ c,x = .bl c∧if c = true then tb σ H1 Q else Q (.bl false) H1
def qnl (ta : TE) : TE := fun σ H Q => ta σ H fun x H1 => ∃ c,x = .bl c∧Q (.bl (!c)) H1
theorem qjZ {op} {t : TE} (h : PE X a t) : PE X (.BoolOp op [a] pos) t := fun pins s σ H Q I hw => BoolOp_one (h pins s σ H Q I hw)
theorem qjs (ha : PE X a ta) (hb : PE X (.BoolOp .And (b :: QN) pos) tb) : PE X (.BoolOp .And (a :: b :: QN) pos) (qmO ta tb) := by
 intro pins s σ H Q I h
 refine BoolOp_and (thn (ha pins s σ H _ I h) fun v s1 ⟨x,H1,I1,r1,q1⟩ => ?_)
 obtain ⟨c,rfl,q1⟩ := q1
 cases r1
 refine wpAny_truthy_bool ?_
 cases c with
 | true => exact hb pins s1 σ H1 Q I1 q1
 | false => exact ⟨.bl false,H1,I1,rfl,q1⟩
theorem qlc (ha : PE X a ta) : PE X (.UnaryOp .Not a pos) (qnl ta) := by
 intro pins s σ H Q I h
 refine UnaryOp_ (thn (ha pins s σ H _ I h) fun v s1 ⟨x,H1,I1,r1,q1⟩ => ?_)
 obtain ⟨c,rfl,q1⟩ := q1
 cases r1
 exact not_of (wpAny_truthy_bool ⟨.bl (!c),H1,I1,rfl,q1⟩)
def tIf (t : TT) (ta tb : TE) : TE := fun σ H Q => t σ H fun c H1 => if c = true then ta σ H1 Q else tb σ H1 Q
theorem qcj {c : Expr} (hc : PT X c tA) (ha : PE X a ta) (hb : PE X b tb) : PE X (.IfExp c a b pos) (tIf tA ta tb) := by
 intro pins s σ H Q I h
 refine wpAny_IfExp (thn (hc pins s σ H _ I h) fun d s1 ⟨H1,I1,q1⟩ => ?_)
 cases d with
 | true => exact ha pins s1 σ H1 Q I1 q1
 | false => exact hb pins s1 σ H1 Q I1 q1
end
end L2
namespace L2
open PySem PySem.Spec PyProof.Rows
def SqL (K : PySem.W.Frag) (H : Hp) (a : Addr) (xs : List V) : Prop :=
 Rd H a (.lst xs) ∨
  ∃ (o : Obj) (its : Array Value) (n : Nat),K.lookup a = some o∧o.cls = .type "list"∧o.dict = none∧o.data = .seq its n∧its.size ≤ sizeLine∧zy xs its.toList
def SqT (K : PySem.W.Frag) (H : Hp) (a : Addr) (xs : List V) : Prop :=
 Rd H a (.tup xs) ∨
  ∃ (o : Obj) (its : Array Value) (n : Nat),K.lookup a = some o∧o.cls = .type "tuple"∧o.data = .seq its n∧its.size ≤ sizeLine∧zy xs its.toList
def qpk : Value → Option V
 | .none => some .non
 | .bool b => some (.bl b)
 | .int i _ => some (.int i)
 | .str x _ => some (.str x)
 | .bytes b _ => some (.byt b)
 | .float b _ => some (.flt b)
 | .ref a => some (.ref a)
 | .type n => some (.ty n)
 | _ => none
theorem jg.abs {x : V} {u : Value} (r : jg x u) : qpk u = some x := by
 cases x with
 | non => cases r;rfl
 | bl _ => cases r;rfl
 | int _ => obtain ⟨t,rfl⟩ := r;rfl
 | str _ => obtain ⟨t,rfl⟩ := r;rfl
 | byt _ => obtain ⟨t,rfl⟩ := r;rfl
 | flt _ => obtain ⟨t,rfl⟩ := r;rfl
 | ref _ => cases r;rfl
 | ty _ => cases r;rfl
theorem jg.inj {x y : V} {u : Value} (r : jg x u) (q : jg y u) : x = y := Option.some.inj (r.abs.symm.trans q.abs)
theorem zy.inj : ∀ {xs ys : List V} {us : List Value},zy xs us → zy ys us → xs = ys
 | _,_,_,.nil,.nil => rfl
 | _,_,_,.cons r t,.cons r' t' => by rw [r.inj r',zy.inj t t']
section
variable {X : Cx} {pins : List (Addr × Obj)} {σ : St} {H : Hp} {s : Shared} {a : Addr} {xs ys : List V}
theorem SqL.of {K : PySem.W.Frag} (h : H a = some (.lst xs)) : SqL K H a xs := .inl (.inl h)
theorem SqT.of {K : PySem.W.Frag} (h : H a = some (.tup xs)) : SqT K H a xs := .inl (.inl h)
theorem Inv.list (I : Inv X pins σ H s) (h : SqL X.K H a xs) : ∃ its : List Value,zy xs its∧PlainL s.heap a its.toArray∧xs.length ≤ sizeLine := by
 rcases h with h | ⟨o,its,n,hk,hc,hd,hs,hz,r⟩
 ·obtain ⟨z,its,n,r,e⟩ := h.ok I.hok
  exact ⟨its,r,⟨_,n,e,rfl,rfl,rfl⟩,z⟩
 ·refine ⟨its.toList,r,⟨o,n,I.kIn a o hk,hc,hd,by simpa using hs⟩,?_⟩
  have e := r.length
  simp only [Array.length_toList] at e
  omega
theorem Inv.tuple (I : Inv X pins σ H s) (h : SqT X.K H a xs) : ∃ its : List Value,zy xs its∧IsTup s.heap a its.toArray∧xs.length ≤ sizeLine := by
 rcases h with h | ⟨o,its,n,hk,hc,hs,hz,r⟩
 ·obtain ⟨z,its,r,p⟩ := h.ok I.hok
  exact ⟨its,r,p,z⟩
 ·refine ⟨its.toList,r,⟨o,I.kIn a o hk,hc,n,by simpa using hs⟩,?_⟩
  have e := r.length
  simp only [Array.length_toList] at e
  omega
theorem Inv.list_inj (I : Inv X pins σ H s) (h : SqL X.K H a xs) (h' : SqL X.K H a ys) : xs = ys := by
 obtain ⟨its,r,⟨o,n,e,_,_,d⟩,_⟩ := I.list h
 obtain ⟨its',r',⟨o',n',e',_,_,d'⟩,_⟩ := I.list h'
 rw [e] at e';cases e'
 rw [d] at d'
 injection d' with d1 _
 have : its = its' := by simpa using congrArg Array.toList d1
 subst this
 exact r.inj r'
theorem Inv.tuple_inj (I : Inv X pins σ H s) (h : SqT X.K H a xs) (h' : SqT X.K H a ys) : xs = ys := by
 obtain ⟨its,r,⟨o,e,_,n,d⟩,_⟩ := I.tuple h
 obtain ⟨its',r',⟨o',e',_,n',d'⟩,_⟩ := I.tuple h'
 rw [e] at e';cases e'
 rw [d] at d'
 injection d' with d1 _
 have : its = its' := by simpa using congrArg Array.toList d1
 subst this
 exact r.inj r'
end
abbrev Cx.wish (X : Cx) (E : Value → Shared → Prop) : Cx := { X with xe := E }
abbrev Cx.nox (X : Cx) : Cx := X.wish fun _ _ => False
theorem Cx.Ok.wish {X : Cx} (ok : X.Ok) (E : Value → Shared → Prop) : (X.wish E).Ok :=
 ⟨ok.mod,ok.kind,ok.glob,ok.blt,ok.above,ok.inj,ok.has,ok.cab,ok.hd,ok.frames,ok.stk,ok.exf,ok.bs,ok.bsz,ok.noex,ok.exfs,ok.funs,ok.frf⟩
theorem Cx.Ok.unwish {X : Cx} {E : Value → Shared → Prop} (ok : (X.wish E).Ok) : X.Ok :=
 ⟨ok.mod,ok.kind,ok.glob,ok.blt,ok.above,ok.inj,ok.has,ok.cab,ok.hd,ok.frames,ok.stk,ok.exf,ok.bs,ok.bsz,ok.noex,ok.exfs,ok.funs,ok.frf⟩
section
variable {X : Cx} {pins : List (Addr × Obj)} {σ : St} {H : Hp} {s : Shared} {E : Value → Shared → Prop}
theorem Inv.wish (I : Inv X pins σ H s) (E : Value → Shared → Prop) : Inv (X.wish E) pins σ H s := ⟨I.ok.wish E,I.os,I.bare,I.base,I.loc,I.cell,I.free,I.freeC,I.pin,I.hok,I.len⟩
theorem Inv.unwish (I : Inv (X.wish E) pins σ H s) : Inv X pins σ H s := ⟨I.ok.unwish,I.os,I.bare,I.base,I.loc,I.cell,I.free,I.freeC,I.pin,I.hok,I.len⟩
theorem SP.unwish {D : Ends} {f : Flow} {s' : Shared} (h : SP (X.wish E) pins D f s') : SP X pins D f s' := by
 cases f with
 | next => obtain ⟨σ',H',I,q⟩ := h;exact ⟨σ',H',I.unwish,q⟩
 | brk => obtain ⟨σ',H',I,q⟩ := h;exact ⟨σ',H',I.unwish,q⟩
 | cont => obtain ⟨σ',H',I,q⟩ := h;exact ⟨σ',H',I.unwish,q⟩
 | ret u => obtain ⟨v,σ',H',I,r,q⟩ := h;exact ⟨v,σ',H',I.unwish,r,q⟩
theorem PSs.nox {st : List Stmt} {t : TS} (h : PSs X.nox st t) : PSs X st t := fun pins s σ H D I hw =>
 wpAny_mono (h pins s σ H D (I.wish _) hw) (fun _ _ q => q.unwish) fun _ _ z => False.elim z
end
section
variable {X : Cx} {st : Stmt} {QN : List Stmt} {t u : TS} {e : Expr} {te : TE} {pos : Pos}
def qnx : TS := fun D σ H => D.nx σ H
def qoU (t u : TS) : TS := fun D σ H => t { D with nx := u D } σ H
theorem qgf : PSs X [] qnx := fun _ _ σ H _ I h => wpAny_execs_nil ⟨σ,H,I,h⟩
theorem qbL (h1 : PS X st t) (h2 : PSs X QN u) : PSs X (st :: QN) (qoU t u) := by
 intro pins s σ H D I h
 refine wpAny_execs_cons (thn (h1 pins s σ H { D with nx := u D } I h) fun f s1 q => ?_)
 cases f with
 | next =>
  obtain ⟨σ',H',I',q⟩ := q
  exact h2 pins s1 σ' H' D I' q
 | ret v => exact q
 | brk => exact q
 | cont => exact q
theorem qfa (h1 : PS X st t) : PSs X [st] t := by
 intro pins s σ H D I h
 refine wpAny_execs_cons (thn (h1 pins s σ H D I h) fun f s1 q => ?_)
 cases f with
 | next => exact wpAny_execs_nil q
 | ret v => exact q
 | brk => exact q
 | cont => exact q
def qoT (te : TE) : TS := fun D σ H => te σ H D.rt
theorem qhf (he : PE X e te) : PS X (.Return (some e) pos) (qoT te) := by
 intro pins s σ H D I h
 exact wpAny_Return_some (thn (he pins s σ H _ I h) fun v s1 ⟨x,H1,I1,r1,q1⟩ => ⟨x,σ,H1,I1,r1,q1⟩)
def qo2 (c : TT) (t u : TS) : TS := fun D σ H => c σ H fun b H1 => if b = true then t D σ H1 else u D σ H1
theorem qmB {c : Expr} {a b : List Stmt} {tc : TT} (hc : PT X c tc) (ha : PSs X a t) (hb : PSs X b u) : PS X (.If c a b pos) (qo2 tc t u) := by
 intro pins s σ H D I h
 refine wpAny_If (thn (hc pins s σ H _ I h) fun d s1 ⟨H1,I1,q1⟩ => ?_)
 cases d with
 | true => exact ha pins s1 σ H1 D I1 q1
 | false => exact hb pins s1 σ H1 D I1 q1
end
abbrev TG := V → St → Hp → (St → Hp → Prop) → Prop
abbrev TGs := List V → St → Hp → (St → Hp → Prop) → Prop
def PG (X : Cx) (target : Expr) (t : TG) : Prop :=
 ∀ (pins : List (Addr × Obj)) (s : Shared) (σ : St) (H : Hp) (v : V) (u : Value) (Q : St → Hp → Prop),Inv X pins σ H s → jg v u → t v σ H Q →
  wpAny (model X.prog X.w) X.A (assign target X.env u) (fun _ s' => ∃ σ' H',Inv X pins σ' H' s'∧Q σ' H') X.xe s
def PGs (X : Cx) (ts : List Expr) (t : TGs) : Prop :=
 ∀ (pins : List (Addr × Obj)) (s : Shared) (σ : St) (H : Hp) (vs : List V) (us : List Value) (Q : St → Hp → Prop),Inv X pins σ H s → zy vs us → t vs σ H Q →
  wpAny (model X.prog X.w) X.A (assignInOrder ((assignEach ts X.env).map (·.2)) us) (fun _ s' => ∃ σ' H',Inv X pins σ' H' s'∧Q σ' H') X.xe s
abbrev qms := V → V → V → Hp → (Hp → Prop) → Prop
def qoc (X : Cx) (t : qms) : Prop :=
 ∀ (pins : List (Addr × Obj)) (s : Shared) (σ : St) (H : Hp) (o i v : V) (ov iv u : Value) (Q : Hp → Prop),Inv X pins σ H s → jg o ov → jg i iv → jg v u → t o i v H Q →
  wpAny (model X.prog X.w) X.A (setItem ov iv u) (fun _ s' => ∃ H',Inv X pins σ H' s'∧Q H') X.xe s
abbrev TIp := V → V → Hp → VK → Prop
def PIp (X : Cx) (op : Operator) (t : TIp) : Prop :=
 ∀ (pins : List (Addr × Obj)) (s : Shared) (σ : St) (H : Hp) (x y : V) (v u : Value) (Q : VK),Inv X pins σ H s → jg x v → jg y u → t x y H Q →
  wpAny (model X.prog X.w) X.A (inplaceOp op v u) (EP X pins σ Q) X.xe s
section
variable {X : Cx} {pos : Pos}
def qge (i : Nat) : TG := fun v σ H Q => Q (σ.set i (some v)) H
theorem qfG {i : Nat} {x : Str} (hN : X.N.Nodup) (hi : X.N[i]? = some x) (hx : Loc X.env.scope x) (hf : X.fn x = true ∨ X.env.scope.names.lookup x = some .local := by first | exact .inl rfl | exact .inr rfl | assumption) : PG X (.Name x pos) (qge i) := by
 intro pins s σ H v u Q I r h
 exact wpAny_assign_Name (j8 I hN hi hx r (fun s' I' => ⟨_,H,I',h⟩) hf)
def WJ : TGs := fun vs σ H Q => vs = []∧Q σ H
def qR (t : TG) (u : TGs) : TGs := fun vs σ H Q => ∃ v r,vs = v :: r∧t v σ H fun σ' H' => u r σ' H' Q
theorem qgB : PGs X [] WJ := by
 intro pins s σ H vs us Q I r h
 obtain ⟨e,h⟩ := h
 subst e
 cases r
 exact assignInOrder_nil ⟨σ,H,I,h⟩
theorem qcq {e : Expr} {es : List Expr} {t : TG} {u : TGs} (h1 : PG X e t) (h2 : PGs X es u)
  (hs : (assignEach (e :: es) X.env).map (·.2) = assign e X.env :: (assignEach es X.env).map (·.2) := by rfl) : PGs X (e :: es) (qR t u) := by
 intro pins s σ H vs us Q I r h
 obtain ⟨v,vr,e1,h⟩ := h
 subst e1
 cases r with
 | cons r rr =>
  rw [hs]
  refine assignInOrder_cons (thn (h1 pins s σ H _ _ _ I r h) fun _ s1 ⟨σ1,H1,I1,q1⟩ => ?_)
  exact h2 pins s1 σ1 H1 _ _ Q I1 rr q1
def D8 (K : PySem.W.Frag) (n : Nat) (t : TGs) : TG := fun v σ H Q => ∃ a xs,v = .ref a∧SqT K H a xs∧xs.length = n∧t xs σ H Q
theorem qlK {es : List Expr} {k : Nat} {t : TGs} {n : Nat} (hc : X.calm = true) (h : PGs X es t)
  (hn : (assignEach es X.env).length = n := by rfl) (hst : (assignEach es X.env).findIdx? (·.1) = none := by rfl) : PG X (.Tuple es k pos) (D8 X.K n t) := by
 intro pins s σ H v u Q I r hw
 obtain ⟨a,xs,e1,hq,hl,hw⟩ := hw
 subst e1
 cases r
 obtain ⟨its,rv,ht,hz⟩ := I.tuple hq
 refine assign_Tuple_tuple (I.ok.hd hc) ht (by simp [hn,← hl,rv.length]) hst fun h' hx => ?_
 have I1 : Inv X pins σ H { s with heap := h' } := I.kept (t' := s.toks) fun b o e => hx b o (Nat.ne_of_lt (Heap.lt_size e)) e
 exact h pins _ σ H xs _ Q I1 (by simpa using rv) hw
def qpl (to ti : TE) (t : qms) : TG := fun v σ H Q => to σ H fun o H1 => ti σ H1 fun i H2 => t o i v H2 fun H3 => Q σ H3
theorem qjr {o i : Expr} {to ti : TE} {t : qms} (ho : PE X o to) (hi : PE X i ti) (hs : qoc X t)
  (ha : ∀ v,assign (.Subscript o i pos) X.env v = (do
   let ov ← holding [v] (eval o X.env)
   let iv ← holding [v,ov] (eval i X.env)
   standAt pos
   holding [v,ov,iv] (setItem ov iv v)
   release [v,ov,iv] []) := by intro _;rfl) : PG X (.Subscript o i pos) (qpl to ti t) := by
 intro pins s σ H v u Q I r h
 rw [ha]
 refine wpAny_bind (wpAny_holding (thn (ho pins s σ H _ I h) fun ov s1 ⟨x,H1,I1,r1,q1⟩ => ?_))
 refine wpAny_bind (wpAny_holding (thn (hi pins s1 σ H1 _ I1 q1) fun iv s2 ⟨y,H2,I2,r2,q2⟩ => ?_))
 refine wpAny_bind (wpAny_standAt (wpAny_bind (wpAny_holding (thn (hs pins s2 σ H2 x y v ov iv u _ I2 r1 r2 r q2) fun _ s3 ⟨H3,I3,q3⟩ => ?_))))
 exact wpAny_release ⟨σ,H3,I3,q3⟩
def qmr (te : TE) (g : TG) : TS := fun D σ H => te σ H fun x H1 => g x σ H1 D.nx
theorem qi0 {tg e : Expr} {te : TE} {g : TG} (he : PE X e te) (hg : PG X tg g) (hs : swapsWithSole [tg] e pos.line X.env = pure false := by rfl) (hw : swappedStores [tg] e X.env = pure none := by rfl)
  (h1 : (assignEach [tg] X.env).map (·.2) = [assign tg X.env] := by rfl) : PS X (.Assign [tg] e pos) (qmr te g) := by
 intro pins s σ H D I h
 refine wpAny_Assign_stores (thn (he pins s σ H _ I h) fun v s1 ⟨x,H1,I1,r1,q1⟩ => ?_) hs hw
 rw [h1]
 exact thn (hg pins s1 σ H1 x v _ I1 r1 q1) fun _ s2 q => q
theorem qlO {i : Nat} {x : Str} {e : Expr} {te : TE} {pos' : Pos} (hN : X.N.Nodup) (hi : X.N[i]? = some x) (hx : Loc X.env.scope x) (he : PE X e te) (hs : swapsWith e (some (.Name x pos')) pos.line X.env = pure false := by rfl) (hf : X.fn x = true ∨ X.env.scope.names.lookup x = some .local := by first | exact .inl rfl | exact .inr rfl | assumption) :
  PS X (.Assign [.Name x pos'] e pos) (qmr te (qge i)) := by
 intro pins s σ H D I h
 refine wpAny_Assign_Name (thn (he pins s σ H _ I h) fun v s1 ⟨y,H1,I1,r1,q1⟩ => ?_) hs
 exact j8 I1 hN hi hx r1 (fun s2 I2 => ⟨_,H1,I2,q1⟩) hf
def qpr (i j : Nat) (ta : TA) : TS := fun D σ H => ta σ H fun vs H1 => ∃ v w,vs = [v,w]∧D.nx ((σ.set i (some v)).set j (some w)) H1
theorem qiD {i j : Nat} {x y : Str} {a b : Expr} {ta : TA} {px py pt : Pos} {kt k2 pt2} (hc : X.calm = true) (hN : X.N.Nodup) (hi : X.N[i]? = some x) (hj : X.N[j]? = some y) (hij : i ≠ j)
  (hx : X.env.scope.names.lookup x = some .local) (hy : X.env.scope.names.lookup y = some .local) (ha : PA X [a,b] ta)
  (hw : swappedStores [.Tuple [.Name x px,.Name y py] kt pt] (.Tuple [a,b] k2 pt2) X.env = pure (some [x,y]))
  (hs : swapsWithSole [.Tuple [.Name x px,.Name y py] kt pt] (.Tuple [a,b] k2 pt2) pos.line X.env = pure false := by rfl) :
  PS X (.Assign [.Tuple [.Name x px,.Name y py] kt pt] (.Tuple [a,b] k2 pt2) pos) (qpr i j ta) := by
 intro pins s σ H D I h
 rw [exec_Assign_arm]
 refine wpAny_bind (wpAny_standAt ?_)
 rw [hs]
 refine wpAny_bind (wpAny_pure ?_)
 rw [if_neg (by decide)]
 refine wpAny_bind (Tuple_ (thn (ha _ pins s σ H _ I h) fun us s1 ⟨vs,H1,I1,r1,q1⟩ => ?_))
 obtain ⟨v,w,e1,q1⟩ := q1
 subst e1
 obtain ⟨u1,u2,rfl,rv,rw'⟩ : ∃ u1 u2,us = [u1,u2]∧jg v u1∧jg w u2 := by
  cases r1 with
  | cons p q =>
   cases q with
   | cons p' q' =>
    cases q'
    exact ⟨_,_,rfl,p,p'⟩
 refine wpAny_newObj_type ?_ (by show 2 ≤ sizeLine;decide)
 have I2 : Inv X pins σ H1 { s1 with heap := s1.heap.push { cls := .type "tuple",data := .seq [u1,u2].toArray } } := I1.kept (t' := s1.toks) fun b o e => Heap.get?_push_of_some _ e
 rw [hw]
 refine wpAny_bind (wpAny_pure ?_)
 show wpAny (model X.prog X.w) X.A (do rule "assign.swapped-stores";let items ← unpackItems (.ref s1.heap.objs.size) 2 none;assignInOrder [fun v => bindName X.env y v,fun v => bindName X.env x v] items.reverse;pure Flow.next) _ _ _
 refine wpAny_bind (wpAny_rule (wpAny_bind (unpackItems_tuple (items := #[u1,u2]) (I.ok.hd hc) (IsTup.new s1.heap _) fun h' hx' => ?_)))
 have I3 := I2.kept (h' := h') (t' := s1.toks) fun b o e => hx' b o (Nat.ne_of_lt (Heap.lt_size e)) e
 show wpAny _ _ (assignInOrder [fun v => bindName X.env y v,fun v => bindName X.env x v] [u2,u1] >>= fun _ => pure Flow.next) _ _ _
 refine wpAny_bind (assignInOrder_cons (wpAny_bindName (j8 I3 hN hj (.inl hy) rw' (fun s2 I4 => ?_) (.inr hy))))
 refine assignInOrder_cons (wpAny_bindName (j8 I4 hN hi (.inl hx) rv (fun s3 I5 => assignInOrder_nil (wpAny_pure ?_)) (.inr hx)))
 rw [List.set_comm _ _ (Ne.symm hij)] at I5
 exact ⟨_,H1,I5,q1⟩
def qpg (i : Nat) (te : TE) (ti : TIp) : TS := fun D σ H => ∃ x,σ[i]? = some (some x)∧te σ H fun y H1 => ti x y H1 fun z H2 => D.nx (σ.set i (some z)) H2
theorem qg1 {i : Nat} {x : Str} {e : Expr} {te : TE} {op : Operator} {ti : TIp} {pos' : Pos} (hN : X.N.Nodup) (hi : X.N[i]? = some x) (hx : Loc X.env.scope x) (he : PE X e te) (ho : PIp X op ti) (hf : X.fn x = true ∨ X.env.scope.names.lookup x = some .local := by first | exact .inl rfl | exact .inr rfl | assumption) :
  PS X (.AugAssign (.Name x pos') op e pos) (qpg i te ti) := by
 intro pins s σ H D I h
 obtain ⟨v,e1,h⟩ := h
 obtain ⟨m,hn,hl⟩ := I.loc
 have vis : Vis X.env.scope x := by rcases hx with k | k;exact .inl k;exact .inr (.inl k)
 obtain ⟨u,r,l⟩ := hl i x v hi e1 vis
 refine wpAny_AugAssign_Name ?_
 have go : wpAny (model X.prog X.w) X.A (eval e X.env) (fun w s₂ => wpAny (model X.prog X.w) X.A (inplaceOp op u w) (fun r s₃ => wpAny (model X.prog X.w) X.A (storeName X.env x r) (fun _ => SP X pins D .next) X.xe s₃) X.xe s₂) X.xe s := by
  refine thn (he pins s σ H _ I h) fun w s1 ⟨y,H1,I1,r1,q1⟩ => ?_
  refine thn (ho pins s1 σ H1 v y u w _ I1 r r1 q1) fun z s2 ⟨zv,H2,I2,r2,q2⟩ => ?_
  exact j8 I2 hN hi hx r2 (fun s3 I3 => ⟨_,H2,I3,q2⟩) hf
 rcases l with ⟨hk,hm⟩ | ⟨hk,c,hc,hcell⟩
 ·exact wpAny_loadName_local I.ok.kind hk hn hm go
 ·rcases hk with hk | hk
  ·exact wpAny_loadName_cell I.ok.kind hk hc hcell go
  ·rcases hx with k | k
   ·have : X.env.scope.names.lookup x = some .free := hk
    rw [k] at this;cases this
   ·have : X.env.scope.names.lookup x = some .free := hk
    rw [k] at this;cases this
def ipI (f : Int → Int → Int) : TIp := fun x y H Q => ∃ i j,x = .int i∧y = .int j∧Q (.int (f i j)) H
theorem qlH : PIp X .Add (ipI fun i j => i + j) := by
 intro pins s σ H x y v u Q I r1 r2 h
 obtain ⟨i,j,e1,e2,q⟩ := h
 subst e1;subst e2
 obtain ⟨t,rfl⟩ := r1
 obtain ⟨t',rfl⟩ := r2
 exact iadd_int ⟨.int _,H,I.tok _,⟨_,rfl⟩,q⟩
end
section
variable {X : Cx} {pos : Pos}
def qhC (c : TT) (tb : TS) : TS := fun D σ H => ∃ W : Nat → St → Hp → Prop,(∃ m,W m σ H)∧∀ m σ H,W m σ H →
 c σ H fun b H1 => if b = true then ∃ N : St → Hp → Prop,(∀ σ' H',N σ' H' → ∃ m',m' < m∧W m' σ' H')∧tb { D with nx := N,ct := N,bk := D.nx } σ H1 else D.nx σ H1
theorem qbK {c : Expr} {body : List Stmt} {tc : TT} {tb : TS} (hp : PassesOwn (model X.prog X.w) X.A X.env X.xe) (hc : PT X c tc) (hb : PSs X body tb) : PS X (.While c body [] pos) (qhC tc tb) := by
 intro pins s σ H D I h
 obtain ⟨W,⟨m0,w0⟩,turn⟩ := h
 refine wpAny_While (codeAny_whileLoop (fun n s' => ∃ σ' H',Inv X pins σ' H' s'∧W n σ' H') ?_ m0 ⟨σ,H,I,w0⟩)
 rintro n s1 ⟨σ1,H1,I1,w1⟩
 refine wpAny_passesOwn hp (thn (hc pins s1 σ1 H1 _ I1 (turn n σ1 H1 w1)) fun b s2 ⟨H2,I2,q2⟩ => ?_)
 cases b with
 | true =>
  obtain ⟨N,hN,q2⟩ := q2
  rw [if_pos rfl]
  refine wpAny_passesOwn hp (thn (hb pins s2 σ1 H2 _ I2 q2) fun f s3 q3 => ?_)
  cases f with
  | next =>
   obtain ⟨σ3,H3,I3,n3⟩ := q3
   obtain ⟨m',hm,w3⟩ := hN σ3 H3 n3
   exact ⟨m',hm,σ3,H3,I3,w3⟩
  | cont =>
   obtain ⟨σ3,H3,I3,n3⟩ := q3
   obtain ⟨m',hm,w3⟩ := hN σ3 H3 n3
   exact ⟨m',hm,σ3,H3,I3,w3⟩
  | brk => exact q3
  | ret v => exact q3
 | false =>
  rw [if_neg Bool.false_ne_true]
  exact wpAny_execs_nil ⟨σ1,H2,I2,q2⟩
end
structure It where
 go : Nat → Hp → Prop
 yld : Nat → Hp → V → Hp → Prop
 stop : Nat → Hp → Prop
def C9 (X : Cx) (pins : List (Addr × Obj)) (H : Hp) (b : Addr) : Prop :=
 H b = none∧b ≠ X.env.locals∧b ∉ X.fs∧(b ∈ X.ex ∨ X.s₀.heap.objs.size ≤ b)∧(∀ x c,X.env.cells.lookup x = some c → c ≠ b)∧∀ p ∈ X.pn ++ pins,p.1 ≠ b
theorem Inv.fpOk {X : Cx} {pins : List (Addr × Obj)} {σ : St} {H H' : Hp} {s : Shared} {b : Addr} (I : Inv X pins σ H s) (hb : s.heap.objs.size ≤ b) (hn : H' b = none) : C9 X pins H' b := by
 refine ⟨hn,Nat.ne_of_gt (Nat.lt_of_lt_of_le I.lt hb),I.nofs hb,.inr (Nat.le_trans I.sz hb),fun x c e z => ?_,fun p hp z => ?_⟩
 ·obtain ⟨v,q⟩ := I.cell x c e
  exact absurd (Nat.lt_of_lt_of_le q.lt (by rw [z];exact hb)) (Nat.lt_irrefl _)
 ·exact absurd (Nat.lt_of_lt_of_le (Heap.lt_size (I.pin p hp).1) (by rw [z];exact hb)) (Nat.lt_irrefl _)
structure Turn (P : Program) (w : World) (K : PySem.W.Frag) (tg : Expr) (J : It) (fp : List Addr) (it : Addr) (tn : Nat → Heap → Prop) : Prop where
 mem : it ∈ fp
 obj : ∀ i h,tn i h → ∀ b ∈ fp,∃ o,h.get? b = some o∧∀ v,o.data ≠ .cell v
 keep : ∀ i h h',tn i h → (∀ b ∈ fp,∀ o,h.get? b = some o → h'.get? b = some o) → tn i h'
 item : ∀ (X : Cx),X.prog = P → X.w = w → X.K = K → X.calm = true → ∀ (i : Nat) (pins : List (Addr × Obj)) (s : Shared) (σ : St) (H : Hp) (E : Value → Shared → Prop),Inv X pins σ H s → (∀ b ∈ fp,C9 X pins H b) → tn i s.heap → J.go i H →
  wpAny (model P w) X.A (pyNext (.ref it)) (fun r s1 => ∃ u,r = some u ∧
   wpAny (model P w) X.A (letOwnedTupleGo tg (.ref it) u) (fun _ s2 => ∃ x H',Inv X pins σ H' s2∧jg x u∧J.yld i H x H'∧tn (i + 1) s2.heap∧∀ b ∈ fp,H' b = none) E s1) E s
 done : ∀ (X : Cx),X.prog = P → X.w = w → X.K = K → X.calm = true → ∀ (i : Nat) (pins : List (Addr × Obj)) (s : Shared) (σ : St) (H : Hp) (E : Value → Shared → Prop),Inv X pins σ H s → (∀ b ∈ fp,C9 X pins H b) → tn i s.heap → J.stop i H →
  wpAny (model P w) X.A (pyNext (.ref it)) (fun r s1 => r = none∧Inv X pins σ H s1) E s
 self : ∀ (A : Around) (i : Nat) (s : Shared) (Q : Value → Shared → Prop) (E : Value → Shared → Prop),tn i s.heap → Q (.ref it) s → wpAny (model P w) A (pyIter (.ref it)) Q E s
abbrev TI := St → Hp → (It → Hp → Prop) → Prop
def PIE (X : Cx) (pins : List (Addr × Obj)) (σ : St) (tg : Expr) (R : It → Hp → Prop) (itv : Value) (s2 : Shared) : Prop :=
 ∃ (it : Addr) (fp : List Addr) (tn : Nat → Heap → Prop) (J : It) (H' : Hp),itv = .ref it∧Inv X pins σ H' s2∧Turn X.prog X.w X.K tg J fp it tn∧tn 0 s2.heap∧(∀ b ∈ fp,C9 X pins H' b)∧R J H'
def PI (X : Cx) (tg iter : Expr) (wi : TI) : Prop :=
 ∀ (pins : List (Addr × Obj)) (s : Shared) (σ : St) (H : Hp) (R : It → Hp → Prop),Inv X pins σ H s → wi σ H R →
  wpAny (model X.prog X.w) X.A (eval iter X.env) (fun v s1 => wpAny (model X.prog X.w) X.A (pyIter v) (PIE X pins σ tg R) X.xe s1) X.xe s
theorem qgj {M : Model} {A : Around} {E : Value → Shared → Prop} {s : Shared} {tg : Expr} {it : Addr} {u : Value} {o : Obj} {n : String} {vs : Array Value} {Q : Unit → Shared → Prop} (ho : s.heap.get? it = some o) (hc : o.cls = .type n) (hd : o.data = .fields vs)
    (hn : ["enumerate","zip","dict_itemiterator","dict_reverseitemiterator","odict_iterator","itertools.zip_longest","itertools.pairwise"].contains n = false) (hQ : Q () s) : wpAny M A (letOwnedTupleGo tg (.ref it) u) Q E s := by
  unfold letOwnedTupleGo
  cases tg <;> first
    | exact wpAny_pure hQ
    | (cases u <;> first
        | exact wpAny_pure hQ
        | (refine wpAny_bind (wpAny_load ho ?_)
           rw [hc,hd]
           show wpAny M A (if (["enumerate","zip","dict_itemiterator","dict_reverseitemiterator","odict_iterator","itertools.zip_longest","itertools.pairwise"].contains n && vs[0]? == some (rawInt _)) = true then _ else _) Q E s
           rw [if_neg (by intro h;rw [hn,Bool.false_and] at h;cases h)]
           exact wpAny_pure hQ))
def Itl (K : PySem.W.Frag) (a : Addr) : It :=
 ⟨fun i H => ∃ xs x,SqL K H a xs∧xs[i]? = some x,fun i H x H' => H' = H∧∀ xs,SqL K H a xs → xs[i]? = some x,fun i H => ∃ xs,SqL K H a xs∧xs.length ≤ i⟩
def Itt (K : PySem.W.Frag) (a : Addr) : It :=
 ⟨fun i H => ∃ xs x,SqT K H a xs∧xs[i]? = some x,fun i H x H' => H' = H∧∀ xs,SqT K H a xs → xs[i]? = some x,fun i H => ∃ xs,SqT K H a xs∧xs.length ≤ i⟩
def Itr (lo : Int) (n : Nat) : It := ⟨fun i _ => i < n,fun i H x H' => H' = H∧x = .int (lo + i),fun i _ => n ≤ i⟩
theorem qaL {P : Program} {w : World} {K : PySem.W.Frag} {tg : Expr} (a it : Addr) : Turn P w K tg (Itl K a) [it] it (fun i h => h.IsListIter it a i) where
 mem := by simp
 obj := fun i h st b hb => by
  have e : b = it := by simpa using hb
  subst e
  obtain ⟨o,e,c,d⟩ := st
  exact ⟨o,e,fun v z => by rw [d] at z;cases z⟩
 keep := fun i h h' st k => st.at fun o e => k it (by simp) o e
 item := by
  intro X hP hw hK hc i pins s σ H E I hf st hg
  subst hP hw hK
  obtain ⟨xs,x,hq,hx⟩ := hg
  obtain ⟨its,rv,p,hz⟩ := I.list hq
  obtain ⟨u,hu,ru⟩ := rv.get hx
  obtain ⟨f0,f1,f2,f3,f4,f5⟩ := hf it (by simp)
  refine wpAny_pyNext_list_item st p.isList (x := u) (by simpa using hu) fun h' st' sb => ?_
  have I1 : Inv X pins σ H { s with heap := h' } := I.turned (t' := s.toks) (fun b o hb e => (sb.2 b hb).trans e) f0 f1 f3 f4 f5
  obtain ⟨o,e,c,d⟩ := id st'
  exact ⟨u,rfl,qgj (s := { s with heap := h' }) e c d (by decide) ⟨x,H,I1,ru,⟨rfl,fun ys hy => by rw [I.list_inj hy hq];exact hx⟩,st',fun b hb => (hf b hb).1⟩⟩
 done := by
  intro X hP hw hK hc i pins s σ H E I hf st hg
  subst hP hw hK
  obtain ⟨xs,hq,hx⟩ := hg
  obtain ⟨its,rv,p,hz⟩ := I.list hq
  obtain ⟨f0,f1,f2,f3,f4,f5⟩ := hf it (by simp)
  have hl := rv.length
  exact wpAny_pyNext_list_end (I.ok.hd hc) st p.isList (by simp;omega) fun h' eb => ⟨rfl,I.turned (t' := s.toks) (fun b o hb e => eb b o hb e) f0 f1 f3 f4 f5⟩
 self := fun _ _ _ _ _ st h => wpAny_pyIter_listiter st h
theorem MT {P : Program} {w : World} {K : PySem.W.Frag} {tg : Expr} (a it : Addr) : Turn P w K tg (Itt K a) [it] it (fun i h => h.IsTupleIter it a i) where
 mem := by simp
 obj := fun i h st b hb => by
  have e : b = it := by simpa using hb
  subst e
  obtain ⟨o,e,c,d⟩ := st
  exact ⟨o,e,fun v z => by rw [d] at z;cases z⟩
 keep := fun i h h' st k => st.at fun o e => k it (by simp) o e
 item := by
  intro X hP hw hK hc i pins s σ H E I hf st hg
  subst hP hw hK
  obtain ⟨xs,x,hq,hx⟩ := hg
  obtain ⟨its,rv,p,hz⟩ := I.tuple hq
  obtain ⟨u,hu,ru⟩ := rv.get hx
  obtain ⟨f0,f1,f2,f3,f4,f5⟩ := hf it (by simp)
  refine wpAny_pyNext_tuple_item st (show s.heap.IsTuple a its.toArray from p) (x := u) (by simpa using hu) fun h' st' sb => ?_
  have I1 : Inv X pins σ H { s with heap := h' } := I.turned (t' := s.toks) (fun b o hb e => (sb.2 b hb).trans e) f0 f1 f3 f4 f5
  obtain ⟨o,e,c,d⟩ := id st'
  exact ⟨u,rfl,qgj (s := { s with heap := h' }) e c d (by decide) ⟨x,H,I1,ru,⟨rfl,fun ys hy => by rw [I.tuple_inj hy hq];exact hx⟩,st',fun b hb => (hf b hb).1⟩⟩
 done := by
  intro X hP hw hK hc i pins s σ H E I hf st hg
  subst hP hw hK
  obtain ⟨xs,hq,hx⟩ := hg
  obtain ⟨its,rv,p,hz⟩ := I.tuple hq
  obtain ⟨f0,f1,f2,f3,f4,f5⟩ := hf it (by simp)
  have hl := rv.length
  exact wpAny_pyNext_tuple_end (I.ok.hd hc) st (show s.heap.IsTuple a its.toArray from p) (by simp;omega) fun h' eb => ⟨rfl,I.turned (t' := s.toks) (fun b o hb e => eb b o hb e) f0 f1 f3 f4 f5⟩
 self := fun _ _ _ _ _ st h => wpAny_pyIter_tupleiter st h
theorem M2 {P : Program} {w : World} {K : PySem.W.Frag} {tg : Expr} (it : Addr) (lo : Int) (n : Nat) : Turn P w K tg (Itr lo n) [it] it (fun i h => IsRangeIter h it (lo + (i : Nat) * 1) ((n : Int) - (i : Nat)) 1) where
 mem := by simp
 obj := fun i h st b hb => by
  have e : b = it := by simpa using hb
  subst e
  exact ⟨_,st,fun v z => by
   have z' : Data.fields _ = Data.cell v := z
   cases z'⟩
 keep := fun i h h' st k => k it (by simp) _ st
 item := by
  intro X hP hw hK hc i pins s σ H E I hf st hg
  subst hP hw hK
  obtain ⟨f0,f1,f2,f3,f4,f5⟩ := hf it (by simp)
  have W := Walks.range (prog := X.prog) (w := X.w) (I.ok.hd hc) it lo 1 n
  refine W.item i s _ _ hg st fun v h' tk hv st' kk => ?_
  obtain ⟨t,rfl⟩ := hv
  have I1 : Inv X pins σ H { s with heap := h',toks := tk } := I.turned (fun b o hb e => kk b o (by simpa using hb) e) f0 f1 f3 f4 f5
  refine ⟨_,rfl,qgj (s := { s with heap := h',toks := tk }) (n := "range_iterator") st' rfl rfl (by decide) ⟨.int (lo + i),H,I1,⟨t,?_⟩,⟨rfl,rfl⟩,st',fun b hb => (hf b hb).1⟩⟩
  rw [Int.mul_one]
 done := by
  intro X hP hw hK hc i pins s σ H E I hf st hg
  subst hP hw hK
  obtain ⟨f0,f1,f2,f3,f4,f5⟩ := hf it (by simp)
  exact wpAny_pyNext_range_end (I.ok.hd hc) st (by have : n ≤ i := hg;omega) fun h' eb => ⟨rfl,I.turned (t' := s.toks) (fun b o hb e => eb b o hb e) f0 f1 f3 f4 f5⟩
 self := fun _ _ _ _ _ st h => wpAny_pyIter_rangeiter st h
end L2
namespace L2
open PySem PySem.Spec PyProof.Rows
section
variable {X : Cx} {tg : Expr}
theorem K7 {pins : List (Addr × Obj)} {σ : St} {H : Hp} {s : Shared} {R : It → Hp → Prop} {E : Value → Shared → Prop} {lo hi : Int} {t u v : Tok} {tk : Nat} (I : Inv X pins σ H s) (h1 : -(2 ^ 62) ≤ lo) (h2 : lo < 2 ^ 62) (h3 : -(2 ^ 62) ≤ hi) (h4 : hi < 2 ^ 62)
  (q : R (Itr lo (hi - lo).toNat) H) : wpAny (model X.prog X.w) X.A (pyIter (.ref s.heap.objs.size)) (PIE X pins σ tg R) E { s with heap := s.heap.push { cls := .type "range",data := .fields #[.int lo t,.int hi u,.int 1 v] },toks := tk } := by
 refine wpAny_pyIter_range (IsRange.new ..) (small_one h1 h2 h3 h4) ?_
 have I1 : Inv X pins σ H { s with heap := s.heap.push { cls := .type "range",data := .fields #[.int lo t,.int hi u,.int 1 v] },toks := tk } := I.kept fun b o e => Heap.get?_push_of_some _ e
 refine ⟨(s.heap.push { cls := .type "range",data := .fields #[.int lo t,.int hi u,.int 1 v] }).objs.size,[(s.heap.push { cls := .type "range",data := .fields #[.int lo t,.int hi u,.int 1 v] }).objs.size],_,_,H,rfl,
  I1.kept (t' := tk) fun b o e => Heap.get?_push_of_some _ e,M2 _ lo (hi - lo).toNat,?_,fun b hb => ?_,q⟩
 ·have e1 : lo + ((0 : Nat) : Int) * 1 = lo := by simp
  have e2 : (((hi - lo).toNat : Nat) : Int) - ((0 : Nat) : Int) = Builtin.Range.rangeSize lo hi 1 := by rw [rangeSize_one];split <;> omega
  show IsRangeIter _ _ (lo + ((0 : Nat) : Int) * 1) ((((hi - lo).toNat : Nat) : Int) - ((0 : Nat) : Int)) 1
  rw [e1,e2]
  exact Heap.get?_push_size _ rfl
 ·have e : b = (s.heap.push { cls := .type "range",data := .fields #[.int lo t,.int hi u,.int 1 v] }).objs.size := by simpa using hb
  subst e
  exact I1.fpOk (Nat.le_refl _) (I1.hok.fresh (Nat.le_refl _))
def qnd (ta : TA) : TI := fun σ H R => ta σ H fun vs H1 => ∃ j : Int,vs = [.int j]∧-(2 ^ 62) ≤ j∧j < 2 ^ 62∧R (Itr 0 j.toNat) H1
def qmo (ta : TA) : TI := fun σ H R => ta σ H fun vs H1 => ∃ i j : Int,vs = [.int i,.int j]∧(-(2 ^ 62) ≤ i∧i < 2 ^ 62∧-(2 ^ 62) ≤ j∧j < 2 ^ 62)∧R (Itr i (j - i).toNat) H1
theorem qaU {a : Expr} {ta : TA} {p pos : Pos} (hg : Gl X "range") (hm : X.mg "range" = none) (ha : PA X [a] ta) (hs : starEach [a] X.env = [(false,eval a X.env)] := by rfl) : PI X tg (.Call (.Name "range" p) [a] [] pos) (qnd ta) := by
 intro pins s σ H R I h
 refine Call_ (W7 I hg hm boot_range (PyProof.Rows.callWith_type1 (thn (ha pos pins s σ H _ I h) fun us s1 ⟨vs,H1,I1,r1,q1⟩ => ?_) hs rfl))
 obtain ⟨j,e,q1,q2,q⟩ := q1
 subst e
 cases r1 with
 | cons r rr =>
  cases rr
  obtain ⟨t,rfl⟩ := r
  exact call_range_1 (K7 I1 (by omega) (by omega) q1 q2 (by simpa using q))
theorem NT {a b : Expr} {ta : TA} {p pos : Pos} (hg : Gl X "range") (hm : X.mg "range" = none) (ha : PA X [a,b] ta) (hs : starEach [a,b] X.env = [(false,eval a X.env),(false,eval b X.env)] := by rfl) (hs2 : starEach [b] X.env = [(false,eval b X.env)] := by rfl) :
  PI X tg (.Call (.Name "range" p) [a,b] [] pos) (qmo ta) := by
 intro pins s σ H R I h
 refine Call_ (W7 I hg hm boot_range (PyProof.Rows.callWith_type1 (thn (ha pos pins s σ H _ I h) fun us s1 ⟨vs,H1,I1,r1,q1⟩ => ?_) (by rw [hs,hs2]) (by rw [hs2];rfl)))
 obtain ⟨i,j,e,⟨q1,q2,q3,q4⟩,q⟩ := q1
 subst e
 cases r1 with
 | cons r rr =>
  cases rr with
  | cons r' rr =>
   cases rr
   obtain ⟨t,rfl⟩ := r
   obtain ⟨t',rfl⟩ := r'
   exact call_range_2 (K7 I1 q1 q2 q3 q4 q)
def qoY (wi : TI) (g : TG) (tb : TS) : TS := fun D σ H => wi σ H fun J H1 => ∃ W : Nat → Nat → St → Hp → Prop,(∃ m,W 0 m σ H1)∧∀ i m σ H,W i m σ H →
 (J.stop i H∧D.nx σ H) ∨ (J.go i H∧∃ N : St → Hp → Prop,(∀ σ' H',N σ' H' → ∃ m',m' < m∧W (i + 1) m' σ' H')∧∀ x H',J.yld i H x H' → g x σ H' fun σ2 H2 => tb { D with nx := N,ct := N,bk := D.nx } σ2 H2)
def UV (fp : List Addr) (h : Heap) : List (Addr × Obj) := fp.filterMap fun b => (h.get? b).map fun o => (b,o)
theorem zm {fp : List Addr} {h : Heap} {b : Addr} {o : Obj} (hb : b ∈ fp) (e : h.get? b = some o) : (b,o) ∈ UV fp h := List.mem_filterMap.mpr ⟨b,hb,by rw [e];rfl⟩
theorem N4 {fp : List Addr} {h : Heap} {p : Addr × Obj} (hp : p ∈ UV fp h) : p.1 ∈ fp∧h.get? p.1 = some p.2 := by
 obtain ⟨b,hb,e⟩ := List.mem_filterMap.mp hp
 cases q : h.get? b with
 | none => rw [q] at e;cases e
 | some o =>
  rw [q] at e
  have e' : (b,o) = p := Option.some.inj e
  subst e'
  exact ⟨hb,q⟩
theorem Inv.pinned {pins : List (Addr × Obj)} {σ : St} {H : Hp} {s : Shared} {fp : List Addr} (I : Inv X pins σ H s) (hf : ∀ b ∈ fp,C9 X pins H b) (ho : ∀ b ∈ fp,∃ o,s.heap.get? b = some o∧∀ v,o.data ≠ .cell v) : Inv X (pins ++ UV fp s.heap) σ H s :=
 I.pins_of fun p hp => (List.mem_append.mp hp).elim (fun z => I.pin p (List.mem_append_right _ z)) fun z => by
  obtain ⟨hb,e⟩ := N4 z
  obtain ⟨f0,f1,f2,_⟩ := hf p.1 hb
  obtain ⟨o,e',d⟩ := ho p.1 hb
  rw [e] at e';cases e'
  exact ⟨e,f0,f1,f2,d⟩
theorem Inv.unpinned {pins pl : List (Addr × Obj)} {σ : St} {H : Hp} {s : Shared} (I : Inv X (pins ++ pl) σ H s) : Inv X pins σ H s := I.pins_of fun p hp => I.pin p (List.mem_append_right _ (List.mem_append_left _ hp))
theorem qi6 {iter : Expr} {body : List Stmt} {wi : TI} {g : TG} {tb : TS} {pos : Pos} (hp : PassesOwn (model X.prog X.w) X.A X.env X.xe) (hc : X.calm = true) (hi : PI X tg iter wi) (hg : PG X tg g) (hb : PSs X body tb)
  (hs : ∀ x,foldedSetIterable iter X.env x = pure x := by intro _;rfl) : PS X (.For tg iter body [] pos) (qoY wi g tb) := by
 intro pins s σ H D I h
 refine wpAny_For (thn (hi pins s σ H _ I h) fun v s1 h1 => thn h1 fun itv s2 h2 => ?_) hs
 obtain ⟨it,fp,tn,J,H2,e,I2,T,st2,f2,W,⟨m0,w0⟩,turn⟩ := h2
 subst e
 -- what stays true of the iterator's objects through the loop
 have stat : ∀ {H' : Hp},(∀ b ∈ fp,H' b = none) → ∀ b ∈ fp,C9 X pins H' b := fun hn b hb => ⟨hn b hb,(f2 b hb).2⟩
 refine codeAny_forLoop_any (fun n s' => ∃ i σ' H',Inv X pins σ' H' s'∧tn i s'.heap∧(∀ b ∈ fp,H' b = none)∧W i n σ' H') ?_ m0 ⟨0,σ,H2,I2,st2,fun b hb => (f2 b hb).1,w0⟩
 rintro n s3 ⟨i,σ3,H3,I3,st3,fr3,w3⟩
 rcases turn i n σ3 H3 w3 with ⟨stop,qn⟩ | ⟨go,N,hN,step⟩
 ·refine wpAny_passesOwn hp (thn (T.done X rfl rfl rfl hc i pins s3 σ3 H3 X.xe I3 (stat fr3) st3 stop) fun r s4 ⟨hr,I4⟩ => ?_)
  subst hr
  exact wpAny_execs_nil ⟨σ3,H3,I4,qn⟩
 ·refine wpAny_passesOwn hp (thn (T.item X rfl rfl rfl hc i pins s3 σ3 H3 X.xe I3 (stat fr3) st3 go) fun r s4 ⟨u,hr,h4⟩ => ?_)
  subst hr
  refine wpAny_passesOwn hp (thn h4 fun _ s5 ⟨x,H5,I5,r5,y5,st5,fr5⟩ => ?_)
  have I5' := I5.pinned (stat fr5) (T.obj _ _ st5)
  refine wpAny_passesOwn hp (thn (hg _ s5 σ3 H5 x u _ I5' r5 (step x H5 y5)) fun _ s6 ⟨σ6,H6,I6,q6⟩ => ?_)
  refine wpAny_passesOwn hp (thn (hb _ s6 σ6 H6 _ I6 q6) fun f s7 q7 => ?_)
  have again : ∀ {σ7 : St} {H7 : Hp},Inv X (pins ++ UV fp s5.heap) σ7 H7 s7 → N σ7 H7 → ∃ m,m < n∧∃ i σ' H',Inv X pins σ' H' s7∧tn i s7.heap∧(∀ b ∈ fp,H' b = none)∧W i m σ' H' := fun {σ7 H7} I7 n7 => by
   obtain ⟨m',hm,w7⟩ := hN σ7 H7 n7
   refine ⟨m',hm,i + 1,σ7,H7,I7.unpinned,T.keep _ _ _ st5 fun b hb o e => (I7.pin (b,o) (List.mem_append_right _ (List.mem_append_right _ (zm hb e)))).1,fun b hb => ?_,w7⟩
   obtain ⟨o,e,d⟩ := T.obj _ _ st5 b hb
   exact (I7.pin (b,o) (List.mem_append_right _ (List.mem_append_right _ (zm hb e)))).2.1
  cases f with
  | next => obtain ⟨σ7,H7,I7,n7⟩ := q7;exact again I7 n7
  | cont => obtain ⟨σ7,H7,I7,n7⟩ := q7;exact again I7 n7
  | brk => obtain ⟨σ7,H7,I7,q7⟩ := q7;exact ⟨σ7,H7,I7.unpinned,q7⟩
  | ret v => obtain ⟨x7,σ7,H7,I7,r7,q7⟩ := q7;exact ⟨x7,σ7,H7,I7.unpinned,r7,q7⟩
end
end L2
namespace L2
open PySem PySem.Spec PyProof.Rows
abbrev R2 := V → V → Hp → VK → Prop
def OpR (X : Cx) (f : Value → Value → Sem Value) (r : R2) : Prop :=
 ∀ (pins : List (Addr × Obj)) (s : Shared) (σ : St) (H : Hp) (x y : V) (v u : Value) (Q : VK),Inv X pins σ H s → jg x v → jg y u → r x y H Q →
  wpAny (model X.prog X.w) X.A (f v u) (EP X pins σ Q) X.xe s
def UnR (X : Cx) (f : Value → Sem Value) (r : V → Hp → VK → Prop) : Prop :=
 ∀ (pins : List (Addr × Obj)) (s : Shared) (σ : St) (H : Hp) (x : V) (v : Value) (Q : VK),Inv X pins σ H s → jg x v → r x H Q →
  wpAny (model X.prog X.w) X.A (f v) (EP X pins σ Q) X.xe s
def Z7 (X : Cx) (f : Value) (r : List V → Hp → VK → Prop) : Prop :=
 ∀ (pins : List (Addr × Obj)) (s : Shared) (σ : St) (H : Hp) (xs : List V) (us : List Value) (Q : VK),Inv X pins σ H s → zy xs us → r xs H Q →
  wpAny (model X.prog X.w) X.A (call f us) (EP X pins σ Q) X.xe s
def tOp (r : R2) (ta tb : TE) : TE := fun σ H Q => ta σ H fun x H1 => tb σ H1 fun y H2 => r x y H2 Q
def tUn (r : V → Hp → VK → Prop) (ta : TE) : TE := fun σ H Q => ta σ H fun x H1 => r x H1 Q
def rI (C : Int → Int → Prop) (g : Int → Int → V) : R2 := fun x y H Q => ∃ i j,x = .int i∧y = .int j∧C i j∧Q (g i j) H
def rI0 (g : Int → Int → V) : R2 := fun x y H Q => ∃ i j,x = .int i∧y = .int j∧Q (g i j) H
def rU (g : Int → V) : V → Hp → VK → Prop := fun x H Q => ∃ i,x = .int i∧Q (g i) H
section
variable {X : Cx} {a b c : Expr} {ta tb tc : TE} {pos : Pos}
theorem qmH (ha : PE X a ta) (hb : PE X b tb) {pins : List (Addr × Obj)} {s : Shared} {σ : St} {H : Hp} {R : V → V → Hp → Prop} (I : Inv X pins σ H s)
  (h : ta σ H fun x H1 => tb σ H1 fun y H2 => R x y H2) {Q : Value → Shared → Prop} {f : Value → Value → Sem Value}
  (hf : ∀ v u s2 x y H2,Inv X pins σ H2 s2 → jg x v → jg y u → R x y H2 → wpAny (model X.prog X.w) X.A (f v u) Q X.xe s2) :
  wpAny (model X.prog X.w) X.A (eval a X.env) (fun v s₁ => wpAny (model X.prog X.w) X.A (eval b X.env) (fun u s₂ => wpAny (model X.prog X.w) X.A (f v u) Q X.xe s₂) X.xe s₁) X.xe s := by
 refine thn (ha pins s σ H _ I h) fun v s1 ⟨x,H1,I1,r1,q1⟩ => ?_
 refine thn (hb pins s1 σ H1 _ I1 q1) fun u s2 ⟨y,H2,I2,r2,q2⟩ => ?_
 exact hf v u s2 x y H2 I2 r1 r2 q2
theorem qnQ {op : Operator} {r : R2} (ho : OpR X (binaryOp op) r) (ha : PE X a ta) (hb : PE X b tb) : PE X (.BinOp a op b pos) (tOp r ta tb) := by
 intro pins s σ H Q I h
 exact wpAny_BinOp (qmH ha hb I h fun v u s2 x y H2 I2 rx ry q => ho pins s2 σ H2 x y v u Q I2 rx ry q)
theorem qnv {op : UnaryOp} {r : V → Hp → VK → Prop} (ho : UnR X (unaryOp op) r) (ha : PE X a ta) : PE X (.UnaryOp op a pos) (tUn r ta) := by
 intro pins s σ H Q I h
 exact UnaryOp_ (thn (ha pins s σ H _ I h) fun v s1 ⟨x,H1,I1,r1,q1⟩ => ho pins s1 σ H1 x v Q I1 r1 q1)
theorem opI {f : Value → Value → Sem Value} {C : Int → Int → Prop} {g : Int → Int → Int}
  (rule : ∀ (i j : Int) (t u : Tok) (s : Shared) (Q : Value → Shared → Prop) (E : Value → Shared → Prop),C i j → Q (.int (g i j) s.toks) { s with toks := s.toks + 1 } → wpAny (model X.prog X.w) X.A (f (.int i t) (.int j u)) Q E s) :
  OpR X f (rI C fun i j => .int (g i j)) := by
 intro pins s σ H x y v u Q I rx ry h
 obtain ⟨i,j,rfl,rfl,hc,q⟩ := h
 obtain ⟨t,rfl⟩ := rx
 obtain ⟨t',rfl⟩ := ry
 exact rule i j t t' s _ _ hc ⟨.int (g i j),H,I.tok _,⟨_,rfl⟩,q⟩
theorem qom {f : Value → Value → Sem Value} {g : Int → Int → Int}
  (rule : ∀ (i j : Int) (t u : Tok) (s : Shared) (Q : Value → Shared → Prop) (E : Value → Shared → Prop),Q (.int (g i j) s.toks) { s with toks := s.toks + 1 } → wpAny (model X.prog X.w) X.A (f (.int i t) (.int j u)) Q E s) :
  OpR X f (rI0 fun i j => .int (g i j)) := by
 intro pins s σ H x y v u Q I rx ry h
 obtain ⟨i,j,rfl,rfl,q⟩ := h
 obtain ⟨t,rfl⟩ := rx
 obtain ⟨t',rfl⟩ := ry
 exact rule i j t t' s _ _ ⟨.int (g i j),H,I.tok _,⟨_,rfl⟩,q⟩
theorem ql4 {f : Value → Value → Sem Value} {g : Int → Int → Bool}
  (rule : ∀ (i j : Int) (t u : Tok) (s : Shared) (Q : Value → Shared → Prop) (E : Value → Shared → Prop),Q (.bool (g i j)) s → wpAny (model X.prog X.w) X.A (f (.int i t) (.int j u)) Q E s) :
  OpR X f (rI0 fun i j => .bl (g i j)) := by
 intro pins s σ H x y v u Q I rx ry h
 obtain ⟨i,j,rfl,rfl,q⟩ := h
 obtain ⟨t,rfl⟩ := rx
 obtain ⟨t',rfl⟩ := ry
 exact rule i j t t' s _ _ ⟨.bl (g i j),H,I,rfl,q⟩
def qas (i j : Int) : Prop := 0 < j∧j < 1073741824
def S4 (i j : Int) : Prop := 0 ≤ j∧j ≤ 1000000∧i.natAbs < 2 ^ 64
def jd (i j : Int) : Prop := (-(2 ^ 64) < i∧i < 2 ^ 64) ∨ (-(2 ^ 64) < j∧j < 2 ^ 64)
theorem jd.ok {i j : Int} (h : jd i j) : IntMulOk i j := by
 rcases h with ⟨h1,h2⟩ | ⟨h1,h2⟩
 ·exact .of_left (intBits_le_64 h1 h2)
 ·exact .of_right (intBits_le_64 h1 h2)
theorem qkq : OpR X (binaryOp .Add) (rI0 fun i j => .int (i + j)) := qom fun _ _ _ _ _ _ _ q => add_int q
theorem qjH : OpR X (binaryOp .Sub) (rI0 fun i j => .int (i - j)) := qom fun _ _ _ _ _ _ _ q => sub_int q
theorem qjG : OpR X (binaryOp .Mult) (rI jd fun i j => .int (i * j)) := opI fun _ _ _ _ _ _ _ hc q => mul_int q hc.ok
theorem qgr : OpR X (binaryOp .FloorDiv) (rI qas fun i j => .int (i / j)) := opI fun i j _ _ _ _ _ hc q => by
 have h1 : (0 : Int) < j := hc.1
 have h2 : j < 1073741824 := hc.2
 exact floordiv_int (by omega) (by rw [Int.fdiv_eq_ediv_of_nonneg i (by omega)];exact q) (.inl (PyProof.noPylong_small (by omega)))
theorem qkr : OpR X (binaryOp .Mod) (rI (fun _ j => 0 < j) fun i j => .int (i % j)) := opI fun i j _ _ _ _ _ hc q => by
 have h1 : (0 : Int) < j := hc
 exact mod_int' (by omega) (by rw [Int.fmod_eq_emod_of_nonneg i (by omega)];exact q)
theorem qjo : OpR X (binaryOp .Pow) (rI S4 fun i j => .int (i ^ j.toNat)) := opI fun _ _ _ _ _ _ _ hc q => pow_int_small hc.1 hc.2.1 hc.2.2 q
theorem qj3 : OpR X (binaryOp .LShift) (rI S4 fun i j => .int (i * 2 ^ j.toNat)) := opI fun _ _ _ _ _ _ _ hc q => lshift_int_small hc.1 hc.2.1 hc.2.2 q
theorem unI {f : Value → Sem Value} {g : Int → Int}
  (rule : ∀ (i : Int) (t : Tok) (s : Shared) (Q : Value → Shared → Prop) (E : Value → Shared → Prop),Q (.int (g i) s.toks) { s with toks := s.toks + 1 } → wpAny (model X.prog X.w) X.A (f (.int i t)) Q E s) :
  UnR X f (rU fun i => .int (g i)) := by
 intro pins s σ H x v Q I rx h
 obtain ⟨i,rfl,q⟩ := h
 obtain ⟨t,rfl⟩ := rx
 exact rule i t s _ _ ⟨.int (g i),H,I.tok _,⟨_,rfl⟩,q⟩
theorem qi7 : UnR X (unaryOp .USub) (rU fun i => .int (-i)) := unI fun _ _ _ _ _ q => neg_int q
end
def qnI : V → V → Bool
 | .non,.non => true | .non,.int _ => true | .int _,.non => true | .non,.bl _ => true | .bl _,.non => true | .non,.str _ => true | .str _,.non => true
 | .int _,.int _ => true | .bl _,.bl _ => true | .str _,.str _ => true | .byt _,.byt _ => true
 | .int _,.str _ => true | .str _,.int _ => true | .bl _,.str _ => true | .str _,.bl _ => true
 | _,_ => false
def rEq : R2 := fun x y H Q => qnI x y = true∧Q (.bl (decide (x = y))) H
def rNe : R2 := fun x y H Q => qnI x y = true∧Q (.bl (!decide (x = y))) H
theorem qax {i j : Int} : decide (V.int i = V.int j) = (i == j) := by
 rw [Bool.eq_iff_iff]
 simp
theorem qd4 {i j : Bool} : decide (V.bl i = V.bl j) = (i == j) := by
 rw [Bool.eq_iff_iff]
 simp
theorem qab {i j : Str} : decide (V.str i = V.str j) = (i == j) := by
 rw [Bool.eq_iff_iff]
 simp
theorem qbA {i j : Array UInt8} : decide (V.byt i = V.byt j) = (i.toList == j.toList) := by
 rw [Bool.eq_iff_iff]
 cases i
 cases j
 simp
section
variable {X : Cx} {a b c : Expr} {ta tb tc : TE} {pos : Pos}
theorem qO {pins : List (Addr × Obj)} {σ : St} {H : Hp} {s : Shared} {Q : VK} {k k' : Bool} (I : Inv X pins σ H s) (q : Q (.bl k) H) (e : k = k') : EP X pins σ Q (.bool k') s := by
 subst e
 exact ⟨.bl k,H,I,rfl,q⟩
theorem qmm : OpR X (compareOp .Eq) rEq := by
 intro pins s σ H x y v u Q I rx ry h
 obtain ⟨hs,q⟩ := h
 cases x with
 | non =>
  cases rx
  cases y with
  | non => cases ry;exact PySem.EqNone.eq_none_none (qO I q (by simp))
  | bl j => cases ry;exact PySem.EqNone.eq_none_bool (qO I q (by simp))
  | int j => obtain ⟨t',rfl⟩ := ry;exact PySem.EqNone.eq_none_int (qO I q (by simp))
  | str j => obtain ⟨t',rfl⟩ := ry;exact PySem.EqNone.eq_none_str (qO I q (by simp))
  | _ => exact absurd (show false = true from hs) Bool.false_ne_true
 | bl i =>
  cases rx
  cases y with
  | non => cases ry;exact PySem.EqNone.eq_bool_none (qO I q (by simp))
  | bl j => cases ry;exact eq_bool (qO I q qd4)
  | str j => obtain ⟨t',rfl⟩ := ry;exact PySem.EqMixed.eq_bool_str (qO I q (by simp))
  | _ => exact absurd (show false = true from hs) Bool.false_ne_true
 | int i =>
  obtain ⟨t,rfl⟩ := rx
  cases y with
  | non => cases ry;exact PySem.EqNone.eq_int_none (qO I q (by simp))
  | int j => obtain ⟨t',rfl⟩ := ry;exact eq_int (qO I q qax)
  | str j => obtain ⟨t',rfl⟩ := ry;exact PySem.EqMixed.eq_int_str (qO I q (by simp))
  | _ => exact absurd (show false = true from hs) Bool.false_ne_true
 | str i =>
  obtain ⟨t,rfl⟩ := rx
  cases y with
  | non => cases ry;exact PySem.EqNone.eq_str_none (qO I q (by simp))
  | bl j => cases ry;exact PySem.EqMixed.eq_str_bool (qO I q (by simp))
  | int j => obtain ⟨t',rfl⟩ := ry;exact PySem.EqMixed.eq_str_int (qO I q (by simp))
  | str j => obtain ⟨t',rfl⟩ := ry;exact eq_str (qO I q qab)
  | _ => exact absurd (show false = true from hs) Bool.false_ne_true
 | byt i =>
  obtain ⟨t,rfl⟩ := rx
  cases y with
  | byt j => obtain ⟨t',rfl⟩ := ry;exact PySem.W.eq_bytes (qO I q qbA)
  | _ => exact absurd (show false = true from hs) Bool.false_ne_true
 | _ => cases y <;> exact absurd (show false = true from hs) Bool.false_ne_true
theorem qmV : OpR X (compareOp .NotEq) rNe := by
 intro pins s σ H x y v u Q I rx ry h
 obtain ⟨hs,q⟩ := h
 cases x with
 | non =>
  cases rx
  cases y with
  | non => cases ry;exact PySem.EqNone.ne_none_none (qO I q (by simp))
  | bl j => cases ry;exact PySem.EqNone.ne_none_bool (qO I q (by simp))
  | int j => obtain ⟨t',rfl⟩ := ry;exact PySem.EqNone.ne_none_int (qO I q (by simp))
  | str j => obtain ⟨t',rfl⟩ := ry;exact PySem.EqNone.ne_none_str (qO I q (by simp))
  | _ => exact absurd (show false = true from hs) Bool.false_ne_true
 | bl i =>
  cases rx
  cases y with
  | non => cases ry;exact PySem.EqNone.ne_bool_none (qO I q (by simp))
  | bl j => cases ry;exact ne_bool (qO I q (congrArg not qd4))
  | str j => obtain ⟨t',rfl⟩ := ry;exact PySem.EqMixed.ne_bool_str (qO I q (by simp))
  | _ => exact absurd (show false = true from hs) Bool.false_ne_true
 | int i =>
  obtain ⟨t,rfl⟩ := rx
  cases y with
  | non => cases ry;exact PySem.EqNone.ne_int_none (qO I q (by simp))
  | int j => obtain ⟨t',rfl⟩ := ry;exact ne_int (qO I q (congrArg not qax))
  | str j => obtain ⟨t',rfl⟩ := ry;exact PySem.EqMixed.ne_int_str (qO I q (by simp))
  | _ => exact absurd (show false = true from hs) Bool.false_ne_true
 | str i =>
  obtain ⟨t,rfl⟩ := rx
  cases y with
  | non => cases ry;exact PySem.EqNone.ne_str_none (qO I q (by simp))
  | bl j => cases ry;exact PySem.EqMixed.ne_str_bool (qO I q (by simp))
  | int j => obtain ⟨t',rfl⟩ := ry;exact PySem.EqMixed.ne_str_int (qO I q (by simp))
  | str j => obtain ⟨t',rfl⟩ := ry;exact ne_str (qO I q (congrArg not qab))
  | _ => exact absurd (show false = true from hs) Bool.false_ne_true
 | byt i =>
  obtain ⟨t,rfl⟩ := rx
  cases y with
  | byt j => obtain ⟨t',rfl⟩ := ry;exact PySem.W.ne_bytes (qO I q (congrArg not qbA))
  | _ => exact absurd (show false = true from hs) Bool.false_ne_true
 | _ => cases y <;> exact absurd (show false = true from hs) Bool.false_ne_true
theorem qfD : OpR X (compareOp .Lt) (rI0 fun i j => .bl (decide (i < j))) := ql4 fun _ _ _ _ _ _ _ q => lt_int q
theorem qj2 : OpR X (compareOp .LtE) (rI0 fun i j => .bl (decide (i ≤ j))) := ql4 fun _ _ _ _ _ _ _ q => le_int q
theorem M3 : OpR X (compareOp .Gt) (rI0 fun i j => .bl (decide (j < i))) := ql4 fun _ _ _ _ _ _ _ q => gt_int q
theorem qmX : OpR X (compareOp .GtE) (rI0 fun i j => .bl (decide (j ≤ i))) := ql4 fun _ _ _ _ _ _ _ q => ge_int q
theorem KT : OpR X (compareOp .Is) (fun x y H Q => y = .non∧Q (.bl (decide (x = .non))) H) := by
 intro pins s σ H x y v u Q I rx ry h
 obtain ⟨rfl,q⟩ := h
 cases ry
 refine is_none_gen (qO I q ?_)
 cases x <;> first
  | (cases rx;rfl)
  | (obtain ⟨t,rfl⟩ := rx;rfl)
theorem qaH : OpR X (compareOp .IsNot) (fun x y H Q => y = .non∧Q (.bl (!decide (x = .non))) H) := by
 intro pins s σ H x y v u Q I rx ry h
 obtain ⟨rfl,q⟩ := h
 cases ry
 refine isnot_none_gen (qO I q ?_)
 cases x <;> first
  | (cases rx;rfl)
  | (obtain ⟨t,rfl⟩ := rx;rfl)
theorem OpR.or {f : Value → Value → Sem Value} {r r' : R2} (h : OpR X f r) (h' : OpR X f r') : OpR X f (fun x y H Q => r x y H Q ∨ r' x y H Q) := by
 intro pins s σ H x y v u Q I rx ry q
 rcases q with q | q
 ·exact h pins s σ H x y v u Q I rx ry q
 ·exact h' pins s σ H x y v u Q I rx ry q
theorem qE (b : Expr) {op : CmpOp} (h : op ≠ .In := by decide) (h2 : op ≠ .NotIn := by decide) : behindInMarks op b = false := by
 have e1 : (op == CmpOp.In) = false := by cases op <;> first | rfl | exact absurd rfl h
 have e2 : (op == CmpOp.NotIn) = false := by cases op <;> first | rfl | exact absurd rfl h2
 cases b <;> simp [behindInMarks,e1,e2]
theorem qfn {op : CmpOp} {r : R2} (ho : OpR X (compareOp op) r) (ha : PE X a ta) (hb : PE X b tb) (hm : behindInMarks op b = false) : PE X (.Compare a [op] [b] pos) (tOp r ta tb) := by
 intro pins s σ H Q I h
 exact wpAny_Compare1 (qmH ha hb I h fun v u s2 x y H2 I2 rx ry q => ho pins s2 σ H2 x y v u Q I2 rx ry q) hm
def qhL (t : TE) : TT := fun σ H Q => t σ H fun x H' => ∃ k,x = .bl k∧Q k H'
theorem qfv {op : CmpOp} {r : R2} (ho : OpR X (compareOp op) r) (ha : PE X a ta) (hb : PE X b tb) (hm : behindInMarks op b = false) : PT X (.Compare a [op] [b] pos) (qhL (tOp r ta tb)) := by
 intro pins s σ H Q I h
 refine wpAny_isTrue_Compare1 (thn (ha pins s σ H _ I h) fun v s1 ⟨x,H1,I1,r1,q1⟩ => thn (hb pins s1 σ H1 _ I1 q1) fun u s2 ⟨y,H2,I2,r2,q2⟩ =>
  thn (ho pins s2 σ H2 x y v u _ I2 r1 r2 q2) fun c s3 ⟨z,H3,I3,r3,k,e,q3⟩ => ?_) hm
 subst e
 cases r3
 exact wpAny_truthy_bool ⟨H3,I3,q3⟩
def qeD (r r' : R2) (ta tb tc : TE) : TE := fun σ H Q => ta σ H fun x H1 => tb σ H1 fun y H2 => r x y H2 fun z H3 => ∃ k,z = .bl k ∧
 (if k = true then tc σ H3 fun w' H4 => r' y w' H4 Q else Q (.bl false) H3)
theorem qcM {op op' : CmpOp} {r r' : R2} (ho : OpR X (compareOp op) r) (ho' : OpR X (compareOp op') r') (ha : PE X a ta) (hb : PE X b tb) (hc : PE X c tc)
  (hm : lastMarks [op,op'] [b,c] = false := by with_unfolding_all rfl) : PE X (.Compare a [op,op'] [b,c] pos) (qeD r r' ta tb tc) := by
 intro pins s σ H Q I h
 refine Compare_chain (thn (ha pins s σ H _ I h) fun v s1 ⟨x,H1,I1,r1,q1⟩ => chain_link (thn (hb pins s1 σ H1 _ I1 q1) fun u s2 ⟨y,H2,I2,r2,q2⟩ =>
  thn (ho pins s2 σ H2 x y v u _ I2 r1 r2 q2) fun d s3 ⟨z,H3,I3,r3,k,e,q3⟩ => ?_)) hm
 subst e
 cases r3
 refine wpAny_truthy_bool ?_
 cases k with
 | false => exact ite_ff ⟨.bl false,H3,I3,rfl,q3⟩
 | true => exact ite_tt (chain_last (thn (hc pins s3 σ H3 _ I3 q3) fun w' s4 ⟨z',H4,I4,r4,q4⟩ => ho' pins s4 σ H4 y z' u w' Q I4 r2 r4 q4))
theorem SV : (sizeLine : Nat) < 2 ^ 63 := by rw [sizeLine_eq];decide
theorem X8 {x : V} {us : List Value} (r : zy [x] us) : ∃ u,us = [u]∧jg x u := by
 cases r with
 | cons r1 r2 => cases r2;exact ⟨_,rfl,r1⟩
theorem qaM {x y : V} {us : List Value} (r : zy [x,y] us) : ∃ u w',us = [u,w']∧jg x u∧jg y w' := by
 cases r with
 | cons r1 r2 =>
  cases r2 with
  | cons r3 r4 => cases r4;exact ⟨_,_,rfl,r1,r3⟩
theorem XX : Z7 X (.builtin "abs") (fun xs H Q => ∃ i,xs = [.int i]∧Q (.int (if i < 0 then -i else i)) H) := by
 intro pins s σ H xs us Q I r h
 obtain ⟨i,rfl,q⟩ := h
 obtain ⟨u,rfl,t,rfl⟩ := X8 r
 exact call_abs_int fun u tk => ⟨.int (if i < 0 then -i else i),H,I.tok _,⟨_,rfl⟩,q⟩
theorem NL (hc : X.calm = true) : Z7 X (.builtin "min") (fun xs H Q => ∃ i j,xs = [.int i,.int j]∧Q (.int (if j < i then j else i)) H) := by
 intro pins s σ H xs us Q I r h
 obtain ⟨i,j,rfl,q⟩ := h
 obtain ⟨u,w',rfl,⟨t,rfl⟩,⟨t',rfl⟩⟩ := qaM r
 refine min_two_ints (I.ok.hd hc) fun h' tk k => ⟨_,H,I.kept k,?_,q⟩
 by_cases hj : j < i
 ·rw [if_pos hj,if_pos hj];exact ⟨_,rfl⟩
 ·rw [if_neg hj,if_neg hj];exact ⟨_,rfl⟩
theorem qal : Z7 X (.type "int") (fun xs H Q => (∃ i,xs = [.int i]∧Q (.int i) H) ∨ ∃ k,xs = [.bl k]∧Q (.int (if k then 1 else 0)) H) := by
 intro pins s σ H xs us Q I r h
 rcases h with ⟨i,rfl,q⟩ | ⟨k,rfl,q⟩
 ·obtain ⟨u,rfl,t,rfl⟩ := X8 r
  exact call_int_int ⟨.int i,H,I,⟨_,rfl⟩,q⟩
 ·obtain ⟨u,rfl,r1⟩ := X8 r
  cases r1
  exact call_int_bool ⟨.int (if k then 1 else 0),H,I.tok _,⟨_,rfl⟩,q⟩
def qob (K : PySem.W.Frag) (x : V) (H : Hp) (n : Nat) : Prop :=
 match x with
 | .str y => y.length ≤ sizeLine∧n = y.length
 | .byt y => y.size ≤ sizeLine∧n = y.size
 | .ref p => (∃ xs,SqL K H p xs∧n = xs.length) ∨ ∃ xs,SqT K H p xs∧n = xs.length
 | _ => False
theorem zL : Z7 X (.builtin "len") (fun xs H Q => ∃ x n,xs = [x]∧qob X.K x H n∧Q (.int n) H) := by
 intro pins s σ H xs us Q I r h
 obtain ⟨x,n,rfl,e,q⟩ := h
 obtain ⟨u,rfl,rx⟩ := X8 r
 have hl := SV
 have hs : sizeLine = 16777216 := sizeLine_eq
 cases x with
 | str y =>
  obtain ⟨t,rfl⟩ := rx
  obtain ⟨hy,e'⟩ : y.length ≤ sizeLine∧n = y.length := e
  subst e'
  exact len_str (by omega) ⟨.int _,H,I.tok _,⟨_,rfl⟩,q⟩
 | byt y =>
  obtain ⟨t,rfl⟩ := rx
  obtain ⟨hy,e'⟩ : y.size ≤ sizeLine∧n = y.size := e
  subst e'
  exact PySem.W.len_bytes (by omega) ⟨.int _,H,I.tok _,⟨_,rfl⟩,q⟩
 | ref p =>
  cases rx
  have e' : (∃ xs,SqL X.K H p xs∧n = xs.length) ∨ ∃ xs,SqT X.K H p xs∧n = xs.length := e
  rcases e' with ⟨xs,hx,e'⟩ | ⟨xs,hx,e'⟩
  ·subst e'
   obtain ⟨its,r',pl,hz⟩ := I.list hx
   have hlen := r'.length
   exact Calls.call_len_list pl.isList (by simp only [List.size_toArray];omega) ⟨.int xs.length,H,I.tok _,⟨_,by simp only [List.size_toArray];rw [hlen]⟩,q⟩
  ·subst e'
   obtain ⟨its,r',pl,hz⟩ := I.tuple hx
   have hlen := r'.length
   exact len_tuple pl (by simp only [List.size_toArray];omega) ⟨.int xs.length,H,I.tok _,⟨_,by simp only [List.size_toArray];rw [hlen]⟩,q⟩
 | _ => exact (show False from e).elim
end
end L2
namespace L2
open PySem PySem.Spec PyProof.Rows
section
variable {prog : Program} {w : World} {A : Around} {E : Value → Shared → Prop} {s : Shared} {K : PySem.W.Frag} {x dx C f : Addr} {mA : Str → Option Value} {name : Str} {v : Value}
end
section
variable {P : Program} {w : World} {H H' : Hp} {h h' : Heap} {a C dx : Addr} {fs fs' : List (Str × V)}
end
section
variable {X : Cx} {pins : List (Addr × Obj)} {σ : St} {H : Hp} {s : Shared} {a C dx : Addr} {fs : List (Str × V)} {f : Str} {v : V} {A : Around} {E : Value → Shared → Prop}
end
section
variable {X : Cx} {o e value : Expr} {f : Str} {pos pos' tpos : Pos} {ta tv : TE}
end
section
variable {X : Cx} {pins : List (Addr × Obj)} {σ : St} {H : Hp} {s : Shared} {A : Around} {E : Value → Shared → Prop} {Q : Value → Shared → Prop} {c : Value} {b : Bool}
end
end L2
namespace L2
open PySem PySem.Spec PyProof.Rows
structure Room (k : Nat) (A : Around) : Prop where
 hd : A.handled = none
 dp : A.depth + 3 * k + 5 < recursionLimit
 un : A.units + 16 * k + 200 < cLine
 gd : A.guards = some []
theorem Room.mono {j k : Nat} {A : Around} (r : Room k A) (h : j ≤ k) : Room j A := ⟨r.hd,by have := r.dp;omega,by have := r.un;omega,r.gd⟩
theorem Room.deeper {k : Nat} {A : Around} (r : Room (k + 1) A) (env : Env) : Room k (A.deeper env) :=
 ⟨r.hd,by have := r.dp;show A.depth + 1 + 3 * k + 5 < _;omega,by have := r.un;show A.units + 3 + 16 * k + 200 < _;omega,r.gd⟩
theorem Room.in1 {k : Nat} {A : Around} (r : Room (k + 1) A) : Room k A.in1 :=
 ⟨r.hd,by have := r.dp;show A.depth + 3 * k + 5 < _;omega,by have := r.un;show A.units + 1 + 16 * k + 200 < _;omega,r.gd⟩
theorem Room.depth {k : Nat} {A : Around} (r : Room k A) : A.depth < recursionLimit := by have := r.dp;omega
theorem Room.units {k : Nat} {A : Around} (r : Room k A) : A.units + 64 < cLine := by have := r.un;omega
def qoO : TA := fun _ H Q => Q [] H
def qnR (ta : TE) (tr : TA) : TA := fun σ H Q => ta σ H fun x H1 => tr σ H1 fun xs H2 => Q (x :: xs) H2
section
variable {X : Cx} {e : Expr} {es : List Expr} {te : TE} {t : TA} {pos : Pos}
theorem LL : PA X [] qoO := fun _ _ _ _ H Q I h => Calls.spliced_nil ⟨[],H,I,.nil,h⟩
theorem YX (ha : PE X e te) (hr : PA X es t) (hs : starEach (e :: es) X.env = (false,eval e X.env) :: starEach es X.env := by rfl) : PA X (e :: es) (qnR te t) := by
 intro pos pins s σ H Q I h
 rw [hs]
 show wpAny _ _ (spliced ((false,eval e X.env) :: backTo pos (starEach es X.env))) _ _ s
 refine Calls.spliced_cons (thn (ha pins s σ H _ I h) fun u s1 ⟨x,H1,I1,r1,q1⟩ => ?_)
 exact thn (hr pos pins s1 σ H1 _ I1 q1) fun us s2 ⟨xs,H2,I2,r2,q2⟩ => ⟨x :: xs,H2,I2,.cons r1 r2,q2⟩
def qpc (t : TA) : TE := fun σ H Q => t σ H fun xs H1 => xs.length ≤ sizeLine∧∀ p,H1 p = none → Q (.ref p) (upd H1 p (.tup xs))
def qpd (t : TA) : TE := fun σ H Q => t σ H fun xs H1 => xs.length ≤ sizeLine∧∀ p,H1 p = none → Q (.ref p) (upd H1 p (.lst xs))
theorem qdk {x1} (h : PA X es t) : PE X (.Tuple es x1 pos) (qpc t) := by
 intro pins s σ H Q I hq
 refine wpAny_Tuple_spliced (thn (h pos pins s σ H _ I hq) fun us s1 ⟨xs,H1,I1,r,z,q⟩ => ⟨by rw [← r.length];exact z,?_⟩)
 have hf : H1 s1.heap.objs.size = none := I1.hok.fresh (Nat.le_refl _)
 refine ⟨.ref s1.heap.objs.size,upd H1 s1.heap.objs.size (.tup xs),I1.laid (t' := s1.toks) (fun b u e => Heap.get?_push_of_some _ e) (Nat.le_refl _) ?_,rfl,q _ hf⟩
 exact ⟨z,us,r,⟨_,Heap.get?_push_size _ rfl,rfl,_,rfl⟩⟩
theorem qkL (h : PA X es t) : PE X (.List es pos) (qpd t) := by
 intro pins s σ H Q I hq
 refine wpAny_List_spliced (thn (h pos pins s σ H _ I hq) fun us s1 ⟨xs,H1,I1,r,z,q⟩ => ⟨by rw [← r.length];exact z,?_⟩)
 have hf : H1 s1.heap.objs.size = none := I1.hok.fresh (Nat.le_refl _)
 refine ⟨.ref s1.heap.objs.size,upd H1 s1.heap.objs.size (.lst xs),I1.laid (t' := s1.toks) (fun b u e => Heap.get?_push_of_some _ e) (Nat.le_refl _) ?_,rfl,q _ hf⟩
 exact ⟨z,us,0,r,Heap.get?_push_size _ rfl⟩
end
abbrev Sp := List V → Hp → VK → XK → Prop
abbrev CXT := List Env → Hp → Shared → XK → Value → Shared → Prop
structure Env0 (P : Program) (w : World) (K : PySem.W.Frag) (mg : Str → Option Value) (base : Heap) (A : Around) (outer : List Env) (s : Shared) (H : Hp) : Prop where
 frames : A.frames = some outer
 mod : Mod K mg base
 bs : ∀ b o,base.get? b = some o → s.heap.get? b = some o∧H b = none
 bsz : base.objs.size ≤ s.heap.objs.size
 funs : s.heap.FunFrames base outer
 frf : ∀ b ∈ frs outer,H b = none
 hok : HOk P w H s.heap
 bare : AllBare s.gens
def CE (outer : List Env) (P : Program) (w : World) (H : Hp) (s : Shared) (Q : VK) (u : Value) (s' : Shared) : Prop :=
 ∃ v H',s'.os = s.os∧AllBare s'.gens∧Un (frs outer) [] H H' s.heap s'.heap∧HOk P w H' s'.heap∧jg v u∧Q v H'
def CR (CX : CXT) (outer : List Env) (P : Program) (w : World) (H : Hp) (s : Shared) (Q : VK) (E : XK) (r : Result) (s' : Shared) : Prop :=
 match r with
 | .ok (.ret u) => CE outer P w H s Q u s'
 | .ok _ => False
 | .error e => CX outer H s E e s'
structure FnOk (P : Program) (w : World) (K : PySem.W.Frag) (mg : Str → Option Value) (base : Heap) (CX : CXT) (k : Nat) (f : Addr) (fd : FuncData) (ps : List Str) (sp : Sp) : Prop where
 len : ∀ vs H Q E,sp vs H Q E → vs.length = ps.length
 run : ∀ (A : Around) (outer : List Env) (s : Shared) (H : Hp) (args : Args) (us : List Value) (vs : List V) (Q : VK) (E : XK),Room k A → Env0 P w K mg base A outer s H → BindsTo s fd args (ps.zip us) → zy vs us → sp vs H Q E →
  codeAny (model P w) A (.call (.ref f) args) (CR CX outer P w H s Q E) s
theorem FnOk.mono {P : Program} {w : World} {K : PySem.W.Frag} {mg : Str → Option Value} {base : Heap} {CX : CXT} {j k : Nat} {f : Addr} {fd : FuncData} {ps : List Str} {sp : Sp} (F : FnOk P w K mg base CX j f fd ps sp) (h : j ≤ k) :
  FnOk P w K mg base CX k f fd ps sp := ⟨F.len,fun A outer s H args us vs Q E hr => F.run A outer s H args us vs Q E (hr.mono h)⟩
theorem FnOk.imp {P : Program} {w : World} {K : PySem.W.Frag} {mg : Str → Option Value} {base : Heap} {CX : CXT} {k : Nat} {f : Addr} {fd : FuncData} {ps : List Str} {sp sp' : Sp} (F : FnOk P w K mg base CX k f fd ps sp)
  (h : ∀ vs H Q E,sp' vs H Q E → sp vs H Q E) : FnOk P w K mg base CX k f fd ps sp' :=
 ⟨fun vs H Q E q => F.len vs H Q E (h _ _ _ _ q),fun A outer s H args us vs Q E hr he hb hv hs => F.run A outer s H args us vs Q E hr he hb hv (h _ _ _ _ hs)⟩
theorem Env0.in1 {P : Program} {w : World} {K : PySem.W.Frag} {mg : Str → Option Value} {base : Heap} {A : Around} {outer : List Env} {s : Shared} {H : Hp} (e : Env0 P w K mg base A outer s H) :
  Env0 P w K mg base A.in1 outer s H := ⟨e.frames,e.mod,e.bs,e.bsz,e.funs,e.frf,e.hok,e.bare⟩
section
variable {X : Cx} {pins : List (Addr × Obj)} {σ : St} {H : Hp} {s s' : Shared}
theorem Inv.env0 (I : Inv X pins σ H s) : Env0 X.prog X.w X.K X.mg X.base X.A X.stack s H :=
 ⟨I.ok.frames,I.ok.mod,I.bs,Nat.le_trans I.ok.bsz I.sz,I.stack,I.stkFree,I.hok,I.bare⟩
theorem Inv.after {Q : VK} {u : Value} (I : Inv X pins σ H s) (h : CE X.stack X.prog X.w H s Q u s') : EP X pins σ Q u s' := by
 obtain ⟨v,H',os,bare,un,hok,r,q⟩ := h
 obtain ⟨hh,g,d,t,os'⟩ := s'
 obtain rfl : os' = s.os := os
 exact ⟨v,H',I.call (h' := hh) (g' := g) (d' := d) (t' := t) (ch := []) un hok bare (fun b z => absurd z (by simp)),r,q⟩
end
def qmC (sp : Sp) (dvs : List V) (E : XK) (t : TA) : TE := fun σ H Q => t σ H fun vs H1 => sp (vs ++ dvs) H1 Q E
def qW (K : PySem.W.Frag) (fd : FuncData) (ps : List Str) (ds : List Value) : Prop :=
 ∀ (s : Shared) (us : List Value),K.In s.heap → (us ++ ds).length = ps.length → BindsTo s fd ⟨us,[]⟩ (ps.zip (us ++ ds))
theorem qW.all {K : PySem.W.Frag} {fd : FuncData} {ps : List Str} (h : ∀ us : List Value,us.length = ps.length → bindArgs fd ⟨us,[]⟩ = pure (ps.zip us)) : qW K fd ps [] := fun s us _ hl => by
 rw [List.append_nil] at hl ⊢
 exact .of_eq (h us hl)
def qay (CX : CXT) (X : Cx) (E : XK) : Prop := ∀ (pins : List (Addr × Obj)) (σ : St) (H : Hp) (s : Shared) (e : Value) (s' : Shared),Inv X pins σ H s → CX X.stack H s E e s' → X.xe e s'
section
variable {X : Cx} {CX : CXT} {k : Nat} {f C : Addr} {fd : FuncData} {ps : List Str} {sp : Sp} {dvs : List V} {ds : List Value} {E : XK} {x m : Str} {p pos apos : Pos} {e o : Expr} {es : List Expr} {ta : TE} {t : TA}
theorem qhs {pins : List (Addr × Obj)} {σ : St} {H : Hp} {s : Shared} {Q : VK} {us : List Value} {vs : List V} (F : FnOk X.prog X.w X.K X.mg X.base CX k f fd ps sp) (hr : Room k X.A) (hb : qW X.K fd ps ds) (hd : zy dvs ds) (hx : qay CX X E)
  (I : Inv X pins σ H s) (r : zy vs us) (h : sp (vs ++ dvs) H Q E) : wpAny (model X.prog X.w) X.A (call (.ref f) us) (EP X pins σ Q) X.xe s := by
 have r2 : zy (vs ++ dvs) (us ++ ds) := r.append hd
 have hl : (us ++ ds).length = ps.length := by rw [← r2.length];exact F.len _ _ _ _ h
 refine wpAny_call (codeAny_mono (F.run X.A X.stack s H ⟨us,[]⟩ (us ++ ds) (vs ++ dvs) Q E hr I.env0 (hb s us I.kIn hl) r2 h) fun r s' hq => ?_)
 cases r with
 | error e => exact hx pins σ H s e s' I hq
 | ok fl =>
  cases fl with
  | ret u => exact I.after hq
  | next => exact False.elim hq
  | brk => exact False.elim hq
  | cont => exact False.elim hq
theorem qfO (F : FnOk X.prog X.w X.K X.mg X.base CX k f fd ps sp) (hr : Room k X.A) (hg : Gl X x) (hm : X.mg x = some (.ref f)) (hk : PySem.W.keepIn X.K (.ref f) = true) (hb : qW X.K fd ps ds) (hd : zy dvs ds) (hx : qay CX X E)
  (ha : PA X (e :: es) t) (hdb : (x == ("__debug__" : Str)) = false := by decide) (he : starEach (e :: es) X.env = (false,eval e X.env) :: starEach es X.env := by rfl) (hpl : (backTo pos (starEach es X.env)).any (·.1) = false := by rfl) :
  PE X (.Call (.Name x p) (e :: es) [] pos) (qmC sp dvs E t) := by
 intro pins s σ H Q I h
 refine wpAny_Call_Name_kw (qaS I hg hm ?_ hdb)
 refine PySem.W.callWith_K (h₀ := X.base) I.ok.mod.kin hk (thn (ha pos pins s σ H _ I h) fun us s1 ⟨vs,H1,I1,r,q⟩ => ⟨I1.kIn,?_⟩) he hpl
 exact qhs F hr hb hd hx I1 r q
end
section
variable {X : Cx} {CX : CXT} {k : Nat} {f C : Addr} {fd : FuncData} {ps ks : List Str} {sp : Sp} {E : XK} {x m : Str} {p pos apos kpos : Pos} {e o : Expr} {es : List Expr} {kws : List Keyword} {te ta : TE} {t tk : TA} {nm : Option Str}
variable {g : List Value → List Value → List Value} {gV : List V → List V → List V}
end
structure FnScope (N P : List Str) (sc : Scope) : Prop where
 kind : sc.kind = .function
 co : sc.isCoroutine = false
 gen : sc.isGenerator = false
 nd : N.Nodup
 pre : N.take P.length = P
 par : ∀ x ∈ P,sc.names.lookup x = some .local ∨ sc.names.lookup x = some .cell
 nofree : ∀ y ∈ sc.names,y.2 ≠ .free
theorem RF {kindOf : Str → Option NameKind} {x : Str} : ∀ {binds : List (Str × Value)} {m : Str → Option Value},(∀ v,(x,v) ∉ binds) → bindL kindOf binds m x = m x
 | [],_,_ => rfl
 | (n,v) :: r,m,h => by
  unfold bindL
  rw [RF fun w hw => h w (List.mem_cons_of_mem _ hw)]
  split
  ·have : x ≠ n := by rintro rfl;exact h v List.mem_cons_self
   simp [this]
  ·rfl
theorem SJ {kindOf : Str → Option NameKind} {x : Str} : ∀ {binds : List (Str × Value)} {m : Str → Option Value},(∀ v,(x,v) ∉ binds) → bindC kindOf binds m x = m x
 | [],_,_ => rfl
 | (n,v) :: r,m,h => by
  unfold bindC
  rw [SJ fun w hw => h w (List.mem_cons_of_mem _ hw)]
  split
  ·rfl
  ·have : x ≠ n := by rintro rfl;exact h v List.mem_cons_self
   simp [this]
theorem SC {kindOf : Str → Option NameKind} {x : Str} {v : Value} : ∀ {P : List Str} {vs : List Value} {i : Nat} {m : Str → Option Value},P.Nodup → P[i]? = some x → vs[i]? = some v → kindOf x = some .local →
  bindL kindOf (P.zip vs) m x = some v
 | [],_,_,_,_,h,_,_ => by simp at h
 | _ :: _,[],_,_,_,_,h,_ => by simp at h
 | p :: P,w :: vs,0,m,nd,h1,h2,hk => by
  simp at h1 h2;subst h1;subst h2
  show bindL kindOf ((p,w) :: P.zip vs) m p = _
  unfold bindL
  rw [RF fun v hv => (List.nodup_cons.mp nd).1 (List.of_mem_zip hv).1,if_pos hk]
  simp
 | p :: P,w :: vs,i + 1,m,nd,h1,h2,hk => by
  show bindL kindOf ((p,w) :: P.zip vs) m x = _
  unfold bindL
  exact SC (i := i) (List.nodup_cons.mp nd).2 (by simpa using h1) (by simpa using h2) hk
theorem SL {kindOf : Str → Option NameKind} {x : Str} {v : Value} : ∀ {P : List Str} {vs : List Value} {i : Nat} {m : Str → Option Value},P.Nodup → P[i]? = some x → vs[i]? = some v → kindOf x ≠ some .local →
  bindC kindOf (P.zip vs) m x = some v
 | [],_,_,_,_,h,_,_ => by simp at h
 | _ :: _,[],_,_,_,_,h,_ => by simp at h
 | p :: P,w :: vs,0,m,nd,h1,h2,hk => by
  simp at h1 h2;subst h1;subst h2
  show bindC kindOf ((p,w) :: P.zip vs) m p = _
  unfold bindC
  rw [SJ fun v hv => (List.nodup_cons.mp nd).1 (List.of_mem_zip hv).1,if_neg hk]
  simp
 | p :: P,w :: vs,i + 1,m,nd,h1,h2,hk => by
  show bindC kindOf ((p,w) :: P.zip vs) m x = _
  unfold bindC
  exact SL (i := i) (List.nodup_cons.mp nd).2 (by simpa using h1) (by simpa using h2) hk
def ET (N : List Str) (vs : List V) : St := vs.map some ++ List.replicate (N.length - vs.length) none
def qbF (CX : CXT) (P : Program) (w : World) (K : PySem.W.Frag) (mg : Str → Option Value) (base : Heap) (N : List Str) (qual : Str) (scope : Scope) (f : Addr) (cd : Value) (A : Around) (outer : List Env) (s : Shared) (H : Hp) (E : XK) : Cx where
 prog := P
 w := w
 K := K
 mg := mg
 base := base
 A := A.deeper (envOfC qual scope s.heap.objs.size f cd)
 N := N
 s₀ := s
 H₀ := H
 env := envOfC qual scope s.heap.objs.size f cd
 outer := outer
 stack := envOfC qual scope s.heap.objs.size f cd :: outer
 ex := []
 calm := true
 fn := fun _ => true
 pn := []
 xe := fun e s' => wpAny (model P w) (A.deeper (envOfC qual scope s.heap.objs.size f cd)) (leaving (envOfC qual scope s.heap.objs.size f cd) e) (fun _ s'' => CX outer H s E e s'') (fun e' s'' => CX outer H s E e' s'') s'
theorem KU {sc : Scope} {n : Nat} {x : Str} (h : sc.names.lookup x = some .cell) : ∃ c,(cellsFrom n sc.names []).lookup x = some c := by
 have q := PySem.W.cellsFrom_some sc.names n [] (.inl h)
 exact Option.isSome_iff_exists.mp q
theorem qaY {CX : CXT} {P : Program} {w : World} {K : PySem.W.Frag} {mg : Str → Option Value} {base : Heap} {N ps : List Str} {qual : Str} {scope : Scope} {f : Addr} {cd : Value} {A : Around} {outer : List Env} {s s1 : Shared} {H : Hp} {E : XK} {us : List Value} {vs : List V}
  (S : FnScope N ps scope) (hd : A.handled = none) (e0 : Env0 P w K mg base A outer s H) (hl : vs.length = ps.length) (r : zy vs us)
  (x : InCallC s s.heap.objs.size (bindL (envOfC qual scope s.heap.objs.size f cd).kindOf (ps.zip us) fun _ => none) (cellsFrom (s.heap.objs.size + 1) scope.names []) (bindC (envOfC qual scope s.heap.objs.size f cd).kindOf (ps.zip us) fun _ => none) s1) :
  Inv (qbF CX P w K mg base N qual scope f cd A outer s H E) [] (ET N vs) H s1 := by
 have hpl : ps.length ≤ N.length := by have := congrArg List.length S.pre;rw [List.length_take] at this;omega
 obtain ⟨h1,tk,rfl,hk⟩ := x.done
 have noA : ∀ b : Addr,b ∉ (qbF CX P w K mg base N qual scope f cd A outer s H E).ex := fun b z => absurd (show b ∈ ([] : List Addr) from z) (by simp)
 refine ⟨⟨e0.mod,S.kind,rfl,rfl,Nat.le_refl _,fun y z c h1 h2 => ?_,fun y hy => ?_,fun y c _ h => ?_,fun _ => hd,Around.frames_deeper e0.frames,.inr ⟨rfl,rfl⟩,fun b z => absurd z (noA b),e0.bs,e0.bsz,fun b _ _ => noA b,fun b z => absurd z (noA b),e0.funs,e0.frf⟩,
  rfl,e0.bare,Un.kept hk,⟨_,x.toInCall.ns,fun i y v h1 h2 h3 => ?_⟩,fun y c h => ⟨_,x.cell y c h⟩,e0.hok.fresh (Nat.le_refl _),fun y c h => ?_,fun p hp => absurd (show p ∈ ([] : List (Addr × Obj)) from hp) (by simp),e0.hok.kept hk,?_⟩
 ·exact name_of_addr x.apart (PySem.mem_of_lookup h1) (PySem.mem_of_lookup h2)
 ·have hy : scope.names.lookup y = some .cell ∨ scope.names.lookup y = some .free := hy
  rcases hy with hy | hy
  ·exact KU hy
  ·exact absurd rfl (S.nofree _ (PySem.mem_of_lookup hy))
 ·exact Nat.le_of_lt (x.above y c (PySem.mem_of_lookup h))
 ·have hi : i < vs.length := by
   unfold ET at h2
   by_cases hi : i < vs.length
   ·exact hi
   ·rw [List.getElem?_append_right (by simpa using hi)] at h2
    rw [List.getElem?_replicate] at h2
    split at h2 <;> cases h2
  have ha : vs[i]? = some v := by
   unfold ET at h2
   rw [List.getElem?_append_left (by simpa using hi),List.getElem?_map] at h2
   cases e : vs[i]? with
   | none => rw [e] at h2;cases h2
   | some a => rw [e] at h2;cases h2;rfl
  obtain ⟨u,hu,rv⟩ := r.get ha
  have hp : ps[i]? = some y := by
   rw [← S.pre,List.getElem?_take_of_lt (by omega)];exact h1
  have ndP : ps.Nodup := by rw [← S.pre];exact S.nd.sublist (List.take_sublist _ _)
  refine ⟨u,rv,?_⟩
  rcases S.par y (List.mem_of_getElem? hp) with k | k
  ·exact .inl ⟨k,SC ndP hp hu k⟩
  ·obtain ⟨c,e⟩ := KU (n := s.heap.objs.size + 1) k
   refine .inr ⟨.inl k,c,e,?_⟩
   have q := x.cell y c e
   rw [SL ndP hp hu (by show scope.names.lookup y ≠ _;rw [k];decide)] at q
   exact q
 ·exact e0.hok.fresh (Nat.le_of_lt (x.above y c (PySem.mem_of_lookup h)))
 ·unfold ET
  show _ = N.length
  rw [List.length_append,List.length_map,List.length_replicate]
  omega
theorem qnU {CX : CXT} {P : Program} {w : World} {K : PySem.W.Frag} {mg : Str → Option Value} {base : Heap} {k : Nat} {f : Addr} {name qual : Str} {params : Arguments} {body : List Stmt} {scope : Scope} {dV kV doc pm cdv ct oc : Value} {an od : Option Addr}
  {osl : Array (Option Value)} {N ps : List Str} {sp : Sp} (lk : K.lookup f = some ⟨oc,od,.func (PySem.W.fnOf name qual params body scope dV kV doc pm an cdv ct),osl⟩) (hcd : PySem.W.codeIn K cdv qual = true) (S : FnScope N ps scope)
  (len : ∀ vs H Q E,sp vs H Q E → vs.length = ps.length)
  (hbody : ∀ (A : Around) (outer : List Env) (s : Shared) (H : Hp) (vs : List V) (Q : VK) (E : XK),Room k (A.deeper (envOfC qual scope s.heap.objs.size f cdv)) → sp vs H Q E →
   ∃ t,PSs (qbF CX P w K mg base N qual scope f cdv A outer s H E) body t∧t { nx := fun _ H' => Q .non H',rt := Q } (ET N vs) H) :
  FnOk P w K mg base CX (k + 1) f (PySem.W.fnOf name qual params body scope dV kV doc pm an cdv ct) ps sp := by
 refine ⟨len,fun A outer s H args us vs Q E hr e0 hb r hsp => ?_⟩
 have hl := len _ _ _ _ hsp
 have KX : K.In s.heap := e0.mod.kin.keeps fun b o e => (e0.bs b o e).1
 have lim : s.heap.NoLimit := e0.mod.nolimit.keeps fun b o e => (e0.bs b o e).1
 have hkind : ∀ y ∈ ps.zip us,scope.names.lookup y.1 = some .local ∨ (scope.names.lookup y.1 = some .cell∧((cellsFrom (s.heap.objs.size + 1) scope.names []).lookup y.1).isSome = true) := fun ⟨n,v⟩ hy => by
  rcases S.par n (List.of_mem_zip hy).1 with q | q
  ·exact .inl q
  ·exact .inr ⟨q,PySem.W.cellsFrom_some _ _ _ (.inl q)⟩
 refine codeAny_call_function hr.depth (KX _ _ lk) rfl S.co S.gen rfl (PySem.W.codeRec_of KX hcd) (hb _ _ _ _ ?_)
 refine wpAny_newFunctionEnv_cells S.kind hkind fun env he s1 x => ?_
 subst he
 refine ⟨lim.keeps x.toInCall.keep,codeAny_func ?_⟩
 obtain ⟨t,ht,hq⟩ := hbody A outer s H vs Q E (hr.deeper _) hsp
 have I : Inv (qbF CX P w K mg base N qual scope f cdv A outer s H E) [] (ET N vs) H s1 := qaY S hr.hd e0 hl r x
 refine wpAny_mono (ht [] s1 (ET N vs) H _ I hq) (fun fl s' hs => ?_) fun e s' hs => hs
 have fin : ∀ {σ' : St} {H' : Hp} {v : V} {u : Value},Inv (qbF CX P w K mg base N qual scope f cdv A outer s H E) [] σ' H' s' → jg v u → Q v H' → CE outer P w H s Q u s' :=
  fun {σ' H' v u} J rv q => ⟨v,H',J.os,J.bare,J.base,J.hok,rv,q⟩
 cases fl with
 | ret u =>
  obtain ⟨v,σ',H',J,rv,q⟩ := hs
  exact fin J rv q
 | next =>
  obtain ⟨σ',H',J,q⟩ := hs
  exact fin (v := V.non) (u := Value.none) J rfl q
 | brk =>
  obtain ⟨_,_,_,q⟩ := hs
  exact False.elim q
 | cont =>
  obtain ⟨_,_,_,q⟩ := hs
  exact False.elim q
end L2
namespace L2
open PySem PySem.Spec PyProof.Rows
section
variable {X : Cx} {x : Str} {p pos : Pos} {e : Expr} {es : List Expr} {t : TA} {id T : String} {r : List V → Hp → VK → Prop}
def tCB (r : List V → Hp → VK → Prop) (t : TA) : TE := fun σ H Q => t σ H fun vs H1 => r vs H1 Q
theorem XA (hc : Z7 X (.builtin id) r) (hg : Gl X x) (hm : X.mg x = none) (hv : bootBuiltins x = some (.builtin id)) (ha : PA X (e :: es) t) (hn : x ≠ "__name__" := by decide) (hdb : (x == ("__debug__" : Str)) = false := by decide)
  (he : starEach (e :: es) X.env = (false,eval e X.env) :: starEach es X.env := by rfl) (hpl : (backTo pos (starEach es X.env)).any (·.1) = false := by rfl) : PE X (.Call (.Name x p) (e :: es) [] pos) (tCB r t) := by
 intro pins s σ H Q I h
 refine wpAny_Call_Name_kw (W7 I hg hm hv ?_ hn hdb)
 exact PyProof.Rows.callWith_builtin1 (thn (ha pos pins s σ H _ I h) fun us s1 ⟨vs,H1,I1,r1,q1⟩ => hc pins s1 σ H1 vs us Q I1 r1 q1) he hpl
theorem N5 (hc : Z7 X (.type T) r) (hg : Gl X x) (hm : X.mg x = none) (hv : bootBuiltins x = some (.type T)) (ha : PA X (e :: es) t) (hn : x ≠ "__name__" := by decide) (hdb : (x == ("__debug__" : Str)) = false := by decide)
  (he : starEach (e :: es) X.env = (false,eval e X.env) :: starEach es X.env := by rfl) (hpl : (backTo pos (starEach es X.env)).any (·.1) = false := by rfl) : PE X (.Call (.Name x p) (e :: es) [] pos) (tCB r t) := by
 intro pins s σ H Q I h
 refine wpAny_Call_Name_kw (W7 I hg hm hv ?_ hn hdb)
 exact PyProof.Rows.callWith_type1 (thn (ha pos pins s σ H _ I h) fun us s1 ⟨vs,H1,I1,r1,q1⟩ => hc pins s1 σ H1 vs us Q I1 r1 q1) he hpl
end
end L2
namespace HT
open PySem PyProof.Rows
section
open PySem.SeqAt
open PySem.MeetsSeq PySem.MeetsSeq2 PySem.MeetsSeq3
end
section
variable {prog : Program} {w : World} {A : Around} {E : Value → Shared → Prop} {s : Shared}
theorem qfK {t b : Addr} {vs ws : List Value} {Q : Value → Shared → Prop} (ht : IsTup s.heap t vs.toArray) (hb : IsTup s.heap b ws.toArray) (hv : vs ≠ [])
  (h1 : ws = [] → Q (.ref t) s) (h2 : ws ≠ [] → Q (.ref s.heap.objs.size) { s with heap := s.heap.push { cls := .type "tuple",data := .seq (vs ++ ws).toArray } })
  (hsz : vs.length + ws.length ≤ sizeLine) : wpAny (model prog w) A (binaryOp .Add (.ref t) (.ref b)) Q E s := by
 obtain ⟨⟨cls,dd,data,sl⟩,ho,hc,n,hd⟩ := id ht
 obtain ⟨⟨cls2,dd2,data2,sl2⟩,ho2,hc2,n2,hd2⟩ := id hb
 simp only at hc hd hc2 hd2
 subst hc hd hc2 hd2
 have e : vs.toArray ++ ws.toArray = (vs ++ ws).toArray := by simp
 by_cases hw : ws = []
 ·exact concat_meets ⟨_,ho,rfl⟩ ⟨_,ho2,rfl⟩ noFill_tuple_add seq_tuple_add PySem.F.slot_tuple_add PySem.F.entry_tuple_add (PySem.F.args_tuple_add_2 _ _)
   (tuple_addW1 t b vs.toArray ws.toArray n n2 dd dd2 sl sl2 (by simpa using hv) (by simp [hw])) ⟨ho,ho2,h1 hw⟩
 ·refine concat_meets ⟨_,ho,rfl⟩ ⟨_,ho2,rfl⟩ noFill_tuple_add seq_tuple_add PySem.F.slot_tuple_add PySem.F.entry_tuple_add (PySem.F.args_tuple_add_2 _ _)
   (tuple_addW2 t b vs.toArray ws.toArray n n2 dd dd2 sl sl2 (by simpa using hv) (by simpa using hw) (by rw [List.size_toArray,List.size_toArray];exact hsz)) ⟨ho,ho2,?_⟩
  rw [e]
  exact h2 hw
def sIx (n d : Nat) : Option Int → Nat
 | none => d
 | some v => if v < 0 then (v + (n : Int)).toNat else min v.toNat n
theorem qln (n d : Nat) (hd : d ≤ n) (o : Option Int) : sIx n d o ≤ n := by
 cases o with
 | none => exact hd
 | some v =>
  show (if v < 0 then (v + (n : Int)).toNat else min v.toNat n) ≤ n
  by_cases hv : v < 0
  ·rw [if_pos hv];omega
  ·rw [if_neg hv];exact Nat.min_le_right _ _
theorem qbs (v : Int) (n d : Nat) : (if v < 0 then max (v + (n : Int)) 0 else min v (n : Int)) = ((sIx n d (some v) : Nat) : Int) := by
 show (if v < 0 then max (v + (n : Int)) 0 else min v (n : Int)) = (((if v < 0 then (v + (n : Int)).toNat else min v.toNat n) : Nat) : Int)
 by_cases hv : v < 0
 ·simp only [if_pos hv];omega
 ·simp only [if_neg hv];omega
theorem L8 (lo hi : Option Int) (n : Nat) : Builtin.Slice.sliceAdjust lo hi 1 (n : Int) = (((sIx n 0 lo : Nat) : Int),((sIx n n hi : Nat) : Int)) := by
 have h1 : ¬ ((1 : Int) < 0) := by omega
 unfold Builtin.Slice.sliceAdjust
 simp only [h1,if_false]
 refine Prod.ext ?_ ?_
 ·cases lo with
  | none => rfl
  | some v => exact qbs v n 0
 ·cases hi with
  | none => rfl
  | some v => exact qbs v n n
theorem MH (i j : Nat) : Builtin.Slice.slicePlaces (i : Int) (j : Int) 1 = j - i := by
 unfold Builtin.Slice.slicePlaces
 have h1 : (1 : Int) > 0 := by omega
 simp only [h1,if_true,Int.ediv_one]
 split <;> omega
theorem WL {v : Value} {o : Option Int} {Q : Option Int → Shared → Prop} (p : IsPart v o) (h : Q o s) : wpAny (model prog w) A (Builtin.Slice.slicePartIndex v) Q E s := by
 cases p with
 | none => exact slicePart_none h
 | int i t => exact slicePart_int h
theorem U3 {sl : Addr} {vl vu : Value} {lo hi : Option Int} {n : Nat} {Q : Int × Int × Nat → Shared → Prop} (hs : s.heap.IsSliceOf sl vl vu .none) (pl : IsPart vl lo) (pu : IsPart vu hi)
  (h : Q (((sIx n 0 lo : Nat) : Int),1,sIx n n hi - sIx n 0 lo) s) : wpAny (model prog w) A (Builtin.Slice.sliceApplied (.ref sl) (pure (n : Int))) Q E s := by
 obtain ⟨os,hos,hcs,hds⟩ := id hs
 unfold Builtin.Slice.sliceApplied Builtin.Slice.sliceFields
 refine wpAny_bind (wpAny_bind (wpAny_field hos hds (x := vl) rfl (wpAny_bind (wpAny_field hos hds (x := vu) rfl (wpAny_bind (wpAny_field hos hds (x := .none) rfl (wpAny_pure ?_)))))))
 refine wpAny_bind (slicePart_none ?_)
 show wpAny _ _ (if ((1 : Int) == 0) = true then _ else _) _ _ s
 rw [if_neg (by decide)]
 refine wpAny_bind (WL pl (wpAny_bind (WL pu (wpAny_bind (wpAny_pure ?_)))))
 show wpAny _ _ (match Builtin.Slice.sliceAdjust lo hi 1 (n : Int) with | (lo,hi) => pure (lo,(1 : Int),Builtin.Slice.slicePlaces lo hi 1)) _ _ s
 rw [L8 lo hi n]
 show wpAny _ _ (pure (((sIx n 0 lo : Nat) : Int),(1 : Int),Builtin.Slice.slicePlaces ((sIx n 0 lo : Nat) : Int) ((sIx n n hi : Nat) : Int) 1)) _ _ s
 rw [MH]
 exact wpAny_pure h
theorem qbX (xs : Array Value) (i k : Nat) : ((List.range k).filterMap fun (m : Nat) => xs[((i : Int) + (m : Int) * 1).toNat]?).toArray = ((xs.toList.drop i).take k).toArray := by
 have e : (fun (m : Nat) => xs[((i : Int) + (m : Int) * 1).toNat]?) = fun m => xs[i + m]? := by
  funext m
  have : ((i : Int) + (m : Int) * 1).toNat = i + m := by omega
  rw [this]
 rw [e]
 have := pick_run xs i k
 rw [List.filterMap_map] at this
 have e2 : ((fun x => xs[x]?) ∘ fun x => i + x) = fun m => xs[i + m]? := rfl
 rw [e2] at this
 rw [this]
theorem UB {t sl : Addr} {items : Array Value} {vl vu : Value} {lo hi : Option Int} {Q : Value → Shared → Prop} (ht : IsTup s.heap t items) (hs : s.heap.IsSliceOf sl vl vu .none) (pl : IsPart vl lo) (pu : IsPart vu hi)
  (hw : ¬ (sIx items.size 0 lo = 0∧sIx items.size items.size hi = items.size))
  (h : Q (.ref s.heap.objs.size) { s with heap := s.heap.push { cls := .type "tuple",data := .seq ((items.toList.drop (sIx items.size 0 lo)).take (sIx items.size items.size hi - sIx items.size 0 lo)).toArray } })
  (hsz : items.size ≤ sizeLine) : wpAny (model prog w) A (getItem (.ref t) (.ref sl)) Q E s := by
 have htake : sizeOk (.seq ((items.toList.drop (sIx items.size 0 lo)).take (sIx items.size items.size hi - sIx items.size 0 lo)).toArray) := by
  show ((items.toList.drop (sIx items.size 0 lo)).take (sIx items.size items.size hi - sIx items.size 0 lo)).toArray.size ≤ sizeLine
  rw [List.size_toArray,List.length_take,List.length_drop,Array.length_toList]
  omega
 have hj : sIx items.size items.size hi ≤ items.size := qln _ _ (Nat.le_refl _) hi
 obtain ⟨os,hos,hcs,hds⟩ := id hs
 have hTs : s.TypeIs (.ref sl) "slice" := ⟨os,hos,hcs⟩
 unfold getItem
 try with_reducible refine wpAny_holding ?_
 first | refine wpAny_bind (wpAny_pure ?_) | skip
 refine wpAny_bind (wpAny_sequenceKey ht.typeIs (by decide) ?_)
 refine wpAny_bind (wpAny_callSpecial?_slot (name := Str.ofString "__getitem__") ht.typeIs PyProof.Rows.slot_tuple_getitem
  (wpAny_call_entry PyProof.Rows.slot_tuple_getitem ht.typeIs entry_tuple_getitem ?_ (args_tuple_getitem _ _)))
 show wpAny _ _ (Builtin.Tuple.tupleItemsOf (.ref t) >>= _) _ _ s
 refine wpAny_bind (tupleItemsOf_ ht ?_)
 refine wpAny_bind (wpAny_typeOf hTs ?_)
 rw [if_pos (by decide)]
 refine wpAny_bind (U3 hs pl pu ?_)
 have hno : ¬ ((((sIx items.size 0 lo : Nat) : Int) == 0 && (1 : Int) == 1 && (sIx items.size items.size hi - sIx items.size 0 lo) == items.size) = true) := by
  intro q
  rw [Bool.and_eq_true,Bool.and_eq_true] at q
  have q1 : ((sIx items.size 0 lo : Nat) : Int) = 0 := eq_of_beq q.1.1
  have q2 : sIx items.size items.size hi - sIx items.size 0 lo = items.size := eq_of_beq q.2
  exact hw ⟨by omega,by omega⟩
 show wpAny _ _ (if (((sIx items.size 0 lo : Nat) : Int) == 0 && (1 : Int) == 1 && (sIx items.size items.size hi - sIx items.size 0 lo) == items.size) = true then _ else _) _ _ s
 rw [if_neg hno,qbX]
 first
  | exact wpAny_bind (m := Builtin.Tuple.tupleExact _) (wpAny_newObj_type (wpAny_pure ⟨_,rfl,wpAny_pure h⟩) htake)
  | exact wpAny_bind (m := Builtin.Tuple.tupleExact _) (wpAny_newObj_type (wpAny_bind (wpAny_pure (wpAny_pure ⟨_,rfl,wpAny_pure h⟩))) htake)
  | exact wpAny_bind (wpAny_bind (m := Builtin.Tuple.tupleExact _) (wpAny_newObj_type (wpAny_pure (wpAny_pure ⟨_,rfl,wpAny_pure h⟩)) htake))
  | exact wpAny_bind (wpAny_bind (m := Builtin.Tuple.tupleExact _) (wpAny_newObj_type (wpAny_pure ⟨_,rfl,wpAny_pure h⟩) htake))
end
end HT
namespace L2
open PySem PySem.Spec PyProof.Rows
abbrev TO := St → Hp → (Option Int → Hp → Prop) → Prop
def PO (X : Cx) (e : Option Expr) (t : TO) : Prop :=
 ∀ (pins : List (Addr × Obj)) (s : Shared) (σ : St) (H : Hp) (Q : Option Int → Hp → Prop),Inv X pins σ H s → t σ H Q →
  wpAny (model X.prog X.w) X.A (evalPart e X.env) (fun u s' => ∃ o H',Inv X pins σ H' s'∧IsPart u o∧Q o H') X.xe s
def qmY (t : TE) : TO := fun σ H Q => t σ H fun x H1 => ∃ i,x = .int i∧Q (some i) H1
section
variable {X : Cx} {e : Expr} {te : TE} {lo hi : Option Expr} {tl th : TO} {pos p2 : Pos}
theorem qe9 (h : PE X e te) : PO X (some e) (qmY te) := by
 intro pins s σ H Q I hw
 rw [evalPart_some]
 refine thn (h pins s σ H _ I hw) fun u s1 ⟨x,H1,I1,r1,q1⟩ => ?_
 obtain ⟨i,rfl,q⟩ := q1
 obtain ⟨t,rfl⟩ := r1
 exact ⟨some i,H1,I1,.int i t,q⟩
def SlR (X : Cx) (r : V → Option Int → Option Int → Hp → VK → Prop) : Prop :=
 ∀ (pins : List (Addr × Obj)) (s : Shared) (σ : St) (H : Hp) (x : V) (v vl vu : Value) (lo hi : Option Int) (sl : Addr) (Q : VK),Inv X pins σ H s → jg x v → s.heap.IsSliceOf sl vl vu .none → IsPart vl lo → IsPart vu hi → r x lo hi H Q →
  ∃ T id,typeLookup (.type T) "__getitem__" = pure (some (.builtin id))∧s.TypeIs v T∧wpAny (model X.prog X.w) X.A (getItem v (.ref sl)) (EP X pins σ Q) X.xe s
theorem SlR.or {r r' : V → Option Int → Option Int → Hp → VK → Prop} (h : SlR X r) (h' : SlR X r') : SlR X (fun x lo hi H Q => r x lo hi H Q ∨ r' x lo hi H Q) := by
 intro pins s σ H x v vl vu lo hi sl Q I rx hs pl pu q
 rcases q with q | q
 ·exact h pins s σ H x v vl vu lo hi sl Q I rx hs pl pu q
 ·exact h' pins s σ H x v vl vu lo hi sl Q I rx hs pl pu q
def tSl (r : V → Option Int → Option Int → Hp → VK → Prop) (te : TE) (tl th : TO) : TE := fun σ H Q => te σ H fun x H1 => tl σ H1 fun l H2 => th σ H2 fun u H3 => r x l u H3 Q
theorem qcx {r : V → Option Int → Option Int → Hp → VK → Prop} (hr : SlR X r) (he : PE X e te) (hl : PO X lo tl) (hu : PO X hi th) : PE X (.Subscript e (.Slice lo hi none p2) pos) (tSl r te tl th) := by
 intro pins s σ H Q I h
 refine Subscript_ (thn (he pins s σ H _ I h) fun v s1 ⟨x,H1,I1,r1,q1⟩ => ?_)
 refine wpAny_Slice (thn (hl pins s1 σ H1 _ I1 q1) fun vl s2 ⟨l,H2,I2,pl,q2⟩ => thn (hu pins s2 σ H2 _ I2 q2) fun vu s3 ⟨u,H3,I3,pu,q3⟩ => ?_)
 rw [evalPart_none]
 refine wpAny_pure ?_
 have I4 : Inv X pins σ H3 { s3 with heap := s3.heap.push { cls := .type "slice",data := .fields #[vl,vu,.none] } } := I3.kept (t' := s3.toks) fun b ob q => Heap.get?_push_of_some _ q
 obtain ⟨T,id,hT,ht,hg⟩ := hr pins { s3 with heap := s3.heap.push { cls := .type "slice",data := .fields #[vl,vu,.none] } } σ H3 x v vl vu l u s3.heap.objs.size Q I4 r1 (Heap.IsSliceOf.new ..) pl pu q3
 show wpAny (model X.prog X.w) X.A (subscriptTail e (.Slice lo hi none p2) v (.ref s3.heap.objs.size)) (EP X pins σ Q) X.xe { s3 with heap := s3.heap.push { cls := .type "slice",data := .fields #[vl,vu,.none] } }
 exact tail_any (ops := [.ref s3.heap.objs.size,v]) ht hT hg (by with_unfolding_all rfl)
def qew (xs : List V) (lo hi : Option Int) : List V := (xs.drop (HT.sIx xs.length 0 lo)).take (HT.sIx xs.length xs.length hi - HT.sIx xs.length 0 lo)
theorem E8 (xs : List V) (lo hi : Option Int) : (qew xs lo hi).length ≤ xs.length := by
 unfold qew
 rw [List.length_take,List.length_drop]
 omega
def qpj (K : PySem.W.Frag) : V → Option Int → Option Int → Hp → VK → Prop := fun x lo hi H Q => ∃ a xs,x = .ref a∧SqT K H a xs ∧
 ¬ (HT.sIx xs.length 0 lo = 0∧HT.sIx xs.length xs.length hi = xs.length)∧∀ p,H p = none → Q (.ref p) (upd H p (.tup (qew xs lo hi)))
theorem qiW : SlR X (qpj X.K) := by
 intro pins s σ H x v vl vu lo hi sl Q I rx hs pl pu h
 obtain ⟨a,xs,rfl,hx,hw,q⟩ := h
 cases rx
 obtain ⟨its,r,ht,hz⟩ := I.tuple hx
 have hlen : its.toArray.size = xs.length := by rw [List.size_toArray];exact r.length.symm
 refine ⟨"tuple",_,PyProof.Rows.slot_tuple_getitem.lookup,ht.typeIs,?_⟩
 refine HT.UB ht hs pl pu (by rw [hlen];exact hw) ?_ (by rw [hlen];exact hz)
 rw [hlen]
 refine ⟨.ref s.heap.objs.size,_,I.laid (t' := s.toks) (o := .tup (qew xs lo hi)) (fun b ob q => Heap.get?_push_of_some _ q) (Nat.le_refl _) ?_,rfl,q _ (I.hok.fresh (Nat.le_refl _))⟩
 exact ⟨Nat.le_trans (E8 xs lo hi) hz,_,(r.drop (HT.sIx xs.length 0 lo)).take (HT.sIx xs.length xs.length hi - HT.sIx xs.length 0 lo),IsTup.new _ _⟩
def qkC (K : PySem.W.Frag) : R2 := fun x y H Q => ∃ a b xs ys,x = .ref a∧y = .ref b∧SqT K H a xs∧SqT K H b ys∧xs ≠ []∧xs.length + ys.length ≤ sizeLine ∧
 (ys = [] → Q (.ref a) H)∧(ys ≠ [] → ∀ p,H p = none → Q (.ref p) (upd H p (.tup (xs ++ ys))))
theorem zy.nil_iff {xs : List V} {us : List Value} (r : zy xs us) : us = [] ↔ xs = [] := by
 cases r with
 | nil => simp
 | cons _ _ => simp
theorem qgG : OpR X (binaryOp .Add) (qkC X.K) := by
 intro pins s σ H x y v u Q I rx ry h
 obtain ⟨a,b,xs,ys,rfl,rfl,ha,hb,hx,hz,q1,q2⟩ := h
 cases rx
 cases ry
 obtain ⟨its,r1,p1,_⟩ := I.tuple ha
 obtain ⟨its2,r2,p2,_⟩ := I.tuple hb
 refine HT.qfK p1 p2 (fun z => hx (r1.nil_iff.mp z)) (fun z => ⟨.ref a,H,I,rfl,q1 (r2.nil_iff.mp z)⟩) (fun z => ?_) (by rw [← r1.length,← r2.length];exact hz)
 refine ⟨.ref s.heap.objs.size,_,I.laid (t' := s.toks) (o := .tup (xs ++ ys)) (fun b ob q => Heap.get?_push_of_some _ q) (Nat.le_refl _) ?_,rfl,q2 (fun w => z (r2.nil_iff.mpr w)) _ (I.hok.fresh (Nat.le_refl _))⟩
 exact ⟨by rw [List.length_append];exact hz,_,r1.append r2,IsTup.new _ _⟩
end
end L2
namespace L2
open PySem PySem.Spec PyProof.Rows
def ixN (n : Nat) (i : Int) : Option Nat := if 0 ≤ i then (if i < n then some i.toNat else none) else if -(n : Int) ≤ i then some (i + n).toNat else none
def atI {α : Type} (xs : List α) (i : Int) : Option α := (ixN xs.length i).bind fun j => xs[j]?
theorem qbm {n : Nat} {i : Int} {j : Nat} (h : ixN n i = some j) : seqIndex? i n = some j∧j < n∧-(n : Int) ≤ i∧i < n := by
 unfold ixN at h
 by_cases h0 : 0 ≤ i
 ·rw [if_pos h0] at h
  by_cases h1 : i < n
  ·rw [if_pos h1] at h
   have e : i.toNat = j := Option.some.inj h
   exact ⟨by rw [seqIndex_of h0 h1,e],by omega,by omega,h1⟩
  ·rw [if_neg h1] at h;cases h
 ·rw [if_neg h0] at h
  by_cases h1 : -(n : Int) ≤ i
  ·rw [if_pos h1] at h
   have e : (i + n).toNat = j := Option.some.inj h
   exact ⟨by rw [seqIndex_neg (by omega) h1,e],by omega,h1,by omega⟩
  ·rw [if_neg h1] at h;cases h
theorem KC {α : Type} {xs : List α} {i : Int} {v : α} (h : atI xs i = some v) : ∃ j,seqIndex? i xs.length = some j∧xs[j]? = some v∧j < xs.length∧-(xs.length : Int) ≤ i∧i < xs.length := by
 unfold atI at h
 cases e : ixN xs.length i with
 | none => rw [e] at h;cases h
 | some j =>
  rw [e] at h
  obtain ⟨h1,h2,h3,h4⟩ := qbm e
  exact ⟨j,h1,h,h2,h3,h4⟩
def XR (b : Expr) : Prop := ∀ o i,subscripted b false o i = operate [o,i] (getItem o i)
def IxR (X : Cx) (r : R2) : Prop :=
 ∀ (value slice : Expr) (pins : List (Addr × Obj)) (s : Shared) (σ : St) (H : Hp) (x y : V) (v u : Value) (Q : VK),Inv X pins σ H s → jg x v → jg y u → r x y H Q →
  subscripted slice false v u = operate [v,u] (getItem v u) → wpAny (model X.prog X.w) X.A (subscriptTail value slice v u) (EP X pins σ Q) X.xe s
section
variable {X : Cx} {a b : Expr} {ta tb : TE} {pos : Pos}
theorem IxR.or {r r' : R2} (h : IxR X r) (h' : IxR X r') : IxR X (fun x y H Q => r x y H Q ∨ r' x y H Q) := by
 intro value slice pins s σ H x y v u Q I rx ry q hs
 rcases q with q | q
 ·exact h value slice pins s σ H x y v u Q I rx ry q hs
 ·exact h' value slice pins s σ H x y v u Q I rx ry q hs
theorem qhK {r : R2} (hr : IxR X r) (ha : PE X a ta) (hb : PE X b tb) (hs : XR b) : PE X (.Subscript a b pos) (tOp r ta tb) := by
 intro pins s σ H Q I h
 exact Subscript_ (qmH ha hb I h fun v u s2 x y H2 I2 rx ry q => hr a b pins s2 σ H2 x y v u Q I2 rx ry q (hs _ _))
def qoB (K : PySem.W.Frag) : R2 := fun x y H Q => ∃ p xs i v,x = .ref p∧y = .int i∧SqL K H p xs∧atI xs i = some v∧Q v H
def qoa (K : PySem.W.Frag) : R2 := fun x y H Q => ∃ p xs i v,x = .ref p∧y = .int i∧SqT K H p xs∧atI xs i = some v∧Q v H
def qoA : R2 := fun x y H Q => ∃ z i c,x = .str z∧y = .int i∧z.length ≤ sizeLine∧atI z.cps.toList i = some c∧Q (.str ⟨#[c]⟩) H
theorem qgi : IxR X (qoB X.K) := by
 intro value slice pins s σ H x y v u Q I rx ry h hs
 obtain ⟨p,xs,i,z,rfl,rfl,hq,he,q⟩ := h
 cases rx
 obtain ⟨t,rfl⟩ := ry
 obtain ⟨its,r,pl,hz⟩ := I.list hq
 obtain ⟨j,h1,h2,h3,h4,h5⟩ := KC he
 obtain ⟨w,ew,rw'⟩ := r.get h2
 have hl := r.length
 have hn := SV
 have fin : EP X pins σ Q w s := ⟨z,H,I,rw',q⟩
 by_cases h0 : 0 ≤ i
 ·have hj : i.toNat = j := by
   rw [seqIndex_of h0 h5] at h1
   exact Option.some.inj h1
  exact item_listR pl.isList h0 (by omega) (by rw [hj];simpa using ew) fin hs
 ·have hj : (i + (its.toArray.size : Int)).toNat = j := by
   rw [seqIndex_neg (by omega) h4] at h1
   rw [List.size_toArray,← hl]
   exact Option.some.inj h1
  exact subscriptTail_builtinR (x := w) pl.isList.typeIs slot_list_getitem.lookup
   (wpAny_getItem_list_neg (Q := fun r s' => r = w∧EP X pins σ Q r s') pl.isList (by omega) (by rw [List.size_toArray] <;> omega) (by omega) (by rw [hj];simpa using ew) ⟨rfl,fin⟩) hs
theorem qhA : IxR X (qoa X.K) := by
 intro value slice pins s σ H x y v u Q I rx ry h hs
 obtain ⟨p,xs,i,z,rfl,rfl,hq,he,q⟩ := h
 cases rx
 obtain ⟨t,rfl⟩ := ry
 obtain ⟨its,r,pl,hz⟩ := I.tuple hq
 obtain ⟨j,h1,h2,h3,h4,h5⟩ := KC he
 obtain ⟨w,ew,rw'⟩ := r.get h2
 have hl := r.length
 have hn := SV
 have fin : EP X pins σ Q w s := ⟨z,H,I,rw',q⟩
 exact subscriptTail_builtinR (x := w) pl.typeIs slot_tuple_getitem.lookup
  (getItem_tuple (j := j) (Q := fun r s' => r = w∧EP X pins σ Q r s') pl (by omega) (by omega) (by rw [List.size_toArray,← hl];exact h1) (by simpa using ew) ⟨rfl,fin⟩) hs
theorem qiu : IxR X qoA := by
 intro value slice pins s σ H x y v u Q I rx ry h hs
 obtain ⟨z,i,c,rfl,rfl,hz,he,q⟩ := h
 obtain ⟨t,rfl⟩ := rx
 obtain ⟨t',rfl⟩ := ry
 obtain ⟨j,h1,h2,h3,h4,h5⟩ := KC he
 have hl : z.cps.toList.length = z.length := by simp [Str.length]
 rw [hl] at h1 h4 h5
 have hn := SV
 exact tail_any (typeIs_str s z t) slot_str_getitem.lookup (getItem_str (c := c) (by
  have e1 : decide (i < -(2 ^ 63 : Int)) = false := decide_eq_false (by omega)
  have e2 : decide (i ≥ 2 ^ 63) = false := decide_eq_false (by omega)
  rw [e1,e2,Bool.or_false]) (by rw [h1];simpa using h2) ⟨.str ⟨#[c]⟩,H,I.tok _,⟨_,rfl⟩,q⟩) hs
def rIx (K : PySem.W.Frag) : R2 := fun x y H Q => qoB K x y H Q ∨ qoa K x y H Q ∨ qoA x y H Q
theorem qiI : IxR X (rIx X.K) := qgi.or (qhA.or qiu)
theorem L6 (its : List Value) (n j : Nat) (u : Value) : Obj.mapSeq (·.setIfInBounds j u) { cls := .type "list",data := .seq its.toArray n } = { cls := .type "list",data := .seq (its.set j u).toArray n } := by
 simp [Obj.mapSeq]
theorem Inv.lst {pins : List (Addr × Obj)} {σ : St} {H : Hp} {s : Shared} {p : Addr} {xs : List V} (I : Inv X pins σ H s) (h : H p = some (.lst xs)) :
  ∃ (its : List Value) (n : Nat),zy xs its∧s.heap.get? p = some { cls := .type "list",data := .seq its.toArray n }∧xs.length ≤ sizeLine := by
 obtain ⟨z,its,n,r,e⟩ := I.hok p _ h
 exact ⟨its,n,r,e,z⟩
theorem Inv.lstUpd {pins : List (Addr × Obj)} {σ : St} {H : Hp} {s : Shared} {p : Addr} {xs ys : List V} {its its' : List Value} {n n' : Nat} {f : Obj → Obj} (I : Inv X pins σ H s) (h : H p = some (.lst xs))
  (ho : s.heap.get? p = some { cls := .type "list",data := .seq its.toArray n }) (hf : f { cls := .type "list",data := .seq its.toArray n } = { cls := .type "list",data := .seq its'.toArray n' }) (r : zy ys its') (hz : ys.length ≤ sizeLine) (t : Nat) :
  Inv X pins σ (upd H p (.lst ys)) { s with heap := s.heap.update p f,toks := t } := by
 have e : (s.heap.update p f).get? p = some { cls := .type "list",data := .seq its'.toArray n' } := by
  rw [Heap.get?_update_self f ho (by rw [hf] <;> rfl),hf]
 refine I.write (x := p) (e := p) (by rw [h];trivial) (.inl rfl) (fun b u hb q => (Heap.get?_update_other _ _ (Ne.symm hb)).trans q) ⟨_,e⟩ ?_
 exact ⟨hz,its',n',r,e⟩
def qna : V → V → V → Hp → (Hp → Prop) → Prop := fun o i v H Q => ∃ p xs k j,o = .ref p∧i = .int k∧H p = some (.lst xs)∧ixN xs.length k = some j∧Q (upd H p (.lst (xs.set j v)))
theorem qcl : qoc X qna := by
 intro pins s σ H o i v ov iv u Q I ro ri rv h
 obtain ⟨p,xs,k,j,rfl,rfl,hp,hj,q⟩ := h
 cases ro
 obtain ⟨t,rfl⟩ := ri
 obtain ⟨its,n,r,ho,hz⟩ := I.lst hp
 obtain ⟨h1,h2,h3,h4⟩ := qbm hj
 have hl := r.length
 have hn := SV
 have I' : Inv X pins σ (upd H p (.lst (xs.set j v))) { s with heap := s.heap.update p (Obj.mapSeq (·.setIfInBounds j u)) } :=
  I.lstUpd hp ho (L6 its n j u) (r.set rv j) (by rw [List.length_set];exact hz) s.toks
 by_cases h0 : 0 ≤ k
 ·have hk : k.toNat = j := by
   rw [seqIndex_of h0 h4] at h1
   exact Option.some.inj h1
  exact PySem.W.ki_setAt ho h0 (by omega) (by rw [List.size_toArray,← hl];exact h4) (by rw [hk];exact ⟨_,I',q⟩)
 ·have hk : (k + (its.toArray.size : Int)).toNat = j := by
   rw [seqIndex_neg (by omega) h3] at h1
   rw [List.size_toArray,← hl]
   exact Option.some.inj h1
  exact PySem.W.ki_setBack ho (by omega) (by rw [List.size_toArray,← hl];exact h3) (by omega) (by rw [hk];exact ⟨_,I',q⟩)
theorem R4 (lo hi : Option Int) (n : Nat) : (sliceBounds lo hi none n).1 = ((HT.sIx n 0 lo : Nat) : Int)∧(sliceBounds lo hi none n).2.1 = ((HT.sIx n n hi : Nat) : Int)∧(sliceBounds lo hi none n).2.2 = 1 := by
 refine ⟨?_,?_,rfl⟩
 ·cases lo with
  | none => simp [sliceBounds,HT.sIx]
  | some i =>
   simp only [sliceBounds,HT.sIx,Option.getD_none,show (1 : Int) > 0 by decide,if_true]
   by_cases h : i < 0
   ·simp only [h,if_true] <;> omega
   ·simp only [h,if_false] <;> omega
 ·cases hi with
  | none => simp [sliceBounds,HT.sIx]
  | some i =>
   simp only [sliceBounds,HT.sIx,Option.getD_none,show (1 : Int) > 0 by decide,if_true]
   by_cases h : i < 0
   ·simp only [h,if_true] <;> omega
   ·simp only [h,if_false] <;> omega
theorem CG (its : List Value) (lo hi : Option Int) : slicePick its.toArray lo hi none = ((its.drop (HT.sIx its.length 0 lo)).take (HT.sIx its.length its.length hi - HT.sIx its.length 0 lo)).toArray := by
 obtain ⟨h1,h2,h3⟩ := R4 lo hi its.toArray.size
 unfold slicePick
 rw [h1,h2,h3]
 simp only [sliceRange_one,pick_run,List.size_toArray] <;> rfl
def qpt (K : PySem.W.Frag) : V → Option Int → Option Int → Hp → VK → Prop := fun x lo hi H Q => ∃ a xs,x = .ref a∧SqL K H a xs∧∀ p,H p = none → Q (.ref p) (upd H p (.lst (qew xs lo hi)))
theorem qfz : SlR X (qpt X.K) := by
 intro pins s σ H x v vl vu lo hi sl Q I rx hs pl pu h
 obtain ⟨a,xs,rfl,hx,q⟩ := h
 cases rx
 obtain ⟨its,r,ht,hz⟩ := I.list hx
 have hlen := r.length
 refine ⟨"list",_,slot_list_getitem.lookup,ht.isList.typeIs,?_⟩
 refine wpAny_getItem_list_slice ht.isList hs pl pu .none (by simp) ?_ (by rw [List.size_toArray] <;> omega)
 rw [CG,← hlen]
 refine ⟨.ref s.heap.objs.size,_,I.laid (t' := s.toks) (o := .lst (qew xs lo hi)) (fun b ob q => Heap.get?_push_of_some _ q) (Nat.le_refl _) ?_,rfl,q _ (I.hok.fresh (Nat.le_refl _))⟩
 exact ⟨Nat.le_trans (E8 xs lo hi) hz,_,0,(r.drop (HT.sIx xs.length 0 lo)).take (HT.sIx xs.length xs.length hi - HT.sIx xs.length 0 lo),Heap.get?_push_size _ rfl⟩
theorem RZ : Z7 X (.type "list") (fun xs H Q => ∃ p ys,xs = [.ref p]∧(SqL X.K H p ys ∨ SqT X.K H p ys)∧∀ l,H l = none → Q (.ref l) (upd H l (.lst ys))) := by
 intro pins s σ H xs us Q I r h
 obtain ⟨p,ys,rfl,hq,q⟩ := h
 obtain ⟨u,rfl,rx⟩ := X8 r
 cases rx
 have fin : ∀ (its : List Value),zy ys its → ys.length ≤ sizeLine → ∀ (h' : Heap) (c' : Nat),(∀ b o',s.heap.get? b = some o' → h'.get? b = some o') →
   h'.get? s.heap.objs.size = some { cls := .type "list",dict := none,data := .seq its.toArray c',slots := #[] } → EP X pins σ Q (.ref s.heap.objs.size) { s with heap := h' } := fun its r' hz h' c' kp e =>
  ⟨.ref s.heap.objs.size,_,I.laid (t' := s.toks) kp (Nat.le_refl _) (show Y0 X.prog X.w _ h' _ (.lst ys) from ⟨hz,its,c',r',e⟩),rfl,q _ (I.hok.fresh (Nat.le_refl _))⟩
 rcases hq with hq | hq
 ·obtain ⟨its,r',pl,hz⟩ := I.list hq
  have hlen := r'.length
  obtain ⟨o,ho,hc,n,hd⟩ := pl.isList
  exact call_list_seq p (.inl rfl) ho hc hd (fun h' c' kp e => fin its r' hz h' c' kp e) (by simp only [List.size_toArray] <;> omega)
 ·obtain ⟨its,r',pl,hz⟩ := I.tuple hq
  have hlen := r'.length
  obtain ⟨o,ho,hc,n,hd⟩ := pl
  exact call_list_seq p (.inr rfl) ho hc hd (fun h' c' kp e => fin its r' hz h' c' kp e) (by simp only [List.size_toArray] <;> omega)
theorem CJ : Z7 X (.type "tuple") (fun xs H Q => ∃ p ys,xs = [.ref p]∧((SqL X.K H p ys∧∀ l,H l = none → Q (.ref l) (upd H l (.tup ys))) ∨ (SqT X.K H p ys∧Q (.ref p) H))) := by
 intro pins s σ H xs us Q I r h
 obtain ⟨p,ys,rfl,h⟩ := h
 obtain ⟨u,rfl,rx⟩ := X8 r
 cases rx
 rcases h with ⟨hq,q⟩ | ⟨hq,q⟩
 ·obtain ⟨its,r',pl,hz⟩ := I.list hq
  have hlen := r'.length
  refine call_tuple_list pl.isList (fun h' kp => ?_) (by simp only [List.size_toArray] <;> omega)
  have I1 : Inv X pins σ H { s with heap := h' } := I.kept (t' := s.toks) kp
  have I2 : Inv X pins σ (upd H h'.objs.size (.tup ys)) { s with heap := h'.push { cls := .type "tuple",data := .seq its.toArray } } :=
   I1.laid (t' := s.toks) (fun b o e => Heap.get?_push_of_some _ e) (Nat.le_refl _) (show Y0 X.prog X.w _ _ _ (.tup ys) from ⟨hz,its,r',IsTup.new _ _⟩)
  exact ⟨.ref h'.objs.size,_,I2,rfl,q _ (I1.hok.fresh (Nat.le_refl _))⟩
 ·obtain ⟨its,r',pl,hz⟩ := I.tuple hq
  exact call_tuple_same pl ⟨.ref p,H,I,rfl,q⟩
variable {o e : Expr} {es : List Expr} {to : TE} {t : TA} {name : Str} {apos cpos : Pos} {T id : String} {r : V → List V → Hp → VK → Prop}
end
end L2
namespace L2
open PySem PySem.Spec PyProof.Rows
def MtM (X : Cx) (id : String) (r : V → List V → Hp → VK → Prop) : Prop :=
 ∀ (pins : List (Addr × Obj)) (s : Shared) (σ : St) (H : Hp) (x : V) (xs : List V) (v : Value) (us : List Value) (Q : VK),Inv X pins σ H s → jg x v → zy xs us → r x xs H Q →
  wpAny (model X.prog X.w) X.A (call (.builtin id) (v :: us)) (EP X pins σ Q) X.xe s
theorem zy.one : ∀ {x : V} {us : List Value},zy [x] us → ∃ u,us = [u]∧jg x u
 | _,_,.cons r .nil => ⟨_,rfl,r⟩
theorem zy.reverse {xs : List V} {us : List Value} (h : zy xs us) : zy xs.reverse us.reverse := by
 induction h with
 | nil => exact .nil
 | cons r t ih => rw [List.reverse_cons,List.reverse_cons];exact zy.append ih (.cons r .nil)
theorem zy.rep {xs : List V} {us : List Value} (h : zy xs us) : ∀ k : Nat,zy (List.replicate k xs).flatten (List.replicate k us).flatten
 | 0 => .nil
 | k + 1 => by
  rw [List.replicate_succ,List.replicate_succ,List.flatten_cons,List.flatten_cons]
  exact zy.append h (zy.rep h k)
theorem RX (its : List Value) : ∀ (k : Nat) (acc : List Value),
  List.foldl (fun x1 x2 => x1 ++ x2) acc.toArray (List.replicate k its.toArray) = (acc ++ (List.replicate k its).flatten).toArray
 | 0,acc => by simp
 | k + 1,acc => by
  have e : acc.toArray ++ its.toArray = (acc ++ its).toArray := by simp
  have e2 : (acc ++ its) ++ (List.replicate k its).flatten = acc ++ (List.replicate (k + 1) its).flatten := by
   rw [List.replicate_succ,List.flatten_cons,List.append_assoc]
  rw [← e2,← RX its k (acc ++ its),← e,List.replicate_succ,List.foldl_cons]
section
variable {X : Cx} {pins : List (Addr × Obj)} {σ : St} {H : Hp} {s : Shared} {l b : Addr} {xs ys zs : List V}
theorem Inv.lset {its its' : List Value} {n : Nat} {f : Array Value → Array Value} {t' : Nat} (I : Inv X pins σ H s) (hH : H l = some (.lst xs))
  (e : s.heap.get? l = some { cls := .type "list",data := .seq its.toArray n }) (hf : f its.toArray = its'.toArray) (hv : zy ys its') (hz : ys.length ≤ sizeLine) :
  Inv X pins σ (upd H l (.lst ys)) { s with heap := s.heap.update l (Obj.mapSeq f),toks := t' } := by
 have q := PySem.IsL.update e f
 rw [hf] at q
 refine I.write (x := l) (e := l) (by rw [hH];exact trivial) (.inl rfl) (fun b' u hb hu => (Heap.get?_update_other s.heap (Obj.mapSeq f) (Ne.symm hb)).trans hu) ⟨_,q⟩ ?_
 exact ⟨hz,its',_,hv,q⟩
theorem Inv.lnew {its : List Value} {t' : Nat} (I : Inv X pins σ H s) (hv : zy ys its) (hz : ys.length ≤ sizeLine) :
  Inv X pins σ (upd H s.heap.objs.size (.lst ys)) { s with heap := s.heap.push { cls := .type "list",data := .seq its.toArray },toks := t' } :=
 I.laid (fun _ _ q => Heap.get?_push_of_some _ q) (Nat.le_refl _) ⟨hz,its,0,hv,Heap.get?_push_size _ rfl⟩
theorem Inv.fresh (I : Inv X pins σ H s) : H s.heap.objs.size = none := I.hok.fresh (Nat.le_refl _)
theorem Inv.lstM (I : Inv X pins σ H s) (hH : H l = some (.lst xs)) : xs.length ≤ sizeLine∧∃ (its : List Value) (n : Nat),zy xs its∧xs.length = its.length∧s.heap.get? l = some { cls := .type "list",data := .seq its.toArray n } := by
 obtain ⟨z,its,n,r,e⟩ := I.hok l _ hH
 exact ⟨z,its,n,r,r.length,e⟩
theorem qcH {n : Nat} (h : n ≤ sizeLine) : Builtin.List.listTooLong n = false := by
 unfold Builtin.List.listTooLong
 exact decide_eq_false (by omega)
end
section
variable {X : Cx}
def qgx : V → List V → Hp → VK → Prop := fun x vs H Q => ∃ l xs y,x = .ref l∧vs = [y]∧H l = some (.lst xs)∧xs.length < sizeLine∧Q .non (upd H l (.lst (xs ++ [y])))
theorem DR : MtM X "list.append" qgx := by
 intro pins s σ H x vs v us Q I rx rv h
 obtain ⟨l,xs,y,rfl,rfl,hH,hz,q⟩ := h
 cases rx
 obtain ⟨u,rfl,ru⟩ := rv.one
 obtain ⟨z,its,n,r,hl,e⟩ := I.lstM hH
 refine call_meets F.slot_list_append ⟨_,e,rfl⟩ F.entry_list_append (F.args_list_append_2 _ _) (PySem.list_append l its.toArray n u (by rw [List.size_toArray];omega)) ⟨e,?_⟩
 refine ⟨.non,_,I.lset (its' := its ++ [u]) hH e (by simp) (r.append (.cons ru .nil)) ?_,rfl,q⟩
 rw [List.length_append,List.length_singleton]
 omega
def qn3 : R2 := fun x y H Q => ∃ l b xs zs,x = .ref l∧y = .ref b∧H l = some (.lst xs)∧H b = some (.lst zs)∧xs.length + zs.length ≤ sizeLine∧∀ p,H p = none → Q (.ref p) (upd H p (.lst (xs ++ zs)))
theorem qkM : OpR X (binaryOp .Add) qn3 := by
 intro pins s σ H x y v u Q I rx ry h
 obtain ⟨l,b,xs,zs,rfl,rfl,hH,hB,hz,q⟩ := h
 cases rx
 cases ry
 obtain ⟨z,its,n,r,hl,e⟩ := I.lstM hH
 obtain ⟨z2,its2,n2,r2,hl2,e2⟩ := I.lstM hB
 refine PySem.P.add_list e e2 ?_ (by rw [List.size_toArray,List.size_toArray];omega)
 have ea : its.toArray ++ its2.toArray = (its ++ its2).toArray := by simp
 rw [ea]
 exact ⟨.ref _,_,I.lnew (t' := s.toks) (r.append r2) (by rw [List.length_append];omega),rfl,q _ I.fresh⟩
def qoH : R2 := fun x y H Q => ∃ l k xs,x = .ref l∧y = .int k∧H l = some (.lst xs)∧-(2 ^ 63) ≤ k∧k < 2 ^ 63∧xs.length * k.toNat ≤ sizeLine ∧
 ∀ p,H p = none → Q (.ref p) (upd H p (.lst (List.replicate k.toNat xs).flatten))
theorem qfA {α : Type} (xs : List α) (k : Nat) : (List.replicate k xs).flatten.length = k * xs.length := by
 induction k with
 | zero => simp
 | succ k ih => rw [List.replicate_succ,List.flatten_cons,List.length_append,ih,Nat.succ_mul,Nat.add_comm]
theorem qiw : OpR X (binaryOp .Mult) qoH := by
 intro pins s σ H x y v u Q I rx ry h
 obtain ⟨l,k,xs,rfl,rfl,hH,h1,h2,hz,q⟩ := h
 cases rx
 obtain ⟨t,rfl⟩ := ry
 obtain ⟨z,its,n,r,hl,e⟩ := I.lstM hH
 have hlen : its.toArray.size * k.toNat ≤ sizeLine := by rw [List.size_toArray,← hl];exact hz
 have hcap : ¬ its.toArray.size * k.toNat > (2 ^ 63 - 1) / 8 := by
  have : (sizeLine : Nat) ≤ (2 ^ 63 - 1) / 8 := by decide
  omega
 have hfit : ¬ (!Builtin.List.listFitsIndex k) = true := by
  rw [fitsIndex_both h1 h2]
  exact Bool.false_ne_true
 have hlong : ¬ Builtin.List.listTooLong (its.toArray.size * k.toNat) = true := by
  rw [qcH hlen]
  exact Bool.false_ne_true
 have hnew : List.foldl (fun x1 x2 => x1 ++ x2) #[] (List.replicate (if its.toArray.isEmpty = true then 0 else k.toNat) its.toArray) = (List.replicate k.toNat its).flatten.toArray := by
  have f0 : ∀ m : Nat,List.foldl (fun x1 x2 => x1 ++ x2) #[] (List.replicate m its.toArray) = (List.replicate m its).flatten.toArray := fun m => by
   have := RX its m []
   rw [List.nil_append] at this
   exact this
  rw [f0]
  cases its with
  | nil => simp
  | cons a r' => rw [if_neg (by simp)]
 refine wpAny_binaryOp_repeat_ref (T := "list") (U := "int") (by decide) ⟨_,e,rfl⟩ (fun s' => typeIs_int s' k t) noFill_list_mul F.fills_int_mul F.slot_int_rmul repeat_list F.slot_int_index.lookup
  (call_meets F.slot_int_rmul (typeIs_int s k t) F.entry_int_rmul (F.args_int_rmul_2 _ _) (int___rmul___int_list k t l its.toArray n)
   ⟨e,rfl,⟨_,e,rfl⟩,call_meets F.slot_list_mul ⟨_,e,rfl⟩ F.entry_list_mul (F.args_list_mul_2 _ _) (AutoListH.list___mul___list_int_3 l its.toArray n k t hfit hcap hlong) ⟨e,?_⟩⟩)
 rw [hnew]
 exact ⟨.ref _,_,I.lnew (t' := s.toks) (r.rep k.toNat) (by rw [qfA,Nat.mul_comm];exact hz),rfl,q _ I.fresh⟩
end
section
variable {prog : Program} {w : World} {A : Around} {E : Value → Shared → Prop} {s : Shared}
end
section
variable {X : Cx}
end
end L2
namespace Att
open PySem PySem.W PySem.Calls PyProof.Rows
theorem EM {P : Params} {h : Heap} : ∀ (ns : List Int) (vs : List Value),WellAll P h vs (ns.map WData.int) → IntsAre vs ns := by
 intro ns
 induction ns with
 | nil =>
  intro vs w
  rw [List.map_nil] at w
  cases w
  exact .nil
 | cons n ns ih =>
  intro vs w
  rw [List.map_cons] at w
  cases w with
  | cons a b =>
   cases a
   exact .cons _ _ (ih _ b)
theorem N2 {l : OpenLaw} {n : Nat} (hn : l.most = some n) {P : Params} {h : Heap} {args : List WData} {vals : List Value}
  (hpre : l.row.toRowW.claim.pre args = true) (hwl : WellAll P h vals args) :
  ∃ a vs ns,vals = [Value.ref a]∧args = [WData.list (ns.map WData.int)]∧h.get? a = some { cls := .type "list",data := .seq vs.toArray }∧IntsAre vs ns∧ns.length ≤ n := by
 have hsh : WShape.hasAll [] args [.list .int] = true := (pre_splitW hpre).1
 have hc : l.pre.holds [] { args := args } = true := (pre_splitW hpre).2
 obtain ⟨d,r,rfl,h1,h2⟩ := hasAllW_cons hsh
 obtain rfl := hasAllW_nil h2
 obtain ⟨xs,rfl,h3⟩ := hasW_list h1
 obtain ⟨ns,rfl⟩ := items_int h3
 have hlen : ns.length ≤ n := by
  unfold OpenLaw.pre at hc
  have h4 : (WTm.not (.lt (.lit (.int (n : Int))) (.len (.arg 0)))).holds [] { args := [.list (ns.map .int)] } = true := by
   have h4 := (holds_andW hc).1
   rw [hn] at h4
   exact h4
  have h5 := condW_of h4 (w_not (w_lt w_lit (w_len_list (w_arg rfl))))
  rw [List.length_map] at h5
  refine Nat.le_of_not_lt fun q => ?_
  have q' : (n : Int) < ((ns.length : Nat) : Int) := by omega
  first
   | (rw [decide_eq_true q'] at h5;exact absurd h5 (by decide))
   | (simp at h5;omega)
 cases hwl with
 | cons w1 w2 =>
  cases w2
  cases w1 with
  | list ho hall => exact ⟨_,_,ns,rfl,rfl,ho,EM ns _ hall,hlen⟩
theorem qbt (l : OpenLaw) (args : List WData) : l.row.toRowW.claim.post args (.bool true) args = true :=
 postW_of (r := l.row.toRowW) (X := (true == true))
  (show WShape.has [] (.bool true) .bool = true by first | rfl | decide | simp [WShape.has,WShape.arms,WShape.armsAll])
  (show (WTm.eq .res (.lit (.bool true))).value [] { args := args,res := some (.bool true),after := args } = some (.bool (true == true)) from w_eq_bool (w_res rfl) w_lit) rfl
theorem KG {l : OpenLaw} {n : Nat} {q : Program} {loose : List Str} {XP : (Str → Option Value) → Heap → Prop} {YP : World → Heap → Prop} {d : DefRec}
  (hn : l.most = some n) (hdf : d.params.defaults = [])
  (call : ∀ (w : World) (s₀ s₁ : Shared) (mg mb : Str → Option Value) (fa : Addr) (o : Obj) (pm cd doc : Value) (a : Addr) (vs : List Value) (ns : List Int),
   Ground q loose [] XP w s₀ mg mb s₁.heap → YP w s₁.heap →
   s₁.heap.get? fa = some o → o.data = .func (docDef d.name d.params d.body d.scope pm cd doc) → s₁.heap.CodeRec cd d.name → mg d.name = some (.ref fa) →
   s₁.heap.get? a = some { cls := .type "list",data := .seq vs.toArray } → IntsAre vs ns → ns.length ≤ n → s₁.gens = #[] →
   codeAny (model l.prog w) callerA (.call (.ref fa) ⟨[.ref a],[]⟩) (fun r s' => r = .ok (.ret (.bool true))∧OldK s₁.heap s'.heap∧s'.os = s₁.os∧AllBare s'.gens) s₁) :
  WalkO q loose XP YP l.row.toRowW d [] (fun f vs => PySem.call f vs) := by
 intro w s₀ s₁ mg mb G Y fa o pm cd doc dV kV ho hd hcd hD hmg hg args vals as hpre hlay hrd hwl hlo
 obtain rfl : dV = .none := Dflts.none hD hdf
 obtain rfl : kV = .none := Dflts.noKw hD
 obtain ⟨a,vs,ns,rfl,rfl,hobj,hints,hlen⟩ := N2 hn hpre hwl
 refine enter_call (codeAny_mono (call w s₀ s₁ mg mb fa o pm cd doc a vs ns G Y ho (fd_plain hd) hcd hmg hobj hints hlen hg) fun r s' hq => ?_)
 obtain ⟨rfl,h2,h3,h4⟩ := hq
 exact ⟨.inl ⟨.bool true,.bool true,[],rfl,fun _ => rfl,.bool true,qbt l _,fun _ => ⟨List.Pairwise.nil,fun _ hm => (nomatch hm)⟩⟩,h2,h3,h4⟩
section
variable {prog : Program} {w : World} {A : Around} {E : Value → Shared → Prop} {s : Shared} {K : Frag}
end
end Att
namespace L2
open PySem PySem.Spec PyProof.Rows
theorem R9 : ∀ {vs : List Value} {ns : List Int},IntsAre vs ns → zy (ns.map V.int) vs
 | _,_,.nil => .nil
 | _,_,.cons n t h => .cons ⟨t,rfl⟩ (R9 h)
def ql5 (H : Hp) : Prop := ∀ b,H b = none ∨ ∃ o xs,H b = some (.frz o (.lst xs))
theorem qb5 {P : Program} {w : World} {K : PySem.W.Frag} {mg mb : Str → Option Value} {CX : CXT} {k : Nat} {fa a : Addr} {fd : FuncData} {x : Str} {sp : Sp} {s₁ : Shared} {vs : List Value} {ns : List Int}
  (KX : K.In s₁.heap) (hns : s₁.heap.Ns mainGlobals mg) (hb : s₁.heap.Ns builtinsNs mb) (hbb : ∀ x : Str,x ≠ "__name__" → mb x = bootBuiltins x) (hlim : s₁.heap.NoLimit) (hg : s₁.gens = #[])
  (ha : s₁.heap.get? a = some { cls := .type "list",data := .seq vs.toArray }) (hi : IntsAre vs ns) (hl : ns.length ≤ sizeLine) (hr : Room k callerA)
  (F : ∀ base : Heap,K.In base → base.Ns mainGlobals mg → FnOk P w K mg base CX k fa fd [x] sp) (hbind : ∀ (s : Shared) (u : Value),BindsTo s fd ⟨[u],[]⟩ [(x,u)])
  (hsp : ∀ H : Hp,ql5 H → SqL K H a (ns.map V.int) → sp [.ref a] H (fun v _ => v = .bl true) fun _ _ _ => False)
  (hCX : ∀ H e s',CX [] H s₁ (fun _ _ _ => False) e s' → False) :
  codeAny (model P w) callerA (.call (.ref fa) ⟨[.ref a],[]⟩) (fun r s' => r = .ok (.ret (.bool true))∧OldK s₁.heap s'.heap∧s'.os = s₁.os∧AllBare s'.gens) s₁ := by
 have rv := R9 hi
 have lenV := hi.length
 -- from an abstract heap in which nothing but the script may be tracked
 have core : ∀ H : Hp,ql5 H → SqL K H a (ns.map V.int) → HOk P w H s₁.heap → (∀ b,H b ≠ none → b = a) → (H a ≠ none → K.lookup a = none) →
   codeAny (model P w) callerA (.call (.ref fa) ⟨[.ref a],[]⟩) (fun r s' => r = .ok (.ret (.bool true))∧OldK s₁.heap s'.heap∧s'.os = s₁.os∧AllBare s'.gens) s₁ := by
  intro H hO hS hok hA hK
  have base_of : ∀ {b : Addr} {o : Obj},s₁.heap.get? b = some o → H b = none → (qbU s₁.heap H).get? b = some o := fun e n => qbP e n
  have noA : ∀ {b : Addr} {o : Obj} {es : Array DictEntry} {ep : Nat},s₁.heap.get? b = some o → o.data = .dict es ep → H b = none := fun {b o es ep} e d => by
   cases q : H b with
   | none => rfl
   | some u =>
    have e' : b = a := hA b (by rw [q];simp)
    subst e'
    rw [ha] at e;cases e
    have d' : Data.seq vs.toArray _ = Data.dict es ep := d
    cases d'
  have nsK : ∀ {b : Addr} {m : Str → Option Value},s₁.heap.Ns b m → (qbU s₁.heap H).Ns b m := fun {b m} ⟨o,es,ep,e,d,r⟩ => ⟨o,es,ep,base_of e (noA e d),d,r⟩
  have hKb : K.In (qbU s₁.heap H) := fun b o e => base_of (KX b o e) (by
   cases q : H b with
   | none => rfl
   | some u =>
    have e' : b = a := hA b (by rw [q];simp)
    subst e'
    rw [hK (by rw [q];simp)] at e;cases e)
  have hM : Mod K mg (qbU s₁.heap H) := ⟨hKb,nsK hns,⟨mb,nsK hb,hbb⟩,let ⟨mc,h1,h2⟩ := hlim;⟨mc,nsK h1,h2⟩⟩
  have e0 : Env0 P w K mg (qbU s₁.heap H) callerA [] s₁ H := ⟨rfl,hM,fun b o e => qfC e,Nat.le_of_eq (qae _ _),trivial,fun b hb => absurd (show b ∈ ([] : List Addr) from hb) (by simp),hok,.of_eq hg⟩
  refine codeAny_mono ((F _ hKb (nsK hns)).run callerA [] s₁ H ⟨[.ref a],[]⟩ [.ref a] [.ref a] _ _ hr e0 (hbind s₁ (.ref a)) (.cons rfl .nil) (hsp H hO hS)) fun r s' h => ?_
  cases r with
  | error e => exact (hCX H e s' h).elim
  | ok fl =>
   cases fl with
   | next => exact False.elim h
   | brk => exact False.elim h
   | cont => exact False.elim h
   | ret u =>
    obtain ⟨v,H',os,bare,un,hok',r',q⟩ := h
    have q' : v = .bl true := q
    subst q'
    obtain rfl : u = Value.bool true := r'
    refine ⟨rfl,OldK.of_keep fun b o e => ?_,os,bare⟩
    cases q : H b with
    | none => exact un.keep b o e q (by intro z;exact absurd (show b ∈ ([] : List Addr) from z) (by simp)) (by simp)
    | some u =>
     rcases hO b with z | ⟨ob,xs,z⟩
     ·rw [q] at z;cases z
     ·have z2 := un.frzs b ob _ z
      obtain ⟨e1,_⟩ := hok b _ z
      obtain ⟨e2,_⟩ := hok' b _ z2
      rw [e] at e1;cases e1
      exact e2
 cases hk : K.lookup a with
 | some o =>
  -- the script is one of the module's own objects
  have e := KX a o hk
  rw [ha] at e
  cases e
  refine core (fun _ => none) (fun _ => .inl rfl) (.inr ⟨_,vs.toArray,_,hk,rfl,rfl,rfl,by rw [List.size_toArray,lenV];exact hl,by simpa using rv⟩) (fun b u z => by have z' : (none : Option HO) = some u := z;cases z') (fun b z => absurd rfl z) fun z => absurd rfl z
 | none =>
  refine core (fun b => if b = a then some (.frz { cls := .type "list",data := .seq vs.toArray } (.lst (ns.map V.int))) else none) (fun b => ?_) (.inl (.inr ⟨{ cls := .type "list",data := .seq vs.toArray },if_pos rfl⟩)) (fun b u z => ?_) (fun b z => ?_) fun _ => hk
  ·by_cases hb : b = a
   ·exact .inr ⟨_,_,if_pos hb⟩
   ·exact .inl (if_neg hb)
  ·by_cases hb : b = a
   ·have z' := (if_pos hb).symm.trans z
    cases z'
    subst hb
    exact ⟨ha,by rw [List.length_map];exact hl,vs,_,rv,ha⟩
   ·have z' := (if_neg hb).symm.trans z
    cases z'
  ·by_cases hb : b = a
   ·exact hb
   ·exact absurd (if_neg hb) z
end L2
namespace L2
open PySem PySem.Spec PyProof.Rows
theorem qf2 {l : PySem.W.OpenLaw} {n k : Nat} {q : Program} {loose : List Str} {XP : (Str → Option Value) → Heap → Prop} {YP : World → Heap → Prop} {d : DefRec} {K : Params → PySem.W.Frag} {CX : World → CXT} {sp : World → Sp} {x : Str}
  (hn : l.most = some n) (hn2 : n ≤ sizeLine) (hdf : d.params.defaults = []) (hr : Room k callerA)
  (hY : ∀ (w : World) (h : Heap),YP w h → (K w.params).In h)
  (F : ∀ (w : World) (mg : Str → Option Value) (fa : Addr) (h : Heap),(K w.params).In h → h.Ns mainGlobals mg → mg d.name = some (.ref fa) →
   ∃ fd : FuncData,(∀ (s : Shared) (u : Value),BindsTo s fd ⟨[u],[]⟩ [(x,u)]) ∧
    ∀ base : Heap,(K w.params).In base → base.Ns mainGlobals mg → FnOk l.prog w (K w.params) mg base (CX w) k fa fd [x] (sp w))
  (hsp : ∀ (w : World) (H : Hp) (a : Addr) (ns : List Int),ns.length ≤ n → ql5 H → SqL (K w.params) H a (ns.map V.int) → sp w [.ref a] H (fun v _ => v = .bl true) fun _ _ _ => False)
  (hCX : ∀ (w : World) (H : Hp) (s : Shared) (e : Value) (s' : Shared),CX w [] H s (fun _ _ _ => False) e s' → False) :
  PySem.W.WalkO q loose XP YP l.row.toRowW d [] (fun f vs => PySem.call f vs) := by
 refine Att.KG hn hdf fun w s₀ s₁ mg mb fa o pm cd doc a vs ns G Y ho hd hcd hmg hobj hints hlen hg => ?_
 have KX := hY w _ Y
 obtain ⟨fd,hb,hF⟩ := F w mg fa _ KX G.T.g hmg
 exact qb5 KX G.T.g G.T.b G.T.builtins G.T.nolimit hg hobj hints (Nat.le_trans hlen hn2) hr hF hb (fun H hO hS => hsp w H a ns hlen hO hS) fun H e s' => hCX w H s₁ e s'
end L2
namespace L2
open PySem PySem.Spec PyProof.Rows
def Q8 (s : Stmt) : Arguments := match s with
 | .FunctionDef _ a _ _ _ _ _ _ _ _ => a
 | _ => { posonlyargs := [],args := [],vararg := none,kwonlyargs := [],kw_defaults := [],kwarg := none,defaults := [] }
def zV (s : Stmt) : List Stmt := match s with
 | .FunctionDef _ _ b _ _ _ _ _ _ _ => b
 | _ => []
def qh (s : Stmt) : Scope := match s with
 | .FunctionDef _ _ _ _ _ _ sc _ _ _ => sc
 | _ => { kind := .function,names := [],isGenerator := false,isCoroutine := false }
abbrev CX0 : CXT := fun _ _ _ _ _ _ => False
abbrev E0 : XK := fun _ _ _ => False
theorem qno {X : Cx} : qay CX0 X E0 := fun _ _ _ _ _ _ _ h => h.elim
structure Fun (K : PySem.W.Frag) (x qual : Str) (st : Stmt) (f : Addr) (fd : FuncData) : Prop where
 ex : ∃ (oc : Value) (od : Option Addr) (kV doc pm : Value) (an : Option Addr) (cdv ct : Value) (osl : Array (Option Value)),
  fd = PySem.W.fnOf x qual (Q8 st) (zV st) (qh st) .none kV doc pm an cdv ct∧K.lookup f = some ⟨oc,od,.func fd,osl⟩∧PySem.W.codeIn K cdv qual = true
 kp : PySem.W.keepIn K (.ref f) = true
section
variable {P : Program} {w : World} {K : PySem.W.Frag} {mg : Str → Option Value} {base : Heap}
theorem Fun.ok {x qual : Str} {st : Stmt} {f : Addr} {fd : FuncData} {N ps : List Str} {k : Nat} {sp : Sp} (F : Fun K x qual st f fd) (S : FnScope N ps (qh st)) (len : ∀ vs H Q E,sp vs H Q E → vs.length = ps.length)
  (hbody : ∀ (cdv : Value) (A : Around) (outer : List Env) (s : Shared) (H : Hp) (vs : List V) (Q : VK) (E : XK),Room k (A.deeper (envOfC qual (qh st) s.heap.objs.size f cdv)) → sp vs H Q E →
   ∃ t,PSs (qbF CX0 P w K mg base N qual (qh st) f cdv A outer s H E).nox (zV st) t∧t { nx := fun _ H' => Q .non H',rt := Q } (ET N vs) H) : FnOk P w K mg base CX0 (k + 1) f fd ps sp := by
 obtain ⟨oc,od,kV,doc,pm,an,cdv,ct,osl,rfl,lk,hcd⟩ := F.ex
 refine qnU lk hcd S len fun A outer s H vs Q E hr hsp => ?_
 obtain ⟨t,h,q⟩ := hbody cdv A outer s H vs Q E hr hsp
 exact ⟨t,h.nox,q⟩
theorem Fun.binds {x qual : Str} {st : Stmt} {f : Addr} {fd : FuncData} {ps : List Str} (F : Fun K x qual st f fd)
  (h : ∀ (kV doc pm : Value) (an : Option Addr) (cdv ct : Value) (us : List Value),us.length = ps.length → bindArgs (PySem.W.fnOf x qual (Q8 st) (zV st) (qh st) .none kV doc pm an cdv ct) ⟨us,[]⟩ = pure (ps.zip us)) : qW K fd ps [] := by
 obtain ⟨oc,od,kV,doc,pm,an,cdv,ct,osl,rfl,lk,hcd⟩ := F.ex
 exact .all (h kV doc pm an cdv ct)
theorem qjT {x qual : Str} {st : Stmt} {f : Addr} {oc : Value} {od an : Option Addr} {osl : Array (Option Value)} {kV doc pm cdv ct : Value} (l : K.lookup f = some ⟨oc,od,.func (PySem.W.fnOf x qual (Q8 st) (zV st) (qh st) .none kV doc pm an cdv ct),osl⟩)
  (c : PySem.W.codeIn K cdv qual = true) (k : PySem.W.keepIn K (.ref f) = true) : Fun K x qual st f (PySem.W.fnOf x qual (Q8 st) (zV st) (qh st) .none kV doc pm an cdv ct) := ⟨⟨oc,od,kV,doc,pm,an,cdv,ct,osl,rfl,l,c⟩,k⟩
end
section
variable {X : Cx}
end
theorem qmf {A B : Prop} (h : B) : if false = true then A else B := by
 rw [if_neg Bool.false_ne_true]
 exact h
theorem qmb {A B : Prop} (h : A) : if true = true then A else B := by
 rw [if_pos rfl]
 exact h
end L2
set_option maxHeartbeats 4000000
namespace L3
open PySem PySem.Spec PyProof.Rows L2
set_option genInjectivity true in
inductive T where
 | non | bl (b : Bool) | int (i : Int) | str (x : Str) | tup (xs : List T) | ref (a : Addr)
inductive O where
 | lst (xs : List T)
 | frz (xs : List T)
abbrev Gp := Addr → Option O
def gu (G : Gp) (a : Addr) (o : O) : Gp := fun b => if b = a then some o else G b
theorem qN {G : Gp} {a : Addr} {o : O} : gu G a o a = some o := by unfold gu;rw [if_pos rfl]
theorem jB {G : Gp} {a b : Addr} {o : O} (h : b ≠ a) : gu G a o b = G b := by unfold gu;rw [if_neg h]
mutual
inductive Rp (K : PySem.W.Frag) (H : Hp) : T → V → Prop
 | non : Rp K H .non .non
 | bl (b : Bool) : Rp K H (.bl b) (.bl b)
 | int (i : Int) : Rp K H (.int i) (.int i)
 | str (x : Str) : Rp K H (.str x) (.str x)
 | ref (a : Addr) : Rp K H (.ref a) (.ref a)
 | tup {xs : List T} {a : Addr} {vs : List V} : SqT K H a vs → Rps K H xs vs → Rp K H (.tup xs) (.ref a)
inductive Rps (K : PySem.W.Frag) (H : Hp) : List T → List V → Prop
 | nil : Rps K H [] []
 | cons {x : T} {v : V} {xs : List T} {vs : List V} : Rp K H x v → Rps K H xs vs → Rps K H (x :: xs) (v :: vs)
end
def OR (K : PySem.W.Frag) (H : Hp) (a : Addr) : O → Prop
 | .lst xs => ∃ vs,H a = some (.lst vs)∧Rps K H xs vs
 | .frz xs => ∃ vs,(∃ o,H a = some (.frz o (.lst vs)))∧Rps K H xs vs
def HR (K : PySem.W.Frag) (G : Gp) (H : Hp) : Prop := ∀ a o,G a = some o → OR K H a o
def Kp (G : Gp) (H : Hp) (G' : Gp) (H' : Hp) : Prop := ∀ a o,H a = some o → G a = none → H' a = some o∧G' a = none
theorem Kp.refl {G : Gp} {H : Hp} : Kp G H G H := fun _ _ h g => ⟨h,g⟩
theorem Kp.trans {G G1 G2 : Gp} {H H1 H2 : Hp} (a : Kp G H G1 H1) (b : Kp G1 H1 G2 H2) : Kp G H G2 H2 := fun x o h g =>
 let ⟨h1,g1⟩ := a x o h g;b x o h1 g1
section
variable {K : PySem.W.Frag} {G G' : Gp} {H H' : Hp}
theorem HR.noneT (hr : HR K G H) {a : Addr} {vs : List V} (h : Rd H a (.tup vs)) : G a = none := by
 cases e : G a with
 | none => rfl
 | some o =>
  have q := hr a o e
  cases o with
  | lst xs =>
   obtain ⟨us,q1,_⟩ := q
   rcases h with h | ⟨ob,h⟩ <;> (rw [q1] at h;cases h)
  | frz xs =>
   obtain ⟨us,⟨o1,q1⟩,_⟩ := q
   rcases h with h | ⟨ob,h⟩ <;> (rw [q1] at h;cases h)
theorem XY (hr : HR K G H) (k : Kp G H G' H') {a : Addr} {vs : List V} (h : SqT K H a vs) : SqT K H' a vs := by
 rcases h with h | h
 ·have g := hr.noneT h
  rcases h with h | ⟨o,h⟩
  ·exact .inl (.inl (k a _ h g).1)
  ·exact .inl (.inr ⟨o,(k a _ h g).1⟩)
 ·exact .inr h
mutual
theorem Rp.keep (hr : HR K G H) (k : Kp G H G' H') : ∀ {x : T} {v : V},Rp K H x v → Rp K H' x v
 | _,_,.non => .non
 | _,_,.bl b => .bl b
 | _,_,.int i => .int i
 | _,_,.str x => .str x
 | _,_,.ref a => .ref a
 | _,_,.tup h hs => .tup (XY hr k h) (Rps.keep hr k hs)
theorem Rps.keep (hr : HR K G H) (k : Kp G H G' H') : ∀ {x : List T} {v : List V},Rps K H x v → Rps K H' x v
 | _,_,.nil => .nil
 | _,_,.cons a b => .cons (Rp.keep hr k a) (Rps.keep hr k b)
end
theorem Rps.length : ∀ {xs : List T} {vs : List V},Rps K H xs vs → xs.length = vs.length
 | _,_,.nil => rfl
 | _,_,.cons _ b => by simp [Rps.length b]
theorem Rps.get : ∀ {xs : List T} {vs : List V} {i : Nat} {x : T},Rps K H xs vs → xs[i]? = some x → ∃ v,vs[i]? = some v∧Rp K H x v
 | _,_,_,_,.nil,e => by simp at e
 | _,_,0,_,.cons r _,e => by simp at e;subst e;exact ⟨_,rfl,r⟩
 | _,_,i + 1,x,.cons _ t,e => by
  obtain ⟨u,h1,h2⟩ := Rps.get (i := i) (x := x) t (by simpa using e)
  exact ⟨u,by simpa using h1,h2⟩
theorem Rps.append : ∀ {xs ys : List T} {vs us : List V},Rps K H xs vs → Rps K H ys us → Rps K H (xs ++ ys) (vs ++ us)
 | _,_,_,_,.nil,s => s
 | _,_,_,_,.cons r t,s => .cons r (Rps.append t s)
theorem Rps.take : ∀ {xs : List T} {vs : List V} (n : Nat),Rps K H xs vs → Rps K H (xs.take n) (vs.take n)
 | _,_,0,_ => .nil
 | _,_,_ + 1,.nil => .nil
 | _,_,n + 1,.cons r t => .cons r (Rps.take n t)
theorem Rps.drop : ∀ {xs : List T} {vs : List V} (n : Nat),Rps K H xs vs → Rps K H (xs.drop n) (vs.drop n)
 | _,_,0,r => r
 | _,_,_ + 1,.nil => .nil
 | _,_,n + 1,.cons _ t => Rps.drop n t
theorem Rps.set {x : T} {v : V} (r : Rp K H x v) : ∀ {xs : List T} {vs : List V} (i : Nat),Rps K H xs vs → Rps K H (xs.set i x) (vs.set i v)
 | _,_,_,.nil => .nil
 | _,_,0,.cons _ t => .cons r t
 | _,_,i + 1,.cons q t => .cons q (Rps.set r i t)
theorem Rps.ints : ∀ (ns : List Int),Rps K H (ns.map T.int) (ns.map V.int)
 | [] => .nil
 | n :: r => .cons (.int n) (Rps.ints r)
theorem Rps.reverse {xs : List T} {vs : List V} (h : Rps K H xs vs) : Rps K H xs.reverse vs.reverse := by
 induction xs generalizing vs with
 | nil => cases h;exact .nil
 | cons x r ih =>
  cases h with
  | cons a b =>
   rw [List.reverse_cons,List.reverse_cons]
   exact (ih b).append (.cons a .nil)
theorem Kp.laid {p : Addr} {ho : HO} (hp : H p = none) : Kp G H G (upd H p ho) := fun a o h g => ⟨by rw [qI (qC h hp)];exact h,g⟩
theorem HR.free (hr : HR K G H) {p : Addr} (hp : H p = none) : G p = none := by
 cases e : G p with
 | none => rfl
 | some o =>
  have q := hr p o e
  cases o with
  | lst xs => obtain ⟨us,q1,_⟩ := q;rw [hp] at q1;cases q1
  | frz xs => obtain ⟨us,⟨o1,q1⟩,_⟩ := q;rw [hp] at q1;cases q1
theorem OR.keep (hr : HR K G H) (k : Kp G H G' H') {a : Addr} {o : O} (h : OR K H a o) (e : ∀ u,H a = some u → H' a = some u) : OR K H' a o := by
 cases o with
 | lst xs => obtain ⟨vs,h1,h2⟩ := h;exact ⟨vs,e _ h1,h2.keep hr k⟩
 | frz xs => obtain ⟨vs,⟨o,h1⟩,h2⟩ := h;exact ⟨vs,⟨o,e _ h1⟩,h2.keep hr k⟩
theorem HR.laid (hr : HR K G H) {p : Addr} {ho : HO} (hp : H p = none) : HR K G (upd H p ho) := fun a o e =>
 (hr a o e).keep hr (Kp.laid hp) fun u h => by rw [qI (qC h hp)];exact h
theorem Kp.newL {p : Addr} {ho : HO} {o' : O} (hp : H p = none) : Kp G H (gu G p o') (upd H p ho) := fun a o h g =>
 ⟨by rw [qI (qC h hp)];exact h,by rw [jB (qC h hp)];exact g⟩
theorem HR.newL (hr : HR K G H) {p : Addr} {xs : List T} {vs : List V} (hp : H p = none) (r : Rps K H xs vs) : HR K (gu G p (.lst xs)) (upd H p (.lst vs)) := fun a o e => by
 by_cases ha : a = p
 ·subst ha
  rw [qN] at e;cases e
  exact ⟨vs,zj,r.keep hr (Kp.laid hp)⟩
 ·rw [jB ha] at e
  exact (hr a o e).keep hr (Kp.laid hp) fun u h => by rw [qI ha];exact h
theorem Kp.wr {p : Addr} {ho : HO} {o o' : O} (g : G p = some o) : Kp G H (gu G p o') (upd H p ho) := fun a ob h ga => by
 have ha : a ≠ p := by intro e;subst e;rw [g] at ga;cases ga
 exact ⟨by rw [qI ha];exact h,by rw [jB ha];exact ga⟩
theorem HR.wr (hr : HR K G H) {p : Addr} {ys xs : List T} {vs : List V} (g : G p = some (.lst ys)) (r : Rps K H xs vs) : HR K (gu G p (.lst xs)) (upd H p (.lst vs)) := fun a o e => by
 have k : Kp G H (gu G p (.lst xs)) (upd H p (.lst vs)) := Kp.wr g
 by_cases ha : a = p
 ·subst ha
  rw [qN] at e;cases e
  exact ⟨vs,zj,r.keep hr k⟩
 ·rw [jB ha] at e
  exact (hr a o e).keep hr k fun u h => by rw [qI ha];exact h
end
abbrev St3 := List (Option T)
structure Rel (K : PySem.W.Frag) (τ : St3) (G : Gp) (σ : L2.St) (H : Hp) : Prop where
 hp : HR K G H
 len : τ.length = σ.length
 st : ∀ (i : Nat) (t : T),τ[i]? = some (some t) → ∃ v,σ[i]? = some (some v)∧Rp K H t v
theorem Rel.next {K : PySem.W.Frag} {τ : St3} {G G' : Gp} {σ : L2.St} {H H' : Hp} (r : Rel K τ G σ H) (hr : HR K G' H') (k : Kp G H G' H') : Rel K τ G' σ H' :=
 ⟨hr,r.len,fun i t e => let ⟨v,h1,h2⟩ := r.st i t e;⟨v,h1,h2.keep r.hp k⟩⟩
theorem Rel.set {K : PySem.W.Frag} {τ : St3} {G : Gp} {σ : L2.St} {H : Hp} {t : T} {v : V} (r : Rel K τ G σ H) (i : Nat) (h : Rp K H t v) : Rel K (τ.set i (some t)) G (σ.set i (some v)) H := by
 refine ⟨r.hp,by simp [r.len],fun j u e => ?_⟩
 by_cases hij : i = j
 ·subst hij
  rw [List.getElem?_set_self'] at e
  have hl : i < τ.length := by
   cases q : τ[i]? with
   | none => rw [q] at e;cases e
   | some z => exact (List.getElem?_eq_some_iff.mp q).1
  rw [List.getElem?_eq_getElem hl] at e
  have e' : t = u := by simpa using e
  subst e'
  exact ⟨v,by rw [List.getElem?_set_self (by rw [← r.len];exact hl)],h⟩
 ·rw [List.getElem?_set_ne hij] at e
  obtain ⟨w,h1,h2⟩ := r.st j u e
  exact ⟨w,by rw [List.getElem?_set_ne hij];exact h1,h2⟩
abbrev Q3 := T → Gp → Prop
abbrev TE3 := St3 → Gp → Q3 → Prop
abbrev TT3 := St3 → Gp → (Bool → Gp → Prop) → Prop
abbrev TA3 := St3 → Gp → (List T → Gp → Prop) → Prop
def Aft (K : PySem.W.Frag) (G : Gp) (H : Hp) (q : Q3) (Q : VK) : Prop := ∀ x G',q x G' → ∀ v H',Rp K H' x v → HR K G' H' → Kp G H G' H' → Q v H'
def qlT (K : PySem.W.Frag) (G : Gp) (H : Hp) (q : Bool → Gp → Prop) (Q : Bool → Hp → Prop) : Prop := ∀ x G',q x G' → ∀ H',HR K G' H' → Kp G H G' H' → Q x H'
def qo4 (K : PySem.W.Frag) (G : Gp) (H : Hp) (q : List T → Gp → Prop) (Q : List V → Hp → Prop) : Prop := ∀ x G',q x G' → ∀ v H',Rps K H' x v → HR K G' H' → Kp G H G' H' → Q v H'
def lE (K : PySem.W.Frag) (t : TE3) : TE := fun σ H Q => ∃ τ G q,Rel K τ G σ H∧t τ G q∧Aft K G H q Q
def lT (K : PySem.W.Frag) (t : TT3) : TT := fun σ H Q => ∃ τ G q,Rel K τ G σ H∧t τ G q∧qlT K G H q Q
def lA (K : PySem.W.Frag) (t : TA3) : TA := fun σ H Q => ∃ τ G q,Rel K τ G σ H∧t τ G q∧qo4 K G H q Q
abbrev E3 (X : Cx) (e : Expr) (t : TE3) : Prop := PE X e (lE X.K t)
abbrev C3 (X : Cx) (e : Expr) (t : TT3) : Prop := PT X e (lT X.K t)
abbrev W3 (X : Cx) (e : Expr) (t : TT3) : Prop := PW X e (lT X.K t)
abbrev A3 (X : Cx) (es : List Expr) (t : TA3) : Prop := PA X es (lA X.K t)
theorem Aft.back {K : PySem.W.Frag} {G G1 : Gp} {H H1 : Hp} {q : Q3} {Q : VK} (a : Aft K G H q Q) (k : Kp G H G1 H1) : Aft K G1 H1 q Q := fun x G' h v H' r hr k' => a x G' h v H' r hr (k.trans k')
theorem qlT.back {K : PySem.W.Frag} {G G1 : Gp} {H H1 : Hp} {q : Bool → Gp → Prop} {Q : Bool → Hp → Prop} (a : qlT K G H q Q) (k : Kp G H G1 H1) : qlT K G1 H1 q Q := fun x G' h H' hr k' => a x G' h H' hr (k.trans k')
theorem WE {X : Cx} {e : Expr} {t t' : TE} (h : PE X e t) (w : ∀ σ H Q,t' σ H Q → t σ H Q) : PE X e t' := fun pins s σ H Q I q => h pins s σ H Q I (w σ H Q q)
theorem qnL {X : Cx} {e : Expr} {t t' : TT} (h : PT X e t) (w : ∀ σ H Q,t' σ H Q → t σ H Q) : PT X e t' := fun pins s σ H Q I q => h pins s σ H Q I (w σ H Q q)
theorem qoF {X : Cx} {e : Expr} {t t' : TT} (h : PW X e t) (w : ∀ σ H Q,t' σ H Q → t σ H Q) : PW X e t' := fun wh pins s σ H Q I q => h wh pins s σ H Q I (w σ H Q q)
theorem qoD {X : Cx} {e : List Expr} {t t' : TA} (h : PA X e t) (w : ∀ σ H Q,t' σ H Q → t σ H Q) : PA X e t' := fun pos pins s σ H Q I q => h pos pins s σ H Q I (w σ H Q q)
theorem zA {K : PySem.W.Frag} {ta : TE3} {τ : St3} {G : Gp} {σ : L2.St} {H : Hp} {q : Q3} {Q : VK} (r : Rel K τ G σ H) (h : ta τ G q)
  (n : ∀ x G1,q x G1 → ∀ v H1,Rp K H1 x v → HR K G1 H1 → Kp G H G1 H1 → Rel K τ G1 σ H1 → Q v H1) : lE K ta σ H Q :=
 ⟨τ,G,q,r,h,fun x G1 hq v H1 rx hr k => n x G1 hq v H1 rx hr k (r.next hr k)⟩
theorem W2 {K : PySem.W.Frag} {ta : TT3} {τ : St3} {G : Gp} {σ : L2.St} {H : Hp} {q : Bool → Gp → Prop} {Q : Bool → Hp → Prop} (r : Rel K τ G σ H) (h : ta τ G q)
  (n : ∀ x G1,q x G1 → ∀ H1,HR K G1 H1 → Kp G H G1 H1 → Rel K τ G1 σ H1 → Q x H1) : lT K ta σ H Q :=
 ⟨τ,G,q,r,h,fun x G1 hq H1 hr k => n x G1 hq H1 hr k (r.next hr k)⟩
theorem YL {K : PySem.W.Frag} {ta : TA3} {τ : St3} {G : Gp} {σ : L2.St} {H : Hp} {q : List T → Gp → Prop} {Q : List V → Hp → Prop} (r : Rel K τ G σ H) (h : ta τ G q)
  (n : ∀ x G1,q x G1 → ∀ v H1,Rps K H1 x v → HR K G1 H1 → Kp G H G1 H1 → Rel K τ G1 σ H1 → Q v H1) : lA K ta σ H Q :=
 ⟨τ,G,q,r,h,fun x G1 hq v H1 rx hr k => n x G1 hq v H1 rx hr k (r.next hr k)⟩
section
variable {X : Cx} {a b c : Expr} {ta tb tc : TE3} {pos : Pos}
def v3 (i : Nat) : TE3 := fun τ G q => match τ[i]? with | some (some t) => q t G | _ => False
theorem qnD (i : Nat) {x : Str} {pos : Pos} (hN : X.N[i]? = some x := by rfl) (hv : Vis X.env.scope x := by first | exact Or.inl rfl | exact Or.inr (Or.inl rfl) | exact Or.inr (Or.inr rfl)) (hd : (x == ("__debug__" : Str)) = false := by decide)
  (hcd : (x == ("__classdict__" : Str)) = false := by decide) : E3 X (.Name x pos) (v3 i) := by
 refine WE (qko (i := i) hN hv hd hcd) fun σ H Q ⟨τ,G,q,r,h,af⟩ => ?_
 unfold v3 at h
 split at h
 ·rename_i t e
  obtain ⟨v,e2,rv⟩ := r.st i t e
  exact ⟨v,e2,af t G h v H rv r.hp Kp.refl⟩
 ·exact h.elim
def c3 (t : T) : TE3 := fun _ G q => q t G
theorem e_c {t : T} {v : V} {e : Expr} (h : PE X e (tC v)) (hr : ∀ H,Rp X.K H t v) : E3 X e (c3 t) := WE h fun σ H Q ⟨τ,G,q,r,h,af⟩ => af t G h v H (hr H) r.hp Kp.refl
theorem qm4 {i : Int} {j pos} : E3 X (.Constant (.int i) j pos) (c3 (.int i)) := e_c qke fun _ => .int i
theorem qoX {b : Bool} {j pos} : E3 X (.Constant (.bool b) j pos) (c3 (.bl b)) := e_c qng fun _ => .bl b
theorem qnk {j pos} : E3 X (.Constant .none j pos) (c3 .non) := e_c qkc fun _ => .non
theorem qmA {x : Str} {j pos} : E3 X (.Constant (.str x) j pos) (c3 (.str x)) := e_c qiL fun _ => .str x
def n3 : TE3 := fun _ _ _ => False
abbrev R3 := T → T → Gp → Q3 → Prop
def DT (K : PySem.W.Frag) (r3 : R3) (r : R2) : Prop := ∀ x y v u G H q Q,HR K G H → Rp K H x v → Rp K H y u → r3 x y G q → Aft K G H q Q → r v u H Q
def o3 (r : R3) (ta tb : TE3) : TE3 := fun τ G q => ta τ G fun x G1 => tb τ G1 fun y G2 => r x y G2 q
theorem qcG {K : PySem.W.Frag} {r3 : R3} {r : R2} (hr : DT K r3 r) {σ : L2.St} {H : Hp} {Q : VK} (h : lE K (o3 r3 ta tb) σ H Q) : tOp r (lE K ta) (lE K tb) σ H Q := by
 obtain ⟨τ,G,q,rl,h,af⟩ := h
 refine zA rl h fun x G1 h1 v H1 rx hr1 k1 rl1 => zA rl1 h1 fun y G2 h2 u H2 ry hr2 k2 rl2 => ?_
 exact hr x y v u G2 H2 q Q hr2 (rx.keep hr1 k2) ry h2 (af.back (k1.trans k2))
theorem qd5 {op : Operator} {r3 : R3} {r : R2} (ho : OpR X (binaryOp op) r) (hr : DT X.K r3 r) (ha : E3 X a ta) (hb : E3 X b tb) : E3 X (.BinOp a op b pos) (o3 r3 ta tb) :=
 WE (qnQ ho ha hb) fun _ _ _ h => qcG hr h
theorem qmD {op : CmpOp} {r3 : R3} {r : R2} (ho : OpR X (compareOp op) r) (hr : DT X.K r3 r) (ha : E3 X a ta) (hb : E3 X b tb) (hm : behindInMarks op b = false) : E3 X (.Compare a [op] [b] pos) (o3 r3 ta tb) :=
 WE (qfn ho ha hb hm) fun _ _ _ h => qcG hr h
def tb3 (t : TE3) : TT3 := fun τ G q => t τ G fun x G' => match x with | .bl k => q k G' | _ => False
theorem qiA {K : PySem.W.Frag} {t : TE3} {t2 : TE} (hw : ∀ σ H Q,lE K t σ H Q → t2 σ H Q) {σ : L2.St} {H : Hp} {Q : Bool → Hp → Prop} (h : lT K (tb3 t) σ H Q) : qhL t2 σ H Q := by
 obtain ⟨τ,G,q,rl,h,af⟩ := h
 refine hw _ _ _ (zA rl h fun x G1 h1 v H1 rx hr1 k1 rl1 => ?_)
 cases x with
 | bl k => cases rx;exact ⟨k,rfl,af k G1 h1 H1 hr1 k1⟩
 | _ => exact h1.elim
theorem qml {op : CmpOp} {r3 : R3} {r : R2} (ho : OpR X (compareOp op) r) (hr : DT X.K r3 r) (ha : E3 X a ta) (hb : E3 X b tb) (hm : behindInMarks op b = false) : C3 X (.Compare a [op] [b] pos) (tb3 (o3 r3 ta tb)) :=
 qnL (qfv ho ha hb hm) fun _ _ _ h => qiA (fun _ _ _ => qcG hr) h
def ch3 (r r' : R3) (ta tb tc : TE3) : TE3 := fun τ G q => ta τ G fun x G1 => tb τ G1 fun y G2 => r x y G2 fun z G3 => match z with
 | .bl k => if k = true then tc τ G3 fun w G4 => r' y w G4 q else q (.bl false) G3
 | _ => False
theorem qmW {K : PySem.W.Frag} {r3 r3' : R3} {r r' : R2} (hr : DT K r3 r) (hr' : DT K r3' r') {σ : L2.St} {H : Hp} {Q : VK} (h : lE K (ch3 r3 r3' ta tb tc) σ H Q) : qeD r r' (lE K ta) (lE K tb) (lE K tc) σ H Q := by
 obtain ⟨τ,G,q,rl,h,af⟩ := h
 refine zA rl h fun x G1 h1 v H1 rx hr1 k1 rl1 => zA rl1 h1 fun y G2 h2 u H2 ry hr2 k2 rl2 => ?_
 refine hr x y v u G2 H2 _ _ hr2 (rx.keep hr1 k2) ry h2 fun z G3 h3 w H3 rz hr3 k3 => ?_
 cases z with
 | bl k =>
  cases rz
  refine ⟨k,rfl,?_⟩
  cases k with
  | false =>
   rw [if_neg Bool.false_ne_true]
   rw [show (match T.bl false with | .bl k => if k = true then tc τ G3 fun w G4 => r3' y w G4 q else q (.bl false) G3 | _ => False) = q (.bl false) G3 from by simp] at h3
   exact af _ G3 h3 _ H3 (.bl false) hr3 ((k1.trans k2).trans k3)
  | true =>
   rw [if_pos rfl]
   refine zA (rl2.next hr3 k3) (show tc τ G3 fun w G4 => r3' y w G4 q from by simpa using h3) fun w G4 h4 w' H4 rw' hr4 k4 rl4 => ?_
   exact hr' y w _ _ G4 H4 q Q hr4 ((ry.keep hr2 k3).keep hr3 k4) rw' h4 (af.back (((k1.trans k2).trans k3).trans k4))
 | _ => exact h3.elim
theorem qf3 {op op' : CmpOp} {r3 r3' : R3} {r r' : R2} (ho : OpR X (compareOp op) r) (hr : DT X.K r3 r) (ho' : OpR X (compareOp op') r') (hr' : DT X.K r3' r') (ha : E3 X a ta) (hb : E3 X b tb) (hc : E3 X c tc)
  (hm : lastMarks [op,op'] [b,c] = false := by with_unfolding_all rfl) : E3 X (.Compare a [op,op'] [b,c] pos) (ch3 r3 r3' ta tb tc) :=
 WE (qcM ho ho' ha hb hc hm) fun _ _ _ h => qmW hr hr' h
def qod (K : PySem.W.Frag) (r3 : T → Gp → Q3 → Prop) (r : V → Hp → VK → Prop) : Prop := ∀ x v G H q Q,HR K G H → Rp K H x v → r3 x G q → Aft K G H q Q → r v H Q
def u3 (r : T → Gp → Q3 → Prop) (ta : TE3) : TE3 := fun τ G q => ta τ G fun x G1 => r x G1 q
theorem qoN {op : UnaryOp} {r3 : T → Gp → Q3 → Prop} {r : V → Hp → VK → Prop} (ho : UnR X (unaryOp op) r) (hr : qod X.K r3 r) (ha : E3 X a ta) : E3 X (.UnaryOp op a pos) (u3 r3 ta) :=
 WE (qnv ho ha) fun _ _ _ ⟨τ,G,q,rl,h,af⟩ => zA rl h fun x G1 h1 v H1 rx hr1 k1 rl1 => hr x v G1 H1 q _ hr1 rx h1 (af.back k1)
def NA : T → Gp → Q3 → Prop := fun x G q => match x with | .int i => q (.int (-i)) G | _ => False
theorem qfw {K : PySem.W.Frag} : qod K NA (rU fun i => .int (-i)) := fun x v G H q Q hr rx h af => by
 cases x with
 | int i => cases rx;exact ⟨i,rfl,af _ G h _ H (.int _) hr Kp.refl⟩
 | _ => exact h.elim
def iI (f : Int → Int → Int) : R3 := fun x y G q => match x,y with | .int i,.int j => q (.int (f i j)) G | _,_ => False
def iC (C : Int → Int → Prop) (f : Int → Int → Int) : R3 := fun x y G q => match x,y with | .int i,.int j => C i j∧q (.int (f i j)) G | _,_ => False
def iB (f : Int → Int → Bool) : R3 := fun x y G q => match x,y with | .int i,.int j => q (.bl (f i j)) G | _,_ => False
theorem qh5 {K : PySem.W.Frag} {f : Int → Int → Int} : DT K (iI f) (rI0 fun i j => .int (f i j)) := fun x y v u G H q Q hr rx ry h af => by
 cases x <;> try exact h.elim
 cases y <;> try exact h.elim
 cases rx;cases ry
 exact ⟨_,_,rfl,rfl,af _ G h _ H (.int _) hr Kp.refl⟩
theorem R0 {K : PySem.W.Frag} {C : Int → Int → Prop} {f : Int → Int → Int} : DT K (iC C f) (rI C fun i j => .int (f i j)) := fun x y v u G H q Q hr rx ry h af => by
 cases x <;> try exact h.elim
 cases y <;> try exact h.elim
 cases rx;cases ry
 exact ⟨_,_,rfl,rfl,h.1,af _ G h.2 _ H (.int _) hr Kp.refl⟩
theorem ZZ {K : PySem.W.Frag} {f : Int → Int → Bool} : DT K (iB f) (rI0 fun i j => .bl (f i j)) := fun x y v u G H q Q hr rx ry h af => by
 cases x <;> try exact h.elim
 cases y <;> try exact h.elim
 cases rx;cases ry
 exact ⟨_,_,rfl,rfl,af _ G h _ H (.bl _) hr Kp.refl⟩
theorem qmQ (ha : E3 X a ta) (hb : E3 X b tb) : E3 X (.BinOp a .Sub b pos) (o3 (iI (· - ·)) ta tb) := qd5 qjH qh5 ha hb
theorem qnO (ha : E3 X a ta) (hb : E3 X b tb) : E3 X (.BinOp a .Mult b pos) (o3 (iC jd (· * ·)) ta tb) := qd5 qjG R0 ha hb
theorem qnG (ha : E3 X a ta) (hb : E3 X b tb) : E3 X (.BinOp a .Mod b pos) (o3 (iC (fun _ j => 0 < j) (· % ·)) ta tb) := qd5 qkr R0 ha hb
theorem qny (ha : E3 X a ta) (hb : E3 X b tb) : E3 X (.BinOp a .FloorDiv b pos) (o3 (iC qas (· / ·)) ta tb) := qd5 qgr R0 ha hb
theorem qnA (ha : E3 X a ta) (hb : E3 X b tb) : E3 X (.BinOp a .Pow b pos) (o3 (iC S4 (fun i j => i ^ j.toNat)) ta tb) := qd5 qjo R0 ha hb
theorem qnS (ha : E3 X a ta) (hb : E3 X b tb) : E3 X (.BinOp a .LShift b pos) (o3 (iC S4 (fun i j => i * 2 ^ j.toNat)) ta tb) := qd5 qj3 R0 ha hb
theorem qmL (ha : E3 X a ta) : E3 X (.UnaryOp .USub a pos) (u3 NA ta) := qoN qi7 qfw ha
def VF : T → T → Option Bool
 | .non,.non => some true | .non,.int _ => some false | .int _,.non => some false | .non,.bl _ => some false | .bl _,.non => some false | .non,.str _ => some false | .str _,.non => some false
 | .int i,.int j => some (decide (i = j)) | .bl i,.bl j => some (decide (i = j)) | .str i,.str j => some (decide (i = j))
 | .int _,.str _ => some false | .str _,.int _ => some false | .bl _,.str _ => some false | .str _,.bl _ => some false
 | _,_ => none
theorem LG {K : PySem.W.Frag} {H : Hp} {x y : T} {v u : V} {k : Bool} (rx : Rp K H x v) (ry : Rp K H y u) (h : VF x y = some k) : qnI v u = true∧decide (v = u) = k := by
 cases rx <;> cases ry <;> simp [VF] at h <;> subst h <;> refine ⟨rfl,?_⟩ <;> simp
def MR (neg : Bool) : R3 := fun x y G q => match y with | .non => q (.bl (match x with | .non => !neg | _ => neg)) G | _ => False
theorem qdB {K : PySem.W.Frag} {H : Hp} {x : T} {v : V} (rx : Rp K H x v) : decide (v = .non) = (match x with | .non => true | _ => false) := by
 cases rx <;> simp
theorem XJ {K : PySem.W.Frag} : DT K (MR false) (fun x y H Q => y = .non∧Q (.bl (decide (x = .non))) H) := fun x y v u G H q Q hr rx ry h af => by
 cases y <;> try exact h.elim
 cases ry
 refine ⟨rfl,?_⟩
 rw [qdB rx]
 refine af _ G h _ H ?_ hr Kp.refl
 cases x <;> exact .bl _
theorem LC {K : PySem.W.Frag} : DT K (MR true) (fun x y H Q => y = .non∧Q (.bl (!decide (x = .non))) H) := fun x y v u G H q Q hr rx ry h af => by
 cases y <;> try exact h.elim
 cases ry
 refine ⟨rfl,?_⟩
 rw [qdB rx]
 refine af _ G h _ H ?_ hr Kp.refl
 cases x <;> exact .bl _
variable {tA tB : TT3} {QN : List Expr}
def qgX (t u : TT3) : TT3 := fun τ G q => t τ G fun k G1 => if k = true then u τ G1 q else q false G1
def or3 (t u : TT3) : TT3 := fun τ G q => t τ G fun k G1 => if k = true then q true G1 else u τ G1 q
def MM (t : TT3) : TT3 := fun τ G q => t τ G fun k G1 => q (!k) G1
theorem qlw (ha : C3 X a tA) : W3 X (.BoolOp .And [a] pos) tA := qgu ha
theorem qmz (ha : C3 X a tA) : W3 X (.BoolOp .Or [a] pos) tA := qij ha
theorem qmE (ha : C3 X a tA) (hb : W3 X (.BoolOp .And (b :: QN) pos) tB) : W3 X (.BoolOp .And (a :: b :: QN) pos) (qgX tA tB) :=
 qoF (qhM ha hb) fun _ _ _ ⟨τ,G,q,rl,h,af⟩ => W2 rl h fun k G1 h1 H1 hr1 k1 rl1 => by
  cases k with
  | true => rw [if_pos rfl] at h1 ⊢;exact ⟨τ,G1,q,rl1,h1,af.back k1⟩
  | false => rw [if_neg Bool.false_ne_true] at h1 ⊢;exact af _ G1 h1 H1 hr1 k1
theorem qph (ha : C3 X a tA) (hb : W3 X (.BoolOp .Or (b :: QN) pos) tB) : W3 X (.BoolOp .Or (a :: b :: QN) pos) (or3 tA tB) :=
 qoF (qnM ha hb) fun _ _ _ ⟨τ,G,q,rl,h,af⟩ => W2 rl h fun k G1 h1 H1 hr1 k1 rl1 => by
  cases k with
  | true => rw [if_pos rfl] at h1 ⊢;exact af _ G1 h1 H1 hr1 k1
  | false => rw [if_neg Bool.false_ne_true] at h1 ⊢;exact ⟨τ,G1,q,rl1,h1,af.back k1⟩
theorem qnu (ha : C3 X a tA) : C3 X (.UnaryOp .Not a pos) (MM tA) :=
 qnL (qjB ha) fun _ _ _ ⟨τ,G,q,rl,h,af⟩ => W2 rl h fun k G1 h1 H1 hr1 k1 rl1 => af _ G1 h1 H1 hr1 k1
theorem qmP {e : Expr} {t : TE3} (h : E3 X e t) (he : ∀ whole,isTrue e X.env whole = (do let v ← whole;standAt e.pos;holding [v] (truthy v)) := by intro _;rfl) : C3 X e (tb3 t) :=
 qnL (qk4 h he) fun _ _ _ h => qiA (fun _ _ _ h => h) h
def QX (ta tb : TE3) : TE3 := fun τ G q => ta τ G fun x G1 => match x with | .bl k => if k = true then tb τ G1 q else q (.bl false) G1 | _ => False
def qoe (ta tb : TE3) : TE3 := fun τ G q => ta τ G fun x G1 => match x with | .bl k => if k = true then q (.bl true) G1 else tb τ G1 q | _ => False
def KR (ta : TE3) : TE3 := fun τ G q => ta τ G fun x G1 => match x with | .bl k => q (.bl (!k)) G1 | _ => False
theorem qnT {op} (h : E3 X a ta) : E3 X (.BoolOp op [a] pos) ta := qjZ h
theorem qmM (ha : E3 X a ta) (hb : E3 X (.BoolOp .And (b :: QN) pos) tb) : E3 X (.BoolOp .And (a :: b :: QN) pos) (QX ta tb) :=
 WE (qjs ha hb) fun _ _ _ ⟨τ,G,q,rl,h,af⟩ => zA rl h fun x G1 h1 v H1 rx hr1 k1 rl1 => by
  cases x with
  | bl k =>
   cases rx
   refine ⟨k,rfl,?_⟩
   cases k with
   | true => rw [if_pos rfl];exact ⟨τ,G1,q,rl1,(show tb τ G1 q from by simpa using h1),af.back k1⟩
   | false => rw [if_neg Bool.false_ne_true];exact af _ G1 (by simpa using h1) _ H1 (.bl false) hr1 k1
  | _ => exact h1.elim
theorem qmN (ha : E3 X a ta) : E3 X (.UnaryOp .Not a pos) (KR ta) :=
 WE (qlc ha) fun _ _ _ ⟨τ,G,q,rl,h,af⟩ => zA rl h fun x G1 h1 v H1 rx hr1 k1 rl1 => by
  cases x with
  | bl k => cases rx;exact ⟨k,rfl,af _ G1 h1 _ H1 (.bl _) hr1 k1⟩
  | _ => exact h1.elim
def if3 (t : TT3) (ta tb : TE3) : TE3 := fun τ G q => t τ G fun k G1 => if k = true then ta τ G1 q else tb τ G1 q
theorem qo9 {c : Expr} (hc : C3 X c tA) (ha : E3 X a ta) (hb : E3 X b tb) : E3 X (.IfExp c a b pos) (if3 tA ta tb) :=
 WE (qcj hc ha hb) fun _ _ _ ⟨τ,G,q,rl,h,af⟩ => W2 rl h fun k G1 h1 H1 hr1 k1 rl1 => by
  cases k with
  | true => rw [if_pos rfl] at h1 ⊢;exact ⟨τ,G1,q,rl1,h1,af.back k1⟩
  | false => rw [if_neg Bool.false_ne_true] at h1 ⊢;exact ⟨τ,G1,q,rl1,h1,af.back k1⟩
variable {e : Expr} {es : List Expr} {te : TE3} {t : TA3}
def qj : TA3 := fun _ G q => q [] G
def qc (ta : TE3) (tr : TA3) : TA3 := fun τ G q => ta τ G fun x G1 => tr τ G1 fun xs G2 => q (x :: xs) G2
theorem qmu : A3 X [] qj := qoD LL fun _ H _ ⟨τ,G,q,rl,h,af⟩ => af _ G h _ H .nil rl.hp Kp.refl
theorem qkv (ha : E3 X e te) (hr : A3 X es t) (hs : starEach (e :: es) X.env = (false,eval e X.env) :: starEach es X.env := by rfl) : A3 X (e :: es) (qc te t) :=
 qoD (YX ha hr hs) fun _ _ _ ⟨τ,G,q,rl,h,af⟩ => zA rl h fun x G1 h1 v H1 rx hr1 k1 rl1 => YL rl1 h1 fun xs G2 h2 vs H2 rs hr2 k2 rl2 =>
  af _ G2 h2 _ H2 (.cons (rx.keep hr1 k2) rs) hr2 (k1.trans k2)
def zJ (t : TA3) : TE3 := fun τ G q => t τ G fun xs G1 => xs.length ≤ sizeLine∧q (.tup xs) G1
def UF (t : TA3) : TE3 := fun τ G q => t τ G fun xs G1 => xs.length ≤ sizeLine∧∀ p,G1 p = none → q (.ref p) (gu G1 p (.lst xs))
theorem qnb {x1} (h : A3 X es t) : E3 X (.Tuple es x1 pos) (zJ t) :=
 WE (qdk h) fun _ _ _ ⟨τ,G,q,rl,h,af⟩ => YL rl h fun xs G1 h1 vs H1 rs hr1 k1 rl1 => ⟨by rw [← rs.length];exact h1.1,fun p hp =>
  af _ G1 h1.2 _ _ (.tup (SqT.of zj) (rs.keep hr1 (Kp.laid hp))) (hr1.laid hp) (k1.trans (Kp.laid hp))⟩
theorem qmI (h : A3 X es t) : E3 X (.List es pos) (UF t) :=
 WE (qkL h) fun _ _ _ ⟨τ,G,q,rl,h,af⟩ => YL rl h fun xs G1 h1 vs H1 rs hr1 k1 rl1 => ⟨by rw [← rs.length];exact h1.1,fun p hp =>
  af _ _ (h1.2 p (hr1.free hp)) _ _ (.ref p) (hr1.newL hp rs) (k1.trans (Kp.newL hp))⟩
def LE (K : PySem.W.Frag) (r3 : List T → Gp → Q3 → Prop) (r : List V → Hp → VK → Prop) : Prop := ∀ xs vs G H q Q,HR K G H → Rps K H xs vs → r3 xs G q → Aft K G H q Q → r vs H Q
def cb3 (r : List T → Gp → Q3 → Prop) (t : TA3) : TE3 := fun τ G q => t τ G fun xs G1 => r xs G1 q
theorem qiQ {K : PySem.W.Frag} {r3 : List T → Gp → Q3 → Prop} {r : List V → Hp → VK → Prop} (hr : LE K r3 r) {σ : L2.St} {H : Hp} {Q : VK} (h : lE K (cb3 r3 t) σ H Q) : tCB r (lA K t) σ H Q := by
 obtain ⟨τ,G,q,rl,h,af⟩ := h
 exact YL rl h fun xs G1 h1 vs H1 rs hr1 k1 rl1 => hr xs vs G1 H1 q Q hr1 rs h1 (af.back k1)
theorem qgp {x : Str} {p : Pos} {id : String} {r3 : List T → Gp → Q3 → Prop} {r : List V → Hp → VK → Prop} (hc : Z7 X (.builtin id) r) (hr : LE X.K r3 r) (hg : Gl X x) (hm : X.mg x = none) (hv : bootBuiltins x = some (.builtin id)) (ha : A3 X (e :: es) t) (hn : x ≠ "__name__" := by decide) (hdb : (x == ("__debug__" : Str)) = false := by decide)
  (he : starEach (e :: es) X.env = (false,eval e X.env) :: starEach es X.env := by rfl) (hpl : (backTo pos (starEach es X.env)).any (·.1) = false := by rfl) : E3 X (.Call (.Name x p) (e :: es) [] pos) (cb3 r3 t) :=
 WE (XA hc hg hm hv ha hn hdb he hpl) fun _ _ _ h => qiQ hr h
theorem qb6 {x : Str} {p : Pos} {ty : String} {r3 : List T → Gp → Q3 → Prop} {r : List V → Hp → VK → Prop} (hc : Z7 X (.type ty) r) (hr : LE X.K r3 r) (hg : Gl X x) (hm : X.mg x = none) (hv : bootBuiltins x = some (.type ty)) (ha : A3 X (e :: es) t) (hn : x ≠ "__name__" := by decide) (hdb : (x == ("__debug__" : Str)) = false := by decide)
  (he : starEach (e :: es) X.env = (false,eval e X.env) :: starEach es X.env := by rfl) (hpl : (backTo pos (starEach es X.env)).any (·.1) = false := by rfl) : E3 X (.Call (.Name x p) (e :: es) [] pos) (cb3 r3 t) :=
 WE (N5 hc hg hm hv ha hn hdb he hpl) fun _ _ _ h => qiQ hr h
end
end L3
namespace L3
open PySem PySem.Spec PyProof.Rows L2
def getL (G : Gp) (p : Addr) : Option (List T) := match G p with | some (.lst xs) => some xs | some (.frz xs) => some xs | none => none
section
variable {K : PySem.W.Frag} {G G' : Gp} {H H' : Hp}
theorem zZ (hr : HR K G H) {p : Addr} {xs : List T} (h : getL G p = some xs) : ∃ vs,SqL K H p vs∧Rps K H xs vs := by
 unfold getL at h
 split at h
 ·rename_i ys e;cases h
  obtain ⟨vs,h1,h2⟩ := hr p _ e
  exact ⟨vs,SqL.of h1,h2⟩
 ·rename_i ys e;cases h
  obtain ⟨vs,⟨o,h1⟩,h2⟩ := hr p _ e
  exact ⟨vs,.inl (.inr ⟨o,h1⟩),h2⟩
 ·cases h
theorem HR.lst (hr : HR K G H) {p : Addr} {xs : List T} (h : G p = some (.lst xs)) : ∃ vs,H p = some (.lst vs)∧Rps K H xs vs := hr p _ h
theorem Rps.atI {xs : List T} {vs : List V} {i : Int} {x : T} (r : Rps K H xs vs) (h : atI xs i = some x) : ∃ v,L2.atI vs i = some v∧Rp K H x v := by
 unfold L2.atI at h ⊢
 rw [← r.length]
 cases e : ixN xs.length i with
 | none => rw [e] at h;cases h
 | some j =>
  rw [e] at h
  exact r.get (by simpa using h)
end
def ix3 : R3 := fun x y G q => match x,y with
 | .tup xs,.int i => (match atI xs i with | some z => q z G | none => False)
 | .ref p,.int i => (match getL G p with | some xs => (match atI xs i with | some z => q z G | none => False) | none => False)
 | _,_ => False
section
variable {X : Cx} {a b c e : Expr} {es : List Expr} {ta tb tc te : TE3} {t : TA3} {pos : Pos}
theorem qk7 {K : PySem.W.Frag} : DT K ix3 (rIx K) := fun x y v u G H q Q hr rx ry h af => by
 cases x <;> try exact h.elim
 case tup xs =>
  cases y <;> try exact h.elim
  case int i =>
   unfold ix3 at h
   simp only at h
   split at h
   ·rename_i z e
    cases ry
    cases rx with
    | tup hs rs =>
     obtain ⟨w,e2,rw'⟩ := rs.atI e
     exact .inr (.inl ⟨_,_,i,w,rfl,rfl,hs,e2,af z G h w H rw' hr Kp.refl⟩)
   ·exact h.elim
 case ref p =>
  cases y <;> try exact h.elim
  case int i =>
   unfold ix3 at h
   simp only at h
   split at h
   ·rename_i xs e0
    split at h
    ·rename_i z e
     cases ry
     cases rx
     obtain ⟨vs,hs,rs⟩ := zZ hr e0
     obtain ⟨w,e2,rw'⟩ := rs.atI e
     exact .inl ⟨p,vs,i,w,rfl,rfl,hs,e2,af z G h w H rw' hr Kp.refl⟩
    ·exact h.elim
   ·exact h.elim
theorem qo8 (ha : E3 X a ta) (hb : E3 X b tb) (hs : XR b := by intro _ _;rfl) : E3 X (.Subscript a b pos) (o3 ix3 ta tb) := WE (qhK qiI ha hb hs) fun _ _ _ h => qcG qk7 h
def qa3 {α : Type} (xs : List α) (lo hi : Option Int) : List α := (xs.drop (HT.sIx xs.length 0 lo)).take (HT.sIx xs.length xs.length hi - HT.sIx xs.length 0 lo)
theorem Rps.cut {K : PySem.W.Frag} {H : Hp} {xs : List T} {vs : List V} (r : Rps K H xs vs) (lo hi : Option Int) : Rps K H (qa3 xs lo hi) (qew vs lo hi) := by
 unfold qa3 qew
 rw [r.length]
 exact (r.drop _).take _
abbrev TO3 := St3 → Gp → (Option Int → Gp → Prop) → Prop
def lO (K : PySem.W.Frag) (t : TO3) : TO := fun σ H Q => ∃ τ G q,Rel K τ G σ H∧t τ G q∧∀ x G',q x G' → ∀ H',HR K G' H' → Kp G H G' H' → Q x H'
abbrev P3 (X : Cx) (e : Option Expr) (t : TO3) : Prop := PO X e (lO X.K t)
def np3 : TO3 := fun _ G q => q none G
def sp3 (t : TE3) : TO3 := fun τ G q => t τ G fun x G1 => match x with | .int i => q (some i) G1 | _ => False
theorem qpp {X : Cx} {e : Option Expr} {t t' : TO} (h : PO X e t) (w : ∀ σ H Q,t' σ H Q → t σ H Q) : PO X e t' := fun pins s σ H Q I q => h pins s σ H Q I (w σ H Q q)
theorem qjq (h : E3 X e te) : P3 X (some e) (sp3 te) := qpp (qe9 h) fun _ _ _ ⟨τ,G,q,rl,h,af⟩ => zA rl h fun x G1 h1 v H1 rx hr1 k1 rl1 => by
 cases x <;> try exact h1.elim
 cases rx
 exact ⟨_,rfl,af _ G1 h1 H1 hr1 k1⟩
def sl3 : T → Option Int → Option Int → Gp → Q3 → Prop := fun x lo hi G q => match x with
 | .tup xs => ¬ (HT.sIx xs.length 0 lo = 0∧HT.sIx xs.length xs.length hi = xs.length)∧q (.tup (qa3 xs lo hi)) G
 | .ref p => (match getL G p with | some xs => ∀ a,G a = none → q (.ref a) (gu G a (.lst (qa3 xs lo hi))) | none => False)
 | _ => False
def qgP (te : TE3) (tl th : TO3) : TE3 := fun τ G q => te τ G fun x G1 => tl τ G1 fun l G2 => th τ G2 fun u G3 => sl3 x l u G3 q
theorem qfm {lo hi : Option Expr} {tl th : TO3} {p2 : Pos} (he : E3 X e te) (hl : P3 X lo tl) (hu : P3 X hi th) : E3 X (.Subscript e (.Slice lo hi none p2) pos) (qgP te tl th) :=
 WE (qcx (qiW.or qfz) he hl hu) fun _ _ _ ⟨τ,G,q,rl,h,af⟩ => zA rl h fun x G1 h1 v H1 rx hr1 k1 rl1 =>
  ⟨τ,G1,_,rl1,h1,fun l G2 h2 H2 hr2 k2 => ⟨τ,G2,_,rl1.next hr2 k2,h2,fun u G3 h3 H3 hr3 k3 => by
   have kk := (k1.trans k2).trans k3
   have rx3 := (rx.keep hr1 k2).keep hr2 k3
   cases x <;> try exact h3.elim
   case tup xs =>
    cases rx3 with
    | tup hs rs =>
     refine .inl ⟨_,_,rfl,hs,by rw [← rs.length];exact h3.1,fun p hp => ?_⟩
     exact af _ G3 h3.2 _ _ (.tup (SqT.of zj) ((rs.cut _ _).keep hr3 (Kp.laid hp))) (hr3.laid hp) (kk.trans (Kp.laid hp))
   case ref p =>
    unfold sl3 at h3
    simp only at h3
    split at h3
    ·rename_i xs e0
     cases rx3
     obtain ⟨vs,hs,rs⟩ := zZ hr3 e0
     refine .inr ⟨p,vs,rfl,hs,fun a ha => ?_⟩
     exact af _ _ (h3 a (hr3.free ha)) _ _ (.ref a) (hr3.newL ha (rs.cut _ _)) (kk.trans (Kp.newL ha))
    ·exact h3.elim⟩⟩
theorem qbu {K : PySem.W.Frag} {H : Hp} {xs : List T} {vs : List V} (r : Rps K H xs vs) : vs = [] ↔ xs = [] := by
 cases r <;> simp
def zY : R3 := fun x y G q => match x,y with
 | .tup xs,.tup ys => xs ≠ []∧xs.length + ys.length ≤ sizeLine∧q (.tup (xs ++ ys)) G
 | .ref a,.ref b => (match G a,G b with | some (.lst xs),some (.lst ys) => xs.length + ys.length ≤ sizeLine∧∀ p,G p = none → q (.ref p) (gu G p (.lst (xs ++ ys))) | _,_ => False)
 | .int i,.int j => q (.int (i + j)) G
 | _,_ => False
theorem qfS {K : PySem.W.Frag} : DT K zY (fun x y H Q => (rI0 (fun i j => .int (i + j)) x y H Q ∨ qkC K x y H Q) ∨ qn3 x y H Q) := fun x y v u G H q Q hr rx ry h af => by
 cases x <;> try exact h.elim
 case int i =>
  cases y <;> try exact h.elim
  cases rx;cases ry
  exact .inl (.inl ⟨_,_,rfl,rfl,af _ G h _ H (.int _) hr Kp.refl⟩)
 case tup xs =>
  cases y <;> try exact h.elim
  case tup ys =>
   obtain ⟨h1,h2,h3⟩ := h
   cases rx with
   | tup hs rs =>
    cases ry with
    | tup hs' rs' =>
     refine .inl (.inr ⟨_,_,_,_,rfl,rfl,hs,hs',fun z => h1 ((qbu rs).mp z),by rw [← rs.length,← rs'.length];exact h2,fun z => ?_,fun z p hp => ?_⟩)
     ·have e := (qbu rs').mp z
      subst e
      rw [List.append_nil] at h3
      exact af _ G h3 _ H (.tup hs rs) hr Kp.refl
     ·exact af _ G h3 _ _ (.tup (SqT.of zj) ((rs.append rs').keep hr (Kp.laid hp))) (hr.laid hp) (Kp.laid hp)
 case ref a =>
  cases y <;> try exact h.elim
  case ref b =>
   unfold zY at h
   simp only at h
   split at h
   ·rename_i xs ys e1 e2
    cases rx;cases ry
    obtain ⟨vs,g1,r1⟩ := hr.lst e1
    obtain ⟨us,g2,r2⟩ := hr.lst e2
    refine .inr ⟨a,b,vs,us,rfl,rfl,g1,g2,by rw [← r1.length,← r2.length];exact h.1,fun p hp => ?_⟩
    exact af _ _ (h.2 p (hr.free hp)) _ _ (.ref p) (hr.newL hp (r1.append r2)) (Kp.newL hp)
   ·exact h.elim
theorem qiT (ha : E3 X a ta) (hb : E3 X b tb) : E3 X (.BinOp a .Add b pos) (o3 zY ta tb) := qd5 ((qkq.or qgG).or qkM) qfS ha hb
def qbb : T → Bool
 | .non => true | .bl _ => true | .int _ => true | .str _ => true | _ => false
def eqF : T → T → Bool
 | .non,.non => true
 | .bl a,.bl b => a == b
 | .bl a,.int b => (if a then 1 else 0) == b
 | .int a,.bl b => a == (if b then 1 else 0)
 | .int a,.int b => a == b
 | .str a,.str b => a == b
 | _,_ => false
def in3 (neg : Bool) : R3 := fun x y G q => qbb x = true∧match y with
 | .tup ys => ys.all qbb = true∧q (.bl (if neg then !(ys.any fun y => eqF y x) else (ys.any fun y => eqF y x))) G
 | .ref p => (match getL G p with | some ys => ys.all qbb = true∧q (.bl (if neg then !(ys.any fun y => eqF y x) else (ys.any fun y => eqF y x))) G | none => False)
 | _ => False
def DS : List T → Gp → Q3 → Prop := fun xs G q => match xs with
 | [.tup ys] => q (.int ys.length) G
 | [.str y] => y.length ≤ sizeLine∧q (.int y.length) G
 | [.ref p] => (match getL G p with | some ys => q (.int ys.length) G | none => False)
 | _ => False
theorem LI {K : PySem.W.Frag} {H : Hp} {x : T} {vs : List V} (r : Rps K H [x] vs) : ∃ v,vs = [v]∧Rp K H x v := by
 cases r with
 | cons a b => cases b;exact ⟨_,rfl,a⟩
theorem qmd {K : PySem.W.Frag} {H : Hp} {x y : T} {vs : List V} (r : Rps K H [x,y] vs) : ∃ v u,vs = [v,u]∧Rp K H x v∧Rp K H y u := by
 cases r with
 | cons a b => cases b with | cons c d => cases d;exact ⟨_,_,rfl,a,c⟩
theorem jJ {K : PySem.W.Frag} : LE K DS (fun xs H Q => ∃ x n,xs = [x]∧qob K x H n∧Q (.int n) H) := fun xs vs G H q Q hr rs h af => by
 unfold DS at h
 split at h
 ·obtain ⟨v,rfl,r⟩ := LI rs
  cases r with
  | tup hs r2 => exact ⟨_,_,rfl,.inr ⟨_,hs,rfl⟩,by rw [← r2.length];exact af _ G h _ H (.int _) hr Kp.refl⟩
 ·obtain ⟨v,rfl,r⟩ := LI rs
  cases r
  exact ⟨_,_,rfl,⟨h.1,rfl⟩,af _ G h.2 _ H (.int _) hr Kp.refl⟩
 ·obtain ⟨v,rfl,r⟩ := LI rs
  split at h
  ·rename_i ys e
   cases r
   obtain ⟨us,hs,r2⟩ := zZ hr e
   exact ⟨_,_,rfl,.inl ⟨_,hs,rfl⟩,by rw [← r2.length];exact af _ G h _ H (.int _) hr Kp.refl⟩
  ·exact h.elim
 ·exact h.elim
def qbI : List T → Gp → Q3 → Prop := fun xs G q => match xs with | [.int i] => q (.int (if i < 0 then -i else i)) G | _ => False
theorem TU {K : PySem.W.Frag} : LE K qbI (fun xs H Q => ∃ i,xs = [.int i]∧Q (.int (if i < 0 then -i else i)) H) := fun xs vs G H q Q hr rs h af => by
 unfold qbI at h
 split at h
 ·obtain ⟨v,rfl,r⟩ := LI rs
  cases r
  exact ⟨_,rfl,af _ G h _ H (.int _) hr Kp.refl⟩
 ·exact h.elim
def qgc : List T → Gp → Q3 → Prop := fun xs G q => match xs with | [.int i,.int j] => q (.int (if j < i then j else i)) G | _ => False
theorem qgm {K : PySem.W.Frag} : LE K qgc (fun xs H Q => ∃ i j,xs = [.int i,.int j]∧Q (.int (if j < i then j else i)) H) := fun xs vs G H q Q hr rs h af => by
 unfold qgc at h
 split at h
 ·obtain ⟨v,u,rfl,r,r'⟩ := qmd rs
  cases r;cases r'
  exact ⟨_,_,rfl,af _ G h _ H (.int _) hr Kp.refl⟩
 ·exact h.elim
def qoJ : List T → Gp → Q3 → Prop := fun xs G q => match xs with | [.int i,.int j] => q (.int (if j > i then j else i)) G | _ => False
def qgR : List T → Gp → Q3 → Prop := fun xs G q => match xs with | [.int i] => q (.int i) G | [.bl k] => q (.int (if k then 1 else 0)) G | _ => False
theorem qgC {K : PySem.W.Frag} : LE K qgR (fun xs H Q => (∃ i,xs = [.int i]∧Q (.int i) H) ∨ ∃ k,xs = [.bl k]∧Q (.int (if k then 1 else 0)) H) := fun xs vs G H q Q hr rs h af => by
 unfold qgR at h
 split at h
 ·obtain ⟨v,rfl,r⟩ := LI rs
  cases r
  exact .inl ⟨_,rfl,af _ G h _ H (.int _) hr Kp.refl⟩
 ·obtain ⟨v,rfl,r⟩ := LI rs
  cases r
  exact .inr ⟨_,rfl,af _ G h _ H (.int _) hr Kp.refl⟩
 ·exact h.elim
def DG : List T → Gp → Q3 → Prop := fun xs G q => match xs with
 | [.tup ys] => q (.tup ys) G
 | [.ref p] => (match getL G p with | some ys => q (.tup ys) G | none => False)
 | _ => False
theorem qbj {K : PySem.W.Frag} : LE K DG (fun xs H Q => ∃ p ys,xs = [.ref p]∧((SqL K H p ys∧∀ l,H l = none → Q (.ref l) (upd H l (.tup ys))) ∨ (SqT K H p ys∧Q (.ref p) H))) := fun xs vs G H q Q hr rs h af => by
 unfold DG at h
 split at h
 ·obtain ⟨v,rfl,r⟩ := LI rs
  cases r with
  | tup hs r2 => exact ⟨_,_,rfl,.inr ⟨hs,af _ G h _ H (.tup hs r2) hr Kp.refl⟩⟩
 ·obtain ⟨v,rfl,r⟩ := LI rs
  split at h
  ·rename_i ys e
   cases r
   obtain ⟨us,hs,r2⟩ := zZ hr e
   exact ⟨_,_,rfl,.inl ⟨hs,fun l hl => af _ G h _ _ (.tup (SqT.of zj) (r2.keep hr (Kp.laid hl))) (hr.laid hl) (Kp.laid hl)⟩⟩
  ·exact h.elim
 ·exact h.elim
def KF : List T → Gp → Q3 → Prop := fun xs G q => match xs with
 | [.tup ys] => ∀ p,G p = none → q (.ref p) (gu G p (.lst ys))
 | [.ref p] => (match getL G p with | some ys => ∀ p,G p = none → q (.ref p) (gu G p (.lst ys)) | none => False)
 | _ => False
theorem qci {K : PySem.W.Frag} : LE K KF (fun xs H Q => ∃ p ys,xs = [.ref p]∧(SqL K H p ys ∨ SqT K H p ys)∧∀ l,H l = none → Q (.ref l) (upd H l (.lst ys))) := fun xs vs G H q Q hr rs h af => by
 unfold KF at h
 split at h
 ·obtain ⟨v,rfl,r⟩ := LI rs
  cases r with
  | tup hs r2 => exact ⟨_,_,rfl,.inr hs,fun l hl => af _ _ (h l (hr.free hl)) _ _ (.ref l) (hr.newL hl r2) (Kp.newL hl)⟩
 ·obtain ⟨v,rfl,r⟩ := LI rs
  split at h
  ·rename_i ys e
   cases r
   obtain ⟨us,hs,r2⟩ := zZ hr e
   exact ⟨_,_,rfl,.inl hs,fun l hl => af _ _ (h l (hr.free hl)) _ _ (.ref l) (hr.newL hl r2) (Kp.newL hl)⟩
  ·exact h.elim
 ·exact h.elim
def qoy : T → List T → Gp → Q3 → Prop := fun x xs G q => match x,xs with
 | .ref l,[.ref b] => (match G l,G b with | some (.lst ys),some (.lst zs) => ys.length + zs.length ≤ sizeLine∧q .non (gu G l (.lst (ys ++ zs))) | _,_ => False)
 | _,_ => False
def qoj : T → List T → Gp → Q3 → Prop := fun x xs G q => match x,xs with
 | .ref l,[y] => (match G l with | some (.lst ys) => ys.length < sizeLine∧q .non (gu G l (.lst (ys ++ [y]))) | _ => False)
 | _,_ => False
def bm3 (r : T → List T → Gp → Q3 → Prop) (to : TE3) (t : TA3) : TE3 := fun τ G q => to τ G fun x G1 => (match x with | .ref p => (getL G1 p).isSome = true | _ => False)∧t τ G1 fun xs G2 => r x xs G2 q
end
end L3
namespace L3
open PySem PySem.Spec PyProof.Rows L2
def tyT (G : Gp) : T → Option String
 | .non => some "NoneType" | .bl _ => some "bool" | .int _ => some "int" | .str _ => some "str" | .tup _ => some "tuple"
 | .ref p => if (getL G p).isSome then some "list" else none
def ZJ (t c : String) : Bool := t == c || (t == "bool" && c == "int")
theorem XU (K : PySem.W.Frag) : ∀ t ∈ ["NoneType","bool","int","str","tuple","list"],∀ c ∈ ["bool","int","str","tuple","list"],PySem.W.kitOne K (.type t) (.type c) = some (ZJ t c) := by
 intro t ht c hc
 simp only [List.mem_cons,List.not_mem_nil,or_false] at ht hc
 rcases ht with rfl | rfl | rfl | rfl | rfl | rfl <;> rcases hc with rfl | rfl | rfl | rfl | rfl <;> kernel_rfl
section
variable {X : Cx} {a b c e : Expr} {es : List Expr} {ta tb tc te : TE3} {t : TA3} {pos : Pos}
def TyS (K : PySem.W.Frag) (H : Hp) (x : V) (t : String) : Prop := match x with
 | .non => t = "NoneType" | .bl _ => t = "bool" | .int _ => t = "int" | .str _ => t = "str"
 | .ref a => (t = "tuple"∧∃ vs,SqT K H a vs) ∨ (t = "list"∧∃ vs,SqL K H a vs)
 | _ => False
theorem TyS.mem {K : PySem.W.Frag} {H : Hp} {x : V} {t : String} (h : TyS K H x t) : t ∈ ["NoneType","bool","int","str","tuple","list"] := by
 cases x <;> simp [TyS] at h <;> first | (subst h;decide) | (rcases h with ⟨rfl,_⟩ | ⟨rfl,_⟩ <;> decide)
theorem TyS.kitx {pins : List (Addr × Obj)} {σ : L2.St} {H : Hp} {s : Shared} {x : V} {u : Value} {t : String} (I : Inv X pins σ H s) (rx : jg x u) (h : TyS X.K H x t) :
  ∃ HH : Heap → Prop,PySem.W.KitX X.K u (.type t) HH∧HH s.heap∧u ≠ .builtin "__main__.__loader__#opaque" := by
 cases x with
 | non => cases (show u = Value.none from rx);cases (show t = _ from h);exact ⟨_,PySem.W.kitx_none,True.intro,fun z => nomatch z⟩
 | bl y => cases (show u = Value.bool y from rx);cases (show t = _ from h);exact ⟨_,PySem.W.kitx_bool,True.intro,fun z => nomatch z⟩
 | int i => obtain ⟨tk,q⟩ := (show ∃ t,u = Value.int i t from rx);cases q;cases (show t = _ from h);exact ⟨_,PySem.W.kitx_int,True.intro,fun z => nomatch z⟩
 | str y => obtain ⟨tk,q⟩ := (show ∃ t,u = Value.str y t from rx);cases q;cases (show t = _ from h);exact ⟨_,PySem.W.kitx_str,True.intro,fun z => nomatch z⟩
 | ref a =>
  cases (show u = Value.ref a from rx)
  rcases (show (t = "tuple"∧∃ vs,SqT X.K H a vs) ∨ (t = "list"∧∃ vs,SqL X.K H a vs) from h) with ⟨rfl,vs,hs⟩ | ⟨rfl,vs,hs⟩
  ·obtain ⟨its,_,p,_⟩ := I.tuple hs
   obtain ⟨o,h1,h2,_⟩ := p
   exact ⟨_,PySem.W.kitx_tuple,⟨o,h1,h2⟩,fun z => nomatch z⟩
  ·obtain ⟨its,_,p,_⟩ := I.list hs
   obtain ⟨o,n,h1,h2,_⟩ := p
   exact ⟨_,PySem.W.kitx_list,⟨o,h1,h2⟩,fun z => nomatch z⟩
 | _ => exact False.elim h
abbrev jV : List String := ["bool","int","str","tuple","list"]
theorem qcz : Z7 X (.builtin "isinstance") (fun xs H Q => ∃ x t c,xs = [x,.ty c]∧TyS X.K H x t∧c ∈ jV∧Q (.bl (ZJ t c)) H) := by
 intro pins s σ H xs us Q I r h
 obtain ⟨x,t,c,rfl,ht,hc,q⟩ := h
 obtain ⟨u,w,rfl,rx,rc⟩ := qaM r
 cases (show w = Value.type c from rc)
 obtain ⟨HH,kx,hh,ne⟩ := ht.kitx I rx
 exact PySem.W.kia_one kx I.kIn hh (XU X.K t ht.mem c hc) ne fun tk => ⟨.bl _,H,I.tok tk,rfl,q⟩
theorem qcE (K : PySem.W.Frag) {t c d : String} (ht : t ∈ ["NoneType","bool","int","str","tuple","list"]) (hc : c ∈ jV) (hd : d ∈ jV) : PySem.W.kitAny K (.type t) [.type c,.type d] = some (ZJ t c || ZJ t d) := by
 unfold PySem.W.kitAny
 rw [XU K t ht c hc]
 cases ZJ t c with
 | true => rfl
 | false =>
  show PySem.W.kitAny K (.type t) [.type d] = _
  unfold PySem.W.kitAny
  rw [XU K t ht d hd]
  cases ZJ t d <;> rfl
theorem NY : Z7 X (.builtin "isinstance") (fun xs H Q => ∃ x t c d p,xs = [x,.ref p]∧H p = some (.tup [.ty c,.ty d])∧TyS X.K H x t∧c ∈ jV∧d ∈ jV∧Q (.bl (ZJ t c || ZJ t d)) H) := by
 intro pins s σ H xs us Q I r h
 obtain ⟨x,t,c,d,p,rfl,hp,ht,hc,hd,q⟩ := h
 obtain ⟨u,w,rfl,rx,rc⟩ := qaM r
 cases (show w = Value.ref p from rc)
 obtain ⟨HH,kx,hh,ne⟩ := ht.kitx I rx
 obtain ⟨_,its,rv,⟨o,ho,hcl,n,hda⟩⟩ := (show Y0 X.prog X.w H s.heap p (.tup [.ty c,.ty d]) from I.hok p _ hp)
 obtain ⟨u1,u2,rfl,r1,r2⟩ := qaM rv
 cases (show u1 = Value.type c from r1)
 cases (show u2 = Value.type d from r2)
 obtain ⟨cl,dd,da,sl⟩ := o
 cases (show cl = _ from hcl)
 cases (show da = _ from hda)
 exact PySem.W.kia_tup kx I.kIn hh ho (qcE X.K ht.mem hc hd) ne fun tk => ⟨.bl _,H,I.tok tk,rfl,q⟩
theorem qec {K : PySem.W.Frag} {G : Gp} {H : Hp} (hr : HR K G H) {x : T} {v : V} {t : String} (r : Rp K H x v) (h : tyT G x = some t) : TyS K H v t := by
 cases r with
 | non => cases h;rfl
 | bl _ => cases h;rfl
 | int _ => cases h;rfl
 | str _ => cases h;rfl
 | tup hs rs => cases h;exact .inl ⟨rfl,_,hs⟩
 | ref a =>
  have h : (if (getL G a).isSome then some "list" else none) = some t := h
  split at h
  ·rename_i e
   cases h
   obtain ⟨ys,e⟩ := Option.isSome_iff_exists.mp e
   obtain ⟨us,hs,_⟩ := zZ hr e
   exact .inr ⟨rfl,us,hs⟩
  ·cases h
def DU (f : String → Bool) (te : TE3) : TE3 := fun τ G q => te τ G fun x G1 => match tyT G1 x with | some t => q (.bl (f t)) G1 | none => False
theorem qmF {tn : Str} {ty : String} {p p2 : Pos} (he : E3 X e te) (hg : Gl X "isinstance") (hm : X.mg "isinstance" = none) (hg2 : Gl X tn) (hm2 : X.mg tn = none) (hv : bootBuiltins tn = some (.type ty)) (hmem : ty ∈ jV := by decide) (hn : tn ≠ "__name__" := by decide) (hdb : (tn == ("__debug__" : Str)) = false := by decide)
  (hs : starEach [e,.Name tn p2] X.env = (false,eval e X.env) :: starEach [.Name tn p2] X.env := by rfl) (hs2 : starEach [.Name tn p2] X.env = (false,eval (.Name tn p2) X.env) :: starEach [] X.env := by rfl) (hpl : (backTo pos (starEach [.Name tn p2] X.env)).any (·.1) = false := by rfl) :
  E3 X (.Call (.Name "isinstance" p) [e,.Name tn p2] [] pos) (DU (fun t => ZJ t ty) te) :=
 WE (XA qcz hg hm PyProof.Rows.boot_isinstance (YX he (YX (T4 (v := .ty ty) hg2 hm2 hv rfl hn hdb) LL hs2) hs) (by decide) (by decide) hs hpl)
  fun _ _ _ ⟨τ,G,q,rl,h,af⟩ => zA rl h fun x G1 h1 v H1 rx hr1 k1 rl1 => by
   split at h1
   ·rename_i t e1
    exact ⟨_,t,ty,rfl,qec hr1 rx e1,hmem,af _ G1 h1 _ H1 (.bl _) hr1 k1⟩
   ·exact h1.elim
theorem qju {tn tn' : Str} {ty ty' : String} {p p2 p3 p4 : Pos} {x1} (he : E3 X e te) (hg : Gl X "isinstance") (hm : X.mg "isinstance" = none) (hg2 : Gl X tn) (hm2 : X.mg tn = none) (hv : bootBuiltins tn = some (.type ty)) (hg3 : Gl X tn') (hm3 : X.mg tn' = none) (hv3 : bootBuiltins tn' = some (.type ty'))
  (hmem : ty ∈ jV := by decide) (hn : tn ≠ "__name__" := by decide) (hdb : (tn == ("__debug__" : Str)) = false := by decide) (hmem3 : ty' ∈ jV := by decide) (hn3 : tn' ≠ "__name__" := by decide) (hdb3 : (tn' == ("__debug__" : Str)) = false := by decide)
  (hs : starEach [e,.Tuple [.Name tn p2,.Name tn' p3] x1 p4] X.env = (false,eval e X.env) :: starEach [.Tuple [.Name tn p2,.Name tn' p3] x1 p4] X.env := by rfl) (hs2 : starEach [.Tuple [.Name tn p2,.Name tn' p3] x1 p4] X.env = (false,eval (.Tuple [.Name tn p2,.Name tn' p3] x1 p4) X.env) :: starEach [] X.env := by rfl)
  (hs3 : starEach [.Name tn p2,.Name tn' p3] X.env = (false,eval (.Name tn p2) X.env) :: starEach [.Name tn' p3] X.env := by rfl) (hs4 : starEach [.Name tn' p3] X.env = (false,eval (.Name tn' p3) X.env) :: starEach [] X.env := by rfl)
  (hpl : (backTo pos (starEach [.Tuple [.Name tn p2,.Name tn' p3] x1 p4] X.env)).any (·.1) = false := by rfl) :
  E3 X (.Call (.Name "isinstance" p) [e,.Tuple [.Name tn p2,.Name tn' p3] x1 p4] [] pos) (DU (fun t => ZJ t ty || ZJ t ty') te) :=
 WE (XA NY hg hm PyProof.Rows.boot_isinstance (YX he (YX (qdk (YX (T4 (v := .ty ty) hg2 hm2 hv rfl hn hdb) (YX (T4 (v := .ty ty') hg3 hm3 hv3 rfl hn3 hdb3) LL hs4) hs3)) LL hs2) hs) (by decide) (by decide) hs hpl)
  fun _ _ _ ⟨τ,G,q,rl,h,af⟩ => zA rl h fun x G1 h1 v H1 rx hr1 k1 rl1 => by
   refine ⟨by show 2 ≤ sizeLine;decide,fun pp hp => ?_⟩
   split at h1
   ·rename_i t e1
    have hr2 := hr1.laid (ho := .tup [.ty ty,.ty ty']) hp
    have kk : Kp G1 H1 G1 (upd H1 pp (.tup [.ty ty,.ty ty'])) := Kp.laid hp
    exact ⟨_,t,ty,ty',pp,rfl,zj,qec hr2 (rx.keep hr1 kk) e1,hmem,hmem3,af _ G1 h1 _ _ (.bl _) hr2 (k1.trans kk)⟩
   ·exact h1.elim
structure Ends3 where
 nx : St3 → Gp → Prop
 rt : Q3
 bk : St3 → Gp → Prop := fun _ _ => False
 ct : St3 → Gp → Prop := fun _ _ => False
abbrev TS3 := Ends3 → St3 → Gp → Prop
def qep (K : PySem.W.Frag) (G : Gp) (H : Hp) (q : St3 → Gp → Prop) (Q : L2.St → Hp → Prop) : Prop := ∀ τ G',q τ G' → ∀ σ H',Rel K τ G' σ H' → Kp G H G' H' → Q σ H'
structure AftD (K : PySem.W.Frag) (G : Gp) (H : Hp) (d : Ends3) (D : Ends) : Prop where
 nx : qep K G H d.nx D.nx
 rt : Aft K G H d.rt D.rt
 bk : qep K G H d.bk D.bk
 ct : qep K G H d.ct D.ct
theorem qep.back {K : PySem.W.Frag} {G G1 : Gp} {H H1 : Hp} {q : St3 → Gp → Prop} {Q : L2.St → Hp → Prop} (a : qep K G H q Q) (k : Kp G H G1 H1) : qep K G1 H1 q Q := fun x G' h v H' r k' => a x G' h v H' r (k.trans k')
theorem AftD.back {K : PySem.W.Frag} {G G1 : Gp} {H H1 : Hp} {d : Ends3} {D : Ends} (a : AftD K G H d D) (k : Kp G H G1 H1) : AftD K G1 H1 d D := ⟨a.nx.back k,a.rt.back k,a.bk.back k,a.ct.back k⟩
def lS (K : PySem.W.Frag) (t : TS3) : TS := fun D σ H => ∃ τ G d,Rel K τ G σ H∧t d τ G∧AftD K G H d D
abbrev S3 (X : Cx) (st : Stmt) (t : TS3) : Prop := PS X st (lS X.K t)
abbrev B3 (X : Cx) (st : List Stmt) (t : TS3) : Prop := PSs X st (lS X.K t)
theorem qbH {X : Cx} {st : Stmt} {t t' : TS} (h : PS X st t) (w : ∀ D σ H,t' D σ H → t D σ H) : PS X st t' := fun pins s σ H D I q => h pins s σ H D I (w D σ H q)
theorem qji {X : Cx} {st : List Stmt} {t t' : TS} (h : PSs X st t) (w : ∀ D σ H,t' D σ H → t D σ H) : PSs X st t' := fun pins s σ H D I q => h pins s σ H D I (w D σ H q)
variable {st : Stmt} {QN : List Stmt} {t1 t2 : TS3} {tA : TT3}
def ze : TS3 := fun d τ G => d.nx τ G
def qK (t u : TS3) : TS3 := fun d τ G => t { d with nx := u d } τ G
theorem qm0 : B3 X [] ze := qji qgf fun _ σ H ⟨τ,G,d,rl,h,af⟩ => af.nx τ G h σ H rl Kp.refl
theorem qiB (h1 : S3 X st t1) (h2 : B3 X QN t2) : B3 X (st :: QN) (qK t1 t2) := qji (qbL h1 h2) fun D σ H ⟨τ,G,d,rl,h,af⟩ =>
 ⟨τ,G,{ d with nx := t2 d },rl,h,⟨fun τ' G' h' σ' H' rl' k' => ⟨τ',G',d,rl',h',af.back k'⟩,af.rt,af.bk,af.ct⟩⟩
theorem qmh (h1 : S3 X st t1) : B3 X [st] t1 := qfa h1
def qll (te : TE3) : TS3 := fun d τ G => te τ G fun _ G1 => d.nx τ G1
def qZ (te : TE3) : TS3 := fun d τ G => te τ G d.rt
theorem qmg (he : E3 X e te) : S3 X (.Return (some e) pos) (qZ te) := qbH (qhf he) fun _ σ H ⟨τ,G,d,rl,h,af⟩ => ⟨τ,G,d.rt,rl,h,af.rt⟩
def qiK : TS3 := fun d _ G => d.rt .non G
def Q5 (c : TT3) (t u : TS3) : TS3 := fun d τ G => c τ G fun k G1 => if k = true then t d τ G1 else u d τ G1
theorem qoV {c : Expr} {ba bb : List Stmt} (hc : C3 X c tA) (ha : B3 X ba t1) (hb : B3 X bb t2) : S3 X (.If c ba bb pos) (Q5 tA t1 t2) := qbH (qmB hc ha hb) fun _ σ H ⟨τ,G,d,rl,h,af⟩ =>
 W2 rl h fun k G1 h1 H1 hr1 k1 rl1 => by
  cases k with
  | true => rw [if_pos rfl] at h1 ⊢;exact ⟨τ,G1,d,rl1,h1,af.back k1⟩
  | false => rw [if_neg Bool.false_ne_true] at h1 ⊢;exact ⟨τ,G1,d,rl1,h1,af.back k1⟩
def qgQ : TS3 := fun _ _ _ => False
theorem qf7 {sts : List Stmt} : B3 X sts qgQ := fun _ _ _ _ _ _ ⟨_,_,_,_,h,_⟩ => h.elim
abbrev TG3 := T → St3 → Gp → (St3 → Gp → Prop) → Prop
abbrev S6 := List T → St3 → Gp → (St3 → Gp → Prop) → Prop
def lG (K : PySem.W.Frag) (t : TG3) : TG := fun v σ H Q => ∃ x τ G q,Rp K H x v∧Rel K τ G σ H∧t x τ G q∧qep K G H q Q
def lGs (K : PySem.W.Frag) (t : S6) : TGs := fun v σ H Q => ∃ x τ G q,Rps K H x v∧Rel K τ G σ H∧t x τ G q∧qep K G H q Q
abbrev G3 (X : Cx) (e : Expr) (t : TG3) : Prop := PG X e (lG X.K t)
abbrev Gs3 (X : Cx) (es : List Expr) (t : S6) : Prop := PGs X es (lGs X.K t)
theorem qm6 {X : Cx} {e : Expr} {t t' : TG} (h : PG X e t) (w : ∀ v σ H Q,t' v σ H Q → t v σ H Q) : PG X e t' := fun pins s σ H v u Q I r q => h pins s σ H v u Q I r (w v σ H Q q)
theorem qkR {X : Cx} {e : List Expr} {t t' : TGs} (h : PGs X e t) (w : ∀ v σ H Q,t' v σ H Q → t v σ H Q) : PGs X e t' := fun pins s σ H v u Q I r q => h pins s σ H v u Q I r (w v σ H Q q)
def gn3 (i : Nat) : TG3 := fun x τ G q => q (τ.set i (some x)) G
theorem qlE {i : Nat} {x : Str} (hN : X.N.Nodup) (hi : X.N[i]? = some x := by rfl) (hx : Loc X.env.scope x := by first | exact Or.inl rfl | exact Or.inr rfl) (hf : X.fn x = true ∨ X.env.scope.names.lookup x = some .local := by first | exact .inl rfl | exact .inr rfl) : G3 X (.Name x pos) (gn3 i) :=
 qm6 (qfG hN hi hx hf) fun v σ H Q ⟨x,τ,G,q,rx,rl,h,af⟩ => af _ G h _ H (rl.set i rx) Kp.refl
def zx : S6 := fun xs τ G q => match xs with | [] => q τ G | _ => False
def qo (t : TG3) (u : S6) : S6 := fun xs τ G q => match xs with | x :: r => t x τ G fun τ' G' => u r τ' G' q | [] => False
theorem qmt : Gs3 X [] zx := qkR qgB fun v σ H Q ⟨x,τ,G,q,rx,rl,h,af⟩ => by
 cases rx with
 | nil => exact ⟨rfl,af _ G h _ H rl Kp.refl⟩
 | cons _ _ => exact h.elim
theorem qjV {tg : TG3} {tgs : S6} (h1 : G3 X e tg) (h2 : Gs3 X es tgs) (hs : (assignEach (e :: es) X.env).map (·.2) = assign e X.env :: (assignEach es X.env).map (·.2) := by rfl) : Gs3 X (e :: es) (qo tg tgs) := qkR (qcq h1 h2 hs) fun v σ H Q ⟨x,τ,G,q,rx,rl,h,af⟩ => by
 cases rx with
 | nil => exact h.elim
 | cons r rs => exact ⟨_,_,rfl,_,τ,G,_,r,rl,h,fun τ' G' h' σ' H' rl' k' => ⟨_,τ',G',q,rs.keep rl.hp k',rl',h',af.back k'⟩⟩
def zu (n : Nat) (t : S6) : TG3 := fun x τ G q => match x with | .tup xs => xs.length = n∧t xs τ G q | _ => False
theorem qmR {k : Nat} {tgs : S6} {n : Nat} (hc : X.calm = true) (h : Gs3 X es tgs) (hn : (assignEach es X.env).length = n := by rfl) (hst : (assignEach es X.env).findIdx? (·.1) = none := by rfl) : G3 X (.Tuple es k pos) (zu n tgs) :=
 qm6 (qlK hc h hn hst) fun v σ H Q ⟨x,τ,G,q,rx,rl,h,af⟩ => by
  cases x <;> try exact h.elim
  case tup xs =>
   cases rx with
   | tup hs rs => exact ⟨_,_,rfl,hs,by rw [← rs.length];exact h.1,_,τ,G,q,rs,rl,h.2,af⟩
def qbO : T → T → T → Gp → (Gp → Prop) → Prop := fun o i v G q => match o,i with
 | .ref p,.int k => (match G p with | some (.lst xs) => (match ixN xs.length k with | some j => q (gu G p (.lst (xs.set j v))) | none => False) | _ => False)
 | _,_ => False
def DP (to ti : TE3) : TG3 := fun x τ G q => to τ G fun o G1 => ti τ G1 fun i G2 => qbO o i x G2 fun G3 => q τ G3
theorem qnh {o i : Expr} {to ti : TE3} (ho : E3 X o to) (hi : E3 X i ti) (ha : ∀ v,assign (.Subscript o i pos) X.env v = (do
      let ov ← holding [v] (eval o X.env)
      let iv ← holding [v,ov] (eval i X.env)
      standAt pos
      holding [v,ov,iv] (setItem ov iv v)
      release [v,ov,iv] []) := by intro _;rfl) : G3 X (.Subscript o i pos) (DP to ti) :=
  qm6 (qjr ho hi qcl ha) fun v σ H Q ⟨x,τ,G,q,rx,rl,h,af⟩ => zA rl h fun y G1 h1 u H1 ry hr1 k1 rl1 => zA rl1 h1 fun z G2 h2 w H2 rz hr2 k2 rl2 => by
    have rx2 := (rx.keep rl.hp k1).keep hr1 k2
    have ry2 := ry.keep hr1 k2
    unfold qbO at h2
    split at h2
    · rename_i p k
      split at h2
      · rename_i xs e
        split at h2
        · rename_i j ej
          cases ry2;cases rz
          obtain ⟨vs,g1,r1⟩ := hr2.lst e
          have kk : Kp G2 H2 (gu G2 p (.lst (xs.set j x))) (upd H2 p (.lst (vs.set j v))) := Kp.wr e
          exact ⟨p,vs,k,j,rfl,rfl,g1,by rw [← r1.length];exact ej,af τ _ h2 σ _ (rl2.next (hr2.wr e (r1.set rx2 j)) kk) ((k1.trans k2).trans kk)⟩
        · exact h2.elim
      · exact h2.elim
    · exact h2.elim
def zg (te : TE3) (g : TG3) : TS3 := fun d τ G => te τ G fun x G1 => g x τ G1 d.nx
theorem qnB {tg e : Expr} {g : TG3} (he : E3 X e te) (hg : G3 X tg g) (hs : swapsWithSole [tg] e pos.line X.env = pure false := by rfl) (hw : swappedStores [tg] e X.env = pure none := by rfl)
  (h1 : (assignEach [tg] X.env).map (·.2) = [assign tg X.env] := by rfl) : S3 X (.Assign [tg] e pos) (zg te g) := qbH (qi0 he hg hs hw h1) fun _ σ H ⟨τ,G,d,rl,h,af⟩ =>
 zA rl h fun x G1 h1 v H1 rx hr1 k1 rl1 => ⟨x,τ,G1,d.nx,rx,rl1,h1,af.nx.back k1⟩
theorem qnV (i : Nat) {x : Str} {e : Expr} {pos' : Pos} (hN : X.N.Nodup) (he : E3 X e te) (hi : X.N[i]? = some x := by rfl) (hx : Loc X.env.scope x := by first | exact Or.inl rfl | exact Or.inr rfl) (hs : swapsWith e (some (.Name x pos')) pos.line X.env = pure false := by rfl) (hf : X.fn x = true ∨ X.env.scope.names.lookup x = some .local := by first | exact .inl rfl | exact .inr rfl) :
  S3 X (.Assign [.Name x pos'] e pos) (zg te (gn3 i)) := qbH (qlO hN hi hx he hs hf) fun _ σ H ⟨τ,G,d,rl,h,af⟩ =>
 zA rl h fun x G1 h1 v H1 rx hr1 k1 rl1 => af.nx _ G1 h1 _ H1 (rl1.set i rx) k1
def S0 (i j : Nat) (ta : TA3) : TS3 := fun d τ G => ta τ G fun xs G1 => match xs with | [x,y] => d.nx ((τ.set i (some x)).set j (some y)) G1 | _ => False
theorem qmT {i j : Nat} {x y : Str} {a b : Expr} {tt : TA3} {px py pt : Pos} {kt k2 pt2} (hc : X.calm = true) (hN : X.N.Nodup) (hi : X.N[i]? = some x) (hj : X.N[j]? = some y) (hij : i ≠ j)
  (hx : X.env.scope.names.lookup x = some .local) (hy : X.env.scope.names.lookup y = some .local) (ha : A3 X [a,b] tt)
  (hw : swappedStores [.Tuple [.Name x px,.Name y py] kt pt] (.Tuple [a,b] k2 pt2) X.env = pure (some [x,y]) := by rfl)
  (hs : swapsWithSole [.Tuple [.Name x px,.Name y py] kt pt] (.Tuple [a,b] k2 pt2) pos.line X.env = pure false := by rfl) :
  S3 X (.Assign [.Tuple [.Name x px,.Name y py] kt pt] (.Tuple [a,b] k2 pt2) pos) (S0 i j tt) := qbH (qiD hc hN hi hj hij hx hy ha hw hs) fun _ σ H ⟨τ,G,d,rl,h,af⟩ =>
 YL rl h fun xs G1 h1 vs H1 rs hr1 k1 rl1 => by
  split at h1
  ·obtain ⟨v,u,rfl,r,r'⟩ := qmd rs
   exact ⟨v,u,rfl,af.nx _ G1 h1 _ H1 ((rl1.set i r).set j r') k1⟩
  ·exact h1.elim
end
end L3
namespace L3
open PySem PySem.Spec PyProof.Rows L2
abbrev TI3 := St3 → Gp → (List T → (Gp → Prop) → Gp → Prop) → Prop
def qic (K : PySem.W.Frag) (J : It) (items : List T) (stay : Gp → Prop) (G0 : Gp) (H0 : Hp) : Prop := ∀ G H,HR K G H → Kp G0 H0 G H → stay G →
 (∀ i x,items[i]? = some x → J.go i H)∧(∀ i x v H',items[i]? = some x → J.yld i H v H' → Rp K H' x v∧HR K G H'∧Kp G H G H')∧J.stop items.length H
def lI (K : PySem.W.Frag) (wi : TI3) : TI := fun σ H R => ∃ τ G r,Rel K τ G σ H∧wi τ G r∧∀ items stay G',r items stay G' → ∀ J H',HR K G' H' → Kp G H G' H' → qic K J items stay G' H' → R J H'
abbrev I3 (X : Cx) (tg iter : Expr) (wi : TI3) : Prop := PI X tg iter (lI X.K wi)
theorem qlZ {X : Cx} {tg e : Expr} {t t' : TI} (h : PI X tg e t) (w : ∀ σ H R,t' σ H R → t σ H R) : PI X tg e t' := fun pins s σ H R I q => h pins s σ H R I (w σ H R q)
section
variable {X : Cx} {a b c e l tg : Expr} {es : List Expr} {ta tb tc te : TE3} {t : TA3} {pos : Pos}
theorem qid {tl : TE} (hl : PE X l tl) : PI X tg l (fun σ H R => tl σ H fun x H1 => ∃ a,x = .ref a∧(((∃ xs,SqL X.K H1 a xs)∧R (Itl X.K a) H1) ∨ ((∃ xs,SqT X.K H1 a xs)∧R (Itt X.K a) H1))) := by
 intro pins s σ H R I h
 refine thn (hl pins s σ H _ I h) fun v s1 ⟨x,H1,I1,r1,q1⟩ => ?_
 obtain ⟨a,e,⟨⟨xs,hq⟩,q⟩ | ⟨⟨xs,hq⟩,q⟩⟩ := q1
 ·subst e
  cases r1
  obtain ⟨its,rv,p,hz⟩ := I1.list hq
  refine wpAny_pyIter_list p.isList ?_
  refine ⟨s1.heap.objs.size,[s1.heap.objs.size],_,_,H1,rfl,I1.kept (t' := s1.toks) fun b o e => Heap.get?_push_of_some _ e,qaL a _,⟨_,Heap.get?_push_size _ rfl,rfl,rfl⟩,fun b hb => ?_,q⟩
  have e : b = s1.heap.objs.size := by simpa using hb
  subst e
  exact I1.fpOk (Nat.le_refl _) (I1.hok.fresh (Nat.le_refl _))
 ·subst e
  cases r1
  obtain ⟨its,rv,p,hz⟩ := I1.tuple hq
  refine wpAny_pyIter_tuple (show s1.heap.IsTuple a its.toArray from p) ?_
  refine ⟨s1.heap.objs.size,[s1.heap.objs.size],_,_,H1,rfl,I1.kept (t' := s1.toks) fun b o e => Heap.get?_push_of_some _ e,MT a _,⟨_,Heap.get?_push_size _ rfl,rfl,rfl⟩,fun b hb => ?_,q⟩
  have e : b = s1.heap.objs.size := by simpa using hb
  subst e
  exact I1.fpOk (Nat.le_refl _) (I1.hok.fresh (Nat.le_refl _))
def WH (tl : TE3) : TI3 := fun τ G r => tl τ G fun x G1 => match x with
 | .tup xs => r xs (fun _ => True) G1
 | .ref p => (match getL G1 p with | some xs => r xs (fun G => getL G p = some xs) G1 | none => False)
 | _ => False
theorem qjR {K : PySem.W.Frag} {p : Addr} {xs : List T} {G0 : Gp} {H0 : Hp} : qic K (Itl K p) xs (fun G => getL G p = some xs) G0 H0 := by
 intro G H hr _ hs
 obtain ⟨vs,sq,rs⟩ := zZ hr hs
 refine ⟨fun i x hi => ?_,fun i x v H' hi y => ?_,⟨vs,sq,by rw [rs.length];exact Nat.le_refl _⟩⟩
 ·obtain ⟨v,hv,_⟩ := rs.get hi
  exact ⟨vs,v,sq,hv⟩
 ·obtain ⟨e,y⟩ := y
  subst e
  obtain ⟨w,hw,rw'⟩ := rs.get hi
  have e2 := (y vs sq).symm.trans hw
  cases e2
  exact ⟨rw',hr,Kp.refl⟩
theorem qix {K : PySem.W.Frag} {p : Addr} {xs : List T} {vs : List V} {G0 : Gp} {H0 : Hp} (hr0 : HR K G0 H0) (sq0 : SqT K H0 p vs) (rs0 : Rps K H0 xs vs) : qic K (Itt K p) xs (fun _ => True) G0 H0 := by
 intro G H hr k _
 have sq := XY hr0 k sq0
 have rs := rs0.keep hr0 k
 refine ⟨fun i x hi => ?_,fun i x v H' hi y => ?_,⟨vs,sq,by rw [rs.length];exact Nat.le_refl _⟩⟩
 ·obtain ⟨v,hv,_⟩ := rs.get hi
  exact ⟨vs,v,sq,hv⟩
 ·obtain ⟨e,y⟩ := y
  subst e
  obtain ⟨w,hw,rw'⟩ := rs.get hi
  have e2 := (y vs sq).symm.trans hw
  cases e2
  exact ⟨rw',hr,Kp.refl⟩
theorem qmi (hl : E3 X l te) : I3 X tg l (WH te) := qlZ (qid hl) fun σ H R ⟨τ,G,r,rl,h,af⟩ => zA rl h fun x G1 h1 v H1 rx hr1 k1 rl1 => by
 cases x <;> try exact h1.elim
 case tup xs =>
  cases rx with
  | tup hs rs => exact ⟨_,rfl,.inr ⟨⟨_,hs⟩,af _ _ G1 h1 _ H1 hr1 k1 (qix hr1 hs rs)⟩⟩
 case ref p =>
  simp only at h1
  split at h1
  ·rename_i xs e0
   cases rx
   obtain ⟨vs,hs,rs⟩ := zZ hr1 e0
   exact ⟨_,rfl,.inl ⟨⟨_,hs⟩,af _ _ G1 h1 _ H1 hr1 k1 qjR⟩⟩
  ·exact h1.elim
def L5 (lo : Int) (n : Nat) : List T := (List.range n).map fun (i : Nat) => T.int (lo + (i : Int))
theorem qdA {K : PySem.W.Frag} {lo : Int} {n : Nat} {G0 : Gp} {H0 : Hp} : qic K (Itr lo n) (L5 lo n) (fun _ => True) G0 H0 := by
 intro G H hr k _
 have hl : (L5 lo n).length = n := by simp [L5]
 refine ⟨fun i x hi => ?_,fun i x v H' hi y => ?_,(show n ≤ (L5 lo n).length by rw [hl];exact Nat.le_refl n)⟩
 ·have := (List.getElem?_eq_some_iff.mp hi).1
  rw [hl] at this
  exact this
 ·obtain ⟨e,y⟩ := y
  subst e
  subst y
  have h1 := (List.getElem?_eq_some_iff.mp hi).1
  rw [hl] at h1
  unfold L5 at hi
  rw [List.getElem?_map,List.getElem?_range h1] at hi
  have e : T.int (lo + (i : Int)) = x := by simpa using hi
  subst e
  exact ⟨.int _,hr,Kp.refl⟩
def j0 (ta : TA3) : TI3 := fun τ G r => ta τ G fun xs G1 => match xs with
 | [.int j] => (-(2 ^ 62) ≤ j∧j < 2 ^ 62)∧r (L5 0 j.toNat) (fun _ => True) G1
 | [.int i,.int j] => (-(2 ^ 62) ≤ i∧i < 2 ^ 62∧-(2 ^ 62) ≤ j∧j < 2 ^ 62)∧r (L5 i (j - i).toNat) (fun _ => True) G1
 | _ => False
theorem qcg {p : Pos} (hg : Gl X "range") (hm : X.mg "range" = none) (ha : A3 X [a] t) (hs : starEach [a] X.env = [(false,eval a X.env)] := by rfl) (h1 : ∀ τ G q,t τ G q → t τ G fun xs G => q xs G∧xs.length = 1) : I3 X tg (.Call (.Name "range" p) [a] [] pos) (j0 t) :=
 qlZ (qaU hg hm ha hs) fun σ H R ⟨τ,G,r,rl,h,af⟩ => YL rl (h1 _ _ _ h) fun xs G1 h1 vs H1 rs hr1 k1 rl1 => by
  obtain ⟨h1,hl⟩ := h1
  simp only at h1
  split at h1
  ·obtain ⟨v,rfl,r1⟩ := LI rs
   cases r1
   exact ⟨_,rfl,h1.1.1,h1.1.2,af _ _ G1 h1.2 _ H1 hr1 k1 qdA⟩
  ·simp at hl
  ·exact h1.elim
theorem qb8 {p : Pos} (hg : Gl X "range") (hm : X.mg "range" = none) (ha : A3 X [a,b] t) (hs : starEach [a,b] X.env = [(false,eval a X.env),(false,eval b X.env)] := by rfl) (hs2 : starEach [b] X.env = [(false,eval b X.env)] := by rfl) (h1 : ∀ τ G q,t τ G q → t τ G fun xs G => q xs G∧xs.length = 2) : I3 X tg (.Call (.Name "range" p) [a,b] [] pos) (j0 t) :=
 qlZ (NT hg hm ha hs hs2) fun σ H R ⟨τ,G,r,rl,h,af⟩ => YL rl (h1 _ _ _ h) fun xs G1 h1 vs H1 rs hr1 k1 rl1 => by
  obtain ⟨h1,hl⟩ := h1
  simp only at h1
  split at h1
  ·simp at hl
  ·obtain ⟨v,u,rfl,r1,r2⟩ := qmd rs
   cases r1;cases r2
   exact ⟨_,_,rfl,h1.1,af _ _ G1 h1.2 _ H1 hr1 k1 qdA⟩
  ·exact h1.elim
def CF (stay : Gp → Prop) (g : TG3) (tb : TS3) (d : Ends3) : List T → St3 → Gp → Prop
 | [],τ,G => stay G∧d.nx τ G
 | x :: r,τ,G => stay G∧g x τ G fun τ2 G2 => tb { d with nx := CF stay g tb d r,ct := CF stay g tb d r,bk := d.nx } τ2 G2
def LN (wi : TI3) (g : TG3) (tb : TS3) : TS3 := fun d τ G => wi τ G fun items stay G1 => CF stay g tb d items τ G1
theorem qnp {iter : Expr} {body : List Stmt} {wi : TI3} {g : TG3} {tb : TS3} (hp : PassesOwn (model X.prog X.w) X.A X.env X.xe) (hc : X.calm = true) (hi : I3 X tg iter wi) (hg : G3 X tg g) (hb : B3 X body tb)
  (hs : ∀ x,foldedSetIterable iter X.env x = pure x := by intro _;rfl) : S3 X (.For tg iter body [] pos) (LN wi g tb) :=
 qbH (qi6 hp hc hi hg hb hs) fun D σ H ⟨τ,G,d,rl,h,af⟩ => by
  refine ⟨τ,G,_,rl,h,fun items stay G1 h1 J H1 hr1 k1 ok => ?_⟩
  refine ⟨fun i m σ' H' => m = items.length - i∧i ≤ items.length∧∃ τ' G',Rel X.K τ' G' σ' H'∧Kp G1 H1 G' H'∧CF stay g tb d (items.drop i) τ' G',⟨_,rfl,Nat.zero_le _,τ,G1,rl.next hr1 k1,Kp.refl,by simpa using h1⟩,?_⟩
  rintro i m σ' H' ⟨rfl,hi,τ',G',rl',k',h'⟩
  by_cases hlt : i < items.length
  ·rw [List.drop_eq_getElem_cons hlt] at h'
   obtain ⟨hst,h'⟩ := h'
   obtain ⟨go,yld,_⟩ := ok G' H' rl'.hp k' hst
   have hx : items[i]? = some items[i] := List.getElem?_eq_getElem hlt
   refine .inr ⟨go i _ hx,fun σ2 H2 => ∃ τ2 G2,Rel X.K τ2 G2 σ2 H2∧Kp G1 H1 G2 H2∧CF stay g tb d (items.drop (i + 1)) τ2 G2,fun σ2 H2 h2 => ⟨_,by omega,rfl,hlt,h2⟩,fun v H2 y => ?_⟩
   obtain ⟨rv,hr2,k2⟩ := yld i _ v H2 hx y
   have k3 : Kp G1 H1 G' H2 := k'.trans k2
   refine ⟨_,τ',G',_,rv,rl'.next hr2 k2,h',fun τ3 G3 h3 σ3 H3 rl3 k4 => ?_⟩
   have k5 : Kp G H G3 H3 := (k1.trans k3).trans k4
   refine ⟨τ3,G3,_,rl3,h3,⟨fun τ4 G4 h4 σ4 H4 rl4 k6 => ⟨τ4,G4,rl4,(k3.trans k4).trans k6,h4⟩,af.rt.back k5,af.nx.back k5,fun τ4 G4 h4 σ4 H4 rl4 k6 => ⟨τ4,G4,rl4,(k3.trans k4).trans k6,h4⟩⟩⟩
  ·have e : i = items.length := by omega
   subst e
   rw [List.drop_length] at h'
   obtain ⟨_,_,stop⟩ := ok G' H' rl'.hp k' h'.1
   exact .inl ⟨stop,af.nx τ' G' h'.2 σ' H' rl' (k1.trans k')⟩
theorem SH {stay : Gp → Prop} {g : TG3} {tb : TS3} {d : Ends3} (items : List T) (Pv : Nat → St3 → Gp → Prop) {τ : St3} {G : Gp} (h0 : Pv 0 τ G) (hst : ∀ i τ G,i ≤ items.length → Pv i τ G → stay G)
  (hs : ∀ i x τ G (nx : St3 → Gp → Prop),items[i]? = some x → Pv i τ G → (∀ τ G,Pv (i + 1) τ G → nx τ G) → g x τ G fun τ2 G2 => tb { d with nx := nx,ct := nx,bk := d.nx } τ2 G2)
  (hd : ∀ τ G,Pv items.length τ G → d.nx τ G) : CF stay g tb d items τ G := by
 have key : ∀ (r : List T) (i : Nat) τ G,items.drop i = r → i ≤ items.length → Pv i τ G → CF stay g tb d r τ G := by
  intro r
  induction r with
  | nil =>
   intro i τ G e hi p
   have : i = items.length := by have := congrArg List.length e;simp at this;omega
   subst this
   exact ⟨hst _ τ G hi p,hd τ G p⟩
  | cons x r ih =>
   intro i τ G e hi p
   have hl : i < items.length := by
    apply Classical.byContradiction
    intro z
    rw [List.drop_eq_nil_of_le (by omega)] at e
    cases e
   have e' := List.drop_eq_getElem_cons hl
   rw [e] at e'
   injection e' with e1 e2
   refine ⟨hst i τ G hi p,hs i x τ G _ (by rw [List.getElem?_eq_getElem hl,e1]) p fun τ2 G2 p2 => ih (i + 1) τ2 G2 e2.symm hl p2⟩
 exact key items 0 τ G (by simp) (Nat.zero_le _) h0
def EK (c : TT3) (tb : TS3) : TS3 := fun d τ G => ∃ W : Nat → St3 → Gp → Prop,(∃ m,W m τ G)∧∀ m τ G,W m τ G →
 c τ G fun b G1 => if b = true then ∃ N : St3 → Gp → Prop,(∀ τ' G',N τ' G' → ∃ m',m' < m∧W m' τ' G')∧tb { d with nx := N,ct := N,bk := d.nx } τ G1 else d.nx τ G1
theorem qgb {c : Expr} {body : List Stmt} {tc : TT3} {tb : TS3} (hp : PassesOwn (model X.prog X.w) X.A X.env X.xe) (hc : C3 X c tc) (hb : B3 X body tb) : S3 X (.While c body [] pos) (EK tc tb) :=
 qbH (qbK hp hc hb) fun D σ H ⟨τ,G,d,rl,⟨W,⟨m0,w0⟩,turn⟩,af⟩ => by
  refine ⟨fun m σ' H' => ∃ τ' G',Rel X.K τ' G' σ' H'∧Kp G H G' H'∧W m τ' G',⟨m0,τ,G,rl,Kp.refl,w0⟩,?_⟩
  rintro m σ' H' ⟨τ',G',rl',k',w'⟩
  refine W2 rl' (turn m τ' G' w') fun b G1 h1 H1 hr1 k1 rl1 => ?_
  cases b with
  | true =>
   rw [if_pos rfl] at h1 ⊢
   obtain ⟨N,hN,h1⟩ := h1
   refine ⟨fun σ2 H2 => ∃ τ2 G2,Rel X.K τ2 G2 σ2 H2∧Kp G H G2 H2∧N τ2 G2,fun σ2 H2 ⟨τ2,G2,r2,k2,n2⟩ => ?_,τ',G1,_,rl1,h1,⟨fun τ2 G2 h2 σ2 H2 r2 k2 => ⟨τ2,G2,r2,(k'.trans k1).trans k2,h2⟩,af.rt.back (k'.trans k1),af.nx.back (k'.trans k1),fun τ2 G2 h2 σ2 H2 r2 k2 => ⟨τ2,G2,r2,(k'.trans k1).trans k2,h2⟩⟩⟩
   obtain ⟨m',hm,w2⟩ := hN τ2 G2 n2
   exact ⟨m',hm,τ2,G2,r2,k2,w2⟩
  | false =>
   rw [if_neg Bool.false_ne_true] at h1 ⊢
   exact af.nx τ' G1 h1 σ' H1 rl1 (k'.trans k1)
abbrev Sp3 := List T → Gp → Q3 → Prop
def lSp (K : PySem.W.Frag) (sp : Sp3) : Sp := fun vs H Q _ => ∃ ts G q,HR K G H∧Rps K H ts vs∧sp ts G q∧Aft K G H q Q
def Fn3 (P : Program) (w : World) (K : PySem.W.Frag) (mg : Str → Option Value) (base : Heap) (k : Nat) (x : Str) (sp : Sp3) : Prop :=
 ∃ f fd ps,FnOk P w K mg base CX0 k f fd ps (lSp K sp)∧qW K fd ps []∧PySem.W.keepIn K (.ref f) = true∧mg x = some (.ref f)
theorem Fn3.mono {P : Program} {w : World} {K : PySem.W.Frag} {mg : Str → Option Value} {base : Heap} {j k : Nat} {x : Str} {sp : Sp3} (F : Fn3 P w K mg base j x sp) (h : j ≤ k) : Fn3 P w K mg base k x sp :=
 let ⟨f,fd,ps,a,b,c,d⟩ := F;⟨f,fd,ps,a.mono h,b,c,d⟩
theorem Fn3.imp {P : Program} {w : World} {K : PySem.W.Frag} {mg : Str → Option Value} {base : Heap} {k : Nat} {x : Str} {sp sp' : Sp3} (F : Fn3 P w K mg base k x sp) (h : ∀ ts G q,sp' ts G q → sp ts G q) : Fn3 P w K mg base k x sp' :=
 let ⟨f,fd,ps,a,b,c,d⟩ := F;⟨f,fd,ps,a.imp fun vs H Q E ⟨ts,G,q,h1,h2,h3,h4⟩ => ⟨ts,G,q,h1,h2,h _ _ _ h3,h4⟩,b,c,d⟩
theorem qlM {k : Nat} {x : Str} {p : Pos} {sp : Sp3} (F : Fn3 X.prog X.w X.K X.mg X.base k x sp) (hr : Room k X.A) (hg : Gl X x) (ha : A3 X (e :: es) t) (hdb : (x == ("__debug__" : Str)) = false := by decide)
  (he : starEach (e :: es) X.env = (false,eval e X.env) :: starEach es X.env := by rfl) (hpl : (backTo pos (starEach es X.env)).any (·.1) = false := by rfl) : E3 X (.Call (.Name x p) (e :: es) [] pos) (cb3 sp t) := by
 obtain ⟨f,fd,ps,F,b,kp,m⟩ := F
 refine WE (qfO F hr hg m kp b .nil qno ha hdb he hpl) fun σ H Q ⟨τ,G,q,rl,h,af⟩ => YL rl h fun xs G1 h1 vs H1 rs hr1 k1 rl1 => ?_
 rw [List.append_nil]
 exact ⟨xs,G1,q,hr1,rs,h1,af.back k1⟩
def qs (N : List Str) (ts : List T) : St3 := ts.map some ++ List.replicate (N.length - ts.length) none
theorem RY {K : PySem.W.Frag} {N : List Str} {G : Gp} {H : Hp} {ts : List T} {vs : List V} (hr : HR K G H) (rs : Rps K H ts vs) : Rel K (qs N ts) G (L2.ET N vs) H := by
 refine ⟨hr,by simp [qs,L2.ET,rs.length],fun i t e => ?_⟩
 unfold qs at e
 by_cases hi : i < ts.length
 ·rw [List.getElem?_append_left (by simpa using hi),List.getElem?_map] at e
  cases q : ts[i]? with
  | none => rw [q] at e;cases e
  | some z =>
   rw [q] at e
   have e' : z = t := by simpa using e
   subst e'
   obtain ⟨v,hv,r⟩ := rs.get q
   refine ⟨v,?_,r⟩
   unfold L2.ET
   rw [List.getElem?_append_left (by rw [List.length_map,← rs.length];exact hi),List.getElem?_map,hv]
   rfl
 ·rw [List.getElem?_append_right (by simpa using hi),List.getElem?_replicate] at e
  split at e <;> cases e
theorem qit {P : Program} {w : World} {K : PySem.W.Frag} {mg : Str → Option Value} {base : Heap} {x qual : Str} {st : Stmt} {f : Addr} {fd : FuncData} {N ps : List Str} {k : Nat} {sp : Sp3} {t3 : TS3} (F : Fun K x qual st f fd) (S : FnScope N ps (qh st)) (bd : qW K fd ps []) (hm : mg x = some (.ref f))
  (body : ∀ (cdv : Value) (A : Around) (outer : List Env) (s : Shared) (H : Hp) (E : XK),Room k (A.deeper (envOfC qual (qh st) s.heap.objs.size f cdv)) →
   B3 (qbF CX0 P w K mg base N qual (qh st) f cdv A outer s H E).nox (zV st) t3)
  (read : ∀ ts G q,sp ts G q → ts.length = ps.length∧t3 { nx := fun _ G' => q .non G',rt := q } (qs N ts) G) : Fn3 P w K mg base (k + 1) x sp := by
 refine ⟨f,fd,ps,F.ok S (fun vs H Q E ⟨ts,G,q,h1,h2,h3,h4⟩ => by rw [← h2.length];exact (read ts G q h3).1) fun cdv A outer s H vs Q E hr ⟨ts,G,q,h1,h2,h3,h4⟩ => ?_,bd,F.kp,hm⟩
 refine ⟨_,body cdv A outer s H E hr,qs N ts,G,_,RY h1 h2,(read ts G q h3).2,⟨fun τ' G' h' σ' H' rl' k' => h4 _ G' h' _ H' .non rl'.hp k',h4,fun _ _ z => z.elim,fun _ _ z => z.elim⟩⟩
def qd7 (xs : List T) : Option Bool := match xs with
 | [] => some true
 | .bl k :: r => (match qd7 r with | some j => some (k && j) | none => none)
 | _ => none
def qlS (xs : List T) : Option Bool := match xs with
 | [] => some false
 | .bl k :: r => (match qlS r with | some j => some (k || j) | none => none)
 | _ => none
theorem qb9 {P : Program} {w : World} {A : Around} {its : List Value} {ks : List Bool} (h : its = ks.map Value.bool) : TruthOf P w A (fun i v => its.toArray[i]? = some v) (fun i => ks.getD i true) := by
 intro i v s Q E hp hq
 subst h
 have hp' : ks[i]?.map Value.bool = some v := by simpa using hp
 cases e : ks[i]? with
 | none => rw [e] at hp';cases hp'
 | some k =>
  rw [e] at hp'
  cases hp'
  have : ks.getD i true = k := by rw [List.getD_eq_getElem?_getD,e];rfl
  have hq : Q (ks.getD i true) s := hq
  rw [this] at hq
  exact wpAny_truthy_bool hq
theorem W4 : ∀ {ks : List Bool} {us : List Value},zy (ks.map V.bl) us → us = ks.map Value.bool
 | [],_,r => by cases r;rfl
 | k :: ks,_,r => by
  cases r with
  | cons a b => rw [show _ = Value.bool k from a,W4 b];rfl
theorem qao (ks : List Bool) : ((List.range ks.length).all fun i => ks.getD i true) = ks.all id := by
 induction ks with
 | nil => rfl
 | cons k ks ih =>
  rw [List.length_cons,List.range_succ_eq_map,List.all_cons,List.all_map,List.all_cons]
  congr 1
theorem YK (hc : X.calm = true) : Z7 X (.builtin "all") (fun xs H Q => ∃ (p : Addr) (ks : List Bool),xs = [.ref p]∧SqL X.K H p (ks.map V.bl)∧Q (.bl (ks.all id)) H) := by
 intro pins s σ H xs us Q I r h
 obtain ⟨p,ks,rfl,hq,q⟩ := h
 obtain ⟨u,rfl,rp⟩ := X8 r
 cases (show u = Value.ref p from rp)
 obtain ⟨its,rv,pl,hz⟩ := I.list hq
 have hb := W4 rv
 have hlen : its.length = ks.length := by rw [hb];simp
 have hp : p < s.heap.objs.size := by obtain ⟨o,n,e,_⟩ := pl;exact Heap.lt_size e
 refine call_all_walk (wpAny_pyIter_list pl.isList ⟨s.heap.objs.size,_,_,_,_,_,fun i => ks.getD i true,rfl,Walks.list (A := X.A.in1) (show X.A.in1.handled = none from I.ok.hd hc) s.heap.objs.size p (Nat.ne_of_lt hp) its.toArray,⟨⟨_,Heap.get?_push_size _ rfl,rfl,rfl⟩,?_⟩,qb9 hb,fun h' tk hk => ?_⟩)
 ·obtain ⟨o,n,e,c,_,d⟩ := pl
  exact ⟨o,Heap.get?_push_of_some _ e,c,n,d⟩
 ·refine ⟨.bl _,H,?_,rfl,by rw [List.size_toArray,hlen,qao];exact q⟩
  exact I.kept (h' := h') (t' := tk) fun b o e => hk b o (by simp;exact Nat.ne_of_lt (Heap.lt_size e)) (Heap.get?_push_of_some _ e)
end
end L3
namespace L3
open PySem PySem.Spec PyProof.Rows L2
def WI (env : Env) : List (Str × NameKind) → List (Str × Addr) → List (Str × Addr)
 | [],cs => cs
 | (n,k) :: r,cs => if k = .free then WI env r ((n,(env.cells.lookup n).getD 0) :: cs) else WI env r cs
theorem ZE {scope : Scope} {env : Env} (h : ∀ y ∈ scope.names,y.2 = .free → ∃ c,env.cells.lookup y.1 = some c) : closureFor scope env = pure (WI env scope.names []) := by
 have key : ∀ (l : List (Str × NameKind)) (cs : List (Str × Addr)),(∀ y ∈ l,y.2 = .free → ∃ c,env.cells.lookup y.1 = some c) →
   (forIn l cs fun (x : Str × NameKind) (r : List (Str × Addr)) => if (x.2 == NameKind.free) = true then (do let a ← cellOf env x.1;pure (ForInStep.yield ((x.1,a) :: r))) else pure (ForInStep.yield r)) = (pure (WI env l cs) : Sem _) := by
  intro l
  induction l with
  | nil => intro cs _;rfl
  | cons y r ih =>
   intro cs hl
   obtain ⟨n,k⟩ := y
   rw [List.forIn_cons]
   by_cases hk : k = .free
   ·subst hk
    obtain ⟨c,hc⟩ := hl (n,.free) List.mem_cons_self rfl
    have e : cellOf env n = pure c := by unfold cellOf;rw [show List.lookup n env.cells = some c from hc]
    simp only [beq_self_eq_true,if_true]
    rw [e,pure_bind,pure_bind]
    show forIn r ((n,c) :: cs) _ = _
    rw [ih _ fun z hz => hl z (List.mem_cons_of_mem _ hz)]
    show _ = (pure (if NameKind.free = NameKind.free then WI env r ((n,(env.cells.lookup n).getD 0) :: cs) else WI env r cs) : Sem _)
    rw [if_pos rfl,show List.lookup n env.cells = some c from hc]
    rfl
   ·have hb : (k == NameKind.free) = false := by cases k <;> first | rfl | exact absurd rfl hk
    simp only [hb,Bool.false_eq_true,if_false]
    rw [pure_bind]
    show forIn r cs _ = _
    rw [ih _ fun z hz => hl z (List.mem_cons_of_mem _ hz)]
    show _ = (pure (if k = NameKind.free then WI env r ((n,(env.cells.lookup n).getD 0) :: cs) else WI env r cs) : Sem _)
    rw [if_neg hk]
 have := key scope.names [] h
 unfold closureFor
 refine Eq.trans ?_ this
 exact bind_pure (m := Sem) _
theorem VB {env : Env} : ∀ (l : List (Str × NameKind)) (cs : List (Str × Addr)) (x : Str) (c : Addr),(∀ y ∈ l,y.2 = .free → ∃ c,env.cells.lookup y.1 = some c) →
  (∀ x c,cs.lookup x = some c → env.cells.lookup x = some c) → (WI env l cs).lookup x = some c → env.cells.lookup x = some c
 | [],_,_,_,_,h,e => h _ _ e
 | (n,k) :: r,cs,x,c,hl,h,e => by
  unfold WI at e
  split at e
  ·rename_i hk
   refine VB r _ x c (fun y hy => hl y (List.mem_cons_of_mem _ hy)) (fun x c e => ?_) e
   rw [List.lookup_cons] at e
   split at e
   ·rename_i hx
    have hx' : x = n := by simpa using hx
    subst hx'
    obtain ⟨d,hd⟩ := hl (x,k) List.mem_cons_self hk
    have hd : List.lookup x env.cells = some d := hd
    rw [hd] at e ⊢
    exact e
   ·exact h _ _ e
  ·exact VB r cs x c (fun y hy => hl y (List.mem_cons_of_mem _ hy)) h e
theorem EA {env : Env} : ∀ (l : List (Str × NameKind)) (cs : List (Str × Addr)) (x : Str),((x,NameKind.free) ∈ l ∨ ∃ c,cs.lookup x = some c) → ∃ c,(WI env l cs).lookup x = some c
 | [],_,_,h => by
  rcases h with h | h
  ·simp at h
  ·exact h
 | (n,k) :: r,cs,x,h => by
  unfold WI
  have put : ∀ d : Addr,(x = n ∨ ∃ c,cs.lookup x = some c) → ∃ c,((n,d) :: cs).lookup x = some c := fun d z => by
   rw [List.lookup_cons]
   cases hx : x == n with
   | true => exact ⟨d,rfl⟩
   | false =>
    rcases z with z | z
    ·rw [z] at hx;simp at hx
    ·exact z
  split
  ·rename_i hk
   refine EA r _ x ?_
   rcases h with h | h
   ·rcases List.mem_cons.mp h with e | e
    ·cases e;exact .inr (put _ (.inl rfl))
    ·exact .inl e
   ·exact .inr (put _ (.inr h))
  ·rename_i hk
   refine EA r _ x ?_
   rcases h with h | h
   ·rcases List.mem_cons.mp h with e | e
    ·cases e;exact absurd rfl hk
    ·exact .inl e
   ·exact .inr h
theorem CL {env : Env} : ∀ (l : List (Str × NameKind)) (cs : List (Str × Addr)) (x : Str) (c : Addr),(WI env l cs).lookup x = some c → (x,NameKind.free) ∈ l ∨ cs.lookup x = some c
 | [],_,_,_,e => .inr e
 | (n,k) :: r,cs,x,c,e => by
  unfold WI at e
  split at e
  ·rename_i hk
   rcases CL r _ x c e with z | z
   ·exact .inl (List.mem_cons_of_mem _ z)
   ·rw [List.lookup_cons] at z
    split at z
    ·rename_i hx
     have hx' : x = n := by simpa using hx
     subst hx';subst hk
     exact .inl List.mem_cons_self
    ·exact .inr z
  ·rcases CL r cs x c e with z | z
   ·exact .inl (List.mem_cons_of_mem _ z)
   ·exact .inr z
theorem UQ {α : Type} : ∀ (xs ys : List (Str × α)) (x : Str),(xs ++ ys).lookup x = (match xs.lookup x with | some c => some c | none => ys.lookup x)
 | [],ys,x => rfl
 | (n,c) :: xs,ys,x => by
  rw [List.cons_append,List.lookup_cons,List.lookup_cons]
  cases x == n with
  | true => rfl
  | false => exact UQ xs ys x
theorem zQ : ∀ (l : List (Str × NameKind)) {n : Nat} {acc : List (Str × Addr)},cellsFrom n l acc = cellsFrom n l [] ++ acc
 | [],_,_ => rfl
 | (x,k) :: r,n,acc => by
  unfold cellsFrom
  split
  ·rw [zQ r (acc := (x,n) :: acc),zQ r (acc := [(x,n)]),List.append_assoc];rfl
  ·exact zQ r
theorem ZF : ∀ (l : List (Str × NameKind)) (n : Nat) (acc : List (Str × Addr)) (x : Str) (c : Addr),(x,c) ∈ cellsFrom n l acc → (x,NameKind.cell) ∈ l ∨ (x,c) ∈ acc
 | [],_,_,_,_,h => .inr h
 | (y,k) :: r,n,acc,x,c,h => by
  unfold cellsFrom at h
  split at h
  ·rename_i hk
   have hk : k = .cell := by simpa using hk
   rcases ZF r _ _ x c h with z | z
   ·exact .inl (List.mem_cons_of_mem _ z)
   ·rcases List.mem_cons.mp z with e | e
    ·cases e;subst hk;exact .inl List.mem_cons_self
    ·exact .inr e
  ·rcases ZF r _ _ x c h with z | z
   ·exact .inl (List.mem_cons_of_mem _ z)
   ·exact .inr z
theorem jz : ∀ (l : List (Str × NameKind)) (n : Nat) (acc : List (Str × Addr)) (x : Str),((x,NameKind.cell) ∈ l ∨ ∃ c,acc.lookup x = some c) → ∃ c,(cellsFrom n l acc).lookup x = some c
 | [],_,_,_,h => by
  rcases h with h | h
  ·simp at h
  ·exact h
 | (y,k) :: r,n,acc,x,h => by
  unfold cellsFrom
  have put : (x = y ∨ ∃ c,acc.lookup x = some c) → ∃ c,((y,n) :: acc).lookup x = some c := fun z => by
   rw [List.lookup_cons]
   cases hx : x == y with
   | true => exact ⟨n,rfl⟩
   | false =>
    rcases z with z | z
    ·rw [z] at hx;simp at hx
    ·exact z
  split
  ·refine jz r _ _ x ?_
   rcases h with h | h
   ·rcases List.mem_cons.mp h with e | e
    ·cases e;exact .inr (put (.inl rfl))
    ·exact .inl e
   ·exact .inr (put (.inr h))
  ·rename_i hk
   refine jz r _ _ x ?_
   rcases h with h | h
   ·rcases List.mem_cons.mp h with e | e
    ·cases e;exact absurd rfl hk
    ·exact .inl e
   ·exact .inr h
theorem jv {M : Model} {A : Around} {E : Value → Shared → Prop} {s : Shared} {scope : Scope} {globals : Addr} {cl : List (Str × Addr)} {qual : Str} {env : Env} {Q : Env → Shared → Prop}
  (hQ : ∀ h₁ : Heap,h₁.Ns s.heap.objs.size (fun _ => none) → (∀ b o,s.heap.get? b = some o → h₁.get? b = some o) → CellsOk h₁ (s.heap.objs.size + 1) (cellsFrom (s.heap.objs.size + 1) scope.names []) → Q (newEnv scope s.heap.objs.size globals (cellsFrom (s.heap.objs.size + 1) scope.names cl) qual none .none (some env) builtinsNs) { s with heap := h₁ }) :
  wpAny M A (newFunctionEnv scope globals cl [] qual none .none (some env)) Q E s := by
 simp only [newFunctionEnv,Option.isSome_some,if_true]
 refine wpAny_bind (wpAny_alloc ?_)
 refine wpAny_bind (wpAny_layCells _ (fun name kind cells => by cases hkc : kind == NameKind.cell <;> simp [hkc]) _ _ _ _ ?_)
 have ok := cellsFrom_ok scope.names (s.heap.push { cls := .type "dict",data := .dict #[] }) (s.heap.objs.size + 1) [] ⟨fun _ _ hm => (nomatch hm),List.Pairwise.nil⟩ (by rw [Heap.size_push];exact Nat.le_refl _)
 rw [Heap.size_push] at ok
 rw [show ({ s with heap := s.heap.push { cls := .type "dict",data := .dict #[] } } : Shared).heap.objs.size = s.heap.objs.size + 1 from Heap.size_push ..]
 rw [List.forIn_nil]
 refine wpAny_bind (wpAny_pure (wpAny_pure ?_))
 exact hQ _ ((Heap.Ns.new s.heap (.type "dict")).keeps (pushCells_keeps _ _)) (fun b o e => pushCells_keeps _ _ b o (Heap.get?_push_of_some _ e)) ok
def qk (X : Cx) (N' : List Str) (scope : Scope) (s : Shared) (H : Hp) (fp : List Addr) : Cx where
 prog := X.prog
 w := X.w
 K := X.K
 mg := X.mg
 base := X.base
 A := X.A
 N := N'
 s₀ := s
 H₀ := H
 env := compEnvC scope (cellsFrom (s.heap.objs.size + 1) scope.names (WI X.env scope.names [])) s.heap.objs.size X.env
 outer := X.stack
 stack := X.stack
 ex := fp
 fn := fun x => scope.names.lookup x == some .cell
 calm := true
 pn := []
 xe := fun _ _ => False
def NI (outer inner : Scope) : Bool := (inner.kind == .function) && inner.names.all fun y =>
 (y.2 != .cell || inner.names.lookup y.1 == some .cell) && (y.2 != .local || inner.names.lookup y.1 == some .local) && (y.2 != .free || (inner.names.lookup y.1 == some .free && (outer.names.lookup y.1 == some .cell || outer.names.lookup y.1 == some .free)))
def cap {α : Type} (m : List (Option Nat)) (σ : List (Option α)) : List (Option α) := m.map fun o => match o with | some j => (σ[j]?).join | none => none
def VE (N N' : List Str) (scope : Scope) (m : List (Option Nat)) : Bool := (m.length == N'.length) && (m.zip N').all fun p => match p.1 with
 | none => true
 | some j => N[j]? == some p.2 && scope.names.lookup p.2 == some .free
theorem qag {α : Type} {m : List (Option Nat)} {σ : List (Option α)} {i : Nat} {v : α} (h : (cap m σ)[i]? = some (some v)) : ∃ j,m[i]? = some (some j)∧σ[j]? = some (some v) := by
 unfold cap at h
 rw [List.getElem?_map] at h
 cases e : m[i]? with
 | none => rw [e] at h;cases h
 | some o =>
  rw [e] at h
  cases o with
  | none => cases h
  | some j =>
   refine ⟨j,rfl,?_⟩
   have h' : (σ[j]?).join = some v := by simpa using h
   cases q : σ[j]? with
   | none => rw [q] at h';cases h'
   | some z => rw [q] at h';exact congrArg some h'
theorem qbc {N N' : List Str} {scope : Scope} {m : List (Option Nat)} (h : VE N N' scope m = true) {i j : Nat} {x : Str} (e : m[i]? = some (some j)) (hx : N'[i]? = some x) : N[j]? = some x∧scope.names.lookup x = some .free := by
 unfold VE at h
 rw [Bool.and_eq_true] at h
 have hm : (some j,x) ∈ m.zip N' := List.mem_of_getElem? (i := i) (List.getElem?_zip_eq_some.mpr ⟨e,hx⟩)
 have := List.all_eq_true.mp h.2 _ hm
 simp only [Bool.and_eq_true,beq_iff_eq] at this
 exact this
theorem qfW {N N' : List Str} {scope : Scope} {m : List (Option Nat)} {α : Type} (σ : List (Option α)) (h : VE N N' scope m = true) : (cap m σ).length = N'.length := by
 unfold VE at h
 rw [Bool.and_eq_true] at h
 unfold cap
 rw [List.length_map]
 simpa using h.1
structure ScFacts (outer inner : Scope) : Prop where
 kind : inner.kind = .function
 own : ∀ y ∈ inner.names,y.2 = .cell → inner.names.lookup y.1 = some .cell
 loc : ∀ y ∈ inner.names,y.2 = .local → inner.names.lookup y.1 = some .local
 free : ∀ y ∈ inner.names,y.2 = .free → inner.names.lookup y.1 = some .free∧(outer.names.lookup y.1 = some .cell ∨ outer.names.lookup y.1 = some .free)
theorem V8 {outer inner : Scope} (h : NI outer inner = true) : ScFacts outer inner := by
 unfold NI at h
 rw [Bool.and_eq_true] at h
 have ha := List.all_eq_true.mp h.2
 refine ⟨by simpa using h.1,fun y hy e => ?_,fun y hy e => ?_,fun y hy e => ?_⟩
 ·have := ha y hy
  rw [e] at this
  simpa using this
 ·have := ha y hy
  rw [e] at this
  simpa using this
 ·have := ha y hy
  rw [e] at this
  simpa using this
theorem QF {scope : Scope} {env : Env} {x : Str} {k : NameKind} (h : (relabel scope env).names.lookup x = some k) : scope.names.lookup x = some k ∨ (k = .cell∧scope.names.lookup x = some .free) := by
 have key : ∀ (l : List (Str × NameKind)),(l.map fun (n,k) => if (k == NameKind.free && env.scope.kind == .function && env.kindOf n == some .cell) then (n,NameKind.cell) else (n,k)).lookup x = some k → l.lookup x = some k ∨ (k = .cell∧l.lookup x = some .free) := by
  intro l
  induction l with
  | nil => intro h;simp at h
  | cons y r ih =>
   intro h
   obtain ⟨n,j⟩ := y
   rw [List.map_cons] at h
   dsimp only at h
   by_cases hc : (j == NameKind.free && env.scope.kind == .function && env.kindOf n == some .cell) = true
   ·rw [if_pos hc,List.lookup_cons] at h
    rw [List.lookup_cons]
    cases hx : x == n with
    | true =>
     rw [hx] at h
     have hk : NameKind.cell = k := by simpa using h
     have hj : j = .free := by simp only [Bool.and_eq_true,beq_iff_eq] at hc;exact hc.1.1
     exact .inr ⟨hk.symm,by rw [hj]⟩
    | false => rw [hx] at h;exact ih h
   ·rw [if_neg hc,List.lookup_cons] at h
    rw [List.lookup_cons]
    cases hx : x == n with
    | true => rw [hx] at h;exact .inl h
    | false => rw [hx] at h;exact ih h
 exact key scope.names h
def PF (X : Cx) (ifs : List Expr) (t : TT) : Prop :=
 ∀ (pins : List (Addr × Obj)) (s : Shared) (σ : L2.St) (H : Hp) (Q : Bool → Hp → Prop),Inv X pins σ H s → t σ H Q →
  wpAny (model X.prog X.w) X.A (forIn ifs true fun c r => if r = true then do let ok ← isTrue c X.env (eval c X.env);pure (ForInStep.yield ok) else pure (ForInStep.yield r)) (TP X pins σ Q) X.xe s
theorem qki {X : Cx} : PF X [] (fun _ H Q => Q true H) := fun _ _ _ H _ I h => wpAny_tests_nil ⟨H,I,h⟩
theorem qkG {X : Cx} {c : Expr} {t : TT} (h : PT X c t) : PF X [c] t := fun pins s σ H Q I q => wpAny_tests_one (h pins s σ H Q I q)
section
variable {X : Cx} {pins : List (Addr × Obj)} {σ : L2.St} {H : Hp} {s : Shared}
theorem XI {N' : List Str} {scope : Scope} {fp : List Addr} {m : List (Option Nat)} {h1 : Heap} {mm : Str → Option Value} (hc : X.calm = true) (I : Inv X pins σ H s) (sc : ScFacts X.env.scope scope) (hcap : VE X.N N' scope m = true)
  (hfp : ∀ b ∈ fp,C9 X pins H b) (hob : ∀ b ∈ fp,∃ o,s.heap.get? b = some o) (hns : h1.Ns s.heap.objs.size mm) (hk : ∀ b o,s.heap.get? b = some o → h1.get? b = some o) (hown : CellsOk h1 (s.heap.objs.size + 1) (cellsFrom (s.heap.objs.size + 1) scope.names [])) :
  Inv (qk X N' scope s H fp) [] (cap m σ) H { s with heap := h1 } := by
 have hcl : ∀ y ∈ scope.names,y.2 = .free → ∃ c,X.env.cells.lookup y.1 = some c := fun y hy e => by
  rcases (sc.free y hy e).2 with z | z
  ·exact I.ok.has y.1 (.inl z)
  ·exact I.ok.has y.1 (.inr z)
 have cl : ∀ x c,(WI X.env scope.names []).lookup x = some c → X.env.cells.lookup x = some c := fun x c e => VB scope.names [] x c hcl (fun _ _ z => by simp at z) e
 have clt : ∀ x c,(WI X.env scope.names []).lookup x = some c → c < s.heap.objs.size := fun x c e => by
  obtain ⟨v,q⟩ := I.cell x c (cl x c e)
  exact q.lt
 -- a cell of the block: its own,or one from around
 have cs : ∀ x c,(cellsFrom (s.heap.objs.size + 1) scope.names (WI X.env scope.names [])).lookup x = some c → ((x,c) ∈ cellsFrom (s.heap.objs.size + 1) scope.names []∧s.heap.objs.size + 1 ≤ c∧h1.IsCell c none) ∨ (WI X.env scope.names []).lookup x = some c := fun x c e => by
  rw [zQ,UQ] at e
  cases q : (cellsFrom (s.heap.objs.size + 1) scope.names []).lookup x with
  | none => rw [q] at e;exact .inr e
  | some d =>
   rw [q] at e
   cases e
   have mem := PySem.mem_of_lookup q
   exact .inl ⟨mem,(hown.empty x _ mem).2,(hown.empty x _ mem).1⟩
 have fpne : ∀ b ∈ fp,b ≠ s.heap.objs.size := fun b hb => let ⟨o,e⟩ := hob b hb;Nat.ne_of_lt (Heap.lt_size e)
 refine ⟨⟨I.ok.mod,sc.kind,I.ok.glob,I.ok.blt,Nat.le_refl _,fun x y c e1 e2 => ?_,fun x hx => ?_,fun x c hf e => ?_,fun _ => I.ok.hd hc,I.ok.frames,.inl rfl,fun b hb => ⟨fpne b hb,fun x c e => ?_⟩,I.bs,Nat.le_trans I.ok.bsz I.sz,fun b o e hb => ?_,fun b hb z => ?_,I.stack,I.stkFree⟩,
  rfl,I.bare,Un.kept hk,⟨mm,hns,fun i x v e1 e2 e3 => ?_⟩,fun x c e => ?_,I.fresh,fun x c e => ?_,fun p hp => absurd (show p ∈ ([] : List (Addr × Obj)) from hp) (by simp),I.hok.kept hk,qfW σ hcap⟩
 ·rcases cs x c e1 with ⟨m1,l1,_⟩ | z1 <;> rcases cs y c e2 with ⟨m2,l2,_⟩ | z2
  ·exact PySem.name_of_addr hown.apart m1 m2
  ·exact absurd (clt y c z2) (Nat.not_lt.mpr (Nat.le_trans (Nat.le_succ _) l1))
  ·exact absurd (clt x c z1) (Nat.not_lt.mpr (Nat.le_trans (Nat.le_succ _) l2))
  ·exact I.ok.inj x y c (cl x c z1) (cl y c z2)
 ·have hx : (relabel scope X.env).names.lookup x = some .cell ∨ (relabel scope X.env).names.lookup x = some .free := hx
  have hf : scope.names.lookup x = some .cell ∨ scope.names.lookup x = some .free := by
   rcases hx with z | z
   ·rcases QF z with q | ⟨_,q⟩
    ·exact .inl q
    ·exact .inr q
   ·rcases QF z with q | ⟨q,_⟩
    ·exact .inr q
    ·cases q
  show ∃ c,(cellsFrom (s.heap.objs.size + 1) scope.names (WI X.env scope.names [])).lookup x = some c
  rcases hf with hf | hf
  ·exact jz scope.names _ _ x (.inl (PySem.mem_of_lookup hf))
  ·exact jz scope.names _ _ x (.inr (EA scope.names [] x (.inl (PySem.mem_of_lookup hf))))
 ·have hf : scope.names.lookup x = some .cell := by simpa [qk] using hf
  rcases cs x c e with ⟨_,l1,_⟩ | z1
  ·exact Nat.le_trans (Nat.le_succ _) l1
  ·rcases CL scope.names [] x c z1 with q | q
   ·rw [(sc.free _ q rfl).1] at hf;cases hf
   ·simp at q
 ·rcases cs x c e with ⟨_,l1,_⟩ | z1
  ·obtain ⟨o,eo⟩ := hob b hb
   exact Nat.ne_of_gt (Nat.lt_of_lt_of_le (Heap.lt_size eo) (Nat.le_trans (Nat.le_succ _) l1))
  ·exact (hfp b hb).2.2.2.2.1 x c (cl x c z1)
 ·rcases (hfp b hb).2.2.2.1 with z | z
  ·exact I.ok.noex b o e z
  ·exact absurd (Nat.lt_of_lt_of_le (Heap.lt_size e) (Nat.le_trans I.ok.bsz z)) (Nat.lt_irrefl _)
 ·rcases List.mem_cons.mp (I.stkSub b z) with q | q
  ·exact (hfp b hb).2.1 q
  ·exact (hfp b hb).2.2.1 q
 ·obtain ⟨j,ej,es⟩ := qag e2
  obtain ⟨hN,hfr⟩ := qbc hcap ej e1
  have mem := PySem.mem_of_lookup hfr
  have ho := (sc.free _ mem rfl).2
  obtain ⟨m0,hn0,hl0⟩ := I.loc
  obtain ⟨u,ru,lk⟩ := hl0 j x v hN es (ho.elim (fun z => .inr (.inl z)) fun z => .inr (.inr z))
  refine ⟨u,ru,.inr ⟨?_,?_⟩⟩
  ·rcases e3 with z | z | z
   ·rcases QF z with q | ⟨q,_⟩
    ·rw [hfr] at q;cases q
    ·cases q
   ·exact .inl z
   ·exact .inr z
  ·rcases lk with ⟨z,_⟩ | ⟨_,c,hc',hcell⟩
   ·have z : X.env.scope.names.lookup x = some .local := z
    rcases ho with q | q <;> (rw [z] at q;cases q)
   ·obtain ⟨c',hc2⟩ := EA (env := X.env) scope.names [] x (.inl mem)
    have e := cl x c' hc2
    rw [hc'] at e
    cases e
    obtain ⟨o,eo,d⟩ := hcell
    refine ⟨c,?_,o,hk c o eo,d⟩
    show (cellsFrom (s.heap.objs.size + 1) scope.names (WI X.env scope.names [])).lookup x = some c
    rw [zQ,UQ]
    cases q : (cellsFrom (s.heap.objs.size + 1) scope.names []).lookup x with
    | none => exact hc2
    | some d =>
     rcases ZF scope.names _ [] x d (PySem.mem_of_lookup q) with z | z
     ·rw [sc.own _ z rfl] at hfr;cases hfr
     ·simp at z
 ·rcases cs x c e with ⟨_,_,z⟩ | z1
  ·exact ⟨none,z⟩
  ·obtain ⟨v,o,eo,d⟩ := I.cell x c (cl x c z1)
   exact ⟨v,o,hk c o eo,d⟩
 ·rcases cs x c e with ⟨_,l1,_⟩ | z1
  ·exact I.hok.fresh (Nat.le_trans (Nat.le_succ _) l1)
  ·exact I.freeC x c (cl x c z1)
theorem UU {N' : List Str} {scope : Scope} {fp : List Addr} {pins' : List (Addr × Obj)} {σ' : L2.St} {H' : Hp} {s' : Shared} {h2 : Heap} (I : Inv X pins σ H s) (hfp : ∀ b ∈ fp,C9 X pins H b) (J : Inv (qk X N' scope s H fp) pins' σ' H' s')
  (sb : Heap.SameBut s.heap.objs.size s'.heap h2) : Inv X pins σ H' { s' with heap := h2 } := by
 have ne : ∀ b o,s.heap.get? b = some o → b ≠ s.heap.objs.size := fun b o e => Nat.ne_of_lt (Heap.lt_size e)
 have g : ∀ b,b ≠ s.heap.objs.size → h2.get? b = s'.heap.get? b := fun b hb => sb.2 b hb
 have hn : H' s.heap.objs.size = none := J.free
 have u : Un (frs X.stack) fp H H' s.heap s'.heap := J.base
 refine I.call' (s' := { s' with heap := h2 }) J.os ⟨fun b o e n hb hx => ?_,fun b o e n hb hx => ?_,u.free,fun b o e hx => ?_,u.tups,u.frzs,u.tbls⟩ (fun a o e => ?_) J.bare fun b hb => ⟨(hfp b hb).2.2.2.1,(hfp b hb).2.1,(hfp b hb).2.2.2.2.1,(hfp b hb).2.2.2.2.2⟩
 ·show h2.get? b = _
  rw [g b (ne b o e)];exact u.keep b o e n hb hx
 ·show ∃ sl,h2.get? b = _
  rw [g b (ne b o e)];exact u.slot b o e n hb hx
 ·show ∃ o',h2.get? b = _
  rw [g b (ne b o e)];exact u.there b o e hx
 ·refine (J.hok a o e).stay (fun b v hb q => ?_) (fun _ q => q) fun _ _ q => q
  have hb' : b ≠ s.heap.objs.size := by
   intro z
   subst z
   rcases hb with z | z
   ·rw [← z] at e;rw [hn] at e;cases e
   ·rw [hn] at z;cases z
  rw [g b hb'];exact q
end
end L3
namespace L3
open PySem PySem.Spec PyProof.Rows L2
def tLC (wi : TI) (g : TG) (tif : TT) (te : TE) (m : List (Option Nat)) : TE := fun σ H Q => wi σ H fun J H1 => ∀ D,H1 D = none →
 ∃ W : Nat → Nat → L2.St → Hp → Prop,(∃ n,W 0 n (cap m σ) (upd H1 D (.lst [])))∧∀ i n σ H,W i n σ H →
  (J.stop i H∧Q (.ref D) H) ∨ (J.go i H∧∀ x H',J.yld i H x H' → g x σ H' fun σ2 H2 => tif σ2 H2 fun k H3 =>
   if k = true then te σ2 H3 fun y H4 => ∃ zs,H4 D = some (.lst zs)∧zs.length < sizeLine∧∃ n',n' < n∧W (i + 1) n' σ2 (upd H4 D (.lst (zs ++ [y])))
   else ∃ n',n' < n∧W (i + 1) n' σ2 H3)
section
variable {X : Cx}
theorem qni {elt tg iter : Expr} {ifs : List Expr} {scope : Scope} {pos : Pos} {N' : List Str} {m : List (Option Nat)} {wi : TI} {g : TG} {tif : TT} {te : TE} (hc : X.calm = true) (hi : PI X tg iter wi)
  (hg : ∀ s H fp,PG (qk X N' scope s H fp) tg g) (hf : ∀ s H fp,PF (qk X N' scope s H fp) ifs tif) (he : ∀ s H fp,PE (qk X N' scope s H fp) elt te)
  (hsc : NI X.env.scope scope = true) (hcap : VE X.N N' scope m = true) (hs : ∀ x,foldedSetIterable iter X.env x = pure x := by intro _;rfl) :
  PE X (.ListComp elt [⟨tg,iter,ifs,0⟩] scope pos) (tLC wi g tif te m) := by
 intro pins s σ H Q I h
 have sc := V8 hsc
 have hcl : ∀ y ∈ scope.names,y.2 = .free → ∃ c,X.env.cells.lookup y.1 = some c := fun y hy e => by
  rcases (sc.free y hy e).2 with z | z
  ·exact I.ok.has y.1 (.inl z)
  ·exact I.ok.has y.1 (.inr z)
 rw [eval_ListComp]
 refine wpAny_comprehension_free (use := none) (g := ⟨tg,iter,ifs,0⟩) (gs := []) rfl hs (ZE hcl) sc.kind sc.loc ?_
 show wpAny _ _ (eval iter X.env) _ _ s
 refine thn (hi pins s σ H _ I h) fun v s1 h1 => thn h1 fun itv s2 h2 => ?_
 obtain ⟨it,fp,tn,J,H2,rfl,I2,T,st2,f2,hW⟩ := h2
 refine wpAny_newObj_type ?_
 have hD : H2 s2.heap.objs.size = none := I2.fresh
 obtain ⟨W,⟨n0,w0⟩,turn⟩ := hW _ hD
 generalize hDe : s2.heap.objs.size = D at *
 have I3 : Inv X pins σ (upd H2 D (.lst [])) { s2 with heap := s2.heap.push { cls := .type "list",dict := none,data := .seq ([] : List Value).toArray } } := by
  subst hDe
  exact I2.laid (t' := s2.toks) (fun b u e => Heap.get?_push_of_some _ e) (Nat.le_refl _) ⟨Nat.zero_le _,[],0,.nil,Heap.get?_push_size _ rfl⟩
 have ob2 := T.obj 0 _ st2
 have ob3 : ∀ b ∈ fp,∃ o,(s2.heap.push { cls := .type "list",dict := none,data := .seq ([] : List Value).toArray }).get? b = some o := fun b hb => let ⟨o,e,_⟩ := ob2 b hb;⟨o,Heap.get?_push_of_some _ e⟩
 have f3 : ∀ b ∈ fp,C9 X pins (upd H2 D (.lst [])) b := fun b hb => by
  obtain ⟨o,e,_⟩ := ob2 b hb
  have : b ≠ D := by rw [← hDe];exact Nat.ne_of_lt (Heap.lt_size e)
  exact ⟨by rw [qI this];exact (f2 b hb).1,(f2 b hb).2⟩
 have k23 : ∀ b o,s2.heap.get? b = some o → (s2.heap.push { cls := .type "list",dict := none,data := .seq ([] : List Value).toArray }).get? b = some o := fun b o e => Heap.get?_push_of_some _ e
 generalize hH3 : upd H2 D (.lst []) = H3 at *
 generalize hs3 : ({ s2 with heap := s2.heap.push { cls := .type "list",dict := none,data := .seq ([] : List Value).toArray } } : Shared) = s3 at *
 have ob3 : ∀ b ∈ fp,∃ o,s3.heap.get? b = some o := by rw [← hs3];exact ob3
 have k23 : ∀ b o,s2.heap.get? b = some o → s3.heap.get? b = some o := by rw [← hs3];exact k23
 refine jv fun h₁ hns hk hown => ?_
 have I4 : Inv (qk X N' scope s3 H3 fp) [] (cap m σ) H3 { s3 with heap := h₁ } := XI hc I3 sc hcap f3 ob3 hns hk hown
 have tn4 : tn 0 h₁ := T.keep _ _ _ st2 fun b hb o e => hk b o (k23 b o e)
 have fr4 : ∀ b ∈ fp,H3 b = none := fun b hb => (f3 b hb).1
 have stat : ∀ {H' : Hp},(∀ b ∈ fp,H' b = none) → ∀ b ∈ fp,C9 (qk X N' scope s3 H3 fp) [] H' b := fun hn b hb => by
  refine ⟨hn b hb,I4.ok.exf b hb |>.1,I4.ok.exfs b hb,.inl hb,fun x c e => (I4.ok.exf b hb).2 x c e,fun p hp => absurd (show p ∈ ([] : List (Addr × Obj)) from hp) (by simp)⟩
 show codeAny (model X.prog X.w) X.A (.compStart (.ListComp elt [⟨tg,iter,ifs,0⟩] scope pos) 0 (.ref it) (.ref D) (qk X N' scope s3 H3 fp).env) (compPost (model X.prog X.w) X.A X.xe none (EP X pins σ Q) (.ref D) s3.heap.objs.size) { s3 with heap := h₁ }
 have loop : codeAny (model X.prog X.w) X.A (.compLoop (.ListComp elt [⟨tg,iter,ifs,0⟩] scope pos) 0 (.ref it) (.ref D) (qk X N' scope s3 H3 fp).env) (compPost (model X.prog X.w) X.A X.xe none (EP X pins σ Q) (.ref D) s3.heap.objs.size) { s3 with heap := h₁ } := by
  refine codeAny_loop rfl (fun n s' => ∃ i σ' H',Inv (qk X N' scope s3 H3 fp) [] σ' H' s'∧tn i s'.heap∧(∀ b ∈ fp,H' b = none)∧W i n σ' H') (fun n s' hI => ?_) n0 ⟨0,cap m σ,H3,I4,tn4,fr4,w0⟩
  show wpAny _ X.A ((compTurn (.ListComp elt [⟨tg,iter,ifs,0⟩] scope pos) 0 (.ref it) (.ref D) (qk X N' scope s3 H3 fp).env).onRaise (fun x => do noteFrame x (qk X N' scope s3 H3 fp).env;theTreesLotGoes x)) _ _ s'
  refine wpAny_noted ?_
  rw [compTurn_list]
  refine wpAny_bind (wpAny_standAt (wpAny_bind ?_))
  obtain ⟨i,σ5,H5,I5,st5,fr5,w5⟩ := hI
  rcases turn i n σ5 H5 w5 with ⟨stop,q⟩ | ⟨go,step⟩
  ·refine thn (T.done (qk X N' scope s3 H3 fp) rfl rfl rfl rfl i [] s' σ5 H5 _ I5 (stat fr5) st5 stop) fun r s6 ⟨hr,I6⟩ => ?_
   subst hr
   refine wpAny_pure ?_
   obtain ⟨mm,hn6,_⟩ := I6.loc
   exact ⟨mm,hn6,fun h' sb => ⟨.ref D,H5,UU I3 f3 I6 sb,rfl,q⟩⟩
  ·refine thn (T.item (qk X N' scope s3 H3 fp) rfl rfl rfl rfl i [] s' σ5 H5 _ I5 (stat fr5) st5 go) fun r s6 ⟨u,hr,h6⟩ => ?_
   subst hr
   refine wpAny_bind (thn h6 fun _ s7 ⟨x,H7,I7,r7,y7,st7,fr7⟩ => ?_)
   have I7' := I7.pinned (stat fr7) (T.obj _ _ st7)
   have again : ∀ {σ8 : L2.St} {H8 : Hp} {s8 : Shared},Inv (qk X N' scope s3 H3 fp) ([] ++ UV fp s7.heap) σ8 H8 s8 → (∃ n',n' < n∧W (i + 1) n' σ8 H8) →
     ∃ m',m' < n∧∃ i σ' H',Inv (qk X N' scope s3 H3 fp) [] σ' H' s8∧tn i s8.heap∧(∀ b ∈ fp,H' b = none)∧W i m' σ' H' := fun {σ8 H8 s8} I8 ⟨n',hn,w8⟩ => by
    refine ⟨n',hn,i + 1,σ8,H8,I8.unpinned,T.keep _ _ _ st7 fun b hb o e => (I8.pin (b,o) (List.mem_append_right _ (List.mem_append_right _ (zm hb e)))).1,fun b hb => ?_,w8⟩
    obtain ⟨o,e,d⟩ := T.obj _ _ st7 b hb
    exact (I8.pin (b,o) (List.mem_append_right _ (List.mem_append_right _ (zm hb e)))).2.1
   refine wpAny_bind (wpAny_mono (hg s3 H3 fp _ s7 σ5 H7 x u _ I7' r7 (step x H7 y7)) (fun _ s8 ⟨σ8,H8,I8,q8⟩ => ?_) fun _ _ z => z.elim)
   refine wpAny_bind (wpAny_mono (hf s3 H3 fp _ s8 σ8 H8 _ I8 q8) (fun k s9 ⟨H9,I9,q9⟩ => ?_) fun _ _ z => z.elim)
   cases k with
   | false =>
    rw [if_neg Bool.false_ne_true] at q9
    exact wpAny_pure ⟨rfl,again I9 q9⟩
   | true =>
    rw [if_pos rfl] at q9
    refine wpAny_bind (wpAny_bind (wpAny_mono (he s3 H3 fp _ s9 σ8 H9 _ I9 q9) (fun w s10 ⟨y,H10,I10,r10,q10⟩ => ?_) fun _ _ z => z.elim))
    obtain ⟨zs,hz,hl,q10⟩ := q10
    refine wpAny_bind (wpAny_mono (DR (X := qk X N' scope s3 H3 fp) _ s10 σ8 H10 (.ref D) [y] (.ref D) [w] (fun _ H11 => H11 = upd H10 D (.lst (zs ++ [y]))) I10 rfl (.cons r10 .nil) ⟨D,zs,y,rfl,rfl,hz,hl,rfl⟩) (fun _ s11 ⟨_,H11,I11,_,e11⟩ => ?_) fun _ _ z => z.elim)
    subst e11
    exact wpAny_pure (wpAny_pure ⟨rfl,again I11 q10⟩)
 exact codeAny_compStart_list loop (T.self X.A 0 _ _ _ tn4 loop)
end
end L3
namespace L3
open PySem PySem.Spec PyProof.Rows L2
section
variable {K : PySem.W.Frag} {G G' : Gp} {H H' : Hp}
theorem qfo {D : Addr} {o : HO} {ws : List V} (hD : H D = some (.lst ws)) {a : Addr} {vs : List V} (h : SqT K H a vs) : SqT K (upd H D o) a vs := by
 rcases h with h | h
 ·refine .inl ?_
  rcases h with h | ⟨ob,h⟩
  ·have : a ≠ D := by intro e;subst e;rw [hD] at h;cases h
   exact .inl (by rw [qI this];exact h)
  ·have : a ≠ D := by intro e;subst e;rw [hD] at h;cases h
   exact .inr ⟨ob,by rw [qI this];exact h⟩
 ·exact .inr h
mutual
theorem Rp.wrD {D : Addr} {o : HO} {ws : List V} (hD : H D = some (.lst ws)) : ∀ {x : T} {v : V},Rp K H x v → Rp K (upd H D o) x v
 | _,_,.non => .non
 | _,_,.bl b => .bl b
 | _,_,.int i => .int i
 | _,_,.str x => .str x
 | _,_,.ref a => .ref a
 | _,_,.tup h hs => .tup (qfo hD h) (Rps.wrD hD hs)
theorem Rps.wrD {D : Addr} {o : HO} {ws : List V} (hD : H D = some (.lst ws)) : ∀ {x : List T} {v : List V},Rps K H x v → Rps K (upd H D o) x v
 | _,_,.nil => .nil
 | _,_,.cons a b => .cons (Rp.wrD hD a) (Rps.wrD hD b)
end
theorem HR.wrD {D : Addr} {o : HO} {ws : List V} (hr : HR K G H) (hD : H D = some (.lst ws)) (g : G D = none) : HR K G (upd H D o) := fun a ob e => by
 have ha : a ≠ D := by intro z;subst z;rw [g] at e;cases e
 have q := hr a ob e
 cases ob with
 | lst xs => obtain ⟨vs,h1,h2⟩ := q;exact ⟨vs,by rw [qI ha];exact h1,h2.wrD hD⟩
 | frz xs => obtain ⟨vs,⟨o1,h1⟩,h2⟩ := q;exact ⟨vs,⟨o1,by rw [qI ha];exact h1⟩,h2.wrD hD⟩
theorem Rel.wrD {D : Addr} {o : HO} {ws : List V} {τ : St3} {σ : L2.St} (r : Rel K τ G σ H) (hD : H D = some (.lst ws)) (g : G D = none) : Rel K τ G σ (upd H D o) :=
 ⟨r.hp.wrD hD g,r.len,fun i t e => let ⟨v,h1,h2⟩ := r.st i t e;⟨v,h1,h2.wrD hD⟩⟩
theorem Kp.wrD {D : Addr} {o : HO} (k : Kp G H G' H') (hD : H D = none) : Kp G H G' (upd H' D o) := fun a ob h g => by
 obtain ⟨h1,h2⟩ := k a ob h g
 exact ⟨by rw [qI (qC h hD)];exact h1,h2⟩
theorem qbW {α : Type} {m : List (Option Nat)} {σ : List (Option α)} {i j : Nat} (h : m[i]? = some (some j)) : (cap m σ)[i]? = some ((σ[j]?).join) := by
 unfold cap;rw [List.getElem?_map,h];rfl
theorem Rel.cap {τ : St3} {σ : L2.St} (r : Rel K τ G σ H) (m : List (Option Nat)) : Rel K (cap m τ) G (L3.cap m σ) H := by
 refine ⟨r.hp,by simp [L3.cap],fun i t e => ?_⟩
 obtain ⟨j,e1,e2⟩ := qag e
 obtain ⟨v,h1,h2⟩ := r.st j t e2
 exact ⟨v,by rw [qbW e1,h1];rfl,h2⟩
end
def MW (stay : Gp → Prop) (g : TG3) (tif : TT3) (te : TE3) (q : Q3) : List T → List T → St3 → Gp → Prop
 | [],ys,_,G => stay G∧∀ p,G p = none → q (.ref p) (gu G p (.lst ys))
 | x :: r,ys,τ,G => stay G∧g x τ G fun τ2 G2 => tif τ2 G2 fun k G3 => if k = true then te τ2 G3 fun y G4 => ys.length < sizeLine∧MW stay g tif te q r (ys ++ [y]) τ2 G4 else MW stay g tif te q r ys τ2 G3
def lc3 (wi : TI3) (g : TG3) (tif : TT3) (te : TE3) (m : List (Option Nat)) : TE3 := fun τ G q => wi τ G fun items stay G1 => MW stay g tif te q items [] (cap m τ) G1
abbrev F3 (X : Cx) (ifs : List Expr) (t : TT3) : Prop := PF X ifs (lT X.K t)
def tt3 : TT3 := fun _ G q => q true G
theorem qnn {X : Cx} : F3 X [] tt3 := fun pins s σ H Q I ⟨τ,G,q,rl,h,af⟩ => qki pins s σ H Q I (af true G h H rl.hp Kp.refl)
theorem qmp {X : Cx} {c : Expr} {t : TT3} (h : C3 X c t) : F3 X [c] t := qkG h
section
variable {X : Cx}
theorem qoS {elt tg iter : Expr} {ifs : List Expr} {scope : Scope} {pos : Pos} (N' : List Str) (m : List (Option Nat)) {wi : TI3} {g : TG3} {tif : TT3} {te : TE3} (hc : X.calm = true) (hi : I3 X tg iter wi)
  (hg : ∀ s H fp,G3 (qk X N' scope s H fp) tg g) (hf : ∀ s H fp,F3 (qk X N' scope s H fp) ifs tif) (he : ∀ s H fp,E3 (qk X N' scope s H fp) elt te)
  (hsc : NI X.env.scope scope = true) (hcap : VE X.N N' scope m = true) (hs : ∀ x,foldedSetIterable iter X.env x = pure x := by intro _;rfl) :
  E3 X (.ListComp elt [⟨tg,iter,ifs,0⟩] scope pos) (lc3 wi g tif te m) :=
 WE (qni (g := lG X.K g) (tif := lT X.K tif) (te := lE X.K te) hc hi hg hf he hsc hcap hs) fun σ H Q ⟨τ,G,q,rl,h,af⟩ => by
  refine ⟨τ,G,_,rl,h,fun items stay G1 h1 J H1 hr1 k1 ok D hD => ?_⟩
  have gD : G1 D = none := hr1.free hD
  refine ⟨fun i n σ' H' => n = items.length - i∧i ≤ items.length∧∃ τ' G' ys vs,Rel X.K τ' G' σ' H'∧Kp G1 H1 G' H'∧H' D = some (.lst vs)∧Rps X.K H' ys vs∧G' D = none∧MW stay g tif te q (items.drop i) ys τ' G',
   ⟨_,rfl,Nat.zero_le _,cap m τ,G1,[],[],((rl.next hr1 k1).cap m).next (hr1.laid hD) (Kp.laid hD),Kp.laid hD,zj,.nil,gD,by simpa using h1⟩,?_⟩
  rintro i n σ' H' ⟨rfl,hi,τ',G',ys,vs,rl',k',hDl,rys,gD',h'⟩
  by_cases hlt : i < items.length
  ·rw [List.drop_eq_getElem_cons hlt] at h'
   obtain ⟨hst,h'⟩ := h'
   obtain ⟨go,yld,_⟩ := ok G' H' rl'.hp k' hst
   have hx : items[i]? = some items[i] := List.getElem?_eq_getElem hlt
   refine .inr ⟨go i _ hx,fun v H2 y => ?_⟩
   obtain ⟨rv,hr2,k2⟩ := yld i _ v H2 hx y
   have nxt : ∀ {τ4 : St3} {G4 : Gp} {σ4 : L2.St} {H4 : Hp} {ys4 : List T} {vs4 : List V},Rel X.K τ4 G4 σ4 H4 → Kp G1 H1 G4 H4 → H4 D = some (.lst vs4) → Rps X.K H4 ys4 vs4 → G4 D = none → MW stay g tif te q (items.drop (i + 1)) ys4 τ4 G4 →
     ∃ n',n' < items.length - i∧(n' = items.length - (i + 1)∧i + 1 ≤ items.length∧∃ τ' G' ys vs,Rel X.K τ' G' σ4 H4∧Kp G1 H1 G' H4∧H4 D = some (.lst vs)∧Rps X.K H4 ys vs∧G' D = none∧MW stay g tif te q (items.drop (i + 1)) ys τ' G') :=
    fun {τ4 G4 σ4 H4 ys4 vs4} a b c d e f => ⟨_,by omega,rfl,hlt,τ4,G4,ys4,vs4,a,b,c,d,e,f⟩
   refine ⟨_,τ',G',_,rv,rl'.next hr2 k2,h',fun τ3 G3 h3 σ3 H3 rl3 k3 => ⟨τ3,G3,_,rl3,h3,fun k G4 h4 H4 hr4 k4 => ?_⟩⟩
   have kk := (k2.trans k3).trans k4
   obtain ⟨hD4,gD4⟩ := kk D _ hDl gD'
   have rys4 := rys.keep rl'.hp kk
   cases k with
   | false =>
    rw [if_neg Bool.false_ne_true] at h4
    refine qmf ?_
    exact nxt (rl3.next hr4 k4) (k'.trans kk) hD4 rys4 gD4 h4
   | true =>
    rw [if_pos rfl] at h4
    refine qmb ?_
    refine ⟨τ3,G4,_,rl3.next hr4 k4,h4,fun z G5 h5 w H5 rw5 hr5 k5 => ?_⟩
    obtain ⟨hD5,gD5⟩ := k5 D _ hD4 gD4
    have rys5 := rys4.keep hr4 k5
    exact ⟨vs,hD5,by rw [← rys.length];exact h5.1,nxt (((rl3.next hr4 k4).next hr5 k5).wrD hD5 gD5) (((k'.trans kk).trans k5).wrD hD) zj ((rys5.append (.cons rw5 .nil)).wrD hD5) gD5 h5.2⟩
  ·have e : i = items.length := by omega
   subst e
   rw [List.drop_length] at h'
   obtain ⟨_,_,stop⟩ := ok G' H' rl'.hp k' h'.1
   refine .inl ⟨stop,af _ _ (h'.2 D gD') _ H' (.ref D) (fun a o e => ?_) fun a o e ga => ?_⟩
   ·by_cases ha : a = D
    ·subst ha
     rw [qN] at e;cases e
     exact ⟨vs,hDl,rys⟩
    ·rw [jB ha] at e
     exact rl'.hp a o e
   ·obtain ⟨e1,g1⟩ := k1 a o e ga
    obtain ⟨e2,g2⟩ := k' a o e1 g1
    exact ⟨e2,by rw [jB (qC e1 hD)];exact g2⟩
end
end L3
namespace L3
open PySem PySem.Spec PyProof.Rows L2
structure Src (P : Program) (w : World) (it c : Addr) (St : Nat → Heap → Prop) (Has : Array Value → Heap → Prop) : Prop where
 obj : ∀ {k h},St k h → ∃ o,h.get? it = some o∧∀ v,o.data ≠ .cell v
 keep : ∀ {k h h'},St k h → (∀ o,h.get? it = some o → h'.get? it = some o) → St k h'
 hkeep : ∀ {xs h h'},Has xs h → (∀ o,h.get? c = some o → h'.get? c = some o) → Has xs h'
 item : ∀ {A : Around} {s : Shared} {k : Nat} {xs : Array Value} {x : Value} {Q : Value → Shared → Prop} {E : Value → Shared → Prop},St k s.heap → Has xs s.heap → xs[k]? = some x →
  (∀ h',St (k + 1) h' → Heap.SameBut it s.heap h' → Q x { s with heap := h' }) → wpAny (model P w) A (Builtin.SmallTypes.nextOf (.ref it)) Q E s
 done : ∀ {A : Around} {s : Shared} {k : Nat} {xs : Array Value} {Q : Value → Shared → Prop} {E : Value → Shared → Prop},A.handled = none → St k s.heap → Has xs s.heap → xs[k]? = none →
  (∀ h' e,Heap.ExtBut it s.heap h' → (∃ o,h'.get? e = some o∧o.cls = .type "StopIteration") → E (.ref e) { s with heap := h' }) → wpAny (model P w) A (Builtin.SmallTypes.nextOf (.ref it)) Q E s
theorem qcD {P : Program} {w : World} (it l : Addr) : Src P w it l (fun k h => h.IsListIter it l k) (fun xs h => h.IsList l xs) where
 obj := fun st => let ⟨o,e,_,d⟩ := st;⟨o,e,fun v z => by rw [d] at z;cases z⟩
 keep := fun st k => st.at fun o e => k o e
 hkeep := fun st k => st.at fun o e => k o e
 item := fun st hl hx hQ => wpAny_nextOf_list_item st hl hx hQ
 done := fun hh st hl hx hE => wpAny_nextOf_list_end hh st hl hx hE
theorem ME {P : Program} {w : World} {A : Around} {s : Shared} {it t : Addr} {i : Nat} {its : Array Value} {x : Value} {Q : Value → Shared → Prop} {E : Value → Shared → Prop} (hit : s.heap.IsTupleIter it t i) (ht : s.heap.IsTuple t its) (hx : its[i]? = some x)
  (hQ : ∀ h',h'.IsTupleIter it t (i + 1) → Heap.SameBut it s.heap h' → Q x { s with heap := h' }) : wpAny (model P w) A (Builtin.SmallTypes.nextOf (.ref it)) Q E s := by
 obtain ⟨o1,e1,c1,d1⟩ := id hit
 obtain ⟨o2,e2,_,n2,d2⟩ := ht
 unfold Builtin.SmallTypes.nextOf
 refine wpAny_bind (wpAny_callSpecial?_slot (name := Str.ofString "__next__") hit.typeIs F.slot_tuple_iterator_next (wpAny_call_entry F.slot_tuple_iterator_next hit.typeIs F.entry_tuple_iterator_next ?_ (F.args_tuple_iterator_next_1 _)))
 refine wpAny_bind (m := field (.ref it) 0) (wpAny_field e1 d1 (x := .ref t) rfl ?_)
 rw [if_neg (show ¬ ((Value.ref t == Value.none) = true) by exact Bool.false_ne_true)]
 refine wpAny_bind (m := field (.ref it) 1) (wpAny_field e1 d1 (x := .int i 0) rfl ?_)
 refine wpAny_bind (m := seqItems? (.ref t)) (wpAny_seqItems e2 d2 ?_)
 simp only [Int.toNat_natCast,hx]
 refine wpAny_bind (wpAny_setField e1 d1 (by simp) (wpAny_pure ⟨x,rfl,wpAny_pure (hQ _ ⟨_,Heap.get?_update_self _ e1 (Obj.isFreed_of_fields (Obj.data_mapFields d1 _)),(Obj.cls_mapFields ..).trans c1,?_⟩ (Heap.SameBut.update ..))⟩))
 rw [Obj.data_mapFields d1];simp [rawInt]
theorem D6 {P : Program} {w : World} {A : Around} {s : Shared} {it t : Addr} {i : Nat} {its : Array Value} {Q : Value → Shared → Prop} {E : Value → Shared → Prop} (hh : A.handled = none) (hit : s.heap.IsTupleIter it t i) (ht : s.heap.IsTuple t its) (hx : its[i]? = none)
  (hE : ∀ h' e,Heap.ExtBut it s.heap h' → (∃ o,h'.get? e = some o∧o.cls = .type "StopIteration") → E (.ref e) { s with heap := h' }) : wpAny (model P w) A (Builtin.SmallTypes.nextOf (.ref it)) Q E s := by
 obtain ⟨o1,e1,c1,d1⟩ := id hit
 obtain ⟨o2,e2,_,n2,d2⟩ := ht
 unfold Builtin.SmallTypes.nextOf
 refine wpAny_bind (wpAny_callSpecial?_slot (name := Str.ofString "__next__") hit.typeIs F.slot_tuple_iterator_next (wpAny_call_entry F.slot_tuple_iterator_next hit.typeIs F.entry_tuple_iterator_next ?_ (F.args_tuple_iterator_next_1 _)))
 refine wpAny_bind (m := field (.ref it) 0) (wpAny_field e1 d1 (x := .ref t) rfl ?_)
 rw [if_neg (show ¬ ((Value.ref t == Value.none) = true) by exact Bool.false_ne_true)]
 refine wpAny_bind (m := field (.ref it) 1) (wpAny_field e1 d1 (x := .int i 0) rfl ?_)
 refine wpAny_bind (m := seqItems? (.ref t)) (wpAny_seqItems e2 d2 ?_)
 simp only [Int.toNat_natCast,hx]
 refine wpAny_bind (wpAny_rule (wpAny_bind (wpAny_setField e1 d1 (by simp) ?_)))
 refine wpAny_bind (m := newExc (.type "StopIteration") []) ?_
 simp only [newExc,newTuple]
 refine wpAny_bind (wpAny_newObj_type ?_ (by size_fits))
 refine wpAny_bind (m := firstArgMember _ _) (wpAny_of_eq (a := Value.none) (by first | rfl | (simp only [firstArgMember] <;> rfl)) (wpAny_newObj_type ?_ (by size_fits)))
 simp only [raiseNew]
 refine wpAny_bind (wpAny_handled ?_)
 first | rw [show A.in1.handled = Option.none from hh] | rw [show A.handled = Option.none from hh]
 exact wpAny_bind (wpAny_pure (wpAny_throw (hE _ _ (((Heap.SameBut.update ..).extBut.push _).push _) ⟨_,Heap.get?_push_size _ rfl,rfl⟩)))
theorem qf1 {P : Program} {w : World} (it t : Addr) : Src P w it t (fun k h => h.IsTupleIter it t k) (fun xs h => h.IsTuple t xs) where
 obj := fun st => let ⟨o,e,_,d⟩ := st;⟨o,e,fun v z => by rw [d] at z;cases z⟩
 keep := fun st k => st.at fun o e => k o e
 hkeep := fun st k => st.at fun o e => k o e
 item := fun st hl hx hQ => ME st hl hx hQ
 done := fun hh st hl hx hE => D6 hh st hl hx hE
structure ZA (z ti to i1 i2 c1 c2 : Addr) : Prop where
 ne : ([z,ti,to,i1,i2] : List Addr).Nodup
 a1 : c1 ∉ [z,to,i1,i2]
 a2 : c2 ∉ [z,to,i1,i2]
section
variable {P : Program} {w : World} {A : Around} {s : Shared} {z ti to i1 i2 c1 c2 : Addr} {S1 S2 : Nat → Heap → Prop} {H1 H2 : Array Value → Heap → Prop} {k1 k2 : Nat} {xs ys : Array Value} {x y a b : Value} {E : Value → Shared → Prop}
theorem qbR {Q : Value → Shared → Prop} (R1 : Src P w i1 c1 S1 H1) (R2 : Src P w i2 c2 S2 H2) (D : ZA z ti to i1 i2 c1 c2) (hz : IsZip s.heap z ti to .none) (hi : IsPair s.heap ti (.ref i1) (.ref i2)) (ho : IsPair s.heap to a b)
  (p1 : S1 k1 s.heap) (p2 : S2 k2 s.heap) (l1 : H1 xs s.heap) (l2 : H2 ys s.heap) (hx : xs[k1]? = some x) (hy : ys[k2]? = some y)
  (hQ : ∀ h',IsZip h' z ti to (rawInt s.heap.objs.size) → IsPair h' to x y → S1 (k1 + 1) h' → S2 (k2 + 1) h' → IsPair h' s.heap.objs.size x y → (∀ c o,c ∉ [z,to,i1,i2] → s.heap.get? c = some o → h'.get? c = some o) → Q (.ref s.heap.objs.size) { s with heap := h' }) :
  wpAny (model P w) A (Builtin.«zip.__next__» ⟨[.ref z],[]⟩) (fun fin s' => ∃ v,fin = .done (.ret v)∧Q v s') E s := by
 have ne := D.ne
 simp only [List.nodup_cons,List.mem_cons,List.not_mem_nil,not_or,or_false] at ne
 obtain ⟨⟨n1,n2,n3,n4⟩,⟨n5,n6,n7⟩,⟨n8,n9⟩,n10,_⟩ := ne
 have a1 := D.a1
 have a2 := D.a2
 simp only [List.mem_cons,List.not_mem_nil,not_or,or_false] at a1 a2
 obtain ⟨q1,q2,q3,q4⟩ := a1
 obtain ⟨r1,r2,r3,r4⟩ := a2
 refine wpAny_bind (m := field (.ref z) 2) (wpAny_field hz rfl (x := .bool false) rfl ?_)
 refine wpAny_bind (m := field (.ref z) 3) (wpAny_field hz rfl (x := .ref ti) rfl ?_)
 refine wpAny_bind (wpAny_seqItems hi rfl ?_)
 refine wpAny_bind (m := Builtin.SmallTypes.ownedTupleIsFree (.ref z)) ?_
 unfold Builtin.SmallTypes.ownedTupleIsFree
 refine wpAny_bind (wpAny_field hz rfl (x := Value.none) rfl (wpAny_pure ?_))
 simp only [if_true]
 refine wpAny_bind (wpAny_rule (wpAny_bind (wpAny_field hz rfl (x := .ref to) rfl (wpAny_bind (wpAny_setField_rec hz (by simp) fun g1 z1 s1 => ?_)))))
 replace z1 : IsZip g1 z ti to Value.ellipsis := z1
 refine wpAny_bind ?_
 simp only [List.zipIdx_cons,List.zipIdx_nil,List.forIn_cons,List.forIn_nil]
 refine wpAny_bind (wpAny_bind (wpAny_onRaise (wpAny_bind (m := Builtin.SmallTypes.nextOf (.ref i1)) ?_)))
 refine R1.item (R1.keep p1 fun o e => s1.extBut _ _ (Ne.symm n3) e) (R1.hkeep l1 fun o e => s1.extBut _ _ q1 e) hx fun g2 p12 s2 => wpAny_pure ?_
 have t2 : IsPair g2 to a b := s2.extBut _ _ n8 (s1.extBut _ _ (Ne.symm n2) ho)
 refine wpAny_bind (wpAny_seqItems t2 rfl (wpAny_bind (wpAny_updateSeq_pair t2 fun g3 t3 s3 => ?_)))
 replace t3 : IsPair g3 to x b := t3
 refine wpAny_bind (wpAny_letGo (wpAny_pure (wpAny_bind (wpAny_bind (wpAny_onRaise (wpAny_bind (m := Builtin.SmallTypes.nextOf (.ref i2)) ?_))))))
 refine R2.item (R2.keep p2 fun o e => s3.extBut _ _ (Ne.symm n9) (s2.extBut _ _ (Ne.symm n10) (s1.extBut _ _ (Ne.symm n4) e))) (R2.hkeep l2 fun o e => s3.extBut _ _ r2 (s2.extBut _ _ r3 (s1.extBut _ _ r1 e))) hy fun g4 p24 s4 => wpAny_pure ?_
 have t4 : IsPair g4 to x b := s4.extBut _ _ n9 t3
 refine wpAny_bind (wpAny_seqItems t4 rfl (wpAny_bind (wpAny_updateSeq_pair t4 fun g5 t5 s5 => ?_)))
 replace t5 : IsPair g5 to x y := t5
 refine wpAny_bind (wpAny_letGo (wpAny_pure (wpAny_pure (wpAny_bind (wpAny_seqItems t5 rfl (wpAny_bind (wpAny_newTuple ?_)))))))
 have sz : g5.objs.size = s.heap.objs.size := by rw [s5.1,s4.1,s3.1,s2.1,s1.1]
 have z5 : IsZip g5 z ti to Value.ellipsis := s5.extBut _ _ n2 (s4.extBut _ _ n4 (s3.extBut _ _ n2 (s2.extBut _ _ n3 z1)))
 have kk : ∀ c o,c ∉ [z,to,i1,i2] → s.heap.get? c = some o → g5.get? c = some o := fun c o hc e => by
  simp only [List.mem_cons,List.not_mem_nil,not_or,or_false] at hc
  exact s5.extBut _ _ hc.2.1 (s4.extBut _ _ hc.2.2.2 (s3.extBut _ _ hc.2.1 (s2.extBut _ _ hc.2.2.1 (s1.extBut _ _ hc.1 e))))
 have p15 : S1 (k1 + 1) g5 := R1.keep p12 fun o e => s5.extBut _ _ (Ne.symm n8) (s4.extBut _ _ n10 (s3.extBut _ _ (Ne.symm n8) e))
 have p25 : S2 (k2 + 1) g5 := R2.keep p24 fun o e => s5.extBut _ _ (Ne.symm n9) e
 have zlt : z < g5.objs.size := Heap.lt_size z5
 refine wpAny_bind (m := Builtin.SmallTypes.ownedTupleHandOut (.ref z) (.ref g5.objs.size)) ?_
 unfold Builtin.SmallTypes.ownedTupleHandOut
 have z6 : IsZip (g5.push { cls := .type "tuple",data := .seq #[x,y] }) z ti to Value.ellipsis := Heap.get?_push_of_some _ z5
 refine wpAny_bind (wpAny_setField_rec z6 (by simp) fun g7 z7 s7 => ?_)
 replace z7 : IsZip g7 z ti to (rawInt g5.objs.size) := z7
 refine wpAny_setField_rec z7 (by simp) fun g8 z8 s8 => ?_
 replace z8 : IsZip g8 z ti to (rawInt g5.objs.size) := z8
 have up : ∀ c o,c ≠ z → g5.get? c = some o → g8.get? c = some o := fun c o hc e => s8.extBut _ _ hc (s7.extBut _ _ hc (Heap.get?_push_of_some _ e))
 have t8 : IsPair g8 g5.objs.size x y := s8.extBut _ _ (Nat.ne_of_gt zlt) (s7.extBut _ _ (Nat.ne_of_gt zlt) (Heap.get?_push_size _ rfl))
 rw [sz] at z8 t8
 refine wpAny_pure ⟨_,rfl,?_⟩
 show Q (Value.ref g5.objs.size) _
 rw [sz]
 exact hQ g8 z8 (up _ _ (Ne.symm n2) t5) (R1.keep p15 fun o e => up _ o (Ne.symm n3) e) (R2.keep p25 fun o e => up _ o (Ne.symm n4) e) t8 fun c o hc e => up c o (fun q => hc (by simp [q])) (kk c o hc e)
theorem qgt {Q : Fin → Shared → Prop} (hh : A.handled = none) (R1 : Src P w i1 c1 S1 H1) (R2 : Src P w i2 c2 S2 H2) (D : ZA z ti to i1 i2 c1 c2) (hz : IsZip s.heap z ti to .none) (hi : IsPair s.heap ti (.ref i1) (.ref i2)) (ho : IsPair s.heap to a b)
  (p1 : S1 k1 s.heap) (p2 : S2 k2 s.heap) (l1 : H1 xs s.heap) (l2 : H2 ys s.heap) (hend : xs[k1]? = none ∨ ys[k2]? = none)
  (hE : ∀ h' e,(∀ c o,c ∉ [z,to,i1,i2] → s.heap.get? c = some o → h'.get? c = some o) → (∃ o,h'.get? e = some o∧o.cls = .type "StopIteration") → E (.ref e) { s with heap := h' }) :
  wpAny (model P w) A (Builtin.«zip.__next__» ⟨[.ref z],[]⟩) Q E s := by
 have ne := D.ne
 simp only [List.nodup_cons,List.mem_cons,List.not_mem_nil,not_or,or_false] at ne
 obtain ⟨⟨n1,n2,n3,n4⟩,⟨n5,n6,n7⟩,⟨n8,n9⟩,n10,_⟩ := ne
 have a1 := D.a1
 have a2 := D.a2
 simp only [List.mem_cons,List.not_mem_nil,not_or,or_false] at a1 a2
 obtain ⟨q1,q2,q3,q4⟩ := a1
 obtain ⟨r1,r2,r3,r4⟩ := a2
 refine wpAny_bind (m := field (.ref z) 2) (wpAny_field hz rfl (x := .bool false) rfl ?_)
 refine wpAny_bind (m := field (.ref z) 3) (wpAny_field hz rfl (x := .ref ti) rfl ?_)
 refine wpAny_bind (wpAny_seqItems hi rfl ?_)
 refine wpAny_bind (m := Builtin.SmallTypes.ownedTupleIsFree (.ref z)) ?_
 unfold Builtin.SmallTypes.ownedTupleIsFree
 refine wpAny_bind (wpAny_field hz rfl (x := Value.none) rfl (wpAny_pure ?_))
 simp only [if_true]
 refine wpAny_bind (wpAny_rule (wpAny_bind (wpAny_field hz rfl (x := .ref to) rfl (wpAny_bind (wpAny_setField_rec hz (by simp) fun g1 z1 s1 => ?_)))))
 replace z1 : IsZip g1 z ti to Value.ellipsis := z1
 refine wpAny_bind ?_
 simp only [List.zipIdx_cons,List.zipIdx_nil,List.forIn_cons,List.forIn_nil]
 refine wpAny_bind (wpAny_bind (wpAny_onRaise (wpAny_bind (m := Builtin.SmallTypes.nextOf (.ref i1)) ?_)))
 cases hx : xs[k1]? with
 | none =>
  refine R1.done hh (R1.keep p1 fun o e => s1.extBut _ _ (Ne.symm n3) e) (R1.hkeep l1 fun o e => s1.extBut _ _ q1 e) hx fun g2 e s2 ⟨oe,he,ce⟩ => ?_
  have z2 : IsZip g2 z ti to Value.ellipsis := s2 _ _ n3 z1
  have ez : e ≠ z := fun q => by subst q;rw [z2] at he;cases he;simp at ce
  refine wpAny_setField_rec z2 (by simp) fun g3 _ s3 => hE g3 e (fun c o hc q => ?_) ⟨oe,s3.extBut _ _ ez he,ce⟩
  simp only [List.mem_cons,List.not_mem_nil,not_or,or_false] at hc
  exact s3.extBut _ _ hc.1 (s2 _ _ hc.2.2.1 (s1.extBut _ _ hc.1 q))
 | some x =>
  have hy : ys[k2]? = none := by rcases hend with q | q;rw [hx] at q;cases q;exact q
  refine R1.item (R1.keep p1 fun o e => s1.extBut _ _ (Ne.symm n3) e) (R1.hkeep l1 fun o e => s1.extBut _ _ q1 e) hx fun g2 p12 s2 => wpAny_pure ?_
  have t2 : IsPair g2 to a b := s2.extBut _ _ n8 (s1.extBut _ _ (Ne.symm n2) ho)
  refine wpAny_bind (wpAny_seqItems t2 rfl (wpAny_bind (wpAny_updateSeq_pair t2 fun g3 t3 s3 => ?_)))
  refine wpAny_bind (wpAny_letGo (wpAny_pure (wpAny_bind (wpAny_bind (wpAny_onRaise (wpAny_bind (m := Builtin.SmallTypes.nextOf (.ref i2)) ?_))))))
  refine R2.done hh (R2.keep p2 fun o e => s3.extBut _ _ (Ne.symm n9) (s2.extBut _ _ (Ne.symm n10) (s1.extBut _ _ (Ne.symm n4) e))) (R2.hkeep l2 fun o e => s3.extBut _ _ r2 (s2.extBut _ _ r3 (s1.extBut _ _ r1 e))) hy fun g4 e s4 ⟨oe,he,ce⟩ => ?_
  have z4 : IsZip g4 z ti to Value.ellipsis := s4 _ _ n4 (s3.extBut _ _ n2 (s2.extBut _ _ n3 z1))
  have ez : e ≠ z := fun q => by subst q;rw [z4] at he;cases he;simp at ce
  refine wpAny_setField_rec z4 (by simp) fun g5 _ s5 => hE g5 e (fun c o hc q => ?_) ⟨oe,s5.extBut _ _ ez he,ce⟩
  simp only [List.mem_cons,List.not_mem_nil,not_or,or_false] at hc
  exact s5.extBut _ _ hc.1 (s4 _ _ hc.2.2.2 (s3.extBut _ _ hc.2.1 (s2.extBut _ _ hc.2.2.1 (s1.extBut _ _ hc.1 q))))
end
end L3
namespace L3
open PySem PySem.Spec PyProof.Rows L2
abbrev qnK (b : Bool) : String := if b then "list_iterator" else "tuple_iterator"
abbrev zH (b : Bool) (c : Addr) : Obj := { cls := .type (qnK b),data := .fields #[.ref c,.int 0 0] }
def qk6 (b : Bool) (it c : Addr) (k : Nat) (h : Heap) : Prop := match b with | true => h.IsListIter it c k | false => h.IsTupleIter it c k
def NG (b : Bool) (c : Addr) (xs : Array Value) (h : Heap) : Prop := match b with | true => h.IsList c xs | false => h.IsTuple c xs
theorem ZW {P : Program} {w : World} (b : Bool) (it c : Addr) : Src P w it c (qk6 b it c) (NG b c) := by
 cases b
 ·exact qf1 it c
 ·exact qcD it c
theorem qbB {P : Program} {w : World} {A : Around} {s : Shared} {b : Bool} {c : Addr} {xs : Array Value} {Q : Value → Shared → Prop} {E : Value → Shared → Prop} (h : NG b c xs s.heap) (q : Q (.ref s.heap.objs.size) { s with heap := s.heap.push (zH b c) }) :
  wpAny (model P w) A (pyIter (.ref c)) Q E s := by
 cases b
 ·exact wpAny_pyIter_tuple (show s.heap.IsTuple c xs from h) q
 ·exact wpAny_pyIter_list (show s.heap.IsList c xs from h) q
theorem qaw {b : Bool} {c : Addr} {xs : Array Value} {h : Heap} {o : Obj} (q : NG b c xs h) : NG b c xs (h.push o) := by
 cases b
 ·exact (show h.IsTuple c xs from q).at fun _ e => Heap.get?_push_of_some _ e
 ·exact (show h.IsList c xs from q).at fun _ e => Heap.get?_push_of_some _ e
abbrev zh1 (h : Heap) (o1 : Obj) : Heap := h.push o1
abbrev zh2 (h : Heap) (o1 o2 : Obj) : Heap := (zh1 h o1).push o2
abbrev zh3 (h : Heap) (o1 o2 : Obj) : Heap := (zh2 h o1 o2).push { cls := .type "tuple",data := .seq #[.ref h.objs.size,.ref (zh1 h o1).objs.size] }
abbrev zh4 (h : Heap) (o1 o2 : Obj) : Heap := (zh3 h o1 o2).push { cls := .type "tuple",data := .seq #[.none,.none] }
abbrev zh5 (h : Heap) (o1 o2 : Obj) : Heap := (zh4 h o1 o2).push { cls := .type "zip",data := .fields #[.none,.bool false,.bool false,.ref (zh2 h o1 o2).objs.size,.ref (zh3 h o1 o2).objs.size] }
theorem qaf (c1 c2 : Addr) (o1 o2 : Obj) :
  Meets (Builtin.«zip.__new__» ⟨[.type "zip",.ref c1,.ref c2],[]⟩) (fun _ R s =>
   (∀ (P : Program) (w : World) (A : Around) (Q : Value → Shared → Prop) (E : Value → Shared → Prop),Q (.ref s.heap.objs.size) { s with heap := zh1 s.heap o1 } → wpAny (model P w) A (pyIter (.ref c1)) Q E s) ∧
   (∀ (P : Program) (w : World) (A : Around) (Q : Value → Shared → Prop) (E : Value → Shared → Prop),Q (.ref (zh1 s.heap o1).objs.size) { s with heap := zh2 s.heap o1 o2 } → wpAny (model P w) A (pyIter (.ref c2)) Q E { s with heap := zh1 s.heap o1 }) ∧
   R (.ok (.ret (.ref (zh4 s.heap o1 o2).objs.size))) { s with heap := zh5 s.heap o1 o2 }) :=
 .of_wp fun prog w A R s h => by
  obtain ⟨hp,g,d,tk,os⟩ := s
  obtain ⟨h1,h2,h⟩ := h
  have hsub := sub_zip
  have k1 := fun A Q E => h1 prog w A Q E
  have k2 := fun A Q E => h2 prog w A Q E
  wp_walk using k1 _ _ _,k2 _ _ _
  exact ⟨_,rfl,h⟩
end L3
namespace L3
open PySem PySem.Spec PyProof.Rows L2
def qb2 (b1 b2 : Bool) (z ti to i1 i2 c1 c2 : Addr) (k : Nat) (h : Heap) : Prop :=
 IsZip h z ti to .none∧IsPair h ti (.ref i1) (.ref i2)∧(∃ a b,IsPair h to a b)∧qk6 b1 i1 c1 k h∧qk6 b2 i2 c2 k h
section
variable {P : Program} {w : World} {A : Around} {s : Shared} {E : Value → Shared → Prop}
theorem qbN {b1 b2 : Bool} {c1 c2 : Addr} {xs ys : Array Value} {Q : Value → Shared → Prop} (h1 : NG b1 c1 xs s.heap) (h2 : NG b2 c2 ys s.heap)
  (q : ∀ h',qb2 b1 b2 (s.heap.objs.size + 4) (s.heap.objs.size + 2) (s.heap.objs.size + 3) s.heap.objs.size (s.heap.objs.size + 1) c1 c2 0 h' → (∀ c o,s.heap.get? c = some o → h'.get? c = some o) → Q (.ref (s.heap.objs.size + 4)) { s with heap := h' }) :
  wpAny (model P w) A (call (.type "zip") [.ref c1,.ref c2]) Q E s := by
 refine callType_new F.called_zip (by decide) (F.typeCall_zip_2 _ _) (F.newCall_zip_2 _ _) (fun obj => F.args_object_init_3 obj _ _) F.entry_zip_new
  (qaf c1 c2 (zH b1 c1) (zH b2 c2)) ⟨fun P w A Q E q => qbB h1 q,fun P w A Q E q => qbB (s := { s with heap := zh1 s.heap (zH b1 c1) }) (qaw h2) q,?_⟩
 have e1 : (zh1 s.heap (zH b1 c1)).objs.size = s.heap.objs.size + 1 := Heap.size_push ..
 have e2 : (zh2 s.heap (zH b1 c1) (zH b2 c2)).objs.size = s.heap.objs.size + 2 := by rw [Heap.size_push,e1]
 have e3 : (zh3 s.heap (zH b1 c1) (zH b2 c2)).objs.size = s.heap.objs.size + 3 := by rw [Heap.size_push,e2]
 have e4 : (zh4 s.heap (zH b1 c1) (zH b2 c2)).objs.size = s.heap.objs.size + 4 := by rw [Heap.size_push,e3]
 have g5 : (zh5 s.heap (zH b1 c1) (zH b2 c2)).get? (zh4 s.heap (zH b1 c1) (zH b2 c2)).objs.size = some _ := Heap.get?_push_size _ rfl
 have g4 : (zh5 s.heap (zH b1 c1) (zH b2 c2)).get? (zh3 s.heap (zH b1 c1) (zH b2 c2)).objs.size = some _ := Heap.get?_push_of_some _ (Heap.get?_push_size _ rfl)
 have g3 : (zh5 s.heap (zH b1 c1) (zH b2 c2)).get? (zh2 s.heap (zH b1 c1) (zH b2 c2)).objs.size = some _ := Heap.get?_push_of_some _ (Heap.get?_push_of_some _ (Heap.get?_push_size _ rfl))
 have g2 : (zh5 s.heap (zH b1 c1) (zH b2 c2)).get? (zh1 s.heap (zH b1 c1)).objs.size = some (zH b2 c2) := Heap.get?_push_of_some _ (Heap.get?_push_of_some _ (Heap.get?_push_of_some _ (Heap.get?_push_size _ rfl)))
 have g1 : (zh5 s.heap (zH b1 c1) (zH b2 c2)).get? s.heap.objs.size = some (zH b1 c1) := Heap.get?_push_of_some _ (Heap.get?_push_of_some _ (Heap.get?_push_of_some _ (Heap.get?_push_of_some _ (Heap.get?_push_size _ rfl))))
 show _∧_
 rw [e2,e3,e4] at g5
 rw [e1,e2] at g3
 rw [e3] at g4
 rw [e1] at g2
 rw [e4]
 refine ⟨⟨_,g5,rfl⟩,q _ ⟨g5,g3,⟨_,_,g4⟩,?_,?_⟩ fun c o e => Heap.get?_push_of_some _ (Heap.get?_push_of_some _ (Heap.get?_push_of_some _ (Heap.get?_push_of_some _ (Heap.get?_push_of_some _ e))))⟩
 ·cases b1 <;> exact ⟨_,g1,rfl,rfl⟩
 ·cases b2 <;> exact ⟨_,g2,rfl,rfl⟩
theorem qcN {b1 b2 : Bool} {z ti to i1 i2 c1 c2 : Addr} {k : Nat} {xs ys : Array Value} {x y : Value} {Q : Option Value → Shared → Prop} (D : ZA z ti to i1 i2 c1 c2) (st : qb2 b1 b2 z ti to i1 i2 c1 c2 k s.heap) (l1 : NG b1 c1 xs s.heap) (l2 : NG b2 c2 ys s.heap) (hx : xs[k]? = some x) (hy : ys[k]? = some y)
  (hQ : ∀ h',IsZip h' z ti to (rawInt s.heap.objs.size) → IsPair h' ti (.ref i1) (.ref i2) → (∃ a b,IsPair h' to a b) → qk6 b1 i1 c1 (k + 1) h' → qk6 b2 i2 c2 (k + 1) h' → IsPair h' s.heap.objs.size x y → (∀ c o,c ∉ [z,to,i1,i2] → s.heap.get? c = some o → h'.get? c = some o) → Q (some (.ref s.heap.objs.size)) { s with heap := h' }) :
  wpAny (model P w) A (pyNext (.ref z)) Q E s := by
 obtain ⟨hz,hi,⟨a,b,ho⟩,p1,p2⟩ := st
 have ty : s.TypeIs (.ref z) "zip" := ⟨_,hz,rfl⟩
 have nti : ti ∉ [z,to,i1,i2] := by
  have ne := D.ne
  simp only [List.nodup_cons,List.mem_cons,List.not_mem_nil,not_or,or_false] at ne ⊢
  exact ⟨Ne.symm ne.1.1,ne.2.1.1,ne.2.1.2.1,ne.2.1.2.2⟩
 unfold pyNext
 exact wpAny_bind (wpAny_attempt (wpAny_callSpecial?_slot (name := Str.ofString "__next__") ty F.slot_zip_next (wpAny_call_entry F.slot_zip_next ty F.entry_zip_next
  (qbR (ZW b1 i1 c1) (ZW b2 i2 c2) D hz hi ho p1 p2 l1 l2 hx hy fun h' u1 u2 u3 u4 u5 u6 => wpAny_pure (hQ h' u1 (u6 _ _ nti hi) ⟨_,_,u2⟩ u3 u4 u5 u6)) (F.args_zip_next_1 _))))
theorem RP {b1 b2 : Bool} {z ti to i1 i2 c1 c2 : Addr} {k : Nat} {xs ys : Array Value} {Q : Option Value → Shared → Prop} (hh : A.handled = none) (D : ZA z ti to i1 i2 c1 c2) (st : qb2 b1 b2 z ti to i1 i2 c1 c2 k s.heap) (l1 : NG b1 c1 xs s.heap) (l2 : NG b2 c2 ys s.heap) (hend : xs[k]? = none ∨ ys[k]? = none)
  (hQ : ∀ h',(∀ c o,c ∉ [z,to,i1,i2] → s.heap.get? c = some o → h'.get? c = some o) → Q none { s with heap := h' }) : wpAny (model P w) A (pyNext (.ref z)) Q E s := by
 obtain ⟨hz,hi,⟨a,b,ho⟩,p1,p2⟩ := st
 have ty : s.TypeIs (.ref z) "zip" := ⟨_,hz,rfl⟩
 unfold pyNext
 refine wpAny_bind (wpAny_attempt (wpAny_callSpecial?_slot (name := Str.ofString "__next__") ty F.slot_zip_next (wpAny_call_entry F.slot_zip_next ty F.entry_zip_next
  (qgt hh (ZW b1 i1 c1) (ZW b2 i2 c2) D hz hi ho p1 p2 l1 l2 hend fun h' e hk ⟨o,q1,q2⟩ => ?_) (F.args_zip_next_1 _))))
 exact wpAny_bind (wpAny_isInstance (T := "StopIteration") (b := true) ⟨o,q1,q2⟩ isSubtype_stop (wpAny_pure (hQ _ hk)))
end
def SqB (K : PySem.W.Frag) (b : Bool) (H : Hp) (a : Addr) (xs : List V) : Prop := match b with | true => SqL K H a xs | false => SqT K H a xs
theorem SqB.get {X : Cx} {pins : List (Addr × Obj)} {σ : L2.St} {H : Hp} {s : Shared} {b : Bool} {a : Addr} {xs : List V} (I : Inv X pins σ H s) (h : SqB X.K b H a xs) : ∃ its : List Value,zy xs its∧NG b a its.toArray s.heap∧xs.length ≤ sizeLine := by
 cases b
 ·obtain ⟨its,r,p,hz⟩ := I.tuple (show SqT X.K H a xs from h)
  exact ⟨its,r,(show s.heap.IsTuple a its.toArray from p),hz⟩
 ·obtain ⟨its,r,p,hz⟩ := I.list (show SqL X.K H a xs from h)
  exact ⟨its,r,p.isList,hz⟩
theorem SqB.inj {X : Cx} {pins : List (Addr × Obj)} {σ : L2.St} {H : Hp} {s : Shared} {b : Bool} {a : Addr} {xs ys : List V} (I : Inv X pins σ H s) (h : SqB X.K b H a xs) (h' : SqB X.K b H a ys) : xs = ys := by
 cases b
 ·exact I.tuple_inj h h'
 ·exact I.list_inj h h'
def Itz (K : PySem.W.Frag) (b1 b2 : Bool) (c1 c2 : Addr) : It :=
  ⟨fun i H => ∃ xs ys x y,SqB K b1 H c1 xs∧SqB K b2 H c2 ys∧xs[i]? = some x∧ys[i]? = some y,
   fun i H v H' => ∃ p x y,H p = none∧v = .ref p∧H' = upd H p (.tup [x,y])∧(∀ xs,SqB K b1 H c1 xs → xs[i]? = some x)∧(∀ ys,SqB K b2 H c2 ys → ys[i]? = some y),
   fun i H => ∃ xs ys,SqB K b1 H c1 xs∧SqB K b2 H c2 ys∧(xs.length ≤ i ∨ ys.length ≤ i)⟩
theorem qjl {b : Bool} {c : Addr} {xs : Array Value} {h : Heap} (q : NG b c xs h) : c < h.objs.size := by
 cases b
 ·obtain ⟨o,e,_⟩ := (show h.IsTuple c xs from q);exact Heap.lt_size e
 ·obtain ⟨o,e,_⟩ := (show h.IsList c xs from q);exact Heap.lt_size e
theorem qcA {P : Program} {w : World} {K : PySem.W.Frag} {es : List Expr} {k1 : Nat} {pt : Pos} {b1 b2 : Bool} {z ti to i1 i2 c1 c2 : Addr} (D : ZA z ti to i1 i2 c1 c2) : Turn P w K (.Tuple es k1 pt) (Itz K b1 b2 c1 c2) [z,ti,to,i1,i2] z (qb2 b1 b2 z ti to i1 i2 c1 c2) where
 mem := by simp
 obj := fun i h ⟨hz,hi,⟨a,b,ho⟩,p1,p2⟩ c hc => by
  simp only [List.mem_cons,List.not_mem_nil,or_false] at hc
  rcases hc with rfl | rfl | rfl | rfl | rfl
  ·exact ⟨_,hz,fun v q => by cases q⟩
  ·exact ⟨_,hi,fun v q => by cases q⟩
  ·exact ⟨_,ho,fun v q => by cases q⟩
  ·exact (ZW (P := P) (w := w) b1 c c1).obj p1
  ·exact (ZW (P := P) (w := w) b2 c c2).obj p2
 keep := fun i h h' ⟨hz,hi,⟨a,b,ho⟩,p1,p2⟩ k =>
  ⟨k z (by simp) _ hz,k ti (by simp) _ hi,⟨a,b,k to (by simp) _ ho⟩,(ZW (P := P) (w := w) b1 i1 c1).keep p1 fun o e => k i1 (by simp) o e,(ZW (P := P) (w := w) b2 i2 c2).keep p2 fun o e => k i2 (by simp) o e⟩
 item := by
  intro X hP hw hK hc i pins s σ H E I hf st hg
  subst hP hw hK
  obtain ⟨xs,ys,x,y,sq1,sq2,hx,hy⟩ := hg
  obtain ⟨its1,rv1,l1,z1⟩ := sq1.get I
  obtain ⟨its2,rv2,l2,z2⟩ := sq2.get I
  obtain ⟨u1,hu1,ru1⟩ := rv1.get hx
  obtain ⟨u2,hu2,ru2⟩ := rv2.get hy
  refine qcN D st l1 l2 (x := u1) (y := u2) (by simpa using hu1) (by simpa using hu2) fun h' hz hi ho p1 p2 hp hk => ?_
  have hfr : H s.heap.objs.size = none := I.fresh
  have free : ∀ b ∈ [z,ti,to,i1,i2],H b = none := fun b hb => (hf b hb).1
  refine ⟨_,rfl,wpAny_letOwnedTupleGo_zip hz fun h2 hz2 s2 => ?_⟩
  have zlt : z < s.heap.objs.size := Heap.lt_size st.1
  have hp2 : IsPair h2 s.heap.objs.size u1 u2 := (s2.2 _ (Nat.ne_of_gt zlt)).trans hp
  have ne := D.ne
  simp only [List.nodup_cons,List.mem_cons,List.not_mem_nil,not_or,or_false] at ne
  have up : ∀ c o,c ≠ z → h'.get? c = some o → h2.get? c = some o := fun c o hc e => (s2.2 c hc).trans e
  have kk : ∀ c o,c ∉ [z,to,i1,i2] → s.heap.get? c = some o → h2.get? c = some o := fun c o hc e => up c o (fun q => hc (by simp [q])) (hk c o hc e)
  have I3 : Inv X pins σ (upd H s.heap.objs.size (.tup [x,y])) { s with heap := h2 } := by
   refine I.step (g' := s.gens) (d' := s.drawn) (t' := s.toks) (ch := [z,to,i1,i2]) (fun b hb => ?_) (fun b o _ _ hcb e _ => kk b o hcb e) (fun b o _ _ hcb e _ => ⟨o.slots,kk b o hcb e⟩) (fun b o _ e n => by rw [qI (Nat.ne_of_lt (Heap.lt_size e))];exact n) (fun b o hcb e => ⟨o,kk b o hcb e⟩)
    (fun b _ e => by rw [qI (qC e hfr)];exact e) (fun b _ _ e => by rw [qI (qC e hfr)];exact e) (fun b ps e => ⟨#[],by rw [qI (qC e hfr),e];simp⟩) (fun m hm => ?_) (fun b u e => ?_) I.bare
   ·obtain ⟨f0,f1,f2,f3,f4,f5⟩ := hf b (by simp only [List.mem_cons,List.not_mem_nil,or_false] at hb ⊢;rcases hb with q | q | q | q <;> simp [q])
    exact ⟨f3,f1,f4,f5⟩
   ·obtain ⟨o,es',ep,ho',r⟩ := hm
    refine ⟨o,es',ep,kk _ o (fun q => ?_) ho',r⟩
    obtain ⟨f0,f1,_⟩ := hf X.env.locals (by simp only [List.mem_cons,List.not_mem_nil,or_false] at q ⊢;rcases q with q | q | q | q <;> simp [q])
    exact f1 rfl
   ·by_cases hb : b = s.heap.objs.size
    ·subst hb
     rw [zj] at e
     cases e
     exact ⟨by show 2 ≤ sizeLine;decide,[u1,u2],.cons ru1 (.cons ru2 .nil),⟨_,hp2,rfl,_,rfl⟩⟩
    ·rw [qI hb] at e
     refine (I.hok b u e).stay (fun c v hcb q => kk c v (fun m => ?_) q) (fun _ q => by rw [qI (qC q hfr)];exact q) fun _ _ q => by rw [qI (qC q hfr)];exact q
     have hn := free c (by simp only [List.mem_cons,List.not_mem_nil,or_false] at m ⊢;rcases m with q | q | q | q <;> simp [q])
     rcases hcb with q | q
     ·rw [q] at hn;rw [hn] at e;cases e
     ·rw [hn] at q;cases q
  refine ⟨.ref s.heap.objs.size,_,I3,rfl,⟨_,x,y,hfr,rfl,rfl,fun zs q => by rw [q.inj I sq1];exact hx,fun zs q => by rw [q.inj I sq2];exact hy⟩,⟨hz2,up _ _ (Ne.symm ne.1.1) hi,let ⟨a,b,q⟩ := ho;⟨a,b,up _ _ (Ne.symm ne.1.2.1) q⟩,(ZW (P := X.prog) (w := X.w) b1 i1 c1).keep p1 fun o e => up _ o (Ne.symm ne.1.2.2.1) e,(ZW (P := X.prog) (w := X.w) b2 i2 c2).keep p2 fun o e => up _ o (Ne.symm ne.1.2.2.2) e⟩,fun b hb => ?_⟩
  rw [qI (fun q => ?_)]
  ·exact free b hb
  ·subst q
   obtain ⟨hz0,hi0,⟨a0,b0,ho0⟩,q1,q2⟩ := st
   simp only [List.mem_cons,List.not_mem_nil,or_false] at hb
   rcases hb with q | q | q | q | q
   ·exact absurd q (Nat.ne_of_gt zlt)
   ·exact absurd q (Nat.ne_of_gt (Heap.lt_size hi0))
   ·exact absurd q (Nat.ne_of_gt (Heap.lt_size ho0))
   ·obtain ⟨o,e,_⟩ := (ZW (P := X.prog) (w := X.w) b1 i1 c1).obj q1
    exact absurd q (Nat.ne_of_gt (Heap.lt_size e))
   ·obtain ⟨o,e,_⟩ := (ZW (P := X.prog) (w := X.w) b2 i2 c2).obj q2
    exact absurd q (Nat.ne_of_gt (Heap.lt_size e))
 done := by
  intro X hP hw hK hc i pins s σ H E I hf st hg
  subst hP hw hK
  obtain ⟨xs,ys,sq1,sq2,hend⟩ := hg
  obtain ⟨its1,rv1,l1,z1⟩ := sq1.get I
  obtain ⟨its2,rv2,l2,z2⟩ := sq2.get I
  have e1 := rv1.length
  have e2 := rv2.length
  refine RP (I.ok.hd hc) D st l1 l2 (by rcases hend with q | q;exact .inl (by simp;omega);exact .inr (by simp;omega)) fun h' hk => ⟨rfl,?_⟩
  have free : ∀ b ∈ [z,ti,to,i1,i2],H b = none := fun b hb => (hf b hb).1
  refine I.step (g' := s.gens) (d' := s.drawn) (t' := s.toks) (ch := [z,to,i1,i2]) (fun b hb => ?_) (fun b o _ _ hcb e _ => hk b o hcb e) (fun b o _ _ hcb e _ => ⟨o.slots,hk b o hcb e⟩) (fun _ _ _ _ n => n) (fun b o hcb e => ⟨o,hk b o hcb e⟩) (fun _ _ e => e) (fun _ _ _ e => e) (fun b ps e => ⟨#[],by rw [e];simp⟩) (fun m hm => ?_) (fun b u e => ?_) I.bare
  ·obtain ⟨f0,f1,f2,f3,f4,f5⟩ := hf b (by simp only [List.mem_cons,List.not_mem_nil,or_false] at hb ⊢;rcases hb with q | q | q | q <;> simp [q])
   exact ⟨f3,f1,f4,f5⟩
  ·obtain ⟨o,es',ep,ho',r⟩ := hm
   refine ⟨o,es',ep,hk _ o (fun q => ?_) ho',r⟩
   obtain ⟨f0,f1,_⟩ := hf X.env.locals (by simp only [List.mem_cons,List.not_mem_nil,or_false] at q ⊢;rcases q with q | q | q | q <;> simp [q])
   exact f1 rfl
  ·refine (I.hok b u e).stay (fun c v hcb q => hk c v (fun m => ?_) q) (fun _ q => q) fun _ _ q => q
   have hn := free c (by simp only [List.mem_cons,List.not_mem_nil,or_false] at m ⊢;rcases m with q | q | q | q <;> simp [q])
   rcases hcb with q | q
   ·rw [q] at hn;rw [hn] at e;cases e
   ·rw [hn] at q;cases q
 self := fun A i s Q E st h => wpAny_pyIter_zip st.1 h
end L3
namespace L3
open PySem PySem.Spec PyProof.Rows L2
theorem qg7 {n c1 c2 : Addr} (h1 : c1 < n) (h2 : c2 < n) : ZA (n + 4) (n + 2) (n + 3) n (n + 1) c1 c2 := by
 have k : ∀ n c : Nat,c < n → c ≠ n + 4∧c ≠ n + 3∧c ≠ n∧c ≠ n + 1 := fun n c h => by omega
 have d : ∀ n : Nat,(([n + 4,n + 2,n + 3,n,n + 1] : List Nat)).Nodup := fun n => by
  simp only [List.nodup_cons,List.mem_cons,List.not_mem_nil,not_or,or_false,List.nodup_nil,and_true,not_false_eq_true]
  omega
 refine ⟨d n,?_,?_⟩
 ·simp only [List.mem_cons,List.not_mem_nil,not_or,or_false];exact k n c1 h1
 ·simp only [List.mem_cons,List.not_mem_nil,not_or,or_false];exact k n c2 h2
section
variable {X : Cx} {a b e l : Expr} {es : List Expr} {pos : Pos}
theorem qlN {p pt : Pos} {k1 : Nat} {ta : TA} (hg : Gl X "zip") (hm : X.mg "zip" = none) (ha : PA X [a,b] ta) (hs : starEach [a,b] X.env = [(false,eval a X.env),(false,eval b X.env)] := by rfl) (hs2 : starEach [b] X.env = [(false,eval b X.env)] := by rfl) :
  PI X (.Tuple es k1 pt) (.Call (.Name "zip" p) [a,b] [] pos) (fun σ H R => ta σ H fun vs H1 => ∃ b1 b2 c1 c2 xs ys,vs = [.ref c1,.ref c2]∧SqB X.K b1 H1 c1 xs∧SqB X.K b2 H1 c2 ys∧R (Itz X.K b1 b2 c1 c2) H1) := by
 intro pins s σ H R I h
 refine Call_ (W7 I hg hm PyProof.Rows.boot_zip (PyProof.Rows.callWith_type1 (thn (ha pos pins s σ H _ I h) fun us s1 ⟨vs,H1,I1,r1,q1⟩ => ?_) (by rw [hs,hs2]) (by rw [hs2];rfl)))
 obtain ⟨b1,b2,c1,c2,xs,ys,rfl,sq1,sq2,q⟩ := q1
 obtain ⟨u1,u2,rfl,e1,e2⟩ := qaM r1
 cases (show u1 = Value.ref c1 from e1)
 cases (show u2 = Value.ref c2 from e2)
 obtain ⟨its1,rv1,l1,z1⟩ := sq1.get I1
 obtain ⟨its2,rv2,l2,z2⟩ := sq2.get I1
 refine qbN l1 l2 fun h' st hk => wpAny_pyIter_zip st.1 ?_
 refine ⟨s1.heap.objs.size + 4,[s1.heap.objs.size + 4,s1.heap.objs.size + 2,s1.heap.objs.size + 3,s1.heap.objs.size,s1.heap.objs.size + 1],_,_,H1,rfl,I1.kept (t' := s1.toks) hk,qcA (qg7 (qjl l1) (qjl l2)),st,fun c hc => ?_,q⟩
 have hle : s1.heap.objs.size ≤ c := by
  simp only [List.mem_cons,List.not_mem_nil,or_false] at hc
  rcases hc with rfl | rfl | rfl | rfl | rfl <;> first | exact Nat.le_refl _ | exact Nat.le_add_right _ _
 exact I1.fpOk hle (I1.hok.fresh hle)
end
def Z4 (G : Gp) : T → Option (List T)
 | .tup xs => some xs
 | .ref p => getL G p
 | _ => none
theorem qdR {K : PySem.W.Frag} {G0 : Gp} {H0 : Hp} {x : T} {v : V} {us : List T} (hr0 : HR K G0 H0) (rx : Rp K H0 x v) (h : Z4 G0 x = some us) :
  ∃ b c,v = .ref c∧∀ G H,HR K G H → Kp G0 H0 G H → Z4 G x = some us → ∃ vs,SqB K b H c vs∧Rps K H us vs := by
 cases rx with
 | tup hs rs =>
  cases h
  exact ⟨false,_,rfl,fun G H hr k _ => ⟨_,(XY hr0 k hs : SqT K H _ _),rs.keep hr0 k⟩⟩
 | ref a => exact ⟨true,a,rfl,fun G H hr k hq => let ⟨vs,h1,h2⟩ := zZ hr (show getL G a = some us from hq);⟨vs,h1,h2⟩⟩
 | _ => cases h
def qbG (us vs : List T) : List T := (us.zip vs).map fun p => .tup [p.1,p.2]
theorem CI {us vs : List T} {i : Nat} {x : T} (h : (qbG us vs)[i]? = some x) : ∃ a b,us[i]? = some a∧vs[i]? = some b∧x = .tup [a,b] := by
 unfold qbG at h
 rw [List.getElem?_map] at h
 cases e : (us.zip vs)[i]? with
 | none => rw [e] at h;cases h
 | some p =>
  rw [e] at h
  have := List.getElem?_zip_eq_some.mp e
  exact ⟨p.1,p.2,this.1,this.2,by simpa using h.symm⟩
theorem qh6 {K : PySem.W.Frag} {b1 b2 : Bool} {c1 c2 : Addr} {x y : T} {us vs : List T} {G0 : Gp} {H0 : Hp}
  (f1 : ∀ G H,HR K G H → Kp G0 H0 G H → Z4 G x = some us → ∃ vs,SqB K b1 H c1 vs∧Rps K H us vs) (f2 : ∀ G H,HR K G H → Kp G0 H0 G H → Z4 G y = some vs → ∃ ws,SqB K b2 H c2 ws∧Rps K H vs ws) :
  qic K (Itz K b1 b2 c1 c2) (qbG us vs) (fun G => Z4 G x = some us∧Z4 G y = some vs) G0 H0 := by
 intro G H hr k ⟨h1,h2⟩
 obtain ⟨p,sp,rp⟩ := f1 G H hr k h1
 obtain ⟨q,sq,rq⟩ := f2 G H hr k h2
 refine ⟨fun i z hz => ?_,fun i z v H' hz hy => ?_,⟨p,q,sp,sq,?_⟩⟩
 ·obtain ⟨a,b,ha,hb,_⟩ := CI hz
  obtain ⟨v,hv,_⟩ := rp.get ha
  obtain ⟨w,hw,_⟩ := rq.get hb
  exact ⟨p,q,v,w,sp,sq,hv,hw⟩
 ·obtain ⟨a,b,ha,hb,rfl⟩ := CI hz
  obtain ⟨t,v1,v2,ht,rfl,rfl,g1,g2⟩ := hy
  obtain ⟨v,hv,rv⟩ := rp.get ha
  obtain ⟨w,hw,rw'⟩ := rq.get hb
  have e1 := (g1 p sp).symm.trans hv
  have e2 := (g2 q sq).symm.trans hw
  obtain rfl : v1 = v := Option.some.inj e1
  obtain rfl : v2 = w := Option.some.inj e2
  have kk : Kp G H G (upd H t (.tup [v1,v2])) := Kp.laid ht
  exact ⟨.tup (SqT.of zj) (.cons (rv.keep hr kk) (.cons (rw'.keep hr kk) .nil)),hr.laid ht,kk⟩
 ·rw [← rp.length,← rq.length,show (qbG us vs).length = min us.length vs.length by simp [qbG]]
  omega
def qbS (ta : TA3) : TI3 := fun τ G r => ta τ G fun xs G1 => match xs with
 | [x,y] => (match Z4 G1 x,Z4 G1 y with | some us,some vs => r (qbG us vs) (fun G => Z4 G x = some us∧Z4 G y = some vs) G1 | _,_ => False)
 | _ => False
section
variable {X : Cx} {a b e l : Expr} {es : List Expr} {pos : Pos} {t : TA3}
theorem qnJ {p pt : Pos} {k1 : Nat} (hg : Gl X "zip") (hm : X.mg "zip" = none) (ha : A3 X [a,b] t) (hs : starEach [a,b] X.env = [(false,eval a X.env),(false,eval b X.env)] := by rfl) (hs2 : starEach [b] X.env = [(false,eval b X.env)] := by rfl) :
  I3 X (.Tuple es k1 pt) (.Call (.Name "zip" p) [a,b] [] pos) (qbS t) :=
 qlZ (qlN hg hm ha hs hs2) fun σ H R ⟨τ,G,r,rl,h,af⟩ => YL rl h fun xs G1 h1 vs H1 rs hr1 k1 rl1 => by
  split at h1
  ·rename_i x y
   split at h1
   ·rename_i us ws e1 e2
    obtain ⟨v,u,rfl,r1,r2⟩ := qmd rs
    obtain ⟨b1,c1,rfl,f1⟩ := qdR hr1 r1 e1
    obtain ⟨b2,c2,rfl,f2⟩ := qdR hr1 r2 e2
    obtain ⟨p,sp,_⟩ := f1 G1 H1 hr1 Kp.refl e1
    obtain ⟨q,sq,_⟩ := f2 G1 H1 hr1 Kp.refl e2
    exact ⟨b1,b2,c1,c2,p,q,rfl,sp,sq,af _ _ G1 h1 _ H1 hr1 k1 (qh6 f1 f2)⟩
   ·exact h1.elim
  ·exact h1.elim
def qa1 : List T → Gp → Q3 → Prop := fun xs G q => match xs with
 | [.ref p] => (match getL G p with | some ys => (match qd7 ys with | some k => q (.bl k) G | none => False) | none => False)
 | _ => False
theorem qba {K : PySem.W.Frag} {H : Hp} : ∀ {ys : List T} {vs : List V} {k : Bool},Rps K H ys vs → qd7 ys = some k → ∃ ks : List Bool,vs = ks.map V.bl∧ks.all id = k
 | _,_,_,.nil,h => by cases h;exact ⟨[],rfl,rfl⟩
 | y :: ys,_,k,.cons a b,h => by
  unfold qd7 at h
  split at h
  ·rename_i e;cases e
  ·rename_i j r e
   cases e
   split at h
   ·rename_i i ei
    obtain ⟨ks,rfl,hk⟩ := qba b ei
    cases a
    cases h
    exact ⟨j :: ks,rfl,by rw [List.all_cons,hk];rfl⟩
   ·cases h
  ·cases h
theorem NU {K : PySem.W.Frag} : LE K qa1 (fun xs H Q => ∃ (p : Addr) (ks : List Bool),xs = [.ref p]∧SqL K H p (ks.map V.bl)∧Q (.bl (ks.all id)) H) := fun xs vs G H q Q hr rs h af => by
 unfold qa1 at h
 split at h
 ·rename_i p
  obtain ⟨v,rfl,r⟩ := LI rs
  cases r
  split at h
  ·rename_i ys e0
   split at h
   ·rename_i k e1
    obtain ⟨us,hs,r2⟩ := zZ hr e0
    obtain ⟨ks,rfl,hk⟩ := qba r2 e1
    exact ⟨p,ks,rfl,hs,by rw [hk];exact af _ G h _ H (.bl _) hr Kp.refl⟩
   ·exact h.elim
  ·exact h.elim
 ·exact h.elim
end
end L3
namespace L3
open PySem PySem.Spec PyProof.Rows L2
def qmG : Value → Bool
 | .type t => t == "list"
 | _ => false
def V9 : List (Addr × Obj) → Bool
 | [] => true
 | p :: r => if qmG p.2.cls then false else V9 r
theorem WY : ∀ {K : List (Addr × Obj)} {a : Addr} {o : Obj},V9 K = true → K.lookup a = some o → o.cls ≠ .type "list"
 | [],_,_,_,e => by simp at e
 | (b,x) :: r,a,o,h,e => by
  unfold V9 at h
  split at h
  ·cases h
  ·rename_i hx
   rw [List.lookup_cons] at e
   split at e
   ·cases e
    intro z
    rw [z] at hx
    exact hx rfl
   ·exact WY h e
theorem MO {K : PySem.W.Frag} {H : Hp} {a : Addr} {ns : List Int} (hK : V9 K = true) (hO : ql5 H) (hS : SqL K H a (ns.map V.int)) : ∃ o,H a = some (.frz o (.lst (ns.map V.int))) := by
 rcases hS with (h | h) | ⟨o,its,n,h1,h2,_⟩
 ·rcases hO a with z | ⟨o,xs,z⟩ <;> (rw [h] at z;cases z)
 ·exact h
 ·exact absurd h2 (WY hK h1)
def only (a : Addr) (ns : List Int) : Gp := fun b => if b = a then some (.frz (ns.map T.int)) else none
theorem qgF {K : PySem.W.Frag} {H : Hp} {a : Addr} {ns : List Int} (h : ∃ o,H a = some (.frz o (.lst (ns.map V.int)))) : HR K (only a ns) H := fun b o e => by
 unfold only at e
 split at e
 ·rename_i hb;subst hb;cases e;exact ⟨_,h,Rps.ints ns⟩
 ·cases e
def WW : Sp3 := fun ts G q => ∃ (a : Addr) (ns : List Int),ts = [.ref a]∧G a = some (.frz (ns.map T.int))∧ns.length ≤ 63∧∀ G',q (.bl true) G'
theorem qmJ {l : PySem.W.OpenLaw} {k : Nat} {q : Program} {loose : List Str} {XP : (Str → Option Value) → Heap → Prop} {YP : World → Heap → Prop} {d : DefRec} {K : Params → PySem.W.Frag} {x : Str} (hn : l.most = some 63) (hdf : d.params.defaults = []) (hr : Room k callerA)
  (hY : ∀ (w : World) (h : Heap),YP w h → (K w.params).In h) (hK : ∀ w : World,V9 (K w.params) = true)
  (F : ∀ (w : World) (mg : Str → Option Value) (fa : Addr) (h : Heap),(K w.params).In h → h.Ns mainGlobals mg → mg d.name = some (.ref fa) →
   ∃ fd : FuncData,(∀ (s : Shared) (u : Value),BindsTo s fd ⟨[u],[]⟩ [(x,u)])∧∀ base : Heap,(K w.params).In base → base.Ns mainGlobals mg → FnOk l.prog w (K w.params) mg base CX0 k fa fd [x] (lSp (K w.params) WW)) :
  PySem.W.WalkO q loose XP YP l.row.toRowW d [] (fun f vs => PySem.call f vs) :=
 L2.qf2 (n := 63) (k := k) (x := x) (CX := fun _ => CX0) (sp := fun w => lSp (K w.params) WW) hn (by decide) hdf hr hY F
  (fun w H a ns hl hO hS => ⟨[.ref a],only a ns,fun t _ => t = .bl true,qgF (MO (hK w) hO hS),.cons (.ref a) .nil,⟨a,ns,rfl,by simp [only],hl,fun _ => rfl⟩,fun t G' e v H' r _ _ => by subst e;cases r;rfl⟩) fun _ _ _ _ _ z => z
theorem qf4 {P : Program} {w : World} {K : PySem.W.Frag} {mg : Str → Option Value} {base : Heap} {x qual : Str} {st : Stmt} {f : Addr} {fd : FuncData} {N ps : List Str} {k : Nat} {sp : Sp3} {t3 : TS3} (F : Fun K x qual st f fd) (S : FnScope N ps (qh st))
  (body : ∀ (cdv : Value) (A : Around) (outer : List Env) (s : Shared) (H : Hp) (E : XK),Room k (A.deeper (envOfC qual (qh st) s.heap.objs.size f cdv)) →
   B3 (qbF CX0 P w K mg base N qual (qh st) f cdv A outer s H E).nox (zV st) t3)
  (read : ∀ ts G q,sp ts G q → ts.length = ps.length∧t3 { nx := fun _ G' => q .non G',rt := q } (qs N ts) G) : FnOk P w K mg base CX0 (k + 1) f fd ps (lSp K sp) := by
 refine F.ok S (fun vs H Q E ⟨ts,G,q,h1,h2,h3,h4⟩ => by rw [← h2.length];exact (read ts G q h3).1) fun cdv A outer s H vs Q E hr ⟨ts,G,q,h1,h2,h3,h4⟩ => ?_
 refine ⟨_,body cdv A outer s H E hr,qs N ts,G,_,RY h1 h2,(read ts G q h3).2,⟨fun τ' G' h' σ' H' rl' k' => h4 _ G' h' _ H' .non rl'.hp k',h4,fun _ _ z => z.elim,fun _ _ z => z.elim⟩⟩
end L3
namespace L3
open PySem PySem.Spec PyProof.Rows L2
section
variable {P : Program} {w : World} {A : Around} {s : Shared} {E : Value → Shared → Prop}
end
section
variable {X : Cx} {a b e l : Expr} {es : List Expr} {pos : Pos}
end
section
variable {X : Cx} {a b e l : Expr} {es : List Expr} {pos : Pos} {t : TA3}
end
end L3
namespace L3
open PySem PySem.Spec PyProof.Rows L2
section
variable {X : Cx} {a b c e : Expr} {es : List Expr} {ta tb tc te : TE3} {t : TA3} {pos : Pos}
def qce (i : Nat) (r : R3) (te : TE3) : TS3 := fun d τ G => match τ[i]? with
 | some (some x) => te τ G fun y G1 => r x y G1 fun z G2 => d.nx (τ.set i (some z)) G2
 | _ => False
theorem qbQ (i : Nat) {x : Str} {pos' : Pos} (hN : X.N.Nodup) (he : E3 X e te) (hi : X.N[i]? = some x := by rfl) (hx : Loc X.env.scope x := by first | exact Or.inl rfl | exact Or.inr rfl) (hf : X.fn x = true ∨ X.env.scope.names.lookup x = some .local := by first | exact .inl rfl | exact .inr rfl) :
  S3 X (.AugAssign (.Name x pos') .Add e pos) (qce i (iI (· + ·)) te) :=
 qbH (qg1 (i := i) hN hi hx he qlH hf) fun D σ H ⟨τ,G,d,rl,h,af⟩ => by
  unfold qce at h
  split at h
  ·rename_i x e1
   obtain ⟨v,e2,rv⟩ := rl.st i x e1
   refine ⟨v,e2,zA rl h fun y G1 h1 u H1 ry hr1 k1 rl1 => ?_⟩
   have rv1 := rv.keep rl.hp k1
   cases x <;> try exact h1.elim
   cases y <;> try exact h1.elim
   cases rv1;cases ry
   exact ⟨_,_,rfl,rfl,af.nx _ G1 h1 _ H1 (rl1.set i (.int _)) k1⟩
  ·exact h.elim
def RB : List T → Option (List Int)
 | [] => some []
 | .int i :: r => (match RB r with | some ns => some (i :: ns) | none => none)
 | _ => none
theorem SS (ns : List Int) : RB (ns.map T.int) = some ns := by
 induction ns with
 | nil => rfl
 | cons n r ih => simp [RB,ih]
theorem CM : ∀ {xs : List T} {ns : List Int},RB xs = some ns → xs = ns.map T.int
 | [],_,h => by simp [RB] at h;subst h;rfl
 | x :: r,ns,h => by
  unfold RB at h
  split at h
  ·rename_i e;cases e
  ·rename_i i r' e
   cases e
   split at h
   ·rename_i ms e2
    cases h
    rw [CM e2];rfl
   ·cases h
  ·cases h
theorem CN {K : PySem.W.Frag} {H : Hp} : ∀ {ns : List Int} {vs : List V},Rps K H (ns.map T.int) vs → vs = ns.map V.int
 | [],_,r => by cases r;rfl
 | n :: ns,_,r => by
  cases r with
  | cons a b => cases a;rw [CN b];rfl
def qoG : List T → Gp → Q3 → Prop := fun xs G q => match xs with
 | [.ref p] => (match getL G p with | some ys => (match qlS ys with | some k => q (.bl k) G | none => False) | none => False)
 | _ => False
end
end L3
namespace L3
open PySem PySem.Spec PyProof.Rows L2
section
variable {X : Cx}
theorem qgl {elt tg iter : Expr} {ifs : List Expr} {scope : Scope} {pos cpos : Pos} {N' : List Str} {m : List (Option Nat)} {wi : TI} {g : TG} {tif : TT} {te : TE} {use : Option (Value → Sem Unit)} {Qc : Value → Shared → Prop} {QD : Addr → Hp → Prop} (hc : X.calm = true) (hi : PI X tg iter wi)
  (hg : ∀ s H fp,PG (qk X N' scope s H fp) tg g) (hf : ∀ s H fp,PF (qk X N' scope s H fp) ifs tif) (he : ∀ s H fp,PE (qk X N' scope s H fp) elt te)
  (hsc : NI X.env.scope scope = true) (hcap : VE X.N N' scope m = true) (hs : ∀ x,foldedSetIterable iter X.env x = pure x) {pins : List (Addr × Obj)} {s : Shared} {σ : L2.St} {H : Hp} (I : Inv X pins σ H s)
  (h : wi σ H fun J H1 => ∀ D,H1 D = none →
   ∃ W : Nat → Nat → L2.St → Hp → Prop,(∃ n,W 0 n (cap m σ) (upd H1 D (.lst [])))∧∀ i n σ H,W i n σ H →
    (J.stop i H∧QD D H) ∨ (J.go i H∧∀ x H',J.yld i H x H' → g x σ H' fun σ2 H2 => tif σ2 H2 fun k H3 =>
     if k = true then te σ2 H3 fun y H4 => ∃ zs,H4 D = some (.lst zs)∧zs.length < sizeLine∧∃ n',n' < n∧W (i + 1) n' σ2 (upd H4 D (.lst (zs ++ [y])))
     else ∃ n',n' < n∧W (i + 1) n' σ2 H3))
  (fin : ∀ (D : Addr) (s3 : Shared) (H3 : Hp) (fp : List Addr) (s6 : Shared) (H6 : Hp) (σ6 : L2.St) (r : Flow),Inv X pins σ H3 s3 → (∀ b ∈ fp,C9 X pins H3 b) → Inv (qk X N' scope s3 H3 fp) [] σ6 H6 s6 → QD D H6 → compPost (model X.prog X.w) X.A X.xe use Qc (.ref D) s3.heap.objs.size (.ok r) s6) :
  wpAny (model X.prog X.w) X.A (comprehension (.ListComp elt [⟨tg,iter,ifs,0⟩] scope pos) scope X.env cpos (newList []) false (eval iter X.env) use) Qc X.xe s := by
 have sc := V8 hsc
 have hcl : ∀ y ∈ scope.names,y.2 = .free → ∃ c,X.env.cells.lookup y.1 = some c := fun y hy e => by
  rcases (sc.free y hy e).2 with z | z
  ·exact I.ok.has y.1 (.inl z)
  ·exact I.ok.has y.1 (.inr z)
 refine wpAny_comprehension_free (g := ⟨tg,iter,ifs,0⟩) (gs := []) rfl hs (ZE hcl) sc.kind sc.loc ?_
 show wpAny _ _ (eval iter X.env) _ _ s
 refine thn (hi pins s σ H _ I h) fun v s1 h1 => thn h1 fun itv s2 h2 => ?_
 obtain ⟨it,fp,tn,J,H2,rfl,I2,T,st2,f2,hW⟩ := h2
 refine wpAny_newObj_type ?_
 have hD : H2 s2.heap.objs.size = none := I2.fresh
 obtain ⟨W,⟨n0,w0⟩,turn⟩ := hW _ hD
 generalize hDe : s2.heap.objs.size = D at *
 have I3 : Inv X pins σ (upd H2 D (.lst [])) { s2 with heap := s2.heap.push { cls := .type "list",dict := none,data := .seq ([] : List Value).toArray } } := by
  subst hDe
  exact I2.laid (t' := s2.toks) (fun b u e => Heap.get?_push_of_some _ e) (Nat.le_refl _) ⟨Nat.zero_le _,[],0,.nil,Heap.get?_push_size _ rfl⟩
 have ob2 := T.obj 0 _ st2
 have ob3 : ∀ b ∈ fp,∃ o,(s2.heap.push { cls := .type "list",dict := none,data := .seq ([] : List Value).toArray }).get? b = some o := fun b hb => let ⟨o,e,_⟩ := ob2 b hb;⟨o,Heap.get?_push_of_some _ e⟩
 have f3 : ∀ b ∈ fp,C9 X pins (upd H2 D (.lst [])) b := fun b hb => by
  obtain ⟨o,e,_⟩ := ob2 b hb
  have : b ≠ D := by rw [← hDe];exact Nat.ne_of_lt (Heap.lt_size e)
  exact ⟨by rw [qI this];exact (f2 b hb).1,(f2 b hb).2⟩
 have k23 : ∀ b o,s2.heap.get? b = some o → (s2.heap.push { cls := .type "list",dict := none,data := .seq ([] : List Value).toArray }).get? b = some o := fun b o e => Heap.get?_push_of_some _ e
 generalize hH3 : upd H2 D (.lst []) = H3 at *
 generalize hs3 : ({ s2 with heap := s2.heap.push { cls := .type "list",dict := none,data := .seq ([] : List Value).toArray } } : Shared) = s3 at *
 have ob3 : ∀ b ∈ fp,∃ o,s3.heap.get? b = some o := by rw [← hs3];exact ob3
 have k23 : ∀ b o,s2.heap.get? b = some o → s3.heap.get? b = some o := by rw [← hs3];exact k23
 refine jv fun h₁ hns hk hown => ?_
 have I4 : Inv (qk X N' scope s3 H3 fp) [] (cap m σ) H3 { s3 with heap := h₁ } := XI hc I3 sc hcap f3 ob3 hns hk hown
 have tn4 : tn 0 h₁ := T.keep _ _ _ st2 fun b hb o e => hk b o (k23 b o e)
 have fr4 : ∀ b ∈ fp,H3 b = none := fun b hb => (f3 b hb).1
 have stat : ∀ {H' : Hp},(∀ b ∈ fp,H' b = none) → ∀ b ∈ fp,C9 (qk X N' scope s3 H3 fp) [] H' b := fun hn b hb => by
  refine ⟨hn b hb,I4.ok.exf b hb |>.1,I4.ok.exfs b hb,.inl hb,fun x c e => (I4.ok.exf b hb).2 x c e,fun p hp => absurd (show p ∈ ([] : List (Addr × Obj)) from hp) (by simp)⟩
 show codeAny (model X.prog X.w) X.A (.compStart (.ListComp elt [⟨tg,iter,ifs,0⟩] scope pos) 0 (.ref it) (.ref D) (qk X N' scope s3 H3 fp).env) (compPost (model X.prog X.w) X.A X.xe use Qc (.ref D) s3.heap.objs.size) { s3 with heap := h₁ }
 have loop : codeAny (model X.prog X.w) X.A (.compLoop (.ListComp elt [⟨tg,iter,ifs,0⟩] scope pos) 0 (.ref it) (.ref D) (qk X N' scope s3 H3 fp).env) (compPost (model X.prog X.w) X.A X.xe use Qc (.ref D) s3.heap.objs.size) { s3 with heap := h₁ } := by
  refine codeAny_loop rfl (fun n s' => ∃ i σ' H',Inv (qk X N' scope s3 H3 fp) [] σ' H' s'∧tn i s'.heap∧(∀ b ∈ fp,H' b = none)∧W i n σ' H') (fun n s' hI => ?_) n0 ⟨0,cap m σ,H3,I4,tn4,fr4,w0⟩
  show wpAny _ X.A ((compTurn (.ListComp elt [⟨tg,iter,ifs,0⟩] scope pos) 0 (.ref it) (.ref D) (qk X N' scope s3 H3 fp).env).onRaise (fun x => do noteFrame x (qk X N' scope s3 H3 fp).env;theTreesLotGoes x)) _ _ s'
  refine wpAny_noted ?_
  rw [compTurn_list]
  refine wpAny_bind (wpAny_standAt (wpAny_bind ?_))
  obtain ⟨i,σ5,H5,I5,st5,fr5,w5⟩ := hI
  rcases turn i n σ5 H5 w5 with ⟨stop,q⟩ | ⟨go,step⟩
  ·refine thn (T.done (qk X N' scope s3 H3 fp) rfl rfl rfl rfl i [] s' σ5 H5 _ I5 (stat fr5) st5 stop) fun r s6 ⟨hr,I6⟩ => ?_
   subst hr
   refine wpAny_pure ?_
   exact fin D s3 H3 fp s6 H5 σ5 _ I3 f3 I6 q
  ·refine thn (T.item (qk X N' scope s3 H3 fp) rfl rfl rfl rfl i [] s' σ5 H5 _ I5 (stat fr5) st5 go) fun r s6 ⟨u,hr,h6⟩ => ?_
   subst hr
   refine wpAny_bind (thn h6 fun _ s7 ⟨x,H7,I7,r7,y7,st7,fr7⟩ => ?_)
   have I7' := I7.pinned (stat fr7) (T.obj _ _ st7)
   have again : ∀ {σ8 : L2.St} {H8 : Hp} {s8 : Shared},Inv (qk X N' scope s3 H3 fp) ([] ++ UV fp s7.heap) σ8 H8 s8 → (∃ n',n' < n∧W (i + 1) n' σ8 H8) →
     ∃ m',m' < n∧∃ i σ' H',Inv (qk X N' scope s3 H3 fp) [] σ' H' s8∧tn i s8.heap∧(∀ b ∈ fp,H' b = none)∧W i m' σ' H' := fun {σ8 H8 s8} I8 ⟨n',hn,w8⟩ => by
    refine ⟨n',hn,i + 1,σ8,H8,I8.unpinned,T.keep _ _ _ st7 fun b hb o e => (I8.pin (b,o) (List.mem_append_right _ (List.mem_append_right _ (zm hb e)))).1,fun b hb => ?_,w8⟩
    obtain ⟨o,e,d⟩ := T.obj _ _ st7 b hb
    exact (I8.pin (b,o) (List.mem_append_right _ (List.mem_append_right _ (zm hb e)))).2.1
   refine wpAny_bind (wpAny_mono (hg s3 H3 fp _ s7 σ5 H7 x u _ I7' r7 (step x H7 y7)) (fun _ s8 ⟨σ8,H8,I8,q8⟩ => ?_) fun _ _ z => z.elim)
   refine wpAny_bind (wpAny_mono (hf s3 H3 fp _ s8 σ8 H8 _ I8 q8) (fun k s9 ⟨H9,I9,q9⟩ => ?_) fun _ _ z => z.elim)
   cases k with
   | false =>
    rw [if_neg Bool.false_ne_true] at q9
    exact wpAny_pure ⟨rfl,again I9 q9⟩
   | true =>
    rw [if_pos rfl] at q9
    refine wpAny_bind (wpAny_bind (wpAny_mono (he s3 H3 fp _ s9 σ8 H9 _ I9 q9) (fun w s10 ⟨y,H10,I10,r10,q10⟩ => ?_) fun _ _ z => z.elim))
    obtain ⟨zs,hz,hl,q10⟩ := q10
    refine wpAny_bind (wpAny_mono (DR (X := qk X N' scope s3 H3 fp) _ s10 σ8 H10 (.ref D) [y] (.ref D) [w] (fun _ H11 => H11 = upd H10 D (.lst (zs ++ [y]))) I10 rfl (.cons r10 .nil) ⟨D,zs,y,rfl,rfl,hz,hl,rfl⟩) (fun _ s11 ⟨_,H11,I11,_,e11⟩ => ?_) fun _ _ z => z.elim)
    subst e11
    exact wpAny_pure (wpAny_pure ⟨rfl,again I11 q10⟩)
 exact codeAny_compStart_list loop (T.self X.A 0 _ _ _ tn4 loop)
theorem qck {i : Nat} {y : Str} {py spos : Pos} {elt tg iter : Expr} {ifs : List Expr} {scope : Scope} {pos : Pos} {N' : List Str} {m : List (Option Nat)} {wi : TI} {g : TG} {tif : TT} {te : TE} (hc : X.calm = true) (hN : X.N.Nodup) (hi : PI X tg iter wi)
  (hg : ∀ s H fp,PG (qk X N' scope s H fp) tg g) (hf : ∀ s H fp,PF (qk X N' scope s H fp) ifs tif) (he : ∀ s H fp,PE (qk X N' scope s H fp) elt te)
  (hsc : NI X.env.scope scope = true) (hcap : VE X.N N' scope m = true) (hs : ∀ x,foldedSetIterable iter X.env x = pure x) (hiy : X.N[i]? = some y) (hl : X.env.scope.names.lookup y = some .local)
  (hsw : swapsWith (.ListComp elt [⟨tg,iter,ifs,0⟩] scope pos) (some (.Name y py)) spos.line X.env = pure true) :
  PS X (.Assign [.Name y py] (.ListComp elt [⟨tg,iter,ifs,0⟩] scope pos) spos) (qmr (tLC wi g tif te m) (qge i)) := by
 intro pins s σ H D I h
 rw [exec_Assign_Name_used _ _ _ _ hsw]
 refine wpAny_bind (wpAny_standAt (wpAny_bind ?_))
 show wpAny _ X.A (do let _ ← comprehension (.ListComp elt [⟨tg,iter,ifs,0⟩] scope pos) scope X.env _ (newList []) false (eval iter X.env) (some (assign (.Name y py) X.env))) _ _ s
 refine wpAny_bind (wpAny_mono (qgl (use := some (assign (.Name y py) X.env)) (QD := fun D' H' => D.nx (σ.set i (some (.ref D'))) H') (Qc := fun _ s' => ∃ σ' H',Inv X pins σ' H' s'∧D.nx σ' H') hc hi hg hf he hsc hcap hs I h fun D' s3 H3 fp s6 H6 σ6 r I3 f3 I6 q => ?_) (fun _ s' hq => wpAny_pure (wpAny_pure hq)) fun _ _ e => e)
 have I7 : Inv X pins σ H6 s6 := UU (h2 := s6.heap) I3 f3 I6 ⟨rfl,fun _ _ => rfl⟩
 obtain ⟨mm,hn6,_⟩ := I6.loc
 have hfC : C9 X pins H6 s3.heap.objs.size := I3.fpOk (Nat.le_refl _) I6.free
 obtain ⟨f0,f1,f2,f3',f4,f5⟩ := hfC
 show wpAny _ X.A (assign (.Name y py) X.env (.ref D')) _ _ _
 refine wpAny_assign_Name (SF I7 hN hiy (.inl hl) (v := .ref D') rfl (fun s8 I8 hch => ?_) (.inr hl))
 obtain ⟨a,sb,ha⟩ := hch
 have hne : s3.heap.objs.size ≠ a := by
  rcases ha with rfl | ha
  ·exact f1
  ·exact Ne.symm (f4 _ _ ha)
 refine ⟨mm,hn6.sameBut sb hne,fun h' sb' => ⟨_,_,I8.turned (t' := s8.toks) (fun b o hb e => (sb'.2 b hb).trans e) f0 f1 f3' f4 f5,q⟩⟩
end
theorem qnP {K : PySem.W.Frag} {m : List (Option Nat)} {wi : TI3} {g : TG3} {tif : TT3} {te : TE3} {σ : L2.St} {H : Hp} {Q : VK} (hh : lE K (lc3 wi g tif te m) σ H Q) : tLC (lI K wi) (lG K g) (lT K tif) (lE K te) m σ H Q := by
  obtain ⟨τ,G,q,rl,h,af⟩ := hh
  refine ⟨τ,G,_,rl,h,fun items stay G1 h1 J H1 hr1 k1 ok D hD => ?_⟩
  have gD : G1 D = none := hr1.free hD
  refine ⟨fun i n σ' H' => n = items.length - i∧i ≤ items.length∧∃ τ' G' ys vs,Rel K τ' G' σ' H'∧Kp G1 H1 G' H'∧H' D = some (.lst vs)∧Rps K H' ys vs∧G' D = none∧MW stay g tif te q (items.drop i) ys τ' G',
   ⟨_,rfl,Nat.zero_le _,cap m τ,G1,[],[],((rl.next hr1 k1).cap m).next (hr1.laid hD) (Kp.laid hD),Kp.laid hD,zj,.nil,gD,by simpa using h1⟩,?_⟩
  rintro i n σ' H' ⟨rfl,hi,τ',G',ys,vs,rl',k',hDl,rys,gD',h'⟩
  by_cases hlt : i < items.length
  ·rw [List.drop_eq_getElem_cons hlt] at h'
   obtain ⟨hst,h'⟩ := h'
   obtain ⟨go,yld,_⟩ := ok G' H' rl'.hp k' hst
   have hx : items[i]? = some items[i] := List.getElem?_eq_getElem hlt
   refine .inr ⟨go i _ hx,fun v H2 y => ?_⟩
   obtain ⟨rv,hr2,k2⟩ := yld i _ v H2 hx y
   have nxt : ∀ {τ4 : St3} {G4 : Gp} {σ4 : L2.St} {H4 : Hp} {ys4 : List T} {vs4 : List V},Rel K τ4 G4 σ4 H4 → Kp G1 H1 G4 H4 → H4 D = some (.lst vs4) → Rps K H4 ys4 vs4 → G4 D = none → MW stay g tif te q (items.drop (i + 1)) ys4 τ4 G4 →
     ∃ n',n' < items.length - i∧(n' = items.length - (i + 1)∧i + 1 ≤ items.length∧∃ τ' G' ys vs,Rel K τ' G' σ4 H4∧Kp G1 H1 G' H4∧H4 D = some (.lst vs)∧Rps K H4 ys vs∧G' D = none∧MW stay g tif te q (items.drop (i + 1)) ys τ' G') :=
    fun {τ4 G4 σ4 H4 ys4 vs4} a b c d e f => ⟨_,by omega,rfl,hlt,τ4,G4,ys4,vs4,a,b,c,d,e,f⟩
   refine ⟨_,τ',G',_,rv,rl'.next hr2 k2,h',fun τ3 G3 h3 σ3 H3 rl3 k3 => ⟨τ3,G3,_,rl3,h3,fun k G4 h4 H4 hr4 k4 => ?_⟩⟩
   have kk := (k2.trans k3).trans k4
   obtain ⟨hD4,gD4⟩ := kk D _ hDl gD'
   have rys4 := rys.keep rl'.hp kk
   cases k with
   | false =>
    rw [if_neg Bool.false_ne_true] at h4
    refine qmf ?_
    exact nxt (rl3.next hr4 k4) (k'.trans kk) hD4 rys4 gD4 h4
   | true =>
    rw [if_pos rfl] at h4
    refine qmb ?_
    refine ⟨τ3,G4,_,rl3.next hr4 k4,h4,fun z G5 h5 w H5 rw5 hr5 k5 => ?_⟩
    obtain ⟨hD5,gD5⟩ := k5 D _ hD4 gD4
    have rys5 := rys4.keep hr4 k5
    exact ⟨vs,hD5,by rw [← rys.length];exact h5.1,nxt (((rl3.next hr4 k4).next hr5 k5).wrD hD5 gD5) (((k'.trans kk).trans k5).wrD hD) zj ((rys5.append (.cons rw5 .nil)).wrD hD5) gD5 h5.2⟩
  ·have e : i = items.length := by omega
   subst e
   rw [List.drop_length] at h'
   obtain ⟨_,_,stop⟩ := ok G' H' rl'.hp k' h'.1
   refine .inl ⟨stop,af _ _ (h'.2 D gD') _ H' (.ref D) (fun a o e => ?_) fun a o e ga => ?_⟩
   ·by_cases ha : a = D
    ·subst ha
     rw [qN] at e;cases e
     exact ⟨vs,hDl,rys⟩
    ·rw [jB ha] at e
     exact rl'.hp a o e
   ·obtain ⟨e1,g1⟩ := k1 a o e ga
    obtain ⟨e2,g2⟩ := k' a o e1 g1
    exact ⟨e2,by rw [jB (qC e1 hD)];exact g2⟩
theorem qfN {X : Cx} {py spos : Pos} {elt tg iter : Expr} {ifs : List Expr} {scope : Scope} {pos : Pos} {y : Str} (i : Nat) (N' : List Str) (m : List (Option Nat)) {wi : TI3} {g : TG3} {tif : TT3} {te : TE3} (hc : X.calm = true) (hN : X.N.Nodup) (hi : I3 X tg iter wi)
  (hg : ∀ s H fp,G3 (qk X N' scope s H fp) tg g) (hf : ∀ s H fp,F3 (qk X N' scope s H fp) ifs tif) (he : ∀ s H fp,E3 (qk X N' scope s H fp) elt te)
  (hsc : NI X.env.scope scope = true) (hcap : VE X.N N' scope m = true) (hl : X.env.scope.names.lookup y = some .local) (hsw : swapsWith (.ListComp elt [⟨tg,iter,ifs,0⟩] scope pos) (some (.Name y py)) spos.line X.env = pure true) (hiy : X.N[i]? = some y := by rfl) (hs : ∀ x,foldedSetIterable iter X.env x = pure x := by intro _;rfl) :
  S3 X (.Assign [.Name y py] (.ListComp elt [⟨tg,iter,ifs,0⟩] scope pos) spos) (zg (lc3 wi g tif te m) (gn3 i)) :=
 qbH (qck (g := lG X.K g) (tif := lT X.K tif) (te := lE X.K te) hc hN hi hg hf he hsc hcap hs hiy hl hsw) fun _ σ H ⟨τ,G,d,rl,h,af⟩ =>
  qnP ⟨τ,G,_,rl,h,fun x G1 h1 v H1 rx hr1 k1 => af.nx _ G1 h1 _ H1 ((rl.next hr1 k1).set i rx) k1⟩
end L3
set_option autoImplicit true
namespace L3
open PySem PySem.Spec PyProof.Rows L2
structure jE3 (X : Cx) (e : Expr) (t : TE3) : Prop where h : E3 X e t
structure jC3 (X : Cx) (e : Expr) (t : TT3) : Prop where h : C3 X e t
structure jW3 (X : Cx) (e : Expr) (t : TT3) : Prop where h : W3 X e t
structure jA3 (X : Cx) (e : List Expr) (t : TA3) : Prop where h : A3 X e t
structure jP3 (X : Cx) (e : Option Expr) (t : TO3) : Prop where h : P3 X e t
structure jS3 (X : Cx) (e : Stmt) (t : TS3) : Prop where h : S3 X e t
structure jB3 (X : Cx) (e : List Stmt) (t : TS3) : Prop where h : B3 X e t
structure jG3 (X : Cx) (e : Expr) (t : TG3) : Prop where h : G3 X e t
structure jGs3 (X : Cx) (e : List Expr) (t : S6) : Prop where h : Gs3 X e t
structure jI3 (X : Cx) (tg e : Expr) (t : TI3) : Prop where h : I3 X tg e t
structure jF3 (X : Cx) (e : List Expr) (t : TT3) : Prop where h : F3 X e t
theorem qb {X : Cx} (i : Nat) {x : Str} {pos : Pos} (hN : X.N[i]? = some x := by rfl) (hv : Vis X.env.scope x := by first | exact Or.inl rfl | exact Or.inr (Or.inl rfl) | exact Or.inr (Or.inr rfl)) (hd : (x == ("__debug__" : Str)) = false := by decide)
  (hcd : (x == ("__classdict__" : Str)) = false := by decide) : jE3 X (.Name x pos) (v3 i) :=
 ⟨qnD (i := i) (hN := hN) (hv := hv) (hd := hd) (hcd := hcd)⟩
theorem qd {X : Cx} {i : Int} {j pos} : jE3 X (.Constant (.int i) j pos) (c3 (.int i)) :=
 ⟨qm4 ⟩
theorem MX {X : Cx} {b : Bool} {j pos} : jE3 X (.Constant (.bool b) j pos) (c3 (.bl b)) :=
 ⟨qoX ⟩
theorem UY {X : Cx} {j pos} : jE3 X (.Constant .none j pos) (c3 .non) :=
 ⟨qnk ⟩
theorem zN {X : Cx} {x : Str} {j pos} : jE3 X (.Constant (.str x) j pos) (c3 (.str x)) :=
 ⟨qmA ⟩
theorem ZY {ta : TE3} {tb : TE3} {pos : Pos} {a : Expr} {b : Expr} {X : Cx} {op : CmpOp} {r3 : R3} {r : R2} (ho : OpR X (compareOp op) r) (hr : DT X.K r3 r) (ha : jE3 X a ta) (hb : jE3 X b tb) (hm : behindInMarks op b = false) : jE3 X (.Compare a [op] [b] pos) (o3 r3 ta tb) :=
 ⟨qmD (ho := ho) (hr := hr) (ha := ha.h) (hb := hb.h) (hm := hm)⟩
theorem za {ta : TE3} {tb : TE3} {pos : Pos} {a : Expr} {b : Expr} {X : Cx} {op : CmpOp} {r3 : R3} {r : R2} (ho : OpR X (compareOp op) r) (hr : DT X.K r3 r) (ha : jE3 X a ta) (hb : jE3 X b tb) (hm : behindInMarks op b = false) : jC3 X (.Compare a [op] [b] pos) (tb3 (o3 r3 ta tb)) :=
 ⟨qml (ho := ho) (hr := hr) (ha := ha.h) (hb := hb.h) (hm := hm)⟩
theorem LF {ta : TE3} {tb : TE3} {tc : TE3} {pos : Pos} {a : Expr} {b : Expr} {c : Expr} {X : Cx} {op op' : CmpOp} {r3 r3' : R3} {r r' : R2} (ho : OpR X (compareOp op) r) (hr : DT X.K r3 r) (ho' : OpR X (compareOp op') r') (hr' : DT X.K r3' r') (ha : jE3 X a ta) (hb : jE3 X b tb) (hc : jE3 X c tc)
  (hm : lastMarks [op,op'] [b,c] = false := by with_unfolding_all rfl) : jE3 X (.Compare a [op,op'] [b,c] pos) (ch3 r3 r3' ta tb tc) :=
 ⟨qf3 (ho := ho) (hr := hr) (ho' := ho') (hr' := hr') (ha := ha.h) (hb := hb.h) (hc := hc.h) (hm := hm)⟩
theorem DB {ta : TE3} {tb : TE3} {pos : Pos} {a : Expr} {b : Expr} {X : Cx} (ha : jE3 X a ta) (hb : jE3 X b tb) : jE3 X (.BinOp a .Sub b pos) (o3 (iI (· - ·)) ta tb) :=
 ⟨qmQ (ha := ha.h) (hb := hb.h)⟩
theorem zo {ta : TE3} {tb : TE3} {pos : Pos} {a : Expr} {b : Expr} {X : Cx} (ha : jE3 X a ta) (hb : jE3 X b tb) : jE3 X (.BinOp a .Mult b pos) (o3 (iC jd (· * ·)) ta tb) :=
 ⟨qnO (ha := ha.h) (hb := hb.h)⟩
theorem YJ {ta : TE3} {tb : TE3} {pos : Pos} {a : Expr} {b : Expr} {X : Cx} (ha : jE3 X a ta) (hb : jE3 X b tb) : jE3 X (.BinOp a .Mod b pos) (o3 (iC (fun _ j => 0 < j) (· % ·)) ta tb) :=
 ⟨qnG (ha := ha.h) (hb := hb.h)⟩
theorem K0 {ta : TE3} {tb : TE3} {pos : Pos} {a : Expr} {b : Expr} {X : Cx} (ha : jE3 X a ta) (hb : jE3 X b tb) : jE3 X (.BinOp a .FloorDiv b pos) (o3 (iC qas (· / ·)) ta tb) :=
 ⟨qny (ha := ha.h) (hb := hb.h)⟩
theorem qil {ta : TE3} {tb : TE3} {pos : Pos} {a : Expr} {b : Expr} {X : Cx} (ha : jE3 X a ta) (hb : jE3 X b tb) : jE3 X (.BinOp a .Pow b pos) (o3 (iC S4 (fun i j => i ^ j.toNat)) ta tb) :=
 ⟨qnA (ha := ha.h) (hb := hb.h)⟩
theorem qbn {ta : TE3} {tb : TE3} {pos : Pos} {a : Expr} {b : Expr} {X : Cx} (ha : jE3 X a ta) (hb : jE3 X b tb) : jE3 X (.BinOp a .LShift b pos) (o3 (iC S4 (fun i j => i * 2 ^ j.toNat)) ta tb) :=
 ⟨qnS (ha := ha.h) (hb := hb.h)⟩
theorem SR {ta : TE3} {pos : Pos} {a : Expr} {X : Cx} (ha : jE3 X a ta) : jE3 X (.UnaryOp .USub a pos) (u3 NA ta) :=
 ⟨qmL (ha := ha.h)⟩
theorem qgq {tA : TT3} {pos : Pos} {a : Expr} {X : Cx} (ha : jC3 X a tA) : jW3 X (.BoolOp .And [a] pos) tA :=
 ⟨qlw (ha := ha.h)⟩
theorem LP {tA : TT3} {pos : Pos} {a : Expr} {X : Cx} (ha : jC3 X a tA) : jW3 X (.BoolOp .Or [a] pos) tA :=
 ⟨qmz (ha := ha.h)⟩
theorem qkg {QN : List Expr} {tA : TT3} {tB : TT3} {pos : Pos} {a : Expr} {X : Cx} (ha : jC3 X a tA) (hb : jW3 X (.BoolOp .And (b :: QN) pos) tB) : jW3 X (.BoolOp .And (a :: b :: QN) pos) (qgX tA tB) :=
 ⟨qmE (ha := ha.h) (hb := hb.h)⟩
theorem qcI {QN : List Expr} {tA : TT3} {tB : TT3} {pos : Pos} {a : Expr} {X : Cx} (ha : jC3 X a tA) (hb : jW3 X (.BoolOp .Or (b :: QN) pos) tB) : jW3 X (.BoolOp .Or (a :: b :: QN) pos) (or3 tA tB) :=
 ⟨qph (ha := ha.h) (hb := hb.h)⟩
theorem RC {tA : TT3} {pos : Pos} {a : Expr} {X : Cx} (ha : jC3 X a tA) : jC3 X (.UnaryOp .Not a pos) (MM tA) :=
 ⟨qnu (ha := ha.h)⟩
theorem V4 {X : Cx} {e : Expr} {t : TE3} (h : jE3 X e t) (he : ∀ whole,isTrue e X.env whole = (do let v ← whole;standAt e.pos;holding [v] (truthy v)) := by intro _;rfl) : jC3 X e (tb3 t) :=
 ⟨qmP (h := h.h) (he := he)⟩
theorem VI {ta : TE3} {pos : Pos} {a : Expr} {X : Cx} {op} (h : jE3 X a ta) : jE3 X (.BoolOp op [a] pos) ta :=
 ⟨qnT (h := h.h)⟩
theorem Q0 {QN : List Expr} {ta : TE3} {tb : TE3} {pos : Pos} {a : Expr} {X : Cx} (ha : jE3 X a ta) (hb : jE3 X (.BoolOp .And (b :: QN) pos) tb) : jE3 X (.BoolOp .And (a :: b :: QN) pos) (QX ta tb) :=
 ⟨qmM (ha := ha.h) (hb := hb.h)⟩
theorem qdF {ta : TE3} {pos : Pos} {a : Expr} {X : Cx} (ha : jE3 X a ta) : jE3 X (.UnaryOp .Not a pos) (KR ta) :=
 ⟨qmN (ha := ha.h)⟩
theorem qfe {tA : TT3} {ta : TE3} {tb : TE3} {pos : Pos} {a : Expr} {b : Expr} {X : Cx} {c : Expr} (hc : jC3 X c tA) (ha : jE3 X a ta) (hb : jE3 X b tb) : jE3 X (.IfExp c a b pos) (if3 tA ta tb) :=
 ⟨qo9 (hc := hc.h) (ha := ha.h) (hb := hb.h)⟩
theorem qe {X : Cx}  : jA3 X [] qj :=
 ⟨qmu ⟩
theorem qa {te : TE3} {t : TA3} {es : List Expr} {X : Cx} (ha : jE3 X e te) (hr : jA3 X es t) (hs : starEach (e :: es) X.env = (false,eval e X.env) :: starEach es X.env := by rfl) : jA3 X (e :: es) (qc te t) :=
 ⟨qkv (ha := ha.h) (hr := hr.h) (hs := hs)⟩
theorem qH {t : TA3} {pos : Pos} {es : List Expr} {X : Cx} {x1} (h : jA3 X es t) : jE3 X (.Tuple es x1 pos) (zJ t) :=
 ⟨qnb (h := h.h)⟩
theorem QK {t : TA3} {pos : Pos} {es : List Expr} {X : Cx} (h : jA3 X es t) : jE3 X (.List es pos) (UF t) :=
 ⟨qmI (h := h.h)⟩
theorem qJ {t : TA3} {pos : Pos} {es : List Expr} {X : Cx} {x : Str} {p : Pos} {id : String} {r3 : List T → Gp → Q3 → Prop} {r : List V → Hp → VK → Prop} (hc : Z7 X (.builtin id) r) (hr : LE X.K r3 r) (hg : Gl X x) (hm : X.mg x = none) (hv : bootBuiltins x = some (.builtin id)) (ha : jA3 X (e :: es) t) (hn : x ≠ "__name__" := by decide) (hdb : (x == ("__debug__" : Str)) = false := by decide)
  (he : starEach (e :: es) X.env = (false,eval e X.env) :: starEach es X.env := by rfl) (hpl : (backTo pos (starEach es X.env)).any (·.1) = false := by rfl) : jE3 X (.Call (.Name x p) (e :: es) [] pos) (cb3 r3 t) :=
 ⟨qgp (hc := hc) (hr := hr) (hg := hg) (hm := hm) (hv := hv) (ha := ha.h) (hn := hn) (hdb := hdb) (he := he) (hpl := hpl)⟩
theorem DI {t : TA3} {pos : Pos} {es : List Expr} {X : Cx} {x : Str} {p : Pos} {ty : String} {r3 : List T → Gp → Q3 → Prop} {r : List V → Hp → VK → Prop} (hc : Z7 X (.type ty) r) (hr : LE X.K r3 r) (hg : Gl X x) (hm : X.mg x = none) (hv : bootBuiltins x = some (.type ty)) (ha : jA3 X (e :: es) t) (hn : x ≠ "__name__" := by decide) (hdb : (x == ("__debug__" : Str)) = false := by decide)
  (he : starEach (e :: es) X.env = (false,eval e X.env) :: starEach es X.env := by rfl) (hpl : (backTo pos (starEach es X.env)).any (·.1) = false := by rfl) : jE3 X (.Call (.Name x p) (e :: es) [] pos) (cb3 r3 t) :=
 ⟨qb6 (hc := hc) (hr := hr) (hg := hg) (hm := hm) (hv := hv) (ha := ha.h) (hn := hn) (hdb := hdb) (he := he) (hpl := hpl)⟩
theorem qx {ta : TE3} {tb : TE3} {pos : Pos} {a : Expr} {b : Expr} {X : Cx} (ha : jE3 X a ta) (hb : jE3 X b tb) (hs : XR b := by intro _ _;rfl) : jE3 X (.Subscript a b pos) (o3 ix3 ta tb) :=
 ⟨qo8 (ha := ha.h) (hb := hb.h) (hs := hs)⟩
theorem qaV {te : TE3} {e : Expr} {X : Cx} (h : jE3 X e te) : jP3 X (some e) (sp3 te) :=
 ⟨qjq (h := h.h)⟩
theorem qcy {te : TE3} {pos : Pos} {e : Expr} {X : Cx} {lo hi : Option Expr} {tl th : TO3} {p2 : Pos} (he : jE3 X e te) (hl : jP3 X lo tl) (hu : jP3 X hi th) : jE3 X (.Subscript e (.Slice lo hi none p2) pos) (qgP te tl th) :=
 ⟨qfm (he := he.h) (hl := hl.h) (hu := hu.h)⟩
theorem qD {ta : TE3} {tb : TE3} {pos : Pos} {a : Expr} {b : Expr} {X : Cx} (ha : jE3 X a ta) (hb : jE3 X b tb) : jE3 X (.BinOp a .Add b pos) (o3 zY ta tb) :=
 ⟨qiT (ha := ha.h) (hb := hb.h)⟩
theorem JP {te : TE3} {pos : Pos} {e : Expr} {X : Cx} {tn : Str} {ty : String} {p p2 : Pos} (he : jE3 X e te) (hg : Gl X "isinstance") (hm : X.mg "isinstance" = none) (hg2 : Gl X tn) (hm2 : X.mg tn = none) (hv : bootBuiltins tn = some (.type ty)) (hmem : ty ∈ jV := by decide) (hn : tn ≠ "__name__" := by decide) (hdb : (tn == ("__debug__" : Str)) = false := by decide)
  (hs : starEach [e,.Name tn p2] X.env = (false,eval e X.env) :: starEach [.Name tn p2] X.env := by rfl) (hs2 : starEach [.Name tn p2] X.env = (false,eval (.Name tn p2) X.env) :: starEach [] X.env := by rfl) (hpl : (backTo pos (starEach [.Name tn p2] X.env)).any (·.1) = false := by rfl) : jE3 X (.Call (.Name "isinstance" p) [e,.Name tn p2] [] pos) (DU (fun t => ZJ t ty) te) :=
 ⟨qmF (he := he.h) (hg := hg) (hm := hm) (hg2 := hg2) (hm2 := hm2) (hv := hv) (hmem := hmem) (hn := hn) (hdb := hdb) (hs := hs) (hs2 := hs2) (hpl := hpl)⟩
theorem qbe {te : TE3} {pos : Pos} {e : Expr} {X : Cx} {tn tn' : Str} {ty ty' : String} {p p2 p3 p4 : Pos} {x1} (he : jE3 X e te) (hg : Gl X "isinstance") (hm : X.mg "isinstance" = none) (hg2 : Gl X tn) (hm2 : X.mg tn = none) (hv : bootBuiltins tn = some (.type ty)) (hg3 : Gl X tn') (hm3 : X.mg tn' = none) (hv3 : bootBuiltins tn' = some (.type ty'))
  (hmem : ty ∈ jV := by decide) (hn : tn ≠ "__name__" := by decide) (hdb : (tn == ("__debug__" : Str)) = false := by decide) (hmem3 : ty' ∈ jV := by decide) (hn3 : tn' ≠ "__name__" := by decide) (hdb3 : (tn' == ("__debug__" : Str)) = false := by decide)
  (hs : starEach [e,.Tuple [.Name tn p2,.Name tn' p3] x1 p4] X.env = (false,eval e X.env) :: starEach [.Tuple [.Name tn p2,.Name tn' p3] x1 p4] X.env := by rfl) (hs2 : starEach [.Tuple [.Name tn p2,.Name tn' p3] x1 p4] X.env = (false,eval (.Tuple [.Name tn p2,.Name tn' p3] x1 p4) X.env) :: starEach [] X.env := by rfl)
  (hs3 : starEach [.Name tn p2,.Name tn' p3] X.env = (false,eval (.Name tn p2) X.env) :: starEach [.Name tn' p3] X.env := by rfl) (hs4 : starEach [.Name tn' p3] X.env = (false,eval (.Name tn' p3) X.env) :: starEach [] X.env := by rfl)
  (hpl : (backTo pos (starEach [.Tuple [.Name tn p2,.Name tn' p3] x1 p4] X.env)).any (·.1) = false := by rfl) : jE3 X (.Call (.Name "isinstance" p) [e,.Tuple [.Name tn p2,.Name tn' p3] x1 p4] [] pos) (DU (fun t => ZJ t ty || ZJ t ty') te) :=
 ⟨qju (he := he.h) (hg := hg) (hm := hm) (hg2 := hg2) (hm2 := hm2) (hv := hv) (hg3 := hg3) (hm3 := hm3) (hv3 := hv3) (hmem := hmem) (hn := hn) (hdb := hdb) (hmem3 := hmem3) (hn3 := hn3) (hdb3 := hdb3) (hs := hs) (hs2 := hs2) (hs3 := hs3) (hs4 := hs4) (hpl := hpl)⟩
theorem zp {X : Cx}  : jB3 X [] ze :=
 ⟨qm0 ⟩
theorem qi {QN : List Stmt} {st : Stmt} {t1 : TS3} {t2 : TS3} {X : Cx} (h1 : jS3 X st t1) (h2 : jB3 X QN t2) : jB3 X (st :: QN) (qK t1 t2) :=
 ⟨qiB (h1 := h1.h) (h2 := h2.h)⟩
theorem qm {st : Stmt} {t1 : TS3} {X : Cx} (h1 : jS3 X st t1) : jB3 X [st] t1 :=
 ⟨qmh (h1 := h1.h)⟩
theorem qv {te : TE3} {pos : Pos} {e : Expr} {X : Cx} (he : jE3 X e te) : jS3 X (.Return (some e) pos) (qZ te) :=
 ⟨qmg (he := he.h)⟩
theorem jA {tA : TT3} {t1 : TS3} {t2 : TS3} {pos : Pos} {X : Cx} {c : Expr} {ba bb : List Stmt} (hc : jC3 X c tA) (ha : jB3 X ba t1) (hb : jB3 X bb t2) : jS3 X (.If c ba bb pos) (Q5 tA t1 t2) :=
 ⟨qoV (hc := hc.h) (ha := ha.h) (hb := hb.h)⟩
theorem qbY {X : Cx} {sts : List Stmt} : jB3 X sts qgQ :=
 ⟨qf7 ⟩
theorem qw {pos : Pos} {X : Cx} {i : Nat} {x : Str} (hN : X.N.Nodup) (hi : X.N[i]? = some x := by rfl) (hx : Loc X.env.scope x := by first | exact Or.inl rfl | exact Or.inr rfl) (hf : X.fn x = true ∨ X.env.scope.names.lookup x = some .local := by first | exact .inl rfl | exact .inr rfl) : jG3 X (.Name x pos) (gn3 i) :=
 ⟨qlE (hN := hN) (hi := hi) (hx := hx) (hf := hf)⟩
theorem zT {X : Cx}  : jGs3 X [] zx :=
 ⟨qmt ⟩
theorem qu {es : List Expr} {X : Cx} {tg : TG3} {tgs : S6} (h1 : jG3 X e tg) (h2 : jGs3 X es tgs) (hs : (assignEach (e :: es) X.env).map (·.2) = assign e X.env :: (assignEach es X.env).map (·.2) := by rfl) : jGs3 X (e :: es) (qo tg tgs) :=
 ⟨qjV (h1 := h1.h) (h2 := h2.h) (hs := hs)⟩
theorem zP {pos : Pos} {es : List Expr} {X : Cx} {k : Nat} {tgs : S6} {n : Nat} (hc : X.calm = true) (h : jGs3 X es tgs) (hn : (assignEach es X.env).length = n := by rfl) (hst : (assignEach es X.env).findIdx? (·.1) = none := by rfl) : jG3 X (.Tuple es k pos) (zu n tgs) :=
 ⟨qmR (hc := hc) (h := h.h) (hn := hn) (hst := hst)⟩
theorem qeh {pos : Pos} {X : Cx} {o i : Expr} {to ti : TE3} (ho : jE3 X o to) (hi : jE3 X i ti) (ha : ∀ v,assign (.Subscript o i pos) X.env v = (do
      let ov ← holding [v] (eval o X.env)
      let iv ← holding [v,ov] (eval i X.env)
      standAt pos
      holding [v,ov,iv] (setItem ov iv v)
      release [v,ov,iv] []) := by intro _;rfl) : jG3 X (.Subscript o i pos) (DP to ti) :=
  ⟨qnh (ho := ho.h) (hi := hi.h) (ha := ha)⟩
theorem jy {te : TE3} {pos : Pos} {X : Cx} {tg e : Expr} {g : TG3} (he : jE3 X e te) (hg : jG3 X tg g) (hs : swapsWithSole [tg] e pos.line X.env = pure false := by rfl) (hw : swappedStores [tg] e X.env = pure none := by rfl)
  (h1 : (assignEach [tg] X.env).map (·.2) = [assign tg X.env] := by rfl) : jS3 X (.Assign [tg] e pos) (zg te g) :=
 ⟨qnB (he := he.h) (hg := hg.h) (hs := hs) (hw := hw) (h1 := h1)⟩
theorem zf {te : TE3} {pos : Pos} {X : Cx} (i : Nat) {x : Str} {e : Expr} {pos' : Pos} (hN : X.N.Nodup) (he : jE3 X e te) (hi : X.N[i]? = some x := by rfl) (hx : Loc X.env.scope x := by first | exact Or.inl rfl | exact Or.inr rfl) (hs : swapsWith e (some (.Name x pos')) pos.line X.env = pure false := by rfl) (hf : X.fn x = true ∨ X.env.scope.names.lookup x = some .local := by first | exact .inl rfl | exact .inr rfl) : jS3 X (.Assign [.Name x pos'] e pos) (zg te (gn3 i)) :=
 ⟨qnV (i := i) (hN := hN) (he := he.h) (hi := hi) (hx := hx) (hs := hs) (hf := hf)⟩
theorem RQ {pos : Pos} {X : Cx} {i j : Nat} {x y : Str} {a b : Expr} {tt : TA3} {px py pt : Pos} {kt k2 pt2} (hc : X.calm = true) (hN : X.N.Nodup) (hi : X.N[i]? = some x) (hj : X.N[j]? = some y) (hij : i ≠ j)
  (hx : X.env.scope.names.lookup x = some .local) (hy : X.env.scope.names.lookup y = some .local) (ha : jA3 X [a,b] tt)
  (hw : swappedStores [.Tuple [.Name x px,.Name y py] kt pt] (.Tuple [a,b] k2 pt2) X.env = pure (some [x,y]) := by rfl)
  (hs : swapsWithSole [.Tuple [.Name x px,.Name y py] kt pt] (.Tuple [a,b] k2 pt2) pos.line X.env = pure false := by rfl) : jS3 X (.Assign [.Tuple [.Name x px,.Name y py] kt pt] (.Tuple [a,b] k2 pt2) pos) (S0 i j tt) :=
 ⟨qmT (hc := hc) (hN := hN) (hi := hi) (hj := hj) (hij := hij) (hx := hx) (hy := hy) (ha := ha.h) (hw := hw) (hs := hs)⟩
theorem DC {te : TE3} {X : Cx} {tg : Expr} {l : Expr} (hl : jE3 X l te) : jI3 X tg l (WH te) :=
 ⟨qmi (hl := hl.h)⟩
theorem jt {t : TA3} {pos : Pos} {a : Expr} {X : Cx} {tg : Expr} {p : Pos} (hg : Gl X "range") (hm : X.mg "range" = none) (ha : jA3 X [a] t) (hs : starEach [a] X.env = [(false,eval a X.env)] := by rfl) (h1 : ∀ τ G q,t τ G q → t τ G fun xs G => q xs G∧xs.length = 1) : jI3 X tg (.Call (.Name "range" p) [a] [] pos) (j0 t) :=
 ⟨qcg (hg := hg) (hm := hm) (ha := ha.h) (hs := hs) (h1 := h1)⟩
theorem JH {t : TA3} {pos : Pos} {a : Expr} {b : Expr} {X : Cx} {tg : Expr} {p : Pos} (hg : Gl X "range") (hm : X.mg "range" = none) (ha : jA3 X [a,b] t) (hs : starEach [a,b] X.env = [(false,eval a X.env),(false,eval b X.env)] := by rfl) (hs2 : starEach [b] X.env = [(false,eval b X.env)] := by rfl) (h1 : ∀ τ G q,t τ G q → t τ G fun xs G => q xs G∧xs.length = 2) : jI3 X tg (.Call (.Name "range" p) [a,b] [] pos) (j0 t) :=
 ⟨qb8 (hg := hg) (hm := hm) (ha := ha.h) (hs := hs) (hs2 := hs2) (h1 := h1)⟩
theorem WS {pos : Pos} {X : Cx} {tg : Expr} {iter : Expr} {body : List Stmt} {wi : TI3} {g : TG3} {tb : TS3} (hp : PassesOwn (model X.prog X.w) X.A X.env X.xe) (hc : X.calm = true) (hi : jI3 X tg iter wi) (hg : jG3 X tg g) (hb : jB3 X body tb)
  (hs : ∀ x,foldedSetIterable iter X.env x = pure x := by intro _;rfl) : jS3 X (.For tg iter body [] pos) (LN wi g tb) :=
 ⟨qnp (hp := hp) (hc := hc) (hi := hi.h) (hg := hg.h) (hb := hb.h) (hs := hs)⟩
theorem XW {pos : Pos} {X : Cx} {c : Expr} {body : List Stmt} {tc : TT3} {tb : TS3} (hp : PassesOwn (model X.prog X.w) X.A X.env X.xe) (hc : jC3 X c tc) (hb : jB3 X body tb) : jS3 X (.While c body [] pos) (EK tc tb) :=
 ⟨qgb (hp := hp) (hc := hc.h) (hb := hb.h)⟩
theorem qg {t : TA3} {pos : Pos} {es : List Expr} {X : Cx} {k : Nat} {x : Str} {p : Pos} {sp : Sp3} (F : Fn3 X.prog X.w X.K X.mg X.base k x sp) (hr : Room k X.A) (hg : Gl X x) (ha : jA3 X (e :: es) t) (hdb : (x == ("__debug__" : Str)) = false := by decide)
  (he : starEach (e :: es) X.env = (false,eval e X.env) :: starEach es X.env := by rfl) (hpl : (backTo pos (starEach es X.env)).any (·.1) = false := by rfl) : jE3 X (.Call (.Name x p) (e :: es) [] pos) (cb3 sp t) :=
 ⟨qlM (F := F) (hr := hr) (hg := hg) (ha := ha.h) (hdb := hdb) (he := he) (hpl := hpl)⟩
theorem SZ {X : Cx} {elt tg iter : Expr} {ifs : List Expr} {scope : Scope} {pos : Pos} (N' : List Str) (m : List (Option Nat)) {wi : TI3} {g : TG3} {tif : TT3} {te : TE3} (hc : X.calm = true) (hi : jI3 X tg iter wi)
  (hg : ∀ s H fp,jG3 (qk X N' scope s H fp) tg g) (hf : ∀ s H fp,jF3 (qk X N' scope s H fp) ifs tif) (he : ∀ s H fp,jE3 (qk X N' scope s H fp) elt te)
  (hsc : NI X.env.scope scope = true) (hcap : VE X.N N' scope m = true) (hs : ∀ x,foldedSetIterable iter X.env x = pure x := by intro _;rfl) : jE3 X (.ListComp elt [⟨tg,iter,ifs,0⟩] scope pos) (lc3 wi g tif te m) :=
 ⟨qoS (N' := N') (m := m) (hc := hc) (hi := hi.h) (hg := (fun s H fp => (hg s H fp).h)) (hf := (fun s H fp => (hf s H fp).h)) (he := (fun s H fp => (he s H fp).h)) (hsc := hsc) (hcap := hcap) (hs := hs)⟩
theorem j4 {X : Cx} : jF3 X [] tt3 :=
 ⟨qnn ⟩
theorem qhP {X : Cx} {c : Expr} {t : TT3} (h : jC3 X c t) : jF3 X [c] t :=
 ⟨qmp (h := h.h)⟩
theorem qjA {t : TA3} {pos : Pos} {es : List Expr} {a : Expr} {b : Expr} {X : Cx} {p pt : Pos} {k1 : Nat} (hg : Gl X "zip") (hm : X.mg "zip" = none) (ha : jA3 X [a,b] t) (hs : starEach [a,b] X.env = [(false,eval a X.env),(false,eval b X.env)] := by rfl) (hs2 : starEach [b] X.env = [(false,eval b X.env)] := by rfl) : jI3 X (.Tuple es k1 pt) (.Call (.Name "zip" p) [a,b] [] pos) (qbS t) :=
 ⟨qnJ (hg := hg) (hm := hm) (ha := ha.h) (hs := hs) (hs2 := hs2)⟩
theorem SK {te : TE3} {pos : Pos} {e : Expr} {X : Cx} (i : Nat) {x : Str} {pos' : Pos} (hN : X.N.Nodup) (he : jE3 X e te) (hi : X.N[i]? = some x := by rfl) (hx : Loc X.env.scope x := by first | exact Or.inl rfl | exact Or.inr rfl) (hf : X.fn x = true ∨ X.env.scope.names.lookup x = some .local := by first | exact .inl rfl | exact .inr rfl) : jS3 X (.AugAssign (.Name x pos') .Add e pos) (qce i (iI (· + ·)) te) :=
 ⟨qbQ (i := i) (hN := hN) (he := he.h) (hi := hi) (hx := hx) (hf := hf)⟩
theorem qcw {X : Cx} {py spos : Pos} {elt tg iter : Expr} {ifs : List Expr} {scope : Scope} {pos : Pos} {y : Str} (i : Nat) (N' : List Str) (m : List (Option Nat)) {wi : TI3} {g : TG3} {tif : TT3} {te : TE3} (hc : X.calm = true) (hN : X.N.Nodup) (hi : jI3 X tg iter wi)
  (hg : ∀ s H fp,jG3 (qk X N' scope s H fp) tg g) (hf : ∀ s H fp,jF3 (qk X N' scope s H fp) ifs tif) (he : ∀ s H fp,jE3 (qk X N' scope s H fp) elt te)
  (hsc : NI X.env.scope scope = true) (hcap : VE X.N N' scope m = true) (hl : X.env.scope.names.lookup y = some .local) (hsw : swapsWith (.ListComp elt [⟨tg,iter,ifs,0⟩] scope pos) (some (.Name y py)) spos.line X.env = pure true) (hiy : X.N[i]? = some y := by rfl) (hs : ∀ x,foldedSetIterable iter X.env x = pure x := by intro _;rfl) : jS3 X (.Assign [.Name y py] (.ListComp elt [⟨tg,iter,ifs,0⟩] scope pos) spos) (zg (lc3 wi g tif te m) (gn3 i)) :=
 ⟨qfN (i := i) (N' := N') (m := m) (hc := hc) (hN := hN) (hi := hi.h) (hg := (fun s H fp => (hg s H fp).h)) (hf := (fun s H fp => (hf s H fp).h)) (he := (fun s H fp => (he s H fp).h)) (hsc := hsc) (hcap := hcap) (hl := hl) (hsw := hsw) (hiy := hiy) (hs := hs)⟩
theorem jpt {X : Cx} {e : Expr} {t : TT3} (h : jW3 X e t) : jC3 X e t := ⟨PW.pt h.h⟩
theorem qy {P : Program} {w : World} {K : PySem.W.Frag} {mg : Str → Option Value} {base : Heap} {x qual : Str} {st : Stmt} {f : Addr} {fd : FuncData} {N ps : List Str} {k : Nat} {sp : Sp3} {t3 : TS3} (F : Fun K x qual st f fd) (S : FnScope N ps (qh st)) (bd : qW K fd ps []) (hm : mg x = some (.ref f))
  (body : ∀ (cdv : Value) (A : Around) (outer : List Env) (s : Shared) (H : Hp) (E : XK),Room k (A.deeper (envOfC qual (qh st) s.heap.objs.size f cdv)) →
   jB3 (qbF CX0 P w K mg base N qual (qh st) f cdv A outer s H E).nox (zV st) t3)
  (read : ∀ ts G q,sp ts G q → ts.length = ps.length∧t3 { nx := fun _ G' => q .non G',rt := q } (qs N ts) G) : Fn3 P w K mg base (k + 1) x sp :=
 qit F S bd hm (fun cdv A outer s H E hr => (body cdv A outer s H E hr).h) read
theorem qcs {P : Program} {w : World} {K : PySem.W.Frag} {mg : Str → Option Value} {base : Heap} {x qual : Str} {st : Stmt} {f : Addr} {fd : FuncData} {N ps : List Str} {k : Nat} {sp : Sp3} {t3 : TS3} (F : Fun K x qual st f fd) (S : FnScope N ps (qh st))
  (body : ∀ (cdv : Value) (A : Around) (outer : List Env) (s : Shared) (H : Hp) (E : XK),Room k (A.deeper (envOfC qual (qh st) s.heap.objs.size f cdv)) →
   jB3 (qbF CX0 P w K mg base N qual (qh st) f cdv A outer s H E).nox (zV st) t3)
  (read : ∀ ts G q,sp ts G q → ts.length = ps.length∧t3 { nx := fun _ G' => q .non G',rt := q } (qs N ts) G) : FnOk P w K mg base CX0 (k + 1) f fd ps (lSp K sp) :=
 qf4 F S (fun cdv A outer s H E hr => (body cdv A outer s H E hr).h) read
end L3
namespace L3
open PySem PySem.Spec PyProof.Rows L2
open PySem.SeqAt
def Ex (G G' : Gp) : Prop := ∀ b o,G b = some o → G' b = some o
theorem Ex.refl {G : Gp} : Ex G G := fun _ _ e => e
theorem Ex.trans {G G1 G2 : Gp} (a : Ex G G1) (b : Ex G1 G2) : Ex G G2 := fun x o e => b x o (a x o e)
theorem JK {G : Gp} {p : Addr} {o : O} (hp : G p = none) : Ex G (gu G p o) := fun b ob e => by
 rw [jB (by rintro rfl;rw [hp] at e;cases e)];exact e
mutual
inductive Dp (G : Gp) : T → PyData → Prop
 | non : Dp G .non .none
 | bl (b : Bool) : Dp G (.bl b) (.bool b)
 | int (i : Int) : Dp G (.int i) (.int i)
 | str (x : Str) : Dp G (.str x) (.str x)
 | tup {xs : List T} {ds : List PyData} : Dps G xs ds → Dp G (.tup xs) (.tuple ds)
 | lst {p : Addr} {xs : List T} {ds : List PyData} : getL G p = some xs → Dps G xs ds → Dp G (.ref p) (.list ds)
inductive Dps (G : Gp) : List T → List PyData → Prop
 | nil : Dps G [] []
 | cons {x : T} {d : PyData} {xs : List T} {ds : List PyData} : Dp G x d → Dps G xs ds → Dps G (x :: xs) (d :: ds)
end
theorem Ex.getL {G G' : Gp} (e : Ex G G') {p : Addr} {xs : List T} (h : getL G p = some xs) : getL G' p = some xs := by
 unfold L3.getL at h ⊢
 split at h
 ·rename_i ys g;cases h;rw [e _ _ g]
 ·rename_i ys g;cases h;rw [e _ _ g]
 ·cases h
mutual
theorem Dp.up {G G' : Gp} (e : Ex G G') : ∀ {x : T} {d : PyData},Dp G x d → Dp G' x d
 | _,_,.non => .non
 | _,_,.bl b => .bl b
 | _,_,.int i => .int i
 | _,_,.str x => .str x
 | _,_,.tup h => .tup (Dps.up e h)
 | _,_,.lst h1 h2 => .lst (e.getL h1) (Dps.up e h2)
theorem Dps.up {G G' : Gp} (e : Ex G G') : ∀ {x : List T} {d : List PyData},Dps G x d → Dps G' x d
 | _,_,.nil => .nil
 | _,_,.cons a b => .cons (Dp.up e a) (Dps.up e b)
end
theorem Dps.length {G : Gp} : ∀ {xs : List T} {ds : List PyData},Dps G xs ds → xs.length = ds.length
 | _,_,.nil => rfl
 | _,_,.cons _ b => by simp [Dps.length b]
theorem Dps.get {G : Gp} : ∀ {xs : List T} {ds : List PyData} {i : Nat} {x : T},Dps G xs ds → xs[i]? = some x → ∃ d,ds[i]? = some d∧Dp G x d
 | _,_,_,_,.nil,e => by simp at e
 | _,_,0,_,.cons r _,e => by simp at e;subst e;exact ⟨_,rfl,r⟩
 | _,_,i + 1,x,.cons _ t,e => by
  obtain ⟨u,h1,h2⟩ := Dps.get (i := i) (x := x) t (by simpa using e)
  exact ⟨u,by simpa using h1,h2⟩
mutual
inductive DV (K : PySem.W.Frag) (H : Hp) : V → PyData → Prop
 | non : DV K H .non .none
 | bl (b : Bool) : DV K H (.bl b) (.bool b)
 | int (i : Int) : DV K H (.int i) (.int i)
 | str (x : Str) : DV K H (.str x) (.str x)
 | tup {a : Addr} {vs : List V} {ds : List PyData} : SqT K H a vs → DVs K H vs ds → DV K H (.ref a) (.tuple ds)
 | lst {a : Addr} {vs : List V} {ds : List PyData} : SqL K H a vs → DVs K H vs ds → DV K H (.ref a) (.list ds)
inductive DVs (K : PySem.W.Frag) (H : Hp) : List V → List PyData → Prop
 | nil : DVs K H [] []
 | cons {x : V} {d : PyData} {xs : List V} {ds : List PyData} : DV K H x d → DVs K H xs ds → DVs K H (x :: xs) (d :: ds)
end
mutual
theorem Dp.dv {K : PySem.W.Frag} {G : Gp} {H : Hp} (hr : HR K G H) : ∀ {x : T} {d : PyData} {v : V},Dp G x d → Rp K H x v → DV K H v d
 | _,_,_,.non,.non => .non
 | _,_,_,.bl b,.bl _ => .bl b
 | _,_,_,.int i,.int _ => .int i
 | _,_,_,.str x,.str _ => .str x
 | _,_,_,.tup h,.tup hs rs => .tup hs (Dps.dv hr h rs)
 | _,_,_,.lst g h,r => by
  cases r
  obtain ⟨_,hs,rs⟩ := zZ hr g
  exact .lst hs (Dps.dv hr h rs)
theorem Dps.dv {K : PySem.W.Frag} {G : Gp} {H : Hp} (hr : HR K G H) : ∀ {x : List T} {d : List PyData} {v : List V},Dps G x d → Rps K H x v → DVs K H v d
 | _,_,_,.nil,.nil => .nil
 | _,_,_,.cons a b,.cons c d => .cons (Dp.dv hr a c) (Dps.dv hr b d)
end
mutual
def Z6 : PyData → PyData → Option Bool
 | .none,.none => some true
 | .bool a,.bool b => some (a == b)
 | .int a,.int b => some (a == b)
 | .str a,.str b => some (a == b)
 | .list xs,.list ys => UG xs ys
 | .tuple xs,.tuple ys => UG xs ys
 | _,_ => none
def UG : List PyData → List PyData → Option Bool
 | [],[] => some true
 | x :: xs,y :: ys => match Z6 x y,UG xs ys with | some a,some b => some (a && b) | _,_ => none
 | _,_ => some false
end
mutual
def dpt : PyData → Nat
 | .list xs => qjO xs + 1
 | .tuple xs => qjO xs + 1
 | _ => 0
def qjO : List PyData → Nat
 | [] => 0
 | x :: xs => max (dpt x) (qjO xs)
end
section
variable {X : Cx} {pins : List (Addr × Obj)} {σ : L2.St} {H : Hp} {s : Shared}
mutual
theorem DV.inj (I : Inv X pins σ H s) : ∀ {v : V} {d e : PyData},DV X.K H v d → DV X.K H v e → d = e
 | _,_,_,.non,.non => rfl
 | _,_,_,.bl _,.bl _ => rfl
 | _,_,_,.int _,.int _ => rfl
 | _,_,_,.str _,.str _ => rfl
 | _,_,_,.tup h hs,.tup k ks => by
  have := I.tuple_inj h k
  subst this
  rw [DVs.inj I hs ks]
 | _,_,_,.lst h hs,.lst k ks => by
  have := I.list_inj h k
  subst this
  rw [DVs.inj I hs ks]
 | _,_,_,.tup h hs,.lst k ks => by
  obtain ⟨i1,_,p1,_⟩ := I.tuple h
  obtain ⟨i2,_,p2,_⟩ := I.list k
  exact absurd rfl (ne_of_list_tuple p2.isList (show s.heap.IsTuple _ i1.toArray from p1))
 | _,_,_,.lst k ks,.tup h hs => by
  obtain ⟨i1,_,p1,_⟩ := I.tuple h
  obtain ⟨i2,_,p2,_⟩ := I.list k
  exact absurd rfl (ne_of_list_tuple p2.isList (show s.heap.IsTuple _ i1.toArray from p1))
theorem DVs.inj (I : Inv X pins σ H s) : ∀ {v : List V} {d e : List PyData},DVs X.K H v d → DVs X.K H v e → d = e
 | _,_,_,.nil,.nil => rfl
 | _,_,_,.cons a b,.cons c d => by rw [DV.inj I a c,DVs.inj I b d]
end
mutual
theorem SG : ∀ {d : PyData} {b : Bool},Z6 d d = some b → b = true
 | .none,_,h => by simp [Z6] at h;exact h
 | .bool _,_,h => by simp [Z6] at h;exact h
 | .int _,_,h => by simp [Z6] at h;exact h
 | .str _,_,h => by simp [Z6] at h;exact h
 | .list xs,_,h => by simp only [Z6] at h;exact UI h
 | .tuple xs,_,h => by simp only [Z6] at h;exact UI h
 | .dict _,_,h => by simp [Z6] at h
theorem UI : ∀ {d : List PyData} {b : Bool},UG d d = some b → b = true
 | [],_,h => by simp [UG] at h;exact h
 | x :: xs,b,h => by
  simp only [UG] at h
  split at h
  ·rename_i a c e1 e2
   rw [SG e1,UI e2] at h
   simpa using h.symm
  ·cases h
end
theorem JL : ∀ {xs ys : List PyData} {b : Bool},UG xs ys = some b → xs.length = ys.length → ∃ e : Nat → Bool,(∀ (j : Nat) x y,xs[j]? = some x → ys[j]? = some y → Z6 x y = some (e j))∧b = (List.range xs.length).all e
 | [],[],b,h,_ => by simp [UG] at h;exact ⟨fun _ => true,by simp,by simp [h]⟩
 | x :: xs,y :: ys,b,h,hl => by
  simp only [UG] at h
  split at h
  ·rename_i a c e1 e2
   obtain ⟨e,h1,h2⟩ := JL e2 (by simpa using hl)
   refine ⟨fun j => match j with | 0 => a | j + 1 => e j,fun j u v hu hv => ?_,?_⟩
   ·cases j with
    | zero => simp at hu hv;subst hu;subst hv;exact e1
    | succ j => exact h1 j u v (by simpa using hu) (by simpa using hv)
   ·rw [List.length_cons,List.range_succ_eq_map,List.all_cons,List.all_map]
    cases h
    rw [h2]
    rfl
  ·cases h
 | [],_ :: _,_,_,hl => by simp at hl
 | _ :: _,[],_,_,hl => by simp at hl
theorem JB : ∀ {xs ys : List PyData} {b : Bool},UG xs ys = some b → xs.length ≠ ys.length → b = false∧∃ e : Nat → Bool,∀ (j : Nat) x y,xs[j]? = some x → ys[j]? = some y → Z6 x y = some (e j)
 | [],[],_,_,hl => by simp at hl
 | [],_ :: _,b,h,_ => by simp [UG] at h;exact ⟨h,fun _ => true,by simp⟩
 | _ :: _,[],b,h,_ => by simp [UG] at h;exact ⟨h,fun _ => true,by simp⟩
 | x :: xs,y :: ys,b,h,hl => by
  simp only [UG] at h
  split at h
  ·rename_i a c e1 e2
   obtain ⟨h0,e,h1⟩ := JB e2 (by simpa using hl)
   subst h0
   refine ⟨by simpa using h.symm,fun j => match j with | 0 => a | j + 1 => e j,fun j u v hu hv => ?_⟩
   cases j with
   | zero => simp at hu hv;subst hu;subst hv;exact e1
   | succ j => exact h1 j u v (by simpa using hu) (by simpa using hv)
  ·cases h
theorem VT : ∀ {xs : List PyData} {x : PyData},x ∈ xs → dpt x ≤ qjO xs
 | [],_,h => by simp at h
 | y :: ys,x,h => by
  simp only [qjO]
  rcases List.mem_cons.mp h with e | e
  ·subst e;omega
  ·have := VT e;omega
theorem DVs.get {K : PySem.W.Frag} {H : Hp} : ∀ {xs : List V} {ds : List PyData} {i : Nat} {x : V},DVs K H xs ds → xs[i]? = some x → ∃ d,ds[i]? = some d∧DV K H x d
 | _,_,_,_,.nil,e => by simp at e
 | _,_,0,_,.cons r _,e => by simp at e;subst e;exact ⟨_,rfl,r⟩
 | _,_,i + 1,x,.cons _ t,e => by
  obtain ⟨u,h1,h2⟩ := DVs.get (i := i) (x := x) t (by simpa using e)
  exact ⟨u,by simpa using h1,h2⟩
theorem DVs.length {K : PySem.W.Frag} {H : Hp} : ∀ {xs : List V} {ds : List PyData},DVs K H xs ds → xs.length = ds.length
 | _,_,.nil => rfl
 | _,_,.cons _ b => by simp [DVs.length b]
theorem JT {vs : List V} {us : List Value} (r : zy vs us) {j : Nat} (h : j < us.toArray.size) : ∃ v,vs[j]? = some v∧jg v us.toArray[j] := by
 have hj : j < vs.length := by rw [r.length];simpa using h
 obtain ⟨u,hu,ru⟩ := r.get (List.getElem?_eq_getElem hj)
 refine ⟨vs[j],List.getElem?_eq_getElem hj,?_⟩
 have hj2 : j < us.length := by simpa using h
 rw [List.getElem?_eq_getElem hj2] at hu
 have : us[j] = u := Option.some.inj hu
 simpa [this] using ru
theorem TQ (I : Inv X pins σ H s) : ∀ (n : Nat) {v u : V} {d e : PyData} {b : Bool} {x y : Value} {A : Around},DV X.K H v d → DV X.K H u e → Z6 d e = some b → dpt d ≤ n → A.units + n < cLine → jg v x → jg u y →
  RcAt A s x y b∧EqAt A s x y b := by
 intro n
 induction n with
 | zero =>
  intro v u d e b x y A hv hu h hd hn rx ry
  cases hv with
  | non => cases hu <;> simp [Z6] at h;subst h;cases (show x = Value.none from rx);cases (show y = Value.none from ry);exact ⟨RcAt.none_none,EqAt.same _⟩
  | bl a => cases hu <;> simp [Z6] at h;subst h;cases (show x = Value.bool _ from rx);cases (show y = Value.bool _ from ry);exact ⟨RcAt.bool_bool _ _,EqAt.bool_bool _ _⟩
  | int a => cases hu <;> simp [Z6] at h;subst h;obtain ⟨t,rfl⟩ := (show ∃ t,x = Value.int _ t from rx);obtain ⟨t',rfl⟩ := (show ∃ t,y = Value.int _ t from ry);exact ⟨RcAt.int_int _ _ _ _,EqAt.int_int _ _ _ _⟩
  | str a => cases hu <;> simp [Z6] at h;subst h;obtain ⟨t,rfl⟩ := (show ∃ t,x = Value.str _ t from rx);obtain ⟨t',rfl⟩ := (show ∃ t,y = Value.str _ t from ry);exact ⟨RcAt.str_str _ _ _ _,EqAt.str_str _ _ _ _⟩
  | tup => simp [dpt] at hd
  | lst => simp [dpt] at hd
 | succ n ih =>
  intro v u d e b x y A hv hu h hd hn rx ry
  have fin : ∀ {l l' : Addr} {k : Bool},x = .ref l → y = .ref l' → v = .ref l → u = .ref l' → b = k → RcAt A s x y k → RcAt A s x y b∧EqAt A s x y b := by
   rintro l l' k rfl rfl rfl rfl rfl rc
   refine ⟨rc,?_⟩
   by_cases hll : l = l'
   ·subst hll
    have := DV.inj I hv hu
    subst this
    rw [SG h]
    exact EqAt.same _
   ·exact EqAt.of_refs hll rc
  cases hv with
  | non => cases hu <;> simp [Z6] at h;subst h;cases (show x = Value.none from rx);cases (show y = Value.none from ry);exact ⟨RcAt.none_none,EqAt.same _⟩
  | bl a => cases hu <;> simp [Z6] at h;subst h;cases (show x = Value.bool _ from rx);cases (show y = Value.bool _ from ry);exact ⟨RcAt.bool_bool _ _,EqAt.bool_bool _ _⟩
  | int a => cases hu <;> simp [Z6] at h;subst h;obtain ⟨t,rfl⟩ := (show ∃ t,x = Value.int _ t from rx);obtain ⟨t',rfl⟩ := (show ∃ t,y = Value.int _ t from ry);exact ⟨RcAt.int_int _ _ _ _,EqAt.int_int _ _ _ _⟩
  | str a => cases hu <;> simp [Z6] at h;subst h;obtain ⟨t,rfl⟩ := (show ∃ t,x = Value.str _ t from rx);obtain ⟨t',rfl⟩ := (show ∃ t,y = Value.str _ t from ry);exact ⟨RcAt.str_str _ _ _ _,EqAt.str_str _ _ _ _⟩
  | tup hq hs =>
   cases hu with
   | tup kq ks =>
    rename_i a1 vs1 ds1 a2 vs2 ds2
    simp only [Z6] at h
    obtain ⟨i1,r1,p1,z1⟩ := I.tuple hq
    obtain ⟨i2,r2,p2,z2⟩ := I.tuple kq
    have l1 := hs.length;have l2 := ks.length;have m1 := r1.length;have m2 := r2.length
    have el : ∀ (e : Nat → Bool),(∀ (j : Nat) x y,ds1[j]? = some x → ds2[j]? = some y → Z6 x y = some (e j)) → ∀ j (h1 : j < i1.toArray.size) (h2 : j < i2.toArray.size),EqAt A.in1 s i1.toArray[j] i2.toArray[j] (e j) := fun e he j h1 h2 => by
     obtain ⟨w1,g1,q1⟩ := JT r1 h1
     obtain ⟨w2,g2,q2⟩ := JT r2 h2
     obtain ⟨d1,f1,dv1⟩ := hs.get g1
     obtain ⟨d2,f2,dv2⟩ := ks.get g2
     have := VT (List.mem_of_getElem? f1)
     exact (ih dv1 dv2 (he j d1 d2 f1 f2) (by simp only [dpt] at hd;omega) (show A.units + 1 + n < cLine by omega) q1 q2).2
    cases (show x = Value.ref a1 from rx)
    cases (show y = Value.ref a2 from ry)
    by_cases hl : ds1.length = ds2.length
    ·obtain ⟨e,he,hb⟩ := JL h hl
     refine fin rfl rfl rfl rfl (k := (List.range (min i1.toArray.size i2.toArray.size)).all e && i1.toArray.size == i2.toArray.size) ?_ (RcAt.tuples (show s.heap.IsTuple a1 i1.toArray from p1) (show s.heap.IsTuple a2 i2.toArray from p2) (by omega) (el e he))
     have e1 : i1.toArray.size = ds1.length := by rw [List.size_toArray];omega
     have e2 : i2.toArray.size = ds1.length := by rw [List.size_toArray];omega
     rw [e1,e2,hb];simp
    ·obtain ⟨hb,e,he⟩ := JB h hl
     refine fin rfl rfl rfl rfl (k := (List.range (min i1.toArray.size i2.toArray.size)).all e && i1.toArray.size == i2.toArray.size) ?_ (RcAt.tuples (show s.heap.IsTuple a1 i1.toArray from p1) (show s.heap.IsTuple a2 i2.toArray from p2) (by omega) (el e he))
     have e1 : i1.toArray.size ≠ i2.toArray.size := by rw [List.size_toArray,List.size_toArray];omega
     rw [hb];simp [e1]
     intro;omega
   | _ => simp [Z6] at h
  | lst hq hs =>
   cases hu with
   | lst kq ks =>
    rename_i a1 vs1 ds1 a2 vs2 ds2
    simp only [Z6] at h
    obtain ⟨i1,r1,p1,z1⟩ := I.list hq
    obtain ⟨i2,r2,p2,z2⟩ := I.list kq
    have l1 := hs.length;have l2 := ks.length;have m1 := r1.length;have m2 := r2.length
    have el : ∀ (e : Nat → Bool),(∀ (j : Nat) x y,ds1[j]? = some x → ds2[j]? = some y → Z6 x y = some (e j)) → ∀ j (h1 : j < i1.toArray.size) (h2 : j < i2.toArray.size),EqAt A.in1 s i1.toArray[j] i2.toArray[j] (e j) := fun e he j h1 h2 => by
     obtain ⟨w1,g1,q1⟩ := JT r1 h1
     obtain ⟨w2,g2,q2⟩ := JT r2 h2
     obtain ⟨d1,f1,dv1⟩ := hs.get g1
     obtain ⟨d2,f2,dv2⟩ := ks.get g2
     have := VT (List.mem_of_getElem? f1)
     exact (ih dv1 dv2 (he j d1 d2 f1 f2) (by simp only [dpt] at hd;omega) (show A.units + 1 + n < cLine by omega) q1 q2).2
    cases (show x = Value.ref a1 from rx)
    cases (show y = Value.ref a2 from ry)
    by_cases hl : ds1.length = ds2.length
    ·obtain ⟨e,he,hb⟩ := JL h hl
     refine fin rfl rfl rfl rfl (k := (List.range i1.toArray.size).all e) ?_ (RcAt.lists p1.isList p2.isList (by rw [List.size_toArray,List.size_toArray];omega) (by omega) (el e he))
     have e1 : i1.toArray.size = ds1.length := by rw [List.size_toArray];omega
     rw [e1,hb]
    ·obtain ⟨hb,e,he⟩ := JB h hl
     refine fin rfl rfl rfl rfl (k := false) hb (RcAt.lists_lengths p1.isList p2.isList (by rw [List.size_toArray,List.size_toArray];simp;omega) (by omega))
   | _ => simp [Z6] at h
theorem qgv (I : Inv X pins σ H s) {n : Nat} {v u : V} {d e : PyData} {b : Bool} {x y : Value} {A : Around} (hv : DV X.K H v d) (hu : DV X.K H u e) (h : Z6 d e = some b) (hd : dpt d ≤ n + 1) (hn : A.units + (n + 1) < cLine) (rx : jg v x) (ry : jg u y) (hs : dpt d ≠ 0) : RcNeAt A s x y (!b) := by
 cases hv with
 | tup hq hs' =>
  cases hu with
  | tup kq ks =>
   rename_i a1 vs1 ds1 a2 vs2 ds2
   simp only [Z6] at h
   obtain ⟨i1,r1,p1,z1⟩ := I.tuple hq
   obtain ⟨i2,r2,p2,z2⟩ := I.tuple kq
   have l1 := hs'.length;have l2 := ks.length;have m1 := r1.length;have m2 := r2.length
   have el : ∀ (e : Nat → Bool),(∀ (j : Nat) x y,ds1[j]? = some x → ds2[j]? = some y → Z6 x y = some (e j)) → ∀ j (h1 : j < i1.toArray.size) (h2 : j < i2.toArray.size),EqAt A.in1 s i1.toArray[j] i2.toArray[j] (e j) := fun e he j h1 h2 => by
    obtain ⟨w1,g1,q1⟩ := JT r1 h1
    obtain ⟨w2,g2,q2⟩ := JT r2 h2
    obtain ⟨d1,f1,dv1⟩ := hs'.get g1
    obtain ⟨d2,f2,dv2⟩ := ks.get g2
    have := VT (List.mem_of_getElem? f1)
    exact (TQ I n dv1 dv2 (he j d1 d2 f1 f2) (by simp only [dpt] at hd;omega) (show A.units + 1 + n < cLine by omega) q1 q2).2
   cases (show x = Value.ref a1 from rx)
   cases (show y = Value.ref a2 from ry)
   by_cases hl : ds1.length = ds2.length
   ·obtain ⟨e,he,hb⟩ := JL h hl
    have := RcNeAt.tuples (show s.heap.IsTuple a1 i1.toArray from p1) (show s.heap.IsTuple a2 i2.toArray from p2) (A := A) (by omega) (el e he)
    have e1 : i1.toArray.size = ds1.length := by rw [List.size_toArray];omega
    have e2 : i2.toArray.size = ds1.length := by rw [List.size_toArray];omega
    rw [e1,e2] at this
    rw [hb];simpa using this
   ·obtain ⟨hb,e,he⟩ := JB h hl
    have := RcNeAt.tuples (show s.heap.IsTuple a1 i1.toArray from p1) (show s.heap.IsTuple a2 i2.toArray from p2) (A := A) (by omega) (el e he)
    have e1 : (i1.toArray.size == i2.toArray.size) = false := by rw [List.size_toArray,List.size_toArray];simp;omega
    rw [e1] at this
    rw [hb];simpa using this
  | _ => simp [Z6] at h
 | lst hq hs' =>
  cases hu with
  | lst kq ks =>
   rename_i a1 vs1 ds1 a2 vs2 ds2
   simp only [Z6] at h
   obtain ⟨i1,r1,p1,z1⟩ := I.list hq
   obtain ⟨i2,r2,p2,z2⟩ := I.list kq
   have l1 := hs'.length;have l2 := ks.length;have m1 := r1.length;have m2 := r2.length
   have el : ∀ (e : Nat → Bool),(∀ (j : Nat) x y,ds1[j]? = some x → ds2[j]? = some y → Z6 x y = some (e j)) → ∀ j (h1 : j < i1.toArray.size) (h2 : j < i2.toArray.size),EqAt A.in1 s i1.toArray[j] i2.toArray[j] (e j) := fun e he j h1 h2 => by
    obtain ⟨w1,g1,q1⟩ := JT r1 h1
    obtain ⟨w2,g2,q2⟩ := JT r2 h2
    obtain ⟨d1,f1,dv1⟩ := hs'.get g1
    obtain ⟨d2,f2,dv2⟩ := ks.get g2
    have := VT (List.mem_of_getElem? f1)
    exact (TQ I n dv1 dv2 (he j d1 d2 f1 f2) (by simp only [dpt] at hd;omega) (show A.units + 1 + n < cLine by omega) q1 q2).2
   cases (show x = Value.ref a1 from rx)
   cases (show y = Value.ref a2 from ry)
   by_cases hl : ds1.length = ds2.length
   ·obtain ⟨e,he,hb⟩ := JL h hl
    have := RcNeAt.lists p1.isList p2.isList (A := A) (by rw [List.size_toArray,List.size_toArray];omega) (by omega) (el e he)
    have e1 : i1.toArray.size = ds1.length := by rw [List.size_toArray];omega
    rw [e1] at this
    rw [hb];exact this
   ·obtain ⟨hb,e,he⟩ := JB h hl
    rw [hb]
    exact RcNeAt.lists_lengths p1.isList p2.isList (by rw [List.size_toArray,List.size_toArray];simp;omega) (by omega)
  | _ => simp [Z6] at h
 | _ => simp [dpt] at hs
def qgW (K : PySem.W.Frag) (neg : Bool) : R2 := fun x y H Q => ∃ d e b,DV K H x d∧DV K H y e∧Z6 d e = some b∧dpt d ≤ 40∧dpt d ≠ 0∧Q (.bl (if neg then !b else b)) H
theorem qjb (hu : X.A.units + 64 < cLine) : OpR X (compareOp .Eq) (qgW X.K false) := by
 intro pins s σ H x y v u Q I rx ry h
 obtain ⟨d,e,b,hx,hy,hb,hd,_,q⟩ := h
 exact (TQ I 40 hx hy hb hd (by omega) rx ry).1 X.prog X.w X.xe _ ⟨.bl b,H,I,rfl,q⟩
theorem qli (hu : X.A.units + 64 < cLine) : OpR X (compareOp .NotEq) (qgW X.K true) := by
 intro pins s σ H x y v u Q I rx ry h
 obtain ⟨d,e,b,hx,hy,hb,hd,hs,q⟩ := h
 exact qgv I (n := 40) hx hy hb (by omega) (by omega) rx ry hs X.prog X.w X.xe _ ⟨.bl (!b),H,I,rfl,q⟩
end
def Q6 (neg : Bool) : R3 := fun x y G q => match VF x y with
 | some k => q (.bl (if neg then !k else k)) G
 | none => ∃ d e b,Dp G x d∧Dp G y e∧Z6 d e = some b∧dpt d ≤ 40∧dpt d ≠ 0∧q (.bl (if neg then !b else b)) G
theorem qQ {K : PySem.W.Frag} : DT K (Q6 false) (fun x y H Q => rEq x y H Q ∨ qgW K false x y H Q) := fun x y v u G H q Q hr rx ry h af => by
 unfold Q6 at h
 split at h
 ·rename_i k e
  obtain ⟨h1,h2⟩ := LG rx ry e
  refine .inl ⟨h1,?_⟩
  rw [h2]
  exact af _ G h _ H (.bl _) hr Kp.refl
 ·obtain ⟨d,e,b,h1,h2,h3,h4,h5,h6⟩ := h
  exact .inr ⟨d,e,b,h1.dv hr rx,h2.dv hr ry,h3,h4,h5,af _ G h6 _ H (.bl _) hr Kp.refl⟩
theorem TR {K : PySem.W.Frag} : DT K (Q6 true) (fun x y H Q => rNe x y H Q ∨ qgW K true x y H Q) := fun x y v u G H q Q hr rx ry h af => by
 unfold Q6 at h
 split at h
 ·rename_i k e
  obtain ⟨h1,h2⟩ := LG rx ry e
  refine .inl ⟨h1,?_⟩
  rw [h2]
  exact af _ G h _ H (.bl _) hr Kp.refl
 ·obtain ⟨d,e,b,h1,h2,h3,h4,h5,h6⟩ := h
  exact .inr ⟨d,e,b,h1.dv hr rx,h2.dv hr ry,h3,h4,h5,af _ G h6 _ H (.bl _) hr Kp.refl⟩
theorem zt {X : Cx} (hu : X.A.units + 64 < cLine) : OpR X (compareOp .Eq) (fun x y H Q => rEq x y H Q ∨ qgW X.K false x y H Q) := qmm.or (qjb hu)
theorem qaF {X : Cx} (hu : X.A.units + 64 < cLine) : OpR X (compareOp .NotEq) (fun x y H Q => rNe x y H Q ∨ qgW X.K true x y H Q) := qmV.or (qli hu)
end L3
namespace L3
open PySem PySem.Spec PyProof.Rows L2
section
variable {X : Cx} {pins : List (Addr × Obj)} {σ : L2.St} {H : Hp} {s : Shared}
end
end L3
namespace L3
open PySem PySem.Spec PyProof.Rows L2
section
variable {X : Cx}
end
end L3
namespace L3
open PySem PySem.Spec PyProof.Rows L2
section
variable {prog : Program} {w : World} {A : Around} {R : Result → Shared → Prop} {s : Shared}
theorem C4 (elt t1 i1 t2 i2 : Expr) (f1 f2 : List Expr) (scope : Scope) (pos : Pos) (it acc : Value) (env : Env) :
  compTurn (.ListComp elt [⟨t1,i1,f1,0⟩,⟨t2,i2,f2,0⟩] scope pos) 0 it acc env = (do
   standAt i1.pos
   match ← pyNext it with
   | none => pure (.done .next)
   | some v =>
    letOwnedTupleGo t1 it v
    assign t1 env v
    let mut ok := true
    for c in f1 do
     if ok then ok ← isTrue c env (eval c env)
    if ok then
     let x ← eval i2 env
     standAt i2.pos
     let x ← foldedSetIterable i2 env x
     let _ ← runOwn (.compStart (.ListComp elt [⟨t1,i1,f1,0⟩,⟨t2,i2,f2,0⟩] scope pos) 1 (← holding [x] (pyIter x)) acc env) env
    again (.compLoop (.ListComp elt [⟨t1,i1,f1,0⟩,⟨t2,i2,f2,0⟩] scope pos) 0 it acc env)) := by rfl
theorem XF (elt t1 i1 t2 i2 : Expr) (f1 f2 : List Expr) (scope : Scope) (pos : Pos) (it acc : Value) (env : Env) :
  compTurn (.ListComp elt [⟨t1,i1,f1,0⟩,⟨t2,i2,f2,0⟩] scope pos) 1 it acc env = (do
   standAt i2.pos
   match ← pyNext it with
   | none => pure (.done .next)
   | some v =>
    letOwnedTupleGo t2 it v
    assign t2 env v
    let mut ok := true
    for c in f2 do
     if ok then ok ← isTrue c env (eval c env)
    if ok then
     (do let _ ← call (.builtin "list.append") [acc,← eval elt env])
    again (.compLoop (.ListComp elt [⟨t1,i1,f1,0⟩,⟨t2,i2,f2,0⟩] scope pos) 1 it acc env)) := by rfl
theorem Z3 {elt t1 i1 t2 i2 : Expr} {f1 f2 : List Expr} {scope : Scope} {pos : Pos} {it acc : Value} {env : Env}
  (h0 : codeAny (model prog w) A (.compLoop (.ListComp elt [⟨t1,i1,f1,0⟩,⟨t2,i2,f2,0⟩] scope pos) 1 it acc env) R s)
  (h : wpAny (model prog w) A (pyIter it) (fun it' s' => codeAny (model prog w) A (.compLoop (.ListComp elt [⟨t1,i1,f1,0⟩,⟨t2,i2,f2,0⟩] scope pos) 1 it' acc env) R s')
   (notedBy (model prog w) A env fun x s' => R (.error x) s') s) :
  codeAny (model prog w) A (.compStart (.ListComp elt [⟨t1,i1,f1,0⟩,⟨t2,i2,f2,0⟩] scope pos) 1 it acc env) R s := by
 refine codeAny_of_tree ?_
 show wpAny _ _ ((compStart (.ListComp elt [⟨t1,i1,f1,0⟩,⟨t2,i2,f2,0⟩] scope pos) 1 it acc env).onRaise (fun x => do noteFrame x env;standAt theWindowsPlace)) _ _ s
 refine wpAny_notedAt ?_
 unfold compStart
 show wpAny _ _ (ask >>= _) _ _ s
 refine wpAny_bind (wpAny_askSetting (wpAny_ite ?_))
 split
 ·first
   | exact wpAny_bind (wpAny_pure (wpAny_pure (And.intro rfl h0)))
   | exact wpAny_pure (And.intro rfl h0)
 ·first
   | exact wpAny_bind (wpAny_rule (wpAny_bind (wpAny_standAt (wpAny_bind (wpAny_mono h (fun it' s' h' => wpAny_pure (And.intro rfl h')) fun _ _ x => x)))))
   | (refine wpAny_bind (wpAny_rule ?_);show wpAny _ _ (standAt i2.pos >>= _) _ _ s;exact wpAny_bind (wpAny_standAt (wpAny_bind (wpAny_mono h (fun it' s' h' => wpAny_pure (And.intro rfl h')) fun _ _ x => x))))
end
def tIn (wi : TI) (g : TG) (tif : TT) (te : TE) (D : Addr) (N : L2.St → Hp → Prop) (σ : L2.St) (H : Hp) : Prop := wi σ H fun J H1 =>
 ∃ W : Nat → Nat → L2.St → Hp → Prop,(∃ n,W 0 n σ H1)∧∀ i n σ H,W i n σ H →
  (J.stop i H∧N σ H) ∨ (J.go i H∧∀ x H',J.yld i H x H' → g x σ H' fun σ2 H2 => tif σ2 H2 fun k H3 =>
   if k = true then te σ2 H3 fun y H4 => ∃ zs,H4 D = some (.lst zs)∧zs.length < sizeLine∧∃ n',n' < n∧W (i + 1) n' σ2 (upd H4 D (.lst (zs ++ [y])))
   else ∃ n',n' < n∧W (i + 1) n' σ2 H3)
section
variable {X : Cx}
theorem qhq {elt t1 i1 t2 i2 : Expr} {f1 f2 : List Expr} {scope : Scope} {pos : Pos} {wi : TI} {g : TG} {tif : TT} {te : TE} {D : Addr} {N : L2.St → Hp → Prop} (hc : X.calm = true) (hx : ∀ v s,¬ X.xe v s) (hi : PI X t2 i2 wi) (hg : PG X t2 g) (hf : PF X f2 tif) (he : PE X elt te)
    (hs : ∀ x,foldedSetIterable i2 X.env x = pure x) {pins : List (Addr × Obj)} {s : Shared} {σ : L2.St} {H : Hp} {E : Value → Shared → Prop} {α : Type} {kk : Sem α} {Q : α → Shared → Prop} (I : Inv X pins σ H s) (h : tIn wi g tif te D N σ H) (hk : ∀ s' σ' H',Inv X pins σ' H' s' → N σ' H' → wpAny (model X.prog X.w) X.A kk Q E s') :
    wpAny (model X.prog X.w) X.A (do
            let x ← eval i2 X.env
            standAt i2.pos
            let x ← foldedSetIterable i2 X.env x
            let _ ← runOwn (.compStart (.ListComp elt [⟨t1,i1,f1,0⟩,⟨t2,i2,f2,0⟩] scope pos) 1 (← holding [x] (pyIter x)) (.ref D) X.env) X.env
            kk) Q E s := by
  refine wpAny_bind (wpAny_mono (hi pins s σ H _ I h) (fun v s1 h1 => ?_) fun _ _ z => (hx _ _ z).elim)
  refine wpAny_bind (wpAny_standAt (wpAny_bind (wpAny_of_eq (hs v) ?_)))
  refine wpAny_bind (wpAny_holding (wpAny_mono h1 (fun itv s2 h2 => ?_) fun _ _ z => (hx _ _ z).elim))
  obtain ⟨it,fp,tn,J,H2,rfl,I2,T,st2,f2',W,⟨n0,w0⟩,turn⟩ := h2
  have stat : ∀ {H' : Hp},(∀ b ∈ fp,H' b = none) → ∀ b ∈ fp,C9 X pins H' b := fun hn b hb => ⟨hn b hb,(f2' b hb).2⟩
  refine wpAny_bind (wpAny_runOwn ?_)
  show codeAny (model X.prog X.w) X.A (.compStart (.ListComp elt [⟨t1,i1,f1,0⟩,⟨t2,i2,f2,0⟩] scope pos) 1 (.ref it) (.ref D) X.env) _ s2
  have loop : codeAny (model X.prog X.w) X.A (.compLoop (.ListComp elt [⟨t1,i1,f1,0⟩,⟨t2,i2,f2,0⟩] scope pos) 1 (.ref it) (.ref D) X.env) (fun r s' => match r with
      | .ok f => wpAny (model X.prog X.w) X.A kk Q E s'
      | .error e => cameBackBy (model X.prog X.w) X.A X.env E e s') s2 := by
    refine codeAny_loop rfl (fun n s' => ∃ i σ' H',Inv X pins σ' H' s'∧tn i s'.heap∧(∀ b ∈ fp,H' b = none)∧W i n σ' H') (fun n s' hI => ?_) n0 ⟨0,σ,H2,I2,st2,fun b hb => (f2' b hb).1,w0⟩
    show wpAny _ X.A ((compTurn (.ListComp elt [⟨t1,i1,f1,0⟩,⟨t2,i2,f2,0⟩] scope pos) 1 (.ref it) (.ref D) X.env).onRaise (fun x => do noteFrame x X.env;theTreesLotGoes x)) _ _ s'
    refine wpAny_noted ?_
    rw [XF]
    refine wpAny_bind (wpAny_standAt (wpAny_bind ?_))
    obtain ⟨i,σ5,H5,I5,st5,fr5,w5⟩ := hI
    rcases turn i n σ5 H5 w5 with ⟨stop,q⟩ | ⟨go,step⟩
    · refine thn (T.done X rfl rfl rfl hc i pins s' σ5 H5 _ I5 (stat fr5) st5 stop) fun r s6 ⟨hr,I6⟩ => ?_
      subst hr
      exact wpAny_pure (hk _ σ5 H5 I6 q)
    · refine thn (T.item X rfl rfl rfl hc i pins s' σ5 H5 _ I5 (stat fr5) st5 go) fun r s6 ⟨u,hr,h6⟩ => ?_
      subst hr
      refine wpAny_bind (thn h6 fun _ s7 ⟨x,H7,I7,r7,y7,st7,fr7⟩ => ?_)
      have I7' := I7.pinned (stat fr7) (T.obj _ _ st7)
      have again : ∀ {σ8 : L2.St} {H8 : Hp} {s8 : Shared},Inv X (pins ++ UV fp s7.heap) σ8 H8 s8 → (∃ n',n' < n∧W (i + 1) n' σ8 H8) →
          ∃ m',m' < n∧∃ i σ' H',Inv X pins σ' H' s8∧tn i s8.heap∧(∀ b ∈ fp,H' b = none)∧W i m' σ' H' := fun {σ8 H8 s8} I8 ⟨n',hn,w8⟩ => by
        refine ⟨n',hn,i + 1,σ8,H8,I8.unpinned,T.keep _ _ _ st7 fun b hb o e => (I8.pin (b,o) (List.mem_append_right _ (List.mem_append_right _ (zm hb e)))).1,fun b hb => ?_,w8⟩
        obtain ⟨o,e,d⟩ := T.obj _ _ st7 b hb
        exact (I8.pin (b,o) (List.mem_append_right _ (List.mem_append_right _ (zm hb e)))).2.1
      refine wpAny_bind (wpAny_mono (hg _ s7 σ5 H7 x u _ I7' r7 (step x H7 y7)) (fun _ s8 ⟨σ8,H8,I8,q8⟩ => ?_) fun _ _ z => (hx _ _ z).elim)
      refine wpAny_bind (wpAny_mono (hf _ s8 σ8 H8 _ I8 q8) (fun k s9 ⟨H9,I9,q9⟩ => ?_) fun _ _ z => (hx _ _ z).elim)
      cases k with
      | false =>
        rw [if_neg Bool.false_ne_true] at q9
        exact wpAny_pure ⟨rfl,again I9 q9⟩
      | true =>
        rw [if_pos rfl] at q9
        refine wpAny_bind (wpAny_bind (wpAny_mono (he _ s9 σ8 H9 _ I9 q9) (fun w s10 ⟨y,H10,I10,r10,q10⟩ => ?_) fun _ _ z => (hx _ _ z).elim))
        obtain ⟨zs,hz,hl,q10⟩ := q10
        refine wpAny_bind (wpAny_mono (DR (X := X) _ s10 σ8 H10 (.ref D) [y] (.ref D) [w] (fun _ H11 => H11 = upd H10 D (.lst (zs ++ [y]))) I10 rfl (.cons r10 .nil) ⟨D,zs,y,rfl,rfl,hz,hl,rfl⟩) (fun _ s11 ⟨_,H11,I11,_,e11⟩ => ?_) fun _ _ z => (hx _ _ z).elim)
        subst e11
        exact wpAny_pure (wpAny_pure ⟨rfl,again I11 q10⟩)
  exact Z3 loop (T.self X.A 0 _ _ _ st2 loop)
def qo0 (wi : TI) (g : TG) (tif : TT) (wi2 : TI) (g2 : TG) (tif2 : TT) (te : TE) (m : List (Option Nat)) : TE := fun σ H Q => wi σ H fun J H1 => ∀ D,H1 D = none →
 ∃ W : Nat → Nat → L2.St → Hp → Prop,(∃ n,W 0 n (cap m σ) (upd H1 D (.lst [])))∧∀ i n σ H,W i n σ H →
  (J.stop i H∧Q (.ref D) H) ∨ (J.go i H∧∀ x H',J.yld i H x H' → g x σ H' fun σ2 H2 => tif σ2 H2 fun k H3 =>
   if k = true then tIn wi2 g2 tif2 te D (fun σ4 H4 => ∃ n',n' < n∧W (i + 1) n' σ4 H4) σ2 H3
   else ∃ n',n' < n∧W (i + 1) n' σ2 H3)
theorem qjy {elt tg iter t2 i2 : Expr} {ifs f2 : List Expr} {scope : Scope} {pos : Pos} {N' : List Str} {m : List (Option Nat)} {wi : TI} {g : TG} {tif : TT} {wi2 : TI} {g2 : TG} {tif2 : TT} {te : TE} (hc : X.calm = true) (hi : PI X tg iter wi)
  (hg : ∀ s H fp,PG (qk X N' scope s H fp) tg g) (hf : ∀ s H fp,PF (qk X N' scope s H fp) ifs tif) (hi2 : ∀ s H fp,PI (qk X N' scope s H fp) t2 i2 wi2) (hg2 : ∀ s H fp,PG (qk X N' scope s H fp) t2 g2) (hf2 : ∀ s H fp,PF (qk X N' scope s H fp) f2 tif2) (he : ∀ s H fp,PE (qk X N' scope s H fp) elt te)
  (hsc : NI X.env.scope scope = true) (hcap : VE X.N N' scope m = true) (hs : ∀ x,foldedSetIterable iter X.env x = pure x := by intro _;rfl) (hs2 : ∀ s H fp x,foldedSetIterable i2 (qk X N' scope s H fp).env x = pure x := by intro _ _ _ _;rfl) :
  PE X (.ListComp elt [⟨tg,iter,ifs,0⟩,⟨t2,i2,f2,0⟩] scope pos) (qo0 wi g tif wi2 g2 tif2 te m) := by
 intro pins s σ H Q I h
 have sc := V8 hsc
 have hcl : ∀ y ∈ scope.names,y.2 = .free → ∃ c,X.env.cells.lookup y.1 = some c := fun y hy e => by
  rcases (sc.free y hy e).2 with z | z
  ·exact I.ok.has y.1 (.inl z)
  ·exact I.ok.has y.1 (.inr z)
 rw [eval_ListComp]
 refine wpAny_comprehension_free (use := none) (g := ⟨tg,iter,ifs,0⟩) (gs := [⟨t2,i2,f2,0⟩]) rfl hs (ZE hcl) sc.kind sc.loc ?_
 show wpAny _ _ (eval iter X.env) _ _ s
 refine thn (hi pins s σ H _ I h) fun v s1 h1 => thn h1 fun itv s2 h2 => ?_
 obtain ⟨it,fp,tn,J,H2,rfl,I2,T,st2,fF2,hW⟩ := h2
 refine wpAny_newObj_type ?_
 have hD : H2 s2.heap.objs.size = none := I2.fresh
 obtain ⟨W,⟨n0,w0⟩,turn⟩ := hW _ hD
 generalize hDe : s2.heap.objs.size = D at *
 have I3 : Inv X pins σ (upd H2 D (.lst [])) { s2 with heap := s2.heap.push { cls := .type "list",dict := none,data := .seq ([] : List Value).toArray } } := by
  subst hDe
  exact I2.laid (t' := s2.toks) (fun b u e => Heap.get?_push_of_some _ e) (Nat.le_refl _) ⟨Nat.zero_le _,[],0,.nil,Heap.get?_push_size _ rfl⟩
 have ob2 := T.obj 0 _ st2
 have ob3 : ∀ b ∈ fp,∃ o,(s2.heap.push { cls := .type "list",dict := none,data := .seq ([] : List Value).toArray }).get? b = some o := fun b hb => let ⟨o,e,_⟩ := ob2 b hb;⟨o,Heap.get?_push_of_some _ e⟩
 have f3 : ∀ b ∈ fp,C9 X pins (upd H2 D (.lst [])) b := fun b hb => by
  obtain ⟨o,e,_⟩ := ob2 b hb
  have : b ≠ D := by rw [← hDe];exact Nat.ne_of_lt (Heap.lt_size e)
  exact ⟨by rw [qI this];exact (fF2 b hb).1,(fF2 b hb).2⟩
 have k23 : ∀ b o,s2.heap.get? b = some o → (s2.heap.push { cls := .type "list",dict := none,data := .seq ([] : List Value).toArray }).get? b = some o := fun b o e => Heap.get?_push_of_some _ e
 generalize hH3 : upd H2 D (.lst []) = H3 at *
 generalize hs3 : ({ s2 with heap := s2.heap.push { cls := .type "list",dict := none,data := .seq ([] : List Value).toArray } } : Shared) = s3 at *
 have ob3 : ∀ b ∈ fp,∃ o,s3.heap.get? b = some o := by rw [← hs3];exact ob3
 have k23 : ∀ b o,s2.heap.get? b = some o → s3.heap.get? b = some o := by rw [← hs3];exact k23
 refine jv fun h₁ hns hk hown => ?_
 have I4 : Inv (qk X N' scope s3 H3 fp) [] (cap m σ) H3 { s3 with heap := h₁ } := XI hc I3 sc hcap f3 ob3 hns hk hown
 have tn4 : tn 0 h₁ := T.keep _ _ _ st2 fun b hb o e => hk b o (k23 b o e)
 have fr4 : ∀ b ∈ fp,H3 b = none := fun b hb => (f3 b hb).1
 have stat : ∀ {H' : Hp},(∀ b ∈ fp,H' b = none) → ∀ b ∈ fp,C9 (qk X N' scope s3 H3 fp) [] H' b := fun hn b hb => by
  refine ⟨hn b hb,I4.ok.exf b hb |>.1,I4.ok.exfs b hb,.inl hb,fun x c e => (I4.ok.exf b hb).2 x c e,fun p hp => absurd (show p ∈ ([] : List (Addr × Obj)) from hp) (by simp)⟩
 show codeAny (model X.prog X.w) X.A (.compStart (.ListComp elt [⟨tg,iter,ifs,0⟩,⟨t2,i2,f2,0⟩] scope pos) 0 (.ref it) (.ref D) (qk X N' scope s3 H3 fp).env) (compPost (model X.prog X.w) X.A X.xe none (EP X pins σ Q) (.ref D) s3.heap.objs.size) { s3 with heap := h₁ }
 have loop : codeAny (model X.prog X.w) X.A (.compLoop (.ListComp elt [⟨tg,iter,ifs,0⟩,⟨t2,i2,f2,0⟩] scope pos) 0 (.ref it) (.ref D) (qk X N' scope s3 H3 fp).env) (compPost (model X.prog X.w) X.A X.xe none (EP X pins σ Q) (.ref D) s3.heap.objs.size) { s3 with heap := h₁ } := by
  refine codeAny_loop rfl (fun n s' => ∃ i σ' H',Inv (qk X N' scope s3 H3 fp) [] σ' H' s'∧tn i s'.heap∧(∀ b ∈ fp,H' b = none)∧W i n σ' H') (fun n s' hI => ?_) n0 ⟨0,cap m σ,H3,I4,tn4,fr4,w0⟩
  show wpAny _ X.A ((compTurn (.ListComp elt [⟨tg,iter,ifs,0⟩,⟨t2,i2,f2,0⟩] scope pos) 0 (.ref it) (.ref D) (qk X N' scope s3 H3 fp).env).onRaise (fun x => do noteFrame x (qk X N' scope s3 H3 fp).env;theTreesLotGoes x)) _ _ s'
  refine wpAny_noted ?_
  rw [C4]
  refine wpAny_bind (wpAny_standAt (wpAny_bind ?_))
  obtain ⟨i,σ5,H5,I5,st5,fr5,w5⟩ := hI
  rcases turn i n σ5 H5 w5 with ⟨stop,q⟩ | ⟨go,step⟩
  ·refine thn (T.done (qk X N' scope s3 H3 fp) rfl rfl rfl rfl i [] s' σ5 H5 _ I5 (stat fr5) st5 stop) fun r s6 ⟨hr,I6⟩ => ?_
   subst hr
   refine wpAny_pure ?_
   obtain ⟨mm,hn6,_⟩ := I6.loc
   exact ⟨mm,hn6,fun h' sb => ⟨.ref D,H5,UU I3 f3 I6 sb,rfl,q⟩⟩
  ·refine thn (T.item (qk X N' scope s3 H3 fp) rfl rfl rfl rfl i [] s' σ5 H5 _ I5 (stat fr5) st5 go) fun r s6 ⟨u,hr,h6⟩ => ?_
   subst hr
   refine wpAny_bind (thn h6 fun _ s7 ⟨x,H7,I7,r7,y7,st7,fr7⟩ => ?_)
   have I7' := I7.pinned (stat fr7) (T.obj _ _ st7)
   have again : ∀ {σ8 : L2.St} {H8 : Hp} {s8 : Shared},Inv (qk X N' scope s3 H3 fp) ([] ++ UV fp s7.heap) σ8 H8 s8 → (∃ n',n' < n∧W (i + 1) n' σ8 H8) →
     ∃ m',m' < n∧∃ i σ' H',Inv (qk X N' scope s3 H3 fp) [] σ' H' s8∧tn i s8.heap∧(∀ b ∈ fp,H' b = none)∧W i m' σ' H' := fun {σ8 H8 s8} I8 ⟨n',hn,w8⟩ => by
    refine ⟨n',hn,i + 1,σ8,H8,I8.unpinned,T.keep _ _ _ st7 fun b hb o e => (I8.pin (b,o) (List.mem_append_right _ (List.mem_append_right _ (zm hb e)))).1,fun b hb => ?_,w8⟩
    obtain ⟨o,e,d⟩ := T.obj _ _ st7 b hb
    exact (I8.pin (b,o) (List.mem_append_right _ (List.mem_append_right _ (zm hb e)))).2.1
   refine wpAny_bind (wpAny_mono (hg s3 H3 fp _ s7 σ5 H7 x u _ I7' r7 (step x H7 y7)) (fun _ s8 ⟨σ8,H8,I8,q8⟩ => ?_) fun _ _ z => z.elim)
   refine wpAny_bind (wpAny_mono (hf s3 H3 fp _ s8 σ8 H8 _ I8 q8) (fun k s9 ⟨H9,I9,q9⟩ => ?_) fun _ _ z => z.elim)
   cases k with
   | false =>
    rw [if_neg Bool.false_ne_true] at q9
    exact wpAny_pure ⟨rfl,again I9 q9⟩
   | true =>
    rw [if_pos rfl] at q9
    refine qhq (X := qk X N' scope s3 H3 fp) rfl (fun _ _ z => z) (hi2 s3 H3 fp) (hg2 s3 H3 fp) (hf2 s3 H3 fp) (he s3 H3 fp) (hs2 s3 H3 fp) I9 q9 fun s10 σ10 H10 I10 q10 => ?_
    exact wpAny_pure ⟨rfl,again I10 q10⟩
 exact codeAny_compStart_list loop (T.self X.A 0 _ _ _ tn4 loop)
end
end L3
namespace L3
open PySem PySem.Spec PyProof.Rows L2
def qgZ (D : Addr) (stay : Gp → Prop) (g : TG3) (tif : TT3) (te : TE3) (N : St3 → Gp → Prop) : List T → St3 → Gp → Prop
 | [],τ,G => stay G∧N τ G
 | x :: r,τ,G => stay G∧g x τ G fun τ2 G2 => tif τ2 G2 fun k G3 =>
  if k = true then te τ2 G3 fun y G4 => (match G4 D with | some (.lst ys) => ys.length < sizeLine∧qgZ D stay g tif te N r τ2 (gu G4 D (.lst (ys ++ [y]))) | _ => False) else qgZ D stay g tif te N r τ2 G3
def qaE (D : Addr) (stay : Gp → Prop) (g : TG3) (tif : TT3) (wi2 : TI3) (g2 : TG3) (tif2 : TT3) (te : TE3) (q : Q3) : List T → St3 → Gp → Prop
 | [],_,G => stay G∧q (.ref D) G
 | x :: r,τ,G => stay G∧g x τ G fun τ2 G2 => tif τ2 G2 fun k G3 =>
  if k = true then wi2 τ2 G3 fun items2 stay2 G4 => qgZ D stay2 g2 tif2 te (fun τ' G' => qaE D stay g tif wi2 g2 tif2 te q r τ' G') items2 τ2 G4 else qaE D stay g tif wi2 g2 tif2 te q r τ2 G3
def qgT (wi : TI3) (g : TG3) (tif : TT3) (wi2 : TI3) (g2 : TG3) (tif2 : TT3) (te : TE3) (m : List (Option Nat)) : TE3 := fun τ G q => wi τ G fun items stay G1 => ∀ D,G1 D = none → qaE D stay g tif wi2 g2 tif2 te q items (cap m τ) (gu G1 D (.lst []))
section
variable {K : PySem.W.Frag}
theorem qff {wi2 : TI3} {g2 : TG3} {tif2 : TT3} {te : TE3} {D : Addr} {N3 : St3 → Gp → Prop} {N : L2.St → Hp → Prop} {τ : St3} {G : Gp} {σ : L2.St} {H : Hp} {Gb : Gp} {Hb : Hp} (rl : Rel K τ G σ H) (kb : Kp Gb Hb G H) (h : wi2 τ G fun items stay G1 => qgZ D stay g2 tif2 te N3 items τ G1)
  (hN : ∀ τ' G' σ' H',Rel K τ' G' σ' H' → Kp Gb Hb G' H' → N3 τ' G' → N σ' H') : tIn (lI K wi2) (lG K g2) (lT K tif2) (lE K te) D N σ H := by
 refine ⟨τ,G,_,rl,h,fun items stay G1 h1 J H1 hr1 k1 ok => ?_⟩
 refine ⟨fun i n σ' H' => n = items.length - i∧i ≤ items.length∧∃ τ' G',Rel K τ' G' σ' H'∧Kp G1 H1 G' H'∧qgZ D stay g2 tif2 te N3 (items.drop i) τ' G',⟨_,rfl,Nat.zero_le _,τ,G1,rl.next hr1 k1,Kp.refl,by simpa using h1⟩,?_⟩
 rintro i n σ' H' ⟨rfl,hi,τ',G',rl',k',h'⟩
 by_cases hlt : i < items.length
 ·rw [List.drop_eq_getElem_cons hlt] at h'
  obtain ⟨hst,h'⟩ := h'
  obtain ⟨go,yld,_⟩ := ok G' H' rl'.hp k' hst
  have hx : items[i]? = some items[i] := List.getElem?_eq_getElem hlt
  refine .inr ⟨go i _ hx,fun v H2 y => ?_⟩
  obtain ⟨rv,hr2,k2⟩ := yld i _ v H2 hx y
  refine ⟨_,τ',G',_,rv,rl'.next hr2 k2,h',fun τ3 G3 h3 σ3 H3 rl3 k3 => ⟨τ3,G3,_,rl3,h3,fun k G4 h4 H4 hr4 k4 => ?_⟩⟩
  have kk := (k2.trans k3).trans k4
  cases k with
  | false =>
   rw [if_neg Bool.false_ne_true] at h4
   refine qmf ?_
   exact ⟨_,by omega,rfl,hlt,τ3,G4,rl3.next hr4 k4,k'.trans kk,h4⟩
  | true =>
   rw [if_pos rfl] at h4
   refine qmb ?_
   refine ⟨τ3,G4,_,rl3.next hr4 k4,h4,fun z G5 h5 w H5 rw5 hr5 k5 => ?_⟩
   split at h5
   ·rename_i ys e1
    obtain ⟨vs,g1,r1⟩ := hr5.lst e1
    exact ⟨vs,g1,by rw [← r1.length];exact h5.1,_,by omega,rfl,hlt,τ3,_,((rl3.next hr4 k4).next hr5 k5).next (hr5.wr e1 (r1.append (.cons rw5 .nil))) (Kp.wr e1),((k'.trans kk).trans k5).trans (Kp.wr e1),h5.2⟩
   ·exact h5.elim
 ·have e : i = items.length := by omega
  subst e
  rw [List.drop_length] at h'
  obtain ⟨_,_,stop⟩ := ok G' H' rl'.hp k' h'.1
  exact .inl ⟨stop,hN _ _ _ _ rl' ((kb.trans k1).trans k') h'.2⟩
end
section
variable {X : Cx}
theorem qmx {elt tg iter t2 i2 : Expr} {ifs f2 : List Expr} {scope : Scope} {pos : Pos} (N' : List Str) (m : List (Option Nat)) {wi : TI3} {g : TG3} {tif : TT3} {wi2 : TI3} {g2 : TG3} {tif2 : TT3} {te : TE3} (hc : X.calm = true) (hi : I3 X tg iter wi)
  (hg : ∀ s H fp,G3 (qk X N' scope s H fp) tg g) (hf : ∀ s H fp,F3 (qk X N' scope s H fp) ifs tif) (hi2 : ∀ s H fp,I3 (qk X N' scope s H fp) t2 i2 wi2) (hg2 : ∀ s H fp,G3 (qk X N' scope s H fp) t2 g2) (hf2 : ∀ s H fp,F3 (qk X N' scope s H fp) f2 tif2) (he : ∀ s H fp,E3 (qk X N' scope s H fp) elt te)
  (hsc : NI X.env.scope scope = true) (hcap : VE X.N N' scope m = true) (hs : ∀ x,foldedSetIterable iter X.env x = pure x := by intro _;rfl) (hs2 : ∀ s H fp x,foldedSetIterable i2 (qk X N' scope s H fp).env x = pure x := by intro _ _ _ _;rfl) :
  E3 X (.ListComp elt [⟨tg,iter,ifs,0⟩,⟨t2,i2,f2,0⟩] scope pos) (qgT wi g tif wi2 g2 tif2 te m) :=
 WE (qjy (g := lG X.K g) (tif := lT X.K tif) (wi2 := lI X.K wi2) (g2 := lG X.K g2) (tif2 := lT X.K tif2) (te := lE X.K te) hc hi hg hf hi2 hg2 hf2 he hsc hcap hs hs2) fun σ H Q ⟨τ,G,q,rl,h,af⟩ => by
  refine ⟨τ,G,_,rl,h,fun items stay G1 h1 J H1 hr1 k1 ok D hD => ?_⟩
  have gD : G1 D = none := hr1.free hD
  have h1 := h1 D gD
  have hr1' : HR X.K (gu G1 D (.lst [])) (upd H1 D (.lst [])) := HR.newL hr1 hD .nil
  have k1' : Kp G1 H1 (gu G1 D (.lst [])) (upd H1 D (.lst [])) := Kp.newL hD
  refine ⟨fun i n σ' H' => n = items.length - i∧i ≤ items.length∧∃ τ' G',Rel X.K τ' G' σ' H'∧Kp G1 H1 G' H'∧qaE D stay g tif wi2 g2 tif2 te q (items.drop i) τ' G',
   ⟨_,rfl,Nat.zero_le _,cap m τ,_,((rl.next hr1 k1).cap m).next hr1' k1',k1',by simpa using h1⟩,?_⟩
  rintro i n σ' H' ⟨rfl,hi,τ',G',rl',k',h'⟩
  by_cases hlt : i < items.length
  ·rw [List.drop_eq_getElem_cons hlt] at h'
   obtain ⟨hst,h'⟩ := h'
   obtain ⟨go,yld,_⟩ := ok G' H' rl'.hp k' hst
   have hx : items[i]? = some items[i] := List.getElem?_eq_getElem hlt
   refine .inr ⟨go i _ hx,fun v H2 y => ?_⟩
   obtain ⟨rv,hr2,k2⟩ := yld i _ v H2 hx y
   refine ⟨_,τ',G',_,rv,rl'.next hr2 k2,h',fun τ3 G3 h3 σ3 H3 rl3 k3 => ⟨τ3,G3,_,rl3,h3,fun k G4 h4 H4 hr4 k4 => ?_⟩⟩
   have kk := (k2.trans k3).trans k4
   cases k with
   | false =>
    rw [if_neg Bool.false_ne_true] at h4
    refine qmf ?_
    exact ⟨_,by omega,rfl,hlt,τ3,G4,rl3.next hr4 k4,k'.trans kk,h4⟩
   | true =>
    rw [if_pos rfl] at h4
    refine qmb ?_
    exact qff (rl3.next hr4 k4) (k'.trans kk) h4 fun τ5 G5 σ5 H5 rl5 k5 h5 => ⟨_,by omega,rfl,hlt,τ5,G5,rl5,k5,h5⟩
  ·have e : i = items.length := by omega
   subst e
   rw [List.drop_length] at h'
   obtain ⟨_,_,stop⟩ := ok G' H' rl'.hp k' h'.1
   exact .inl ⟨stop,af _ _ h'.2 _ H' (.ref D) rl'.hp (k1.trans k')⟩
theorem qaC {elt tg iter t2 i2 : Expr} {ifs f2 : List Expr} {scope : Scope} {pos : Pos} (N' : List Str) (m : List (Option Nat)) {wi : TI3} {g : TG3} {tif : TT3} {wi2 : TI3} {g2 : TG3} {tif2 : TT3} {te : TE3} (hc : X.calm = true) (hi : jI3 X tg iter wi)
  (hg : ∀ s H fp,jG3 (qk X N' scope s H fp) tg g) (hf : ∀ s H fp,jF3 (qk X N' scope s H fp) ifs tif) (hi2 : ∀ s H fp,jI3 (qk X N' scope s H fp) t2 i2 wi2) (hg2 : ∀ s H fp,jG3 (qk X N' scope s H fp) t2 g2) (hf2 : ∀ s H fp,jF3 (qk X N' scope s H fp) f2 tif2) (he : ∀ s H fp,jE3 (qk X N' scope s H fp) elt te)
  (hsc : NI X.env.scope scope = true) (hcap : VE X.N N' scope m = true) (hs : ∀ x,foldedSetIterable iter X.env x = pure x := by intro _;rfl) (hs2 : ∀ s H fp x,foldedSetIterable i2 (qk X N' scope s H fp).env x = pure x := by intro _ _ _ _;rfl) :
  jE3 X (.ListComp elt [⟨tg,iter,ifs,0⟩,⟨t2,i2,f2,0⟩] scope pos) (qgT wi g tif wi2 g2 tif2 te m) :=
 ⟨qmx N' m hc hi.h (fun s H fp => (hg s H fp).h) (fun s H fp => (hf s H fp).h) (fun s H fp => (hi2 s H fp).h) (fun s H fp => (hg2 s H fp).h) (fun s H fp => (hf2 s H fp).h) (fun s H fp => (he s H fp).h) hsc hcap hs hs2⟩
end
end L3
namespace L3
open PySem PySem.Spec PyProof.Rows L2
section
variable {X : Cx}
end
end L3
namespace L3
open PySem PySem.Spec PyProof.Rows L2
section
variable {X : Cx} {tg a b c : Expr} {pos : Pos}
end
end L3
namespace L3
open PySem PySem.Spec PyProof.Rows L2
section
variable {X : Cx}
end
end L3
namespace L3
open PySem PySem.Spec PyProof.Rows L2
end L3
namespace L3
open PySem PySem.Spec PyProof.Rows L2
section
variable {X : Cx} {a b : Expr} {ta tb : TE3} {pos : Pos}
def qfX : R3 := fun x y G q => match x,y with
 | .ref a,.int k => (match G a with | some (.lst xs) => (-(2 ^ 63) ≤ k∧k < 2 ^ 63)∧xs.length * k.toNat ≤ sizeLine∧∀ p,G p = none → q (.ref p) (gu G p (.lst (List.replicate k.toNat xs).flatten)) | _ => False)
 | _,_ => False
theorem qa8 {K : PySem.W.Frag} {H : Hp} {xs : List T} {vs : List V} (r : Rps K H xs vs) : ∀ k,Rps K H (List.replicate k xs).flatten (List.replicate k vs).flatten
 | 0 => .nil
 | k + 1 => by
  rw [List.replicate_succ,List.flatten_cons,List.replicate_succ,List.flatten_cons]
  exact r.append (qa8 r k)
theorem qgw {K : PySem.W.Frag} : DT K qfX qoH := fun x y v u G H q Q hr rx ry h af => by
 cases x <;> try exact h.elim
 case ref a =>
  cases y <;> try exact h.elim
  case int k =>
   unfold qfX at h
   simp only at h
   split at h
   ·rename_i xs e1
    cases rx;cases ry
    obtain ⟨vs,g1,r1⟩ := hr.lst e1
    exact ⟨a,k,vs,rfl,rfl,g1,h.1.1,h.1.2,by rw [← r1.length];exact h.2.1,fun p hp => af _ _ (h.2.2 p (hr.free hp)) _ _ (.ref p) (hr.newL hp (qa8 r1 _)) (Kp.newL hp)⟩
   ·exact h.elim
theorem qdu (ha : jE3 X a ta) (hb : jE3 X b tb) : jE3 X (.BinOp a .Mult b pos) (o3 qfX ta tb) := ⟨qd5 qiw qgw ha.h hb.h⟩
end
end L3
namespace HT
open PySem PySem.Spec PyProof.Rows
section
variable {prog : Program} {w : World} {A : Around} {E : Value → Shared → Prop} {s : Shared}
end
end HT
namespace L3
open PySem PySem.Spec PyProof.Rows L2
section
variable {X : Cx} {e ek : Expr} {p2 pos : Pos}
end
end L3
namespace L3
open PySem PySem.Spec PyProof.Rows L2
section
variable {X : Cx} {a b : Expr} {ta tb : TE3} {pos : Pos}
end
end L3
namespace L3
open PySem PySem.Spec PyProof.Rows L2
abbrev Rd (sp : Sp3) (n : Nat) (t : TS3) (N : List Str) : Prop := ∀ ts G q,sp ts G q → ts.length = n∧t { nx := fun _ G' => q .non G',rt := q } (qs N ts) G
theorem jgn {pos : Pos} {X : Cx} {x : Str} (i : Nat) (hN : decide X.N.Nodup = true := by kernel_rfl) (hi : X.N[i]? = some x := by rfl) (hx : Loc X.env.scope x := by first | exact Or.inl rfl | exact Or.inr rfl) (hf : X.fn x = true ∨ X.env.scope.names.lookup x = some .local := by first | exact .inl rfl | exact .inr rfl) : jG3 X (.Name x pos) (gn3 i) :=
 qw (of_decide_eq_true hN) hi hx hf
end L3
namespace L2
open PySem PySem.Spec PyProof.Rows
section
variable {X : Cx} {pos : Pos}
def qnX (i j k : Nat) (ta : TA) : TS := fun D σ H => ta σ H fun vs H1 => ∃ u v w,vs = [u,v,w]∧D.nx (((σ.set i (some u)).set j (some v)).set k (some w)) H1
theorem qga {i j k : Nat} {x y z : Str} {a b c : Expr} {ta : TA} {px py pz pt : Pos} {kt k2 pt2} (hc : X.calm = true) (hN : X.N.Nodup) (hi : X.N[i]? = some x) (hj : X.N[j]? = some y) (hk : X.N[k]? = some z) (hij : i ≠ j) (hik : i ≠ k) (hjk : j ≠ k)
  (hx : X.env.scope.names.lookup x = some .local) (hy : X.env.scope.names.lookup y = some .local) (hz : X.env.scope.names.lookup z = some .local) (ha : PA X [a,b,c] ta)
  (hw : swappedStores [.Tuple [.Name x px,.Name y py,.Name z pz] kt pt] (.Tuple [a,b,c] k2 pt2) X.env = pure (some [x,y,z]))
  (hs : swapsWithSole [.Tuple [.Name x px,.Name y py,.Name z pz] kt pt] (.Tuple [a,b,c] k2 pt2) pos.line X.env = pure false := by rfl) :
  PS X (.Assign [.Tuple [.Name x px,.Name y py,.Name z pz] kt pt] (.Tuple [a,b,c] k2 pt2) pos) (qnX i j k ta) := by
 intro pins s σ H D I h
 rw [exec_Assign_arm]
 refine wpAny_bind (wpAny_standAt ?_)
 rw [hs]
 refine wpAny_bind (wpAny_pure ?_)
 rw [if_neg (by decide)]
 refine wpAny_bind (Tuple_ (thn (ha _ pins s σ H _ I h) fun us s1 ⟨vs,H1,I1,r1,q1⟩ => ?_))
 obtain ⟨v,w,v3,e1,q1⟩ := q1
 subst e1
 obtain ⟨u1,u2,u3,rfl,rv,rw',rz⟩ : ∃ u1 u2 u3,us = [u1,u2,u3]∧jg v u1∧jg w u2∧jg v3 u3 := by
  cases r1 with
  | cons p q =>
   cases q with
   | cons p' q' =>
    cases q' with
    | cons p2 q2 =>
     cases q2
     exact ⟨_,_,_,rfl,p,p',p2⟩
 refine wpAny_newObj_type ?_ (by show 3 ≤ sizeLine;decide)
 have I2 : Inv X pins σ H1 { s1 with heap := s1.heap.push { cls := .type "tuple",data := .seq [u1,u2,u3].toArray } } := I1.kept (t' := s1.toks) fun b o e => Heap.get?_push_of_some _ e
 rw [hw]
 refine wpAny_bind (wpAny_pure ?_)
 show wpAny (model X.prog X.w) X.A (do rule "assign.swapped-stores";let items ← unpackItems (.ref s1.heap.objs.size) 3 none;assignInOrder [fun v => bindName X.env z v,fun v => bindName X.env y v,fun v => bindName X.env x v] items.reverse;pure Flow.next) _ _ _
 refine wpAny_bind (wpAny_rule (wpAny_bind (unpackItems_tuple (items := #[u1,u2,u3]) (I.ok.hd hc) (IsTup.new s1.heap _) fun h' hx' => ?_)))
 have I3 := I2.kept (h' := h') (t' := s1.toks) fun b o e => hx' b o (Nat.ne_of_lt (Heap.lt_size e)) e
 show wpAny _ _ (assignInOrder [fun v => bindName X.env z v,fun v => bindName X.env y v,fun v => bindName X.env x v] [u3,u2,u1] >>= fun _ => pure Flow.next) _ _ _
 refine wpAny_bind (assignInOrder_cons (wpAny_bindName (j8 I3 hN hk (.inl hz) rz (fun s2 I4 => ?_) (.inr hz))))
 refine assignInOrder_cons (wpAny_bindName (j8 I4 hN hj (.inl hy) rw' (fun s3 I5 => ?_) (.inr hy)))
 refine assignInOrder_cons (wpAny_bindName (j8 I5 hN hi (.inl hx) rv (fun s4 I6 => assignInOrder_nil (wpAny_pure ?_)) (.inr hx)))
 rw [List.set_comm _ _ (Ne.symm hjk),List.set_comm _ _ (Ne.symm hik),List.set_comm _ _ (Ne.symm hij)] at I6
 exact ⟨_,H1,I6,q1⟩
end
end L2
namespace L3
open PySem PySem.Spec PyProof.Rows L2
section
variable {X : Cx} {pos : Pos}
theorem qgE {i j k : Nat} {x y z : Str} {a b c : Expr} {tt : TA3} {px py pz pt : Pos} {kt k2 pt2} (hc : X.calm = true) (hN : X.N.Nodup) (hi : X.N[i]? = some x) (hj : X.N[j]? = some y) (hk : X.N[k]? = some z) (hij : i ≠ j) (hik : i ≠ k) (hjk : j ≠ k)
  (hx : X.env.scope.names.lookup x = some .local) (hy : X.env.scope.names.lookup y = some .local) (hz : X.env.scope.names.lookup z = some .local) (ha : jA3 X [a,b,c] tt)
  (hw : swappedStores [.Tuple [.Name x px,.Name y py,.Name z pz] kt pt] (.Tuple [a,b,c] k2 pt2) X.env = pure (some [x,y,z]) := by rfl)
  (hs : swapsWithSole [.Tuple [.Name x px,.Name y py,.Name z pz] kt pt] (.Tuple [a,b,c] k2 pt2) pos.line X.env = pure false := by rfl) :
  jS3 X (.Assign [.Tuple [.Name x px,.Name y py,.Name z pz] kt pt] (.Tuple [a,b,c] k2 pt2) pos) (zg (zJ tt) (zu 3 (qo (gn3 i) (qo (gn3 j) (qo (gn3 k) zx))))) := ⟨qbH (qga hc hN hi hj hk hij hik hjk hx hy hz ha.h hw hs) fun _ σ H ⟨τ,G,d,rl,h,af⟩ =>
 YL rl h fun xs G1 h1 vs H1 rs hr1 k1 rl1 => by
  obtain ⟨_,h3,h1⟩ := h1
  obtain ⟨x0,x1,x2,rfl⟩ : ∃ a b c,xs = [a,b,c] := match xs,h3 with | [a,b,c],_ => ⟨a,b,c,rfl⟩
  cases rs with
  | cons r0 rs => cases rs with
   | cons r1 rs => cases rs with
    | cons r2 rs =>
     cases rs
     exact ⟨_,_,_,rfl,af.nx _ G1 h1 _ H1 (((rl1.set i r0).set j r1).set k r2) k1⟩⟩
end
end L3
namespace L3
open PySem PySem.Spec PyProof.Rows L2
section
variable {X : Cx} {K : PySem.W.Frag} {w : World} {mg : Str → Option Value}
inductive Ents (K : PySem.W.Frag) (w : World) : List DictEntry → List (Str × T) → Prop
 | nil : Ents K w [] []
 | cons {x : Str} {tk : Tok} {u : Value} {v : V} {t : T} {es : List DictEntry} {tab : List (Str × T)} : jg v u → (∀ H,Rp K H t v) → Ents K w es tab → Ents K w (⟨PyData.keyHash w.params x,.str x tk,u⟩ :: es) ((x,t) :: tab)
def YM : List (Str × T) → Str → Option T
 | [],_ => none
 | (y,t) :: r,x => if y = x then some t else YM r x
structure Tb (K : PySem.W.Frag) (mg : Str → Option Value) (w : World) (x : Str) (tab : List (Str × T)) : Prop where
 at_ : ∃ (d : Addr) (es : Array DictEntry) (ep : Nat),mg x = some (.ref d)∧K.lookup d = some ⟨.type "dict",none,.dict es ep,#[]⟩∧(d == sysModules) = false∧Ents K w es.toList tab
theorem Ents.keys {P : Program} : ∀ {es : List DictEntry} {tab : List (Str × T)},Ents K w es tab → ∀ e ∈ es,∃ k,(PySem.strKind P w).is k e.key = true∧e.hash = (PySem.strKind P w).hash k
 | _,_,.nil,e,h => by cases h
 | _,_,.cons (x := x) a b t,e,h => by
  rcases List.mem_cons.mp h with rfl | h
  ·exact ⟨x,by show (x == x) = true;simp,rfl⟩
  ·exact Ents.keys t e h
theorem Ents.find : ∀ {es : List DictEntry} {tab : List (Str × T)} (x : Str),Ents K w es tab →
    (match YM tab x with
     | some t => ∃ (u : Value) (v : V),(es.find? fun e => Value.isStrOf x e.key).map (·.val) = some u∧jg v u∧∀ H,Rp K H t v
     | none => (es.find? fun e => Value.isStrOf x e.key).map (·.val) = none)
  | _,_,x,.nil => by simp [YM]
  | _,_,x,.cons (x := y) (tk := tk) (u := u) (v := v) (t := t) (es := es) (tab := tab) a b r => by
    by_cases e : y = x
    · have : Value.isStrOf x (Value.str y tk) = true := by show (y == x) = true;simp [e]
      simp only [YM,e,if_true,List.find?_cons,this]
      subst e
      simp only [this]
      exact ⟨u,v,rfl,a,b⟩
    · have : Value.isStrOf x (Value.str y tk) = false := by show (y == x) = false;simp [e]
      have ih := Ents.find x r
      simp only [YM,e,if_false,List.find?_cons,this]
      exact ih
theorem Ents.map {P : Program} {h : Heap} {d : Addr} {es : Array DictEntry} {ep : Nat} {tab : List (Str × T)} (hd : h.get? d = some ⟨.type "dict",none,.dict es ep,#[]⟩) (en : Ents K w es.toList tab) :
  Heap.MapOf (PySem.strKind P w) h d (fun x => findBy Value.isStrOf es x) :=
 ⟨_,es,ep,hd,⟨rfl,rfl,rfl⟩,rfl,fun e he => en.keys e (by simpa using he),fun _ => rfl⟩
def qps (K : PySem.W.Frag) (d : Addr) (tab : List (Str × T)) : R2 := fun x y H Q => x = .ref d∧∃ s t,y = .str s∧YM tab s = some t∧∀ v,Rp K H t v → Q v H
theorem qg3 {d : Addr} {es : Array DictEntry} {ep : Nat} {tab : List (Str × T)} (hk : X.K.lookup d = some ⟨.type "dict",none,.dict es ep,#[]⟩) (en : Ents X.K X.w es.toList tab) : IxR X (qps X.K d tab) := by
 intro value slice pins s σ H x y v u Q I rx ry h hs
 obtain ⟨rfl,z,t,rfl,ht,q⟩ := h
 cases rx
 obtain ⟨tk,rfl⟩ := ry
 have hd := I.kIn _ _ hk
 have f := en.find z
 rw [ht] at f
 obtain ⟨u,v,hf,rv,rp⟩ := f
 have hf' : findBy Value.isStrOf es z = some u := by
  unfold findBy
  rw [← Array.find?_toList]
  exact hf
 refine subscriptTail_builtinR (x := u) ⟨_,hd,rfl⟩ PySem.F.slot_dict_getitem.lookup (wpAny_getItem_of (knd := PySem.strKind X.prog X.w) (Q := fun r s' => r = u∧EP X pins σ Q r s') (k := z) (by show (z == z) = true;simp) (en.map hd) hf' ⟨rfl,v,H,I.tok _,rv,q v (rp H)⟩) hs
def qco (tab : List (Str × T)) (te : TE3) : TE3 := fun τ G q => te τ G fun x G1 => match x with | .str s => (match YM tab s with | some t => q t G1 | none => False) | _ => False
theorem qgH {x : Str} {e : Expr} {te : TE3} {tab : List (Str × T)} {p1 pos : Pos} (tb : Tb X.K X.mg X.w x tab) (hg : Gl X x) (he : jE3 X e te) (hs : XR e) (hd : (x == ("__debug__" : Str)) = false := by decide) : jE3 X (.Subscript (.Name x p1) e pos) (qco tab te) := by
 obtain ⟨d,es,ep,hm,hk,hn,en⟩ := tb.at_
 exact ⟨WE (qhK (qg3 hk en) (qgg hg hm (v := .ref d) rfl hd) he.h hs) fun _ _ _ ⟨τ,G,q,rl,h,af⟩ => zA rl h fun y G1 h1 v H1 rx hr1 k1 rl1 => by
  cases y <;> try exact h1.elim
  case str z =>
   cases rx
   unfold qco at h
   simp only at h1
   split at h1
   ·rename_i t ht
    exact ⟨rfl,z,t,rfl,ht,fun v rv => af.back k1 _ _ h1 _ _ rv hr1 Kp.refl⟩
   ·exact h1.elim⟩
theorem ST (hc : X.calm = true) : Z7 X (.builtin "min") (fun xs H Q => ∃ (p : Addr) (ns : List Int),xs = [.ref p]∧SqL X.K H p (ns.map V.int)∧ns ≠ []∧∀ m ∈ ns,(∀ a ∈ ns,m ≤ a) → Q (.int m) H) := by
 intro pins s σ H xs us Q I r h
 obtain ⟨p,ns,rfl,hq,hne,q⟩ := h
 obtain ⟨u,rfl,rp⟩ := X8 r
 cases (show u = Value.ref p from rp)
 obtain ⟨its,rv,pl,hz⟩ := I.list hq
 have hlen : its.length = ns.length := by have := rv.length;simp at this;omega
 have hpos : 0 < ns.length := List.length_pos_iff.mpr hne
 have hp : p < s.heap.objs.size := by obtain ⟨o,n,e,_⟩ := pl;exact Heap.lt_size e
 have vals : ∀ (i : Nat) (v : Value),its.toArray[i]? = some v → ∃ t,v = Value.int (ns.getD i 0) t := fun i v hv => by
  have hv' : its[i]? = some v := by simpa using hv
  obtain ⟨hi,_⟩ := List.getElem?_eq_some_iff.mp hv'
  have hi' : i < ns.length := by omega
  obtain ⟨u,hu,ru⟩ := rv.get (i := i) (show (ns.map V.int)[i]? = some (V.int (ns[i])) by simp [hi'])
  rw [hv'] at hu;cases hu
  obtain ⟨t,rfl⟩ := ru
  exact ⟨t,by show Value.int ns[i] t = Value.int (ns.getD i 0) t;rw [List.getD_eq_getElem?_getD,List.getElem?_eq_getElem hi'];rfl⟩
 refine call_min_walk (wpAny_pyIter_list pl.isList ⟨s.heap.objs.size,_,_,_,_,_,_,rfl,Walks.list (A := X.A.in1) (show X.A.in1.handled = none from I.ok.hd hc) s.heap.objs.size p (Nat.ne_of_lt hp) its.toArray,⟨⟨_,Heap.get?_push_size _ rfl,rfl,rfl⟩,?_⟩,fun b hb => ?_,by rw [List.size_toArray];omega,CmpOf.ints_lt (fun i => ns.getD i 0) vals,fun v h' tk hP hk => ?_⟩)
 ·obtain ⟨o,n,e,c,_,d⟩ := pl
  exact ⟨o,Heap.get?_push_of_some _ e,c,n,d⟩
 ·have lt1 : ∀ n c : Nat,c < n → c < n + 1 := fun n c h => by omega
  rw [show (({ s with heap := s.heap.push _ } : Shared).heap.objs.size) = s.heap.objs.size + 1 from Heap.size_push ..]
  simp only [List.mem_cons,List.not_mem_nil,or_false] at hb
  rcases hb with rfl | rfl
  ·exact Nat.lt_succ_self _
  ·exact lt1 _ _ hp
 ·obtain ⟨b1,b2⟩ := argBest_lt (fun i => ns.getD i 0) (its.toArray.size - 1)
  obtain ⟨t,rfl⟩ := vals _ _ hP
  rw [List.size_toArray] at b1 b2 ⊢
  have gd : ∀ j,j < ns.length → ns.getD j 0 ∈ ns := fun j hj => by rw [List.getD_eq_getElem?_getD,List.getElem?_eq_getElem hj];exact List.getElem_mem hj
  refine ⟨.int _,H,I.kept (h' := h') (t' := tk) fun b o e => hk b o (by simp;exact Nat.ne_of_lt (Heap.lt_size e)) (Heap.get?_push_of_some _ e),⟨_,rfl⟩,q _ (gd _ (by omega)) fun a ha => ?_⟩
  obtain ⟨j,hj,rfl⟩ := List.mem_iff_getElem.mp ha
  have := b2 j (by omega)
  have e : ns.getD j 0 = ns[j] := by rw [List.getD_eq_getElem?_getD,List.getElem?_eq_getElem hj];rfl
  rw [e] at this
  exact this
def MB : List T → Gp → Q3 → Prop := fun xs G q => match xs with
 | [.ref p] => (match getL G p with | some ys => (match RB ys with | some ns => ns ≠ []∧∀ m ∈ ns,(∀ a ∈ ns,m ≤ a) → q (.int m) G | none => False) | none => False)
 | _ => False
theorem LU {K : PySem.W.Frag} : LE K MB (fun xs H Q => ∃ (p : Addr) (ns : List Int),xs = [.ref p]∧SqL K H p (ns.map V.int)∧ns ≠ []∧∀ m ∈ ns,(∀ a ∈ ns,m ≤ a) → Q (.int m) H) := fun xs vs G H q Q hr rs h af => by
 unfold MB at h
 split at h
 ·rename_i p
  obtain ⟨v,rfl,r⟩ := LI rs
  cases r
  split at h
  ·rename_i ys e0
   split at h
   ·rename_i ns e1
    obtain ⟨us,hs,r2⟩ := zZ hr e0
    have := CM e1
    subst this
    have := CN r2
    subst this
    exact ⟨p,ns,rfl,hs,h.1,fun m hm ha => af _ _ (h.2 m hm ha) _ _ (.int _) hr Kp.refl⟩
   ·exact h.elim
  ·exact h.elim
 ·exact h.elim
theorem RK (hc : X.calm = true) : Z7 X (.builtin "max") (fun xs H Q => ∃ (p : Addr) (ns : List Int),xs = [.ref p]∧SqL X.K H p (ns.map V.int)∧ns ≠ []∧∀ m ∈ ns,(∀ a ∈ ns,a ≤ m) → Q (.int m) H) := by
 intro pins s σ H xs us Q I r h
 obtain ⟨p,ns,rfl,hq,hne,q⟩ := h
 obtain ⟨u,rfl,rp⟩ := X8 r
 cases (show u = Value.ref p from rp)
 obtain ⟨its,rv,pl,hz⟩ := I.list hq
 have hlen : its.length = ns.length := by have := rv.length;simp at this;omega
 have hpos : 0 < ns.length := List.length_pos_iff.mpr hne
 have hp : p < s.heap.objs.size := by obtain ⟨o,n,e,_⟩ := pl;exact Heap.lt_size e
 have vals : ∀ (i : Nat) (v : Value),its.toArray[i]? = some v → ∃ t,v = Value.int (ns.getD i 0) t := fun i v hv => by
  have hv' : its[i]? = some v := by simpa using hv
  obtain ⟨hi,_⟩ := List.getElem?_eq_some_iff.mp hv'
  have hi' : i < ns.length := by omega
  obtain ⟨u,hu,ru⟩ := rv.get (i := i) (show (ns.map V.int)[i]? = some (V.int (ns[i])) by simp [hi'])
  rw [hv'] at hu;cases hu
  obtain ⟨t,rfl⟩ := ru
  exact ⟨t,by show Value.int ns[i] t = Value.int (ns.getD i 0) t;rw [List.getD_eq_getElem?_getD,List.getElem?_eq_getElem hi'];rfl⟩
 refine call_max_walk (wpAny_pyIter_list pl.isList ⟨s.heap.objs.size,_,_,_,_,_,_,rfl,Walks.list (A := X.A.in1) (show X.A.in1.handled = none from I.ok.hd hc) s.heap.objs.size p (Nat.ne_of_lt hp) its.toArray,⟨⟨_,Heap.get?_push_size _ rfl,rfl,rfl⟩,?_⟩,fun b hb => ?_,by rw [List.size_toArray];omega,CmpOf.ints_gt (fun i => ns.getD i 0) vals,fun v h' tk hP hk => ?_⟩)
 ·obtain ⟨o,n,e,c,_,d⟩ := pl
  exact ⟨o,Heap.get?_push_of_some _ e,c,n,d⟩
 ·have lt1 : ∀ n c : Nat,c < n → c < n + 1 := fun n c h => by omega
  rw [show (({ s with heap := s.heap.push _ } : Shared).heap.objs.size) = s.heap.objs.size + 1 from Heap.size_push ..]
  simp only [List.mem_cons,List.not_mem_nil,or_false] at hb
  rcases hb with rfl | rfl
  ·exact Nat.lt_succ_self _
  ·exact lt1 _ _ hp
 ·obtain ⟨b1,b2⟩ := argBest_gt (fun i => ns.getD i 0) (its.toArray.size - 1)
  obtain ⟨t,rfl⟩ := vals _ _ hP
  rw [List.size_toArray] at b1 b2 ⊢
  have gd : ∀ j,j < ns.length → ns.getD j 0 ∈ ns := fun j hj => by rw [List.getD_eq_getElem?_getD,List.getElem?_eq_getElem hj];exact List.getElem_mem hj
  refine ⟨.int _,H,I.kept (h' := h') (t' := tk) fun b o e => hk b o (by simp;exact Nat.ne_of_lt (Heap.lt_size e)) (Heap.get?_push_of_some _ e),⟨_,rfl⟩,q _ (gd _ (by omega)) fun a ha => ?_⟩
  obtain ⟨j,hj,rfl⟩ := List.mem_iff_getElem.mp ha
  have := b2 j (by omega)
  have e : ns.getD j 0 = ns[j] := by rw [List.getD_eq_getElem?_getD,List.getElem?_eq_getElem hj];rfl
  rw [e] at this
  exact this
def M4 : List T → Gp → Q3 → Prop := fun xs G q => match xs with
 | [.ref p] => (match getL G p with | some ys => (match RB ys with | some ns => ns ≠ []∧∀ m ∈ ns,(∀ a ∈ ns,a ≤ m) → q (.int m) G | none => False) | none => False)
 | _ => False
theorem KW {K : PySem.W.Frag} : LE K M4 (fun xs H Q => ∃ (p : Addr) (ns : List Int),xs = [.ref p]∧SqL K H p (ns.map V.int)∧ns ≠ []∧∀ m ∈ ns,(∀ a ∈ ns,a ≤ m) → Q (.int m) H) := fun xs vs G H q Q hr rs h af => by
 unfold M4 at h
 split at h
 ·rename_i p
  obtain ⟨v,rfl,r⟩ := LI rs
  cases r
  split at h
  ·rename_i ys e0
   split at h
   ·rename_i ns e1
    obtain ⟨us,hs,r2⟩ := zZ hr e0
    have := CM e1
    subst this
    have := CN r2
    subst this
    exact ⟨p,ns,rfl,hs,h.1,fun m hm ha => af _ _ (h.2 m hm ha) _ _ (.int _) hr Kp.refl⟩
   ·exact h.elim
  ·exact h.elim
 ·exact h.elim
end
end L3
namespace L3
open PySem PySem.Spec PyProof.Rows L2
section
variable {X : Cx}
end
theorem K9 {K : PySem.W.Frag} {p : Addr} {od : Option Addr} {n : Nat} {sl : Array (Option Value)} {i j : Int} {ti tj : Tok} (h : K.lookup p = some ⟨.type "tuple",od,.seq #[.int i ti,.int j tj] n,sl⟩) : ∀ H,Rp K H (.tup [.int i,.int j]) (.ref p) := fun H =>
 .tup (vs := [.int i,.int j]) (.inr ⟨_,_,_,h,rfl,rfl,by show 2 ≤ sizeLine;decide,.cons ⟨_,rfl⟩ (.cons ⟨_,rfl⟩ .nil)⟩) (.cons (.int _) (.cons (.int _) .nil))
def VL : List (Str × T) := [("row",.tup [.int 0,.int 1]),("column",.tup [.int 1,.int 0]),("slant",.tup [.int 1,.int 1]),("back",.tup [.int 1,.int (-1)])]
end L3
namespace L3
open PySem PySem.Spec PyProof.Rows L2
open PySem.SeqAt
section
variable {X : Cx} {pins : List (Addr × Obj)} {σ : L2.St} {H : Hp} {s : Shared}
end
end L3
namespace HT
open PySem PySem.Spec PyProof.Rows L2
section
open PySem.SeqAt
open PySem.MeetsSeq PySem.MeetsSeq2 PySem.MeetsSeq3
end
section
variable {prog : Program} {w : World} {A : Around} {E : Value → Shared → Prop} {s : Shared}
end
end HT
namespace L3
open PySem PySem.Spec PyProof.Rows L2
end L3
namespace L3
open PySem PySem.Spec PyProof.Rows L2
section
variable {X : Cx}
end
end L3
namespace L3
open PySem PySem.Spec PyProof.Rows L2
def NM : Sp3 := fun _ _ _ => False
theorem JZ {P : Program} {w : World} {K : PySem.W.Frag} {mg : Str → Option Value} {base : Heap} {x qual : Str} {st : Stmt} {f : Addr} {fd : FuncData} {ps : List Str} (F : Fun K x qual st f fd) (bd : qW K fd ps []) (hm : mg x = some (.ref f)) : Fn3 P w K mg base 0 x NM :=
 ⟨f,fd,ps,⟨fun vs H Q E ⟨_,_,_,_,_,h,_⟩ => h.elim,fun A outer s H args us vs Q E _ _ _ _ ⟨_,_,_,_,_,h,_⟩ => h.elim⟩,bd,F.kp,hm⟩
theorem ixT (xs : List T) (i : Int) (G : Gp) (q : Q3) : ix3 (.tup xs) (.int i) G q = (match L2.atI xs i with | some z => q z G | none => False) := rfl
theorem ixR (p : Addr) (i : Int) (G : Gp) (q : Q3) : ix3 (.ref p) (.int i) G q = (match getL G p with | some xs => (match L2.atI xs i with | some z => q z G | none => False) | none => False) := rfl
theorem XT : ¬ Str.ofString "skew" = Str.ofString "rests" := by decide
theorem R8 : ¬ Str.ofString "skew" = Str.ofString "bits" := by decide
theorem X3 : ¬ Str.ofString "skew" = Str.ofString "table" := by decide
theorem WD : ¬ Str.ofString "skew" = Str.ofString "joined" := by decide
theorem VH : ¬ Str.ofString "rests" = Str.ofString "skew" := by decide
theorem X2 : ¬ Str.ofString "rests" = Str.ofString "bits" := by decide
theorem WF : ¬ Str.ofString "rests" = Str.ofString "table" := by decide
theorem EF : ¬ Str.ofString "rests" = Str.ofString "joined" := by decide
theorem C0 : ¬ Str.ofString "table" = Str.ofString "bits" := by decide
theorem DW : ¬ Str.ofString "joined" = Str.ofString "bits" := by decide
theorem EL : ¬ Str.ofString "joined" = Str.ofString "table" := by decide
theorem SB : ¬ Str.ofString "row" = Str.ofString "block" := by decide
theorem T9 : ¬ Str.ofString "row" = Str.ofString "step" := by decide
theorem R7 : ¬ Str.ofString "row" = Str.ofString "cells" := by decide
theorem DN : ¬ Str.ofString "column" = Str.ofString "block" := by decide
theorem D9 : ¬ Str.ofString "column" = Str.ofString "step" := by decide
theorem DH : ¬ Str.ofString "column" = Str.ofString "cells" := by decide
theorem WB : ¬ Str.ofString "slant" = Str.ofString "block" := by decide
theorem XZ : ¬ Str.ofString "slant" = Str.ofString "step" := by decide
theorem DY : ¬ Str.ofString "slant" = Str.ofString "cells" := by decide
theorem CC : ¬ Str.ofString "back" = Str.ofString "block" := by decide
theorem C6 : ¬ Str.ofString "back" = Str.ofString "step" := by decide
theorem X5 : ¬ Str.ofString "back" = Str.ofString "cells" := by decide
theorem WA : ¬ Str.ofString "block" = Str.ofString "cells" := by decide
theorem CY : ¬ Str.ofString "step" = Str.ofString "block" := by decide
theorem CZ : ¬ Str.ofString "step" = Str.ofString "cells" := by decide
theorem cm {i j : Int} (h1 : -1000000 < j) (h2 : j < 1000000) : jd i j := .inr ⟨by omega,by omega⟩
theorem qcv {stay : Gp → Prop} {g : TG3} {tif : TT3} {te : TE3} {q : Q3} (items : List T) (Pv : Nat → List T → St3 → Gp → Prop) {τ : St3} {G : Gp} (h0 : Pv 0 [] τ G) (hst : ∀ i ys τ G,i ≤ items.length → Pv i ys τ G → stay G)
  (hs : ∀ i x ys τ G (R : List T → St3 → Gp → Prop),items[i]? = some x → Pv i ys τ G → (∀ ys' τ' G',Pv (i + 1) ys' τ' G' → R ys' τ' G') →
   g x τ G fun τ2 G2 => tif τ2 G2 fun k G3 => if k = true then te τ2 G3 fun y G4 => ys.length < sizeLine∧R (ys ++ [y]) τ2 G4 else R ys τ2 G3)
  (hd : ∀ ys τ G,Pv items.length ys τ G → ∀ p,G p = none → q (.ref p) (gu G p (.lst ys))) : MW stay g tif te q items [] τ G := by
 have key : ∀ (r : List T) (i : Nat) ys τ G,items.drop i = r → i ≤ items.length → Pv i ys τ G → MW stay g tif te q r ys τ G := by
  intro r
  induction r with
  | nil =>
   intro i ys τ G e hi p
   have : i = items.length := by have := congrArg List.length e;simp at this;omega
   subst this
   exact ⟨hst _ ys τ G hi p,hd ys τ G p⟩
  | cons x r ih =>
   intro i ys τ G e hi p
   have hl : i < items.length := by
    apply Classical.byContradiction
    intro z
    rw [List.drop_eq_nil_of_le (by omega)] at e
    cases e
   have e' := List.drop_eq_getElem_cons hl
   rw [e] at e'
   injection e' with e1 e2
   exact ⟨hst i ys τ G hi p,hs i x ys τ G _ (by rw [List.getElem?_eq_getElem hl,e1]) p fun ys2 τ2 G2 p2 => ih (i + 1) ys2 τ2 G2 e2.symm hl p2⟩
 exact key items 0 [] τ G (by simp) (Nat.zero_le _) h0
theorem qfJ {lo : Int} {n i : Nat} {x : T} (h : (L5 lo n)[i]? = some x) : i < n∧x = T.int (lo + (i : Int)) := by
 unfold L5 at h
 rw [List.getElem?_map] at h
 cases e : (List.range n)[i]? with
 | none => rw [e] at h;cases h
 | some k =>
  rw [e] at h
  obtain ⟨hi,hk⟩ := List.getElem?_eq_some_iff.mp e
  simp at hi hk
  subst hk
  exact ⟨hi,by simpa using h.symm⟩
theorem qfF (lo : Int) (n : Nat) : (L5 lo n).length = n := by simp [L5]
end L3
namespace Bk
open PySem L2 L3
def ZI : TS3 := (qZ (QX (DU (fun t => ZJ t "int") (v3 0)) (KR (DU (fun t => ZJ t "bool") (v3 0)))))
def VS (S_is_number : Sp3) : TS3 := (qZ (QX (DU (fun t => ZJ t "tuple") (v3 0)) (QX (o3 (Q6 false) (cb3 DS (qc (v3 0) qj)) (c3 (.int 2))) (QX (cb3 S_is_number (qc (o3 ix3 (v3 0) (c3 (.int 0))) qj)) (cb3 S_is_number (qc (o3 ix3 (v3 0) (c3 (.int 1))) qj))))))
def VU (S_size_of : Sp3) : TS3 := (qK (zg (o3 ix3 (v3 0) (c3 (.int 0))) (gn3 1)) (qK (Q5 (tb3 (o3 (Q6 false) (v3 1) (c3 (.str "bits")))) (qZ (zJ (qc (o3 (iC S4 (fun i j => i * 2 ^ j.toNat)) (c3 (.int 1)) (o3 ix3 (v3 0) (c3 (.int 1)))) (qc (o3 (iC S4 (fun i j => i * 2 ^ j.toNat)) (c3 (.int 1)) (o3 ix3 (v3 0) (c3 (.int 2)))) (qc (o3 (iC S4 (fun i j => i * 2 ^ j.toNat)) (c3 (.int 1)) (cb3 DS (qc (o3 ix3 (v3 0) (c3 (.int 3))) qj))) qj))))) ze) (qK (Q5 (tb3 (o3 (Q6 false) (v3 1) (c3 (.str "table")))) (qZ (zJ (qc (cb3 DS (qc (o3 ix3 (v3 0) (c3 (.int 2))) qj)) (qc (cb3 DS (qc (o3 ix3 (o3 ix3 (v3 0) (c3 (.int 2))) (c3 (.int 0))) qj)) (qc (o3 ix3 (v3 0) (c3 (.int 1))) qj))))) ze) (qK (Q5 (tb3 (o3 (Q6 false) (v3 1) (c3 (.str "joined")))) (qK (zg (cb3 S_size_of (qc (o3 ix3 (v3 0) (c3 (.int 1))) qj)) (zu 3 (qo (gn3 2) (qo (gn3 3) (qo (gn3 4) zx))))) (qK (zg (cb3 S_size_of (qc (o3 ix3 (v3 0) (c3 (.int 2))) qj)) (zu 3 (qo (gn3 5) (qo (gn3 6) (qo (gn3 7) zx))))) (qZ (zJ (qc (o3 (iC jd (· * ·)) (v3 2) (v3 5)) (qc (o3 (iC jd (· * ·)) (v3 3) (v3 6)) (qc (o3 (iC jd (· * ·)) (v3 4) (v3 7)) qj))))))) ze) (qZ (zJ (qc (o3 ix3 (v3 0) (c3 (.int 1))) (qc (o3 ix3 (v3 0) (c3 (.int 2))) (qc (o3 ix3 (v3 0) (c3 (.int 3))) qj)))))))))
def ZV (S_size_of : Sp3) : TS3 := (qK (zg (cb3 S_size_of (qc (v3 0) qj)) (zu 3 (qo (gn3 2) (qo (gn3 3) (qo (gn3 4) zx))))) (qZ (o3 zY (o3 (iC jd (· * ·)) (o3 ix3 (v3 1) (c3 (.int 0))) (v3 3)) (o3 ix3 (v3 1) (c3 (.int 1))))))
def V7 (S_is_pair : Sp3) (S_size_of : Sp3) : TS3 := (qK (Q5 (MM (tb3 (cb3 S_is_pair (qc (v3 1) qj)))) (qZ (c3 (.bl false))) ze) (qK (zg (cb3 S_size_of (qc (v3 0) qj)) (zu 3 (qo (gn3 2) (qo (gn3 3) (qo (gn3 4) zx))))) (qZ (QX (ch3 (iB fun i j => decide (i ≤ j)) (iB fun i j => decide (i < j)) (c3 (.int 0)) (o3 ix3 (v3 1) (c3 (.int 0))) (v3 2)) (ch3 (iB fun i j => decide (i ≤ j)) (iB fun i j => decide (i < j)) (c3 (.int 0)) (o3 ix3 (v3 1) (c3 (.int 1))) (v3 3))))))
def VM (S_number_of : Sp3) (S_bits_bank : Sp3) (S_joined_bank : Sp3) : TS3 := (qK (zg (o3 ix3 (v3 0) (c3 (.int 0))) (gn3 2)) (qK (Q5 (tb3 (o3 (Q6 false) (v3 2) (c3 (.str "skew")))) (qZ (o3 (iC (fun _ j => 0 < j) (· % ·)) (o3 zY (o3 (iC jd (· * ·)) (o3 ix3 (v3 0) (c3 (.int 4))) (o3 ix3 (v3 1) (c3 (.int 0)))) (o3 (iC jd (· * ·)) (o3 ix3 (v3 0) (c3 (.int 5))) (o3 ix3 (v3 1) (c3 (.int 1))))) (o3 ix3 (v3 0) (c3 (.int 3))))) ze) (qK (Q5 (tb3 (o3 (Q6 false) (v3 2) (c3 (.str "rests")))) (qZ (o3 (iC (fun _ j => 0 < j) (· % ·)) (cb3 S_number_of (qc (v3 0) (qc (v3 1) qj))) (o3 ix3 (v3 0) (c3 (.int 3))))) ze) (qK (Q5 (tb3 (o3 (Q6 false) (v3 2) (c3 (.str "bits")))) (qZ (cb3 S_bits_bank (qc (o3 ix3 (v3 0) (c3 (.int 3))) (qc (cb3 S_number_of (qc (v3 0) (qc (v3 1) qj))) qj)))) ze) (qK (Q5 (tb3 (o3 (Q6 false) (v3 2) (c3 (.str "table")))) (qZ (o3 ix3 (o3 ix3 (o3 ix3 (v3 0) (c3 (.int 2))) (o3 ix3 (v3 1) (c3 (.int 0)))) (o3 ix3 (v3 1) (c3 (.int 1))))) ze) (qZ (cb3 S_joined_bank (qc (o3 ix3 (v3 0) (c3 (.int 1))) (qc (o3 ix3 (v3 0) (c3 (.int 2))) (qc (v3 1) qj))))))))))
def VY : TS3 := (qK (zg (o3 (iC (fun _ j => 0 < j) (· % ·)) (o3 (iC jd (· * ·)) (o3 zY (o3 zY (o3 (iC (fun _ j => 0 < j) (· % ·)) (v3 0) (c3 (.int 2147483629))) (o3 (iC jd (· * ·)) (o3 (iC jd (· * ·)) (v3 1) (v3 1)) (c3 (.int 7919)))) (c3 (.int 11))) (c3 (.int 48271))) (c3 (.int 2147483647))) (gn3 2)) (qZ (o3 (iC (fun _ j => 0 < j) (· % ·)) (o3 (iC jd (· * ·)) (v3 2) (v3 2)) (c3 (.int 1999999973)))))
def J9 : TS3 := (qK (zg (if3 (tb3 (o3 (iB fun i j => decide (i < j)) (v3 1) (cb3 DS (qc (v3 0) qj)))) (o3 ix3 (v3 0) (v3 1)) (c3 (.int 0))) (gn3 2)) (qK (zg (if3 (tb3 (o3 (iB fun i j => decide (j ≤ i)) (cb3 qbI (qc (v3 2) qj)) (o3 (iC S4 (fun i j => i ^ j.toNat)) (c3 (.int 10)) (c3 (.int 18))))) (cb3 qbI (qc (v3 2) qj)) (c3 (.int 0))) (gn3 3)) (qZ (UF (qc (v3 3) (qc (o3 zY (v3 2) (o3 (iC jd (· * ·)) (c3 (.int 1000003)) (v3 1))) (qc (c3 (.int 0)) qj)))))))
def YB (S_law_mix : Sp3) : TS3 := (qK (zg (o3 zY (o3 ix3 (v3 0) (c3 (.int 2))) (c3 (.int 1))) (DP (v3 0) (c3 (.int 2)))) (qK (Q5 (tb3 (o3 (iB fun i j => decide (j < i)) (o3 ix3 (v3 0) (c3 (.int 0))) (c3 (.int 0)))) (qK (zg (o3 (iC (fun _ j => 0 < j) (· % ·)) (o3 ix3 (v3 0) (c3 (.int 0))) (v3 1)) (gn3 2)) (qK (zg (o3 (iC qas (· / ·)) (o3 ix3 (v3 0) (c3 (.int 0))) (v3 1)) (DP (v3 0) (c3 (.int 0)))) (qZ (v3 2)))) ze) (qZ (o3 (iC (fun _ j => 0 < j) (· % ·)) (o3 (iC qas (· / ·)) (cb3 S_law_mix (qc (cb3 S_law_mix (qc (o3 ix3 (v3 0) (c3 (.int 1))) (qc (o3 ix3 (v3 0) (c3 (.int 2))) qj))) (qc (o3 zY (o3 ix3 (v3 0) (c3 (.int 2))) (c3 (.int 64))) qj))) (c3 (.int 64))) (v3 1)))))
def Q7 (S_law_pick : Sp3) : TS3 := (qK (zg (o3 ix3 (UF (qc (c3 (.int 6)) (qc (c3 (.int 6)) (qc (c3 (.int 6)) (qc (c3 (.int 16)) qj))))) (cb3 S_law_pick (qc (v3 0) (qc (c3 (.int 4)) qj)))) (gn3 1)) (qK (S0 2 3 (qc (o3 zY (c3 (.int 1)) (cb3 S_law_pick (qc (v3 0) (qc (v3 1) qj)))) (qc (o3 zY (c3 (.int 1)) (cb3 S_law_pick (qc (v3 0) (qc (v3 1) qj)))) qj))) (qZ (o3 ix3 (UF (qc (zJ (qc (v3 2) (qc (v3 3) qj))) (qc (zJ (qc (v3 2) (qc (v3 3) qj))) (qc (zJ (qc (v3 2) (qc (v3 3) qj))) (qc (zJ (qc (v3 2) (qc (v3 2) qj))) qj))))) (cb3 S_law_pick (qc (v3 0) (qc (c3 (.int 4)) qj)))))))
def VQ : TS3 := (qK (EK (tb3 (o3 (iB fun i j => decide (j < i)) (v3 1) (c3 (.int 0)))) (S0 0 1 (qc (v3 1) (qc (o3 (iC (fun _ j => 0 < j) (· % ·)) (v3 0) (v3 1)) qj)))) (qZ (v3 0)))
def J7 (S_law_sides : Sp3) (S_law_pick : Sp3) : TS3 := (qK (zg (cb3 S_law_sides (qc (v3 0) qj)) (zu 2 (qo (gn3 1) (qo (gn3 2) zx)))) (qK (zg (o3 zY (c3 (.int 1)) (cb3 S_law_pick (qc (v3 0) (qc (o3 ix3 (UF (qc (c3 (.int 8)) (qc (c3 (.int 8)) (qc (c3 (.int 17)) (qc (c3 (.int 32)) qj))))) (cb3 S_law_pick (qc (v3 0) (qc (c3 (.int 4)) qj)))) qj)))) (gn3 3)) (qK (zg (o3 ix3 (UF (qc (v3 3) (qc (c3 (.int 10)) (qc (c3 (.int 100)) qj)))) (cb3 S_law_pick (qc (v3 0) (qc (c3 (.int 3)) qj)))) (gn3 4)) (qZ (zJ (qc (c3 (.str "skew")) (qc (v3 1) (qc (v3 2) (qc (v3 3) (qc (cb3 S_law_pick (qc (v3 0) (qc (v3 4) qj))) (qc (cb3 S_law_pick (qc (v3 0) (qc (v3 4) qj))) qj)))))))))))
def ZB (S_law_sides : Sp3) (S_law_pick : Sp3) (S_law_gcd : Sp3) : TS3 := (qK (zg (cb3 S_law_sides (qc (v3 0) qj)) (zu 2 (qo (gn3 1) (qo (gn3 2) zx)))) (qK (zg (o3 zY (c3 (.int 1)) (cb3 S_law_pick (qc (v3 0) (qc (o3 ix3 (UF (qc (c3 (.int 8)) (qc (c3 (.int 17)) (qc (c3 (.int 32)) qj)))) (cb3 S_law_pick (qc (v3 0) (qc (c3 (.int 3)) qj)))) qj)))) (gn3 3)) (qK (zg (o3 zY (u3 NA (o3 (iC qas (· / ·)) (o3 (iC jd (· * ·)) (u3 NA (v3 1)) (v3 2)) (v3 3))) (cb3 S_law_pick (qc (v3 0) (qc (c3 (.int 4)) qj)))) (gn3 4)) (qK (LN (j0 (qc (c3 (.int 32)) qj)) (gn3 5) (Q5 (tb3 (o3 (iB fun i j => decide (j < i)) (cb3 S_law_gcd (qc (v3 3) (qc (v3 4) qj))) (c3 (.int 1)))) (zg (o3 zY (v3 4) (c3 (.int 1))) (gn3 4)) ze)) (qZ (zJ (qc (c3 (.str "rests")) (qc (v3 1) (qc (v3 2) (qc (v3 3) (qc (v3 4) qj)))))))))))
def US (S_law_same : Sp3) : TS3 := (qK (Q5 (tb3 (DU (fun t => ZJ t "list" || ZJ t "tuple") (v3 1))) (qK (Q5 (or3 (tb3 (o3 (Q6 true) (DU (fun t => ZJ t "list") (v3 0)) (DU (fun t => ZJ t "list") (v3 1)))) (tb3 (o3 (Q6 true) (DU (fun t => ZJ t "tuple") (v3 0)) (DU (fun t => ZJ t "tuple") (v3 1))))) (qZ (c3 (.bl false))) ze) (qZ (QX (o3 (Q6 false) (cb3 DS (qc (v3 0) qj)) (cb3 DS (qc (v3 1) qj))) (cb3 qa1 (qc (lc3 (qbS (qc (v3 0) (qc (v3 1) qj))) (zu 2 (qo (gn3 0) (qo (gn3 1) zx))) tt3 (cb3 S_law_same (qc (v3 0) (qc (v3 1) qj))) [none,none]) qj))))) ze) (qK (Q5 (or3 (tb3 (o3 (MR false) (v3 1) (c3 .non))) (tb3 (DU (fun t => ZJ t "str" || ZJ t "bool") (v3 1)))) (qZ (QX (o3 (Q6 false) (v3 0) (v3 1)) (QX (o3 (Q6 false) (DU (fun t => ZJ t "bool") (v3 0)) (DU (fun t => ZJ t "bool") (v3 1))) (o3 (Q6 false) (o3 (MR false) (v3 0) (c3 .non)) (o3 (MR false) (v3 1) (c3 .non)))))) ze) (qZ (QX (DU (fun t => ZJ t "int") (v3 0)) (QX (KR (DU (fun t => ZJ t "bool") (v3 0))) (o3 (Q6 false) (v3 0) (v3 1)))))))
end Bk
namespace Bk
open PySem L2 L3
inductive Dl where
 | skew (r c b x y : Int)
 | rests (r c b p : Int)
 | bits (h l : Nat) (ms : List Int)
 | table (b : Int) (cells : List (List Int))
 | joined (d e : Dl)
def qor (r : List Int) : T := .tup (r.map T.int)
def Dl.t : Dl → T
 | .skew r c b x y => .tup [.str "skew",.int r,.int c,.int b,.int x,.int y]
 | .rests r c b p => .tup [.str "rests",.int r,.int c,.int b,.int p]
 | .bits h l ms => .tup [.str "bits",.int h,.int l,.tup (ms.map T.int)]
 | .table b cells => .tup [.str "table",.int b,.tup (cells.map qor)]
 | .joined d e => .tup [.str "joined",d.t,e.t]
def Dl.R : Dl → Int
 | .skew r _ _ _ _ => r
 | .rests r _ _ _ => r
 | .bits h _ _ => 2 ^ h
 | .table _ cells => cells.length
 | .joined d e => d.R * e.R
def Dl.C : Dl → Int
 | .skew _ c _ _ _ => c
 | .rests _ c _ _ => c
 | .bits _ l _ => 2 ^ l
 | .table _ cells => ((cells[0]?).getD []).length
 | .joined d e => d.C * e.C
def Dl.B : Dl → Int
 | .skew _ _ b _ _ => b
 | .rests _ _ b _ => b
 | .bits _ _ ms => 2 ^ ms.length
 | .table b _ => b
 | .joined d e => d.B * e.B
def Dl.Ok : Dl → Prop
 | .skew r c b x y => 1 ≤ r∧r ≤ 60∧1 ≤ c∧c ≤ 60∧1 ≤ b∧b ≤ 1000∧0 ≤ x∧x ≤ 1000∧0 ≤ y∧y ≤ 1000
 | .rests r c b p => 1 ≤ r∧r ≤ 60∧1 ≤ c∧c ≤ 60∧1 ≤ b∧b ≤ 1000∧1 ≤ p∧p ≤ 100000∧Int.gcd b p = 1∧r * c ≤ b * p
 | .bits h l ms => h ≤ 4∧l ≤ 4∧ms.length ≤ 5∧∀ m ∈ ms,0 ≤ m∧m < 2 ^ (h + l)
 | .table b cells => 1 ≤ b∧b ≤ 1000∧1 ≤ cells.length∧cells.length ≤ 60∧∃ c,1 ≤ c∧c ≤ 60∧∀ row ∈ cells,row.length = c∧∀ x ∈ row,0 ≤ x∧x < b
 | .joined d e => d.Ok∧e.Ok∧d.R * e.R ≤ 4096∧d.C * e.C ≤ 4096∧d.B * e.B ≤ 4096
def Dl.dep : Dl → Nat
 | .joined d e => max d.dep e.dep + 1
 | _ => 0
theorem p2 (n : Nat) : ((2 : Int) ^ n) = ((2 ^ n : Nat) : Int) := by simp
theorem qaA (n : Nat) : (1 : Int) ≤ 2 ^ n := by
 rw [p2];have := Nat.one_le_two_pow (n := n);omega
theorem qfr {n k : Nat} (h : n ≤ k) : (2 : Int) ^ n ≤ 2 ^ k := by
 rw [p2,p2];have := Nat.pow_le_pow_right (n := 2) (by omega) h;omega
structure Lims (d : Dl) : Prop where
 r1 : 1 ≤ d.R
 r2 : d.R ≤ 4096
 c1 : 1 ≤ d.C
 c2 : d.C ≤ 4096
 b1 : 1 ≤ d.B
 b2 : d.B ≤ 4096
theorem YC {a b : Int} (h1 : 1 ≤ a) (h2 : 1 ≤ b) : 1 ≤ a * b := by
 have := Int.mul_le_mul (a := 1) (b := 1) (c := a) (d := b) h1 h2 (by omega) (by omega)
 omega
theorem Dl.lims : ∀ {d : Dl},d.Ok → Lims d
 | .skew r c b x y,⟨h1,h2,h3,h4,h5,h6,_⟩ => ⟨h1,by simp [Dl.R];omega,h3,by simp [Dl.C];omega,h5,by simp [Dl.B];omega⟩
 | .rests r c b x,⟨h1,h2,h3,h4,h5,h6,_⟩ => ⟨h1,by simp [Dl.R];omega,h3,by simp [Dl.C];omega,h5,by simp [Dl.B];omega⟩
 | .bits h l ms,⟨h1,h2,h3,_⟩ => by
  have e1 := qfr h1;have e2 := qfr h2;have e3 := qfr h3
  refine ⟨qaA _,?_,qaA _,?_,qaA _,?_⟩ <;> simp [Dl.R,Dl.C,Dl.B] <;> omega
 | .table b cells,⟨h1,h2,h3,h4,c,h5,h6,h7⟩ => by
  have e0 : cells[0]? = some cells[0] := List.getElem?_eq_getElem (by omega)
  have e1 := (h7 cells[0] (List.getElem_mem _)).1
  have e2 : (Dl.table b cells).C = c := by simp [Dl.C,e0,e1]
  exact ⟨by simp [Dl.R];omega,by simp [Dl.R];omega,by rw [e2];omega,by rw [e2];omega,h1,by simp [Dl.B];omega⟩
 | .joined d e,⟨h1,h2,h3,h4,h5⟩ => by
  have a := Dl.lims h1;have b := Dl.lims h2
  exact ⟨YC a.r1 b.r1,h3,YC a.c1 b.c1,h4,YC a.b1 b.b1,h5⟩
abbrev qf6 (q : Q3) : Ends3 := { nx := fun _ G' => q .non G',rt := q }
theorem UH {A B : TS3} {d : Ends3} {τ : St3} {G : Gp} (h : ∀ nx,nx = B d → A { d with nx := nx } τ G) : qK A B d τ G := h _ rfl
end Bk
namespace Bk
open PySem L2 L3
end Bk
namespace Bk
open PySem L2 L3
def Lf (G : Gp) (a : Addr) (n : Int) : Prop := ∃ o c m,G a = some (.lst [.int o,.int c,.int m])∧0 ≤ o∧0 ≤ m∧m ≤ n
def Ext (a : Addr) (G G' : Gp) : Prop := ∀ b o,b ≠ a → G b = some o → G' b = some o
theorem Lf.ne {G : Gp} {a p : Addr} {n : Int} (h : Lf G a n) (hp : G p = none) : p ≠ a := by
 rintro rfl
 obtain ⟨o,c,m,e,_⟩ := h
 rw [hp] at e;cases e
theorem Lf.new {G : Gp} {a p : Addr} {n : Int} {ob : O} (h : Lf G a n) (hp : p ≠ a) : Lf (gu G p ob) a n := by
 obtain ⟨o,c,m,e,r⟩ := h
 exact ⟨o,c,m,by rw [jB (Ne.symm hp)];exact e,r⟩
theorem Lf.mono {G : Gp} {a : Addr} {n k : Int} (h : Lf G a n) (hk : n ≤ k) : Lf G a k := by
 obtain ⟨o,c,m,e,h1,h2,h3⟩ := h
 exact ⟨o,c,m,e,h1,h2,by omega⟩
theorem Lf.ex {G G' : Gp} {a : Addr} {n : Int} (h : Lf G a n) (e : Ex G G') : Lf G' a n := by
 obtain ⟨o,c,m,e1,h1⟩ := h
 exact ⟨o,c,m,e _ _ e1,h1⟩
theorem Ext.trans {a : Addr} {G G1 G2 : Gp} (x : Ext a G G1) (y : Ext a G1 G2) : Ext a G G2 := fun b o hb e => y b o hb (x b o hb e)
theorem TD {a p : Addr} {G : Gp} {ob : O} (hp : G p = none) : Ext a G (gu G p ob) := fun b o _ e => by
 rw [jB (by rintro rfl;rw [hp] at e;cases e)];exact e
theorem RM {a : Addr} {G G' : Gp} (h : Ex G G') : Ext a G G' := fun b o _ e => h b o e
def WU : Sp3 := fun ts G q => ∃ c k,ts = [.int c,.int k]∧0 ≤ k∧k < 4294967296∧∀ m,0 ≤ m → m < 1999999973 → q (.int m) G
def ZK : Sp3 := fun ts G q => ∃ (a : Addr) (k : Int) (ns : List Int),ts = [.ref a,.int k]∧G a = some (.frz (ns.map T.int))∧ns.length ≤ 63∧0 ≤ k∧k ≤ 63∧∀ p o c,G p = none → 0 ≤ o → q (.ref p) (gu G p (.lst [.int o,.int c,.int 0]))
def qG : Sp3 := fun ts G q => ∃ a n many,ts = [.ref a,.int many]∧1 ≤ many∧many < 1073741824∧Lf G a n∧n < 1073741824∧∀ d G',0 ≤ d → d < many → Lf G' a (n + 1) → Ext a G G' → q (.int d) G'
def jk : Sp3 := fun ts G q => ∃ a n,ts = [.ref a]∧Lf G a n∧n < 100000000∧∀ r c G',1 ≤ r → r ≤ 16 → 1 ≤ c → c ≤ 16 → Lf G' a (n + 4) → Ext a G G' → q (.tup [.int r,.int c]) G'
def QU : Sp3 := fun ts G q => ∃ x y : Int,ts = [.int x,.int y]∧0 ≤ x∧0 ≤ y∧q (.int (Int.gcd x y : Nat)) G
structure Dr (d : Dl) (r c b : Int) : Prop where
 ok : d.Ok
 r2 : d.R ≤ r
 c2 : d.C ≤ c
 b2 : d.B ≤ b
def QC : Sp3 := fun ts G q => ∃ a n,ts = [.ref a]∧Lf G a n∧n < 10000000∧∀ r c b p G',Dr (.rests r c b p) 16 16 32 → Lf G' a (n + 10) → Ext a G G' → q (Dl.rests r c b p).t G'
theorem DA {a : Addr} {n many : Int} {G : Gp} {q : Q3} (hL : Lf G a n) (h1 : 1 ≤ many) (h2 : many < 1073741824) (hn : n < 1073741824) (h : ∀ d G',0 ≤ d → d < many → Lf G' a (n + 1) → Ext a G G' → q (.int d) G') : qG [.ref a,.int many] G q := ⟨a,n,many,rfl,h1,h2,hL,hn,h⟩
theorem LY : ∀ ts G q,WU ts G q → ts.length = 2∧VY (qf6 q) (qs ["_law_cell","_law_k","_law_m"] ts) G := by
 rintro ts G q ⟨c,k,rfl,h1,h2,h⟩
 refine ⟨rfl,?_⟩
 simp only [VY,qK,zg,o3,v3,qs,List.map_cons,List.map_nil,List.length_cons,List.length_nil,Nat.zero_add,Nat.reduceAdd,Nat.reduceSub,List.replicate_one,List.cons_append,List.nil_append,Nat.zero_lt_succ,getElem?_pos,List.getElem_cons_zero,c3,iC,Int.reduceLT,Nat.reduceLT,List.getElem_cons_succ,zY,gn3,qZ,List.set_cons_succ,List.set_cons_zero,Nat.lt_add_one,true_and]
 exact ⟨.inl ⟨by omega,by omega⟩,cm (by omega) (by omega),cm (by omega) (by omega),.inl ⟨by omega,by omega⟩,h _ (Int.emod_nonneg _ (by omega)) (Int.emod_lt_of_pos _ (by omega))⟩
theorem cp : S4 10 18 := ⟨by decide,by decide,by decide⟩
theorem KJ : ∀ ts G q,ZK ts G q → ts.length = 2∧J9 (qf6 q) (qs ["_law_script","_law_k","_law_cell","_law_own"] ts) G := by
 rintro ts G q ⟨a,k,ns,rfl,hG,hl,h1,h2,h⟩
 refine ⟨rfl,?_⟩
 simp only [J9,qK,zg,if3,tb3,o3,v3,qs,List.map_cons,List.map_nil,List.length_cons,List.length_nil,Nat.zero_add,Nat.reduceAdd,Nat.reduceSub,List.reduceReplicate,List.cons_append,List.nil_append,Nat.reduceLT,getElem?_pos,List.getElem_cons_succ,List.getElem_cons_zero,cb3,qc,Nat.zero_lt_succ,qj,DS,getL,hG,iB,List.length_map,decide_eq_true_eq,gn3,List.set_cons_succ,List.set_cons_zero,qbI,c3,iC,Int.reduceToNat,Int.reducePow,qZ,UF,Nat.lt_add_one,zY,ne_eq,sizeLine_eq,Nat.reduceLeDiff,true_and,gu,ixR,atI,ixN,List.getElem?_map,Int.lt_irrefl,↓reduceIte,Int.reduceLE,decide_false,Bool.false_eq_true,Int.zero_add]
 have ck : jd 1000003 k := cm (by omega) (by omega)
 by_cases hk : k < ns.length
 ·have hk' : k.toNat < ns.length := by omega
  simp [hk,h1,hk',cp,ck]
  split
  ·split
   ·exact fun p hp => h p (-ns[k.toNat]) _ hp (by omega)
   ·exact fun p hp => h p 0 _ hp (by omega)
  ·split
   ·exact fun p hp => h p ns[k.toNat] _ hp (by omega)
   ·exact fun p hp => h p 0 _ hp (by omega)
 ·simp [hk,cp,ck]
  exact fun p hp => h p 0 _ hp (by omega)
theorem T1 : ∀ ts G q,qG ts G q → ts.length = 2∧YB WU (qf6 q) (qs ["_law_left_here","_law_many","_law_digit"] ts) G := by
 rintro ts G q ⟨a,n,many,rfl,m1,m2,⟨o,c,m,hG,ho,hm,hn⟩,h3,h⟩
 refine ⟨rfl,?_⟩
 unfold YB
 refine UH fun nx1 q1 => ?_
 simp only [zg,o3,v3,qs,List.map_cons,List.map_nil,List.length_cons,List.length_nil,Nat.zero_add,Nat.reduceAdd,Nat.reduceSub,List.replicate_one,List.cons_append,List.nil_append,Nat.zero_lt_succ,getElem?_pos,List.getElem_cons_zero,c3,zY,ne_eq,sizeLine_eq,DP,qbO,ixN,Int.zero_le_ofNat,↓reduceIte,Int.reduceToNat,tb3,iB,decide_eq_true_eq,Nat.reduceLT,List.getElem_cons_succ,iC,gn3,List.set_cons_succ,List.set_cons_zero,Std.le_refl,Int.natCast_pos,Int.toNat_zero,qZ,Nat.lt_add_one,ixR,getL,atI,ze,cb3,qc,qj,Int.toNat_one,List.length_set,hG,Int.cast_ofNat_Int,Int.reduceLT,Option.bind_some,qN]
 rw [q1]
 clear q1
 refine UH fun nx2 q2 => ?_
 simp only [Q5,zg,o3,v3,qs,List.map_cons,List.map_nil,List.length_cons,List.length_nil,Nat.zero_add,Nat.reduceAdd,Nat.reduceSub,List.replicate_one,List.cons_append,List.nil_append,Nat.zero_lt_succ,getElem?_pos,List.getElem_cons_zero,c3,zY,ne_eq,sizeLine_eq,DP,qbO,ixN,Int.zero_le_ofNat,↓reduceIte,Int.reduceToNat,tb3,iB,decide_eq_true_eq,Nat.reduceLT,List.getElem_cons_succ,iC,gn3,List.set_cons_succ,List.set_cons_zero,Std.le_refl,Int.natCast_pos,Int.toNat_zero,qZ,Nat.lt_add_one,ixR,getL,atI,ze,cb3,qc,qj,Int.toNat_one,List.length_set,hG,Int.cast_ofNat_Int,Int.reduceLT,Option.bind_some,qN]
 split
 ·simp only [qK,zg,o3,v3,List.length_cons,List.length_nil,Nat.zero_add,Nat.reduceAdd,Nat.zero_lt_succ,getElem?_pos,List.getElem_cons_zero,c3,Nat.reduceLT,List.getElem_cons_succ,iC,gn3,List.set_cons_succ,List.set_cons_zero,DP,qbO,ixN,Std.le_refl,↓reduceIte,Int.natCast_pos,Int.toNat_zero,qZ,Nat.lt_add_one,ixR,getL,atI,qN,Int.cast_ofNat_Int,Int.reduceLT,Option.bind_some]
  refine ⟨by omega,⟨by omega,m2⟩,h _ _ (Int.emod_nonneg _ (by omega)) (Int.emod_lt_of_pos _ (by omega)) ⟨o / many,c,m + 1,qN,Int.ediv_nonneg ho (by omega),by omega,by omega⟩ fun b ob hb e => ?_⟩
  rw [jB hb,jB hb];exact e
 ·rw [q2]
  clear q2
  simp only [zg,o3,v3,qs,List.map_cons,List.map_nil,List.length_cons,List.length_nil,Nat.zero_add,Nat.reduceAdd,Nat.reduceSub,List.replicate_one,List.cons_append,List.nil_append,Nat.zero_lt_succ,getElem?_pos,List.getElem_cons_zero,c3,zY,ne_eq,sizeLine_eq,DP,qbO,ixN,Int.zero_le_ofNat,↓reduceIte,Int.reduceToNat,tb3,iB,decide_eq_true_eq,Nat.reduceLT,List.getElem_cons_succ,iC,gn3,List.set_cons_succ,List.set_cons_zero,Std.le_refl,Int.natCast_pos,Int.toNat_zero,qZ,Nat.lt_add_one,ixR,getL,atI,ze,cb3,qc,qj,Int.toNat_one,List.length_set,hG,Int.cast_ofNat_Int,Int.reduceLT,Option.bind_some,qN]
  refine ⟨c,m + 1,rfl,by omega,by omega,fun u u1 u2 => ?_⟩
  simp only [zg,o3,v3,qs,List.map_cons,List.map_nil,List.length_cons,List.length_nil,Nat.zero_add,Nat.reduceAdd,Nat.reduceSub,List.replicate_one,List.cons_append,List.nil_append,Nat.zero_lt_succ,getElem?_pos,List.getElem_cons_zero,c3,zY,ne_eq,sizeLine_eq,DP,qbO,ixN,Int.zero_le_ofNat,↓reduceIte,Int.reduceToNat,tb3,iB,decide_eq_true_eq,Nat.reduceLT,List.getElem_cons_succ,iC,gn3,List.set_cons_succ,List.set_cons_zero,Std.le_refl,Int.natCast_pos,Int.toNat_zero,qZ,Nat.lt_add_one,ixR,getL,atI,ze,cb3,qc,qj,Int.toNat_one,List.length_set,hG,Int.cast_ofNat_Int,Int.reduceLT,Option.bind_some,qN]
  refine ⟨u,m + 1 + 64,rfl,by omega,by omega,fun v v1 v2 => ?_⟩
  refine ⟨⟨by omega,by omega⟩,by omega,h _ _ (Int.emod_nonneg _ (by omega)) (Int.emod_lt_of_pos _ (by omega)) ⟨o,c,m + 1,qN,ho,by omega,by omega⟩ fun b ob hb e => ?_⟩
  rw [jB hb];exact e
theorem qbJ {x y : Int} (hy : 0 < y) : Int.gcd y (x % y) = Int.gcd x y := by
 rw [Int.emod_def,Int.gcd_comm x y]
 simp
theorem NB : ∀ ts G q,QU ts G q → ts.length = 2∧VQ (qf6 q) (qs ["_law_one","_law_other"] ts) G := by
 rintro ts G q ⟨x,y,rfl,hx,hy,h⟩
 refine ⟨rfl,?_⟩
 simp only [VQ,qK,EK,qs,List.map_cons,List.map_nil,List.length_cons,List.length_nil,Nat.zero_add,Nat.reduceAdd,Nat.sub_self,List.replicate_zero,List.append_nil,tb3,o3,v3,c3,iB,decide_eq_true_eq,S0,qc,iC,qj,qZ]
 refine ⟨fun n τ G' => G' = G∧∃ u v : Int,τ = [some (.int u),some (.int v)]∧n = v.toNat∧0 ≤ u∧0 ≤ v∧Int.gcd u v = Int.gcd x y,⟨_,rfl,x,y,rfl,rfl,hx,hy,rfl⟩,?_⟩
 rintro n τ G' ⟨eG,u,v,rfl,rfl,hu,hv,e⟩
 simp
 by_cases h0 : 0 < v
 ·simp [h0]
  refine ⟨fun τ' G' => G' = G∧∃ x' y' : Int,τ' = [some (.int x'),some (.int y')]∧y'.toNat < v.toNat∧0 ≤ x'∧0 ≤ y'∧Int.gcd x' y' = Int.gcd x y,fun τ' G' ⟨e1,x',y',e2,e3,e4,e5,e6⟩ => ⟨y'.toNat,by omega,e1,x',y',e2,rfl,e4,e5,e6⟩,eG,v,u % v,rfl,?_,hv,Int.emod_nonneg _ (by omega),by rw [qbJ h0,e]⟩
  have := Int.emod_lt_of_pos u h0
  omega
 ·have : v = 0 := by omega
  subst this
  simp at e
  simp [eG]
  have : u = (Int.gcd x y : Nat) := by omega
  rw [this]
  exact h
theorem qn8 {d : Int} (h1 : 0 ≤ d) (h2 : d < 4) {x0 x1 x2 x3 : T} {P : T → Prop} (p0 : P x0) (p1 : P x1) (p2 : P x2) (p3 : P x3) : ∃ x,L2.atI [x0,x1,x2,x3] d = some x∧P x := by
 have : d = 0 ∨ d = 1 ∨ d = 2 ∨ d = 3 := by omega
 rcases this with rfl | rfl | rfl | rfl
 ·exact ⟨x0,rfl,p0⟩
 ·exact ⟨x1,rfl,p1⟩
 ·exact ⟨x2,rfl,p2⟩
 ·exact ⟨x3,rfl,p3⟩
theorem qo5 {d : Int} (h1 : 0 ≤ d) (h2 : d < 3) {x0 x1 x2 : T} {P : T → Prop} (p0 : P x0) (p1 : P x1) (p2 : P x2) : ∃ x,L2.atI [x0,x1,x2] d = some x∧P x := by
 have : d = 0 ∨ d = 1 ∨ d = 2 := by omega
 rcases this with rfl | rfl | rfl
 ·exact ⟨x0,rfl,p0⟩
 ·exact ⟨x1,rfl,p1⟩
 ·exact ⟨x2,rfl,p2⟩
theorem SD : ∀ ts G q,jk ts G q → ts.length = 1∧Q7 qG (qf6 q) (qs ["_law_left_here","_law_wide","_law_rows","_law_columns"] ts) G := by
 rintro ts G q ⟨a,n,rfl,hL,hn,h⟩
 refine ⟨rfl,?_⟩
 unfold Q7
 refine UH fun nx1 q1 => ?_
 simp only [zg,o3,UF,qc,c3,qj,List.length_cons,List.length_nil,Nat.zero_add,Nat.reduceAdd,sizeLine_eq,Nat.reduceLeDiff,cb3,v3,qs,List.map_cons,List.map_nil,Nat.add_one_sub_one,List.reduceReplicate,List.cons_append,List.nil_append,Nat.zero_lt_succ,getElem?_pos,List.getElem_cons_zero,gn3,List.set_cons_succ,List.set_cons_zero,true_and]
 intro p hp
 have hpa := hL.ne hp
 refine DA (hL.new hpa) (by decide) (by decide) (by omega) fun d G1 d1 d2 L1 E1 => ?_
 have g1 := E1 p _ hpa qN
 obtain ⟨w,hw,w',rfl,w1,w2⟩ := qn8 d1 d2 (P := fun t => ∃ w,t = T.int w∧1 ≤ w∧w ≤ 16) ⟨6,rfl,by decide⟩ ⟨6,rfl,by decide⟩ ⟨6,rfl,by decide⟩ ⟨16,rfl,by decide⟩
 simp only [ixR,getL,g1,hw]
 rw [q1]
 clear q1
 refine UH fun nx2 q2 => ?_
 simp only [S0,qc,o3,c3,cb3,v3,List.length_cons,List.length_nil,Nat.zero_add,Nat.reduceAdd,Nat.zero_lt_succ,getElem?_pos,List.getElem_cons_zero,Nat.reduceLT,List.getElem_cons_succ,qj,zY,ne_eq,sizeLine_eq,List.set_cons_succ,List.set_cons_zero]
 refine DA L1 w1 (by omega) (by omega) fun r G2 r1 r2 L2' E2 => ?_
 simp only [iI,qK,zg,o3,UF,qc,c3,qj,List.length_cons,List.length_nil,Nat.zero_add,Nat.reduceAdd,sizeLine_eq,Nat.reduceLeDiff,cb3,v3,qs,List.map_cons,List.map_nil,Nat.add_one_sub_one,List.reduceReplicate,List.cons_append,List.nil_append,Nat.zero_lt_succ,getElem?_pos,List.getElem_cons_zero,gn3,S0,List.set_cons_succ,List.set_cons_zero,Nat.reduceLT,List.getElem_cons_succ,zY,ne_eq,qZ,zJ,Nat.lt_add_one,true_and,gu]
 refine DA L2' w1 (by omega) (by omega) fun c G3 c1 c2 L3' E3 => ?_
 simp only [iI,qK,zg,o3,UF,qc,c3,qj,List.length_cons,List.length_nil,Nat.zero_add,Nat.reduceAdd,sizeLine_eq,Nat.reduceLeDiff,cb3,v3,qs,List.map_cons,List.map_nil,Nat.add_one_sub_one,List.reduceReplicate,List.cons_append,List.nil_append,Nat.zero_lt_succ,getElem?_pos,List.getElem_cons_zero,gn3,S0,List.set_cons_succ,List.set_cons_zero,Nat.reduceLT,List.getElem_cons_succ,zY,ne_eq,qZ,zJ,Nat.lt_add_one,true_and,gu]
 rw [q2]
 clear q2
 simp only [qZ,o3,UF,qc,zJ,v3,List.length_cons,List.length_nil,Nat.zero_add,Nat.reduceAdd,Nat.reduceLT,getElem?_pos,List.getElem_cons_succ,List.getElem_cons_zero,Nat.lt_add_one,qj,sizeLine_eq,Nat.reduceLeDiff,cb3,Nat.zero_lt_succ,c3,true_and]
 intro p2 hp2
 have hpa2 := L3'.ne hp2
 refine DA (L3'.new hpa2) (by decide) (by decide) (by omega) fun e G4 e1 e2 L4 E4 => ?_
 have g4 := E4 p2 _ hpa2 qN
 have x1 : 1 ≤ 1 + r := by omega
 have x2 : 1 + r ≤ 16 := by omega
 have x3 : 1 ≤ 1 + c := by omega
 have x4 : 1 + c ≤ 16 := by omega
 obtain ⟨t,ht,r',c',rfl,z1,z2,z3,z4⟩ := qn8 e1 e2 (P := fun t => ∃ r' c',t = T.tup [.int r',.int c']∧1 ≤ r'∧r' ≤ 16∧1 ≤ c'∧c' ≤ 16) ⟨1 + r,1 + c,rfl,x1,x2,x3,x4⟩ ⟨1 + r,1 + c,rfl,x1,x2,x3,x4⟩ ⟨1 + r,1 + c,rfl,x1,x2,x3,x4⟩ ⟨1 + r,1 + r,rfl,x1,x2,x1,x2⟩
 simp only [ixR,getL,g4,ht]
 exact h r' c' G4 z1 z2 z3 z4 (L4.mono (by omega)) ((((TD hp).trans E1).trans (E2.trans E3)).trans ((TD hp2).trans E4))
theorem cop {b p : Int} (hb : 1 ≤ b) : ∃ k : Nat,(k : Int) < b∧Int.gcd b (p + k) = 1 := by
 refine ⟨((1 - p) % b).toNat,?_,?_⟩
 ·have := Int.emod_nonneg (1 - p) (show b ≠ 0 by omega)
  have := Int.emod_lt_of_pos (1 - p) (show 0 < b by omega)
  omega
 ·have h1 := Int.emod_nonneg (1 - p) (show b ≠ 0 by omega)
  have h2 := Int.emod_add_mul_ediv (1 - p) b
  have e : p + (((1 - p) % b).toNat : Int) = 1 + b * (-((1 - p) / b)) := by
   rw [Int.toNat_of_nonneg h1,Int.mul_neg];omega
  rw [e];simp
structure Plc (b p0 pl : Int) (i : Nat) : Prop where
 lo : p0 ≤ pl
 hi : pl ≤ p0 + i
 at_ : Int.gcd b pl = 1 ∨ (pl = p0 + i∧∀ k : Nat,k < i → Int.gcd b (p0 + k) ≠ 1)
theorem Plc.done {b p0 pl : Int} {n : Nat} (h : Plc b p0 pl n) (hb : 1 ≤ b) (hn : b ≤ n) : Int.gcd b pl = 1 := by
 rcases h.at_ with h | ⟨_,h⟩
 ·exact h
 ·obtain ⟨k,h1,h2⟩ := cop (p := p0) hb
  exact absurd h2 (h k (by omega))
theorem Plc.next {b p0 pl : Int} {i : Nat} (h : Plc b p0 pl i) (hb : 1 ≤ b) (hp : 1 ≤ p0) (hg : (1 : Int) < (Int.gcd b pl : Nat)) : Plc b p0 (pl + 1) (i + 1) := by
 rcases h.at_ with z | ⟨z1,z2⟩
 ·rw [z] at hg;simp at hg
 ·refine ⟨by have := h.lo;omega,by omega,.inr ⟨by omega,fun k hk => ?_⟩⟩
  rcases Nat.lt_or_ge k i with q | q
  ·exact z2 k q
  ·have : k = i := by omega
   subst this
   rw [← z1]
   omega
theorem Plc.stay {b p0 pl : Int} {i : Nat} (h : Plc b p0 pl i) (hb : 1 ≤ b) (hp : 1 ≤ p0) (hg : ¬ (1 : Int) < (Int.gcd b pl : Nat)) : Plc b p0 pl (i + 1) := by
 have g0 : 0 < Int.gcd b pl := Int.gcd_pos_of_ne_zero_left _ (by omega)
 exact ⟨h.lo,by have := h.hi;omega,.inl (by omega)⟩
theorem qhN {r c b : Int} (hr : 1 ≤ r) (hc : 1 ≤ c) (hb : 1 ≤ b) : 1 ≤ -(-r * c / b)∧r * c ≤ b * -(-r * c / b)∧-(-r * c / b) ≤ r * c := by
 have h1 := YC hr hc
 have e : -r * c = -(r * c) := Int.neg_mul ..
 rw [e]
 have h2 := Int.ediv_neg_of_neg_of_pos (a := -(r * c)) (b := b) (by omega) (by omega)
 have h3 := Int.mul_ediv_self_le (x := -(r * c)) (k := b) (by omega)
 have h4 : -(r * c) ≤ -(r * c) / b := by
  have := Int.le_ediv_of_mul_le (a := -(r * c)) (b := -(r * c)) (c := b) (by omega) (by
   have := Int.mul_le_mul_of_nonneg_left hb (show (0 : Int) ≤ r * c by omega)
   rw [Int.neg_mul];omega)
  exact this
 rw [Int.mul_neg]
 omega
theorem SY : ∀ ts G q,QC ts G q → ts.length = 1∧ZB jk qG QU (qf6 q) (qs ["_law_left_here","_law_rows","_law_columns","_law_banks","_law_places","_law_turn"] ts) G := by
 rintro ts G q ⟨a,n,rfl,hL,hn,h⟩
 refine ⟨rfl,?_⟩
 unfold ZB
 refine UH fun nx1 q1 => ?_
 simp only [zg,cb3,qc,v3,qs,List.map_cons,List.map_nil,List.length_cons,List.length_nil,Nat.zero_add,Nat.reduceAdd,Nat.add_one_sub_one,List.reduceReplicate,List.cons_append,List.nil_append,Nat.zero_lt_succ,getElem?_pos,List.getElem_cons_zero,qj,zu,qo,gn3,zx,List.set_cons_succ,List.set_cons_zero]
 refine ⟨a,n,rfl,hL,by omega,fun r c G1 r1 r2 c1 c2 L1 E1 => ?_⟩
 simp only [List.length_cons,List.length_nil,Nat.zero_add,Nat.reduceAdd,true_and]
 rw [q1]
 clear q1
 refine UH fun nx2 q2 => ?_
 simp only [zg,o3,c3,cb3,qc,v3,List.length_cons,List.length_nil,Nat.zero_add,Nat.reduceAdd,Nat.zero_lt_succ,getElem?_pos,List.getElem_cons_zero,UF,qj,sizeLine_eq,Nat.reduceLeDiff,zY,ne_eq,gn3,List.set_cons_succ,List.set_cons_zero,true_and]
 intro p hp
 have hpa := L1.ne hp
 refine DA (L1.new hpa) (by decide) (by decide) (by omega) fun d G2 d1 d2 L2' E2 => ?_
 have g2 := E2 p _ hpa qN
 obtain ⟨w,hw,w',rfl,w1,w2⟩ := qo5 d1 d2 (P := fun t => ∃ w,t = T.int w∧1 ≤ w∧w ≤ 32) ⟨8,rfl,by decide⟩ ⟨17,rfl,by decide⟩ ⟨32,rfl,by decide⟩
 simp only [ixR,getL,g2,hw]
 refine DA L2' w1 (by omega) (by omega) fun b G3 b1 b2 L3' E3 => ?_
 simp [qK,zg,gn3,qZ,qiK,Q5,qll,qgQ,ze,v3,c3,o3,u3,NA,L3.ixT,L3.ixR,zY,iI,iC,iB,Q6,VF,MR,tb3,qgX,or3,MM,QX,qoe,KR,if3,ch3,cb3,qc,qj,DU,tyT,ZJ,zJ,UF,qgP,np3,sp3,zu,qo,zx,DP,qbO,S0,qs,bm3,qoj,qoy,DS,qbI,qgc,qoJ,qgR,DG,KF,qa1,qoG,qce,qa3,HT.sIx,getL,in3,qbb,eqF,gu,sizeLine_eq,List.getElem?_cons_zero,List.getElem?_cons_succ]
 rw [q2]
 clear q2
 refine UH fun nx3 q3 => ?_
 simp only [zg,o3,u3,v3,List.length_cons,List.length_nil,Nat.zero_add,Nat.reduceAdd,Nat.reduceLT,getElem?_pos,List.getElem_cons_succ,List.getElem_cons_zero,NA,iC,cb3,qc,Nat.zero_lt_succ,c3,qj,zY,ne_eq,sizeLine_eq,gn3,List.set_cons_succ,List.set_cons_zero]
 refine ⟨cm (by omega) (by omega),⟨by omega,by omega⟩,DA L3' (by omega) (by omega) (by omega) fun e G4 e1 e2 L4 E4 => ?_⟩
 obtain ⟨u1,u2,u3⟩ := qhN r1 c1 (show 1 ≤ 1 + b by omega)
 have rc : r * c ≤ 16 * 16 := Int.mul_le_mul r2 c2 (by omega) (by omega)
 simp [qK,zg,gn3,qZ,qiK,Q5,qll,qgQ,ze,v3,c3,o3,u3,NA,L3.ixT,L3.ixR,zY,iI,iC,iB,Q6,VF,MR,tb3,qgX,or3,MM,QX,qoe,KR,if3,ch3,cb3,qc,qj,DU,tyT,ZJ,zJ,UF,qgP,np3,sp3,zu,qo,zx,DP,qbO,S0,qs,bm3,qoj,qoy,DS,qbI,qgc,qoJ,qgR,DG,KF,qa1,qoG,qce,qa3,HT.sIx,getL,in3,qbb,eqF,gu,sizeLine_eq,List.getElem?_cons_zero,List.getElem?_cons_succ]
 rw [q3]
 clear q3
 simp only [qK,LN,j0,qc,c3,qj,Int.reducePow,Int.reduceNeg,Int.neg_ofNat_le_ofNat,Int.reduceLT,and_self,Int.reduceToNat,true_and]
 obtain ⟨p0,hp0⟩ : ∃ p0,p0 = -(-r * c / (1 + b)) + e := ⟨_,rfl⟩
 refine SH _ (fun i τ G' => G' = G4∧∃ (pl : Int) (x : Option T),τ = [some (.ref a),some (.int r),some (.int c),some (.int (1 + b)),some (.int pl),x]∧Plc (1 + b) p0 pl i) ⟨rfl,_,none,by rw [← hp0],⟨by omega,by omega,.inr ⟨by omega,by omega⟩⟩⟩ (fun _ _ _ _ _ => True.intro) ?_ ?_
 ·rintro i x τ G' nx hx ⟨rfl,pl,y,rfl,P⟩ hn
  simp only [gn3,Q5,tb3,o3,cb3,qc,v3,List.set_cons_succ,List.set_cons_zero,List.length_cons,List.length_nil,Nat.zero_add,Nat.reduceAdd,Nat.reduceLT,getElem?_pos,List.getElem_cons_succ,List.getElem_cons_zero,qj,c3,iB,decide_eq_true_eq,zg,zY,ze]
  refine ⟨1 + b,pl,rfl,by omega,by have := P.lo;omega,?_⟩
  simp
  split
  ·rename_i hg
   exact hn _ _ ⟨rfl,_,_,rfl,P.next (by omega) (by omega) (by omega)⟩
  ·rename_i hg
   exact hn _ _ ⟨rfl,_,_,rfl,P.stay (by omega) (by omega) (by omega)⟩
 ·rintro τ G' ⟨rfl,pl,x,rfl,P⟩
  simp only [qZ,zJ,qc,c3,v3,List.length_cons,List.length_nil,Nat.zero_add,Nat.reduceAdd,Nat.reduceLT,getElem?_pos,List.getElem_cons_succ,List.getElem_cons_zero,qj,sizeLine_eq,Nat.reduceLeDiff,true_and]
  rw [qfF] at P
  have lo := P.lo;have hi := P.hi
  have m1 : (1 + b) * -(-r * c / (1 + b)) ≤ (1 + b) * pl := Int.mul_le_mul_of_nonneg_left (by omega) (by omega)
  exact h r c (1 + b) pl G' ⟨⟨r1,by omega,c1,by omega,by omega,by omega,by omega,by omega,P.done (by omega) (by omega),by omega⟩,r2,c2,by show 1 + b ≤ 32;omega⟩ (L4.mono (by omega)) (E1.trans (((TD hp).trans E2).trans (E3.trans E4)))
end Bk
namespace Bk
open PySem L2 L3
def YI : Nat → PyData → Prop
 | _,.none => True
 | _,.bool _ => True
 | _,.int _ => True
 | _,.str _ => True
 | n + 1,.list ds => ds.length ≤ 1000000∧∀ d ∈ ds,YI n d
 | n + 1,.tuple ds => ds.length ≤ 1000000∧∀ d ∈ ds,YI n d
 | _,_ => False
def ja : Nat → Sp3
 | 0 => NM
 | n + 1 => fun ts G q => ∃ (x y : T) (d : PyData),ts = [x,y]∧Dp G x d∧Dp G y d∧YI n d∧∀ G',Ex G G' → q (.bl true) G'
theorem K3 {G G' : Gp} (e : Ex G G') {x : T} {us : List T} (h : Z4 G x = some us) : Z4 G' x = some us := by
 cases x <;> simp [Z4] at h ⊢
 ·exact h
 ·exact e.getL h
theorem qct (n : Nat) : qd7 (List.replicate n (.bl true)) = some true := by
 induction n with
 | zero => rfl
 | succ n ih => rw [List.replicate_succ];simp [qd7,ih]
theorem K4 {G : Gp} {n : Nat} {x y : T} {us vs : List T} {ds : List PyData} {q : Q3} (hx : Z4 G x = some us) (hy : Z4 G y = some vs) (du : Dps G us ds) (dv : Dps G vs ds) (hl : us.length ≤ 1000000) (hd : ∀ d ∈ ds,∃ m,n = m + 1∧YI m d) (h : ∀ G',Ex G G' → q (.bl true) G') :
  MW (fun G => Z4 G x = some us∧Z4 G y = some vs) (zu 2 (qo (gn3 0) (qo (gn3 1) zx))) tt3 (cb3 (ja n) (qc (v3 0) (qc (v3 1) qj))) (fun x G1 => qa1 [x] G1 q) (qbG us vs) [] [none,none] G := by
 have e1 := du.length
 have e2 := dv.length
 refine qcv _ (fun i ys τ G' => Ex G G'∧ys = List.replicate i (.bl true)∧∃ x0 x1,τ = [x0,x1]) ⟨Ex.refl,rfl,none,none,rfl⟩ (fun i ys τ G' _ hp => ⟨K3 hp.1 hx,K3 hp.1 hy⟩) ?_ ?_
 ·rintro i z ys τ G' R hz ⟨E,rfl,x0,x1,rfl⟩ hR
  obtain ⟨a,b,ha,hb,rfl⟩ := CI hz
  obtain ⟨d,hd1,da⟩ := du.get ha
  obtain ⟨d',hd2,db⟩ := dv.get hb
  rw [hd1] at hd2;cases hd2
  obtain ⟨m,rfl,dl⟩ := hd d (List.mem_of_getElem? hd1)
  have hi := (List.getElem?_eq_some_iff.mp ha).1
  simp only [zu,List.length_cons,List.length_nil,Nat.zero_add,Nat.reduceAdd,qo,gn3,zx,tt3,↓reduceIte,cb3,qc,v3,List.set_cons_zero,List.set_cons_succ,Nat.zero_lt_succ,getElem?_pos,List.getElem_cons_zero,Nat.lt_add_one,List.getElem_cons_succ,qj,List.length_replicate,sizeLine_eq,true_and]
  refine ⟨a,b,d,rfl,da.up E,db.up E,dl,fun G2 E2 => ⟨by omega,hR _ _ _ ⟨E.trans E2,?_,_,_,rfl⟩⟩⟩
  rw [List.replicate_succ']
 ·rintro ys τ G' ⟨E,rfl,x0,x1,rfl⟩ p hp
  simp [qa1,getL,qN,qct]
  exact h _ (E.trans (JK hp))
theorem qbM {n : Nat} {ds : List PyData} (h : YI n (.list ds)) : ds.length ≤ 1000000∧∀ d ∈ ds,∃ m,n = m + 1∧YI m d := by
 cases n with
 | zero => exact h.elim
 | succ n => exact ⟨h.1,fun d hd => ⟨n,rfl,h.2 d hd⟩⟩
theorem N6 {n : Nat} {ds : List PyData} (h : YI n (.tuple ds)) : ds.length ≤ 1000000∧∀ d ∈ ds,∃ m,n = m + 1∧YI m d := by
 cases n with
 | zero => exact h.elim
 | succ n => exact ⟨h.1,fun d hd => ⟨n,rfl,h.2 d hd⟩⟩
theorem qlA {x : T} {G : Gp} {q : Q3} (h : VF x x = some true) (k : q (.bl true) G) : Q6 false x x G q := by
 unfold Q6;rw [h];exact k
theorem qbr {ta tb : TE3} {e : Ends3} {τ : St3} {G : Gp} {x : T} (h : ∀ q',q' x G → ta τ G q') (k : x = .bl true) (h2 : tb τ G e.rt) : qZ (QX ta tb) e τ G := h _ (by subst k;exact h2)
theorem qop {ta tb : TE3} {τ : St3} {G : Gp} {x : T} (ha : ∀ q',q' x G → ta τ G q') (hb : ∀ q',q' x G → tb τ G q') (h : VF x x = some true) : ∀ q',q' (.bl true) G → o3 (Q6 false) ta tb τ G q' := fun q' k => ha _ (hb _ (qlA h k))
theorem MI {c : TT3} {a b : TS3} {e : Ends3} {τ : St3} {G : Gp} (h : ∀ A,A = a → Q5 c A b e τ G) : Q5 c a b e τ G := h _ rfl
theorem jI (n : Nat) : ∀ ts G q,ja (n + 1) ts G q → ts.length = 2∧US (ja n) (qf6 q) (qs ["_law_found","_law_due"] ts) G := by
 rintro ts G q ⟨x,y,d,rfl,hx,hy,hd,h⟩
 refine ⟨rfl,?_⟩
 have h0 := h G Ex.refl
 cases hx with
 | non => cases hy;exact h0
 | bl b => cases hy;cases b <;> exact h0
 | int i => cases hy;exact qlA (x := .int i) (by simp [VF]) h0
 | str s =>
  cases hy
  refine UH fun nx1 q1 => ?_
  refine MI fun A1 hA => ?_
  clear hA
  show nx1 _ _
  rw [q1];clear q1
  refine UH fun nx2 q2 => ?_
  refine MI fun A2 hA => ?_
  show A2 _ _ _
  rw [hA]
  exact qbr (qop (x := .str s) (fun _ k => k) (fun _ k => k) (by simp [VF])) rfl h0
 | tup dx =>
  cases hy with
  | tup dy =>
   rename_i xs ds ys
   have e1 := dx.length
   have e2 := dy.length
   obtain ⟨l1,l2⟩ := N6 hd
   have key := K4 (n := n) (x := .tup xs) (y := .tup ys) (us := xs) (vs := ys) (q := q) rfl rfl dx dy (by omega) l2 h
   have e3 : xs.length = ys.length := by omega
   refine UH fun nx1 q1 => ?_
   clear q1
   refine MI fun A1 hA => ?_
   show A1 _ _ _
   rw [hA];clear hA
   refine UH fun nx2 q2 => ?_
   refine MI fun A2 hA => ?_
   show nx2 _ _
   rw [q2];clear q2
   exact qbr (qop (x := .int ys.length) (fun _ k => by rw [← e3] at k;exact k) (fun _ k => k) (by simp [VF])) rfl key
 | lst gx dx =>
  cases hy with
  | lst gy dy =>
   rename_i p1 xs ds p2 ys
   have e1 := dx.length
   have e2 := dy.length
   obtain ⟨l1,l2⟩ := qbM hd
   have key := K4 (n := n) (x := .ref p1) (y := .ref p2) (us := xs) (vs := ys) (q := q) gx gy dx dy (by omega) l2 h
   have e3 : xs.length = ys.length := by omega
   refine UH fun nx1 q1 => ?_
   clear q1
   refine MI fun A1 hA => ?_
   simp only [Q5,tb3,DU,v3,qs,List.map_cons,List.map_nil,List.length_cons,List.length_nil,Nat.zero_add,Nat.reduceAdd,Nat.sub_self,List.replicate_zero,List.append_nil,Nat.lt_add_one,getElem?_pos,List.getElem_cons_succ,List.getElem_cons_zero,tyT,gx,gy,Option.isSome_some,↓reduceIte,ZJ,BEq.rfl,String.reduceBEq,Bool.and_self,Bool.or_false,Bool.or_self,or3,o3,Nat.zero_lt_succ,Q6,VF,decide_true,Bool.not_true,Bool.false_eq_true,ze]
   rw [hA];clear hA
   refine UH fun nx2 q2 => ?_
   refine MI fun A2 hA => ?_
   clear hA
   simp only [Q5,tb3,DU,v3,qs,List.map_cons,List.map_nil,List.length_cons,List.length_nil,Nat.zero_add,Nat.reduceAdd,Nat.sub_self,List.replicate_zero,List.append_nil,Nat.lt_add_one,getElem?_pos,List.getElem_cons_succ,List.getElem_cons_zero,tyT,gx,gy,Option.isSome_some,↓reduceIte,ZJ,BEq.rfl,String.reduceBEq,Bool.and_self,Bool.or_false,Bool.or_self,or3,o3,Nat.zero_lt_succ,Q6,VF,decide_true,Bool.not_true,Bool.false_eq_true,ze]
   rw [q2];clear q2
   simp only [Z4,qa1,qs,List.map_cons,List.map_nil,List.length_cons,List.length_nil,Nat.zero_add,Nat.reduceAdd,Nat.sub_self,List.replicate_zero,List.append_nil,Nat.lt_add_one,getElem?_pos,List.getElem_cons_succ,List.getElem_cons_zero,gy,↓reduceIte,o3,v3,Nat.zero_lt_succ,gx,Q6,VF,decide_true,Bool.false_eq_true,qZ,QX,cb3,qc,qj,DS,e3,lc3,qbS,cap] at key ⊢
   exact key
end Bk
namespace Bk
open PySem L2 L3
end Bk
namespace Bk
open PySem L2 L3
end Bk
namespace Bk
open PySem L2 L3
theorem TW {a b x y : Int} (h0 : 1 ≤ a) (h1 : a ≤ x) (h2 : 1 ≤ b) (h3 : b ≤ y) : a * b ≤ x * y := Int.mul_le_mul h1 h3 (by omega) (by omega)
theorem Dr.join {d e : Dl} {r c b r' c' b' : Int} (D : Dr d r c b) (E : Dr e r' c' b') (h1 : r * r' ≤ 4096) (h2 : c * c' ≤ 4096) (h3 : b * b' ≤ 4096) : Dr (.joined d e) (r * r') (c * c') (b * b') := by
 have Ld := Dl.lims D.ok
 have Le := Dl.lims E.ok
 have a1 := TW Ld.r1 D.r2 Le.r1 E.r2
 have a2 := TW Ld.c1 D.c2 Le.c1 E.c2
 have a3 := TW Ld.b1 D.b2 Le.b1 E.b2
 exact ⟨⟨D.ok,E.ok,by omega,by omega,by omega⟩,a1,a2,a3⟩
end Bk
namespace Bk
open PySem L2 L3
end Bk
namespace Bk
open PySem L2 L3
theorem _root_.L3.Dps.append {G : Gp} : ∀ {xs ys : List T} {ds es : List PyData},Dps G xs ds → Dps G ys es → Dps G (xs ++ ys) (ds ++ es)
 | _,_,_,_,.nil,b => b
 | _,_,_,_,.cons a t,b => .cons a (L3.Dps.append t b)
theorem _root_.L3.Dps.take {G : Gp} : ∀ {xs : List T} {ds : List PyData} (i : Nat),Dps G xs ds → Dps G (xs.take i) (ds.take i)
 | _,_,0,_ => .nil
 | _,_,_ + 1,.nil => .nil
 | _,_,i + 1,.cons a t => .cons a (L3.Dps.take i t)
theorem _root_.L3.Dps.drop {G : Gp} : ∀ {xs : List T} {ds : List PyData} (i : Nat),Dps G xs ds → Dps G (xs.drop i) (ds.drop i)
 | _,_,0,h => h
 | _,_,_ + 1,.nil => .nil
 | _,_,i + 1,.cons a t => L3.Dps.drop i t
end Bk
namespace Bk
open PySem L2 L3
end Bk
namespace Bk
open PySem L2 L3
def EC : TS3 := (qZ (lc3 (j0 (qc (v3 2) qj)) (gn3 0) tt3 (zJ (qc (o3 (iC jd (· * ·)) (v3 0) (v3 1)) (qc (o3 (iC jd (· * ·)) (v3 0) (v3 2)) qj))) [none,some 0,some 1]))
def JW (S_strung : Sp3) : TS3 := (qK (zg (o3 ix3 (v3 0) (c3 (.int 0))) (gn3 1)) (qK (Q5 (tb3 (o3 (Q6 false) (v3 1) (c3 (.str "cells")))) (qZ (cb3 KF (qc (o3 ix3 (v3 0) (c3 (.int 1))) qj))) ze) (qK (Q5 (tb3 (o3 (Q6 false) (v3 1) (c3 (.str "block")))) (qZ (qgT (j0 (qc (o3 ix3 (v3 0) (c3 (.int 1))) qj)) (gn3 0) tt3 (j0 (qc (o3 ix3 (v3 2) (c3 (.int 2))) qj)) (gn3 1) tt3 (zJ (qc (v3 0) (qc (v3 1) qj))) [none,none,some 0])) ze) (qK (Q5 (tb3 (o3 (Q6 false) (v3 1) (c3 (.str "step")))) (qZ (cb3 S_strung (qc (o3 ix3 (v3 0) (c3 (.int 1))) (qc (o3 ix3 (v3 0) (c3 (.int 2))) (qc (o3 ix3 (v3 0) (c3 (.int 3))) qj))))) ze) (qK (zg (qco VL (v3 1)) (zu 2 (qo (gn3 2) (qo (gn3 3) zx)))) (qZ (cb3 S_strung (qc (v3 2) (qc (v3 3) (qc (o3 ix3 (v3 0) (c3 (.int 1))) qj))))))))))
def U8 (S_size_of : Sp3) (S_cells_of : Sp3) : TS3 := (qK (zg (cb3 S_size_of (qc (v3 0) qj)) (zu 3 (qo (gn3 2) (qo (gn3 3) (qo (gn3 4) zx))))) (qK (zg (cb3 S_cells_of (qc (v3 1) qj)) (gn3 5)) (qK (zg (lc3 (WH (v3 5)) (zu 2 (qo (gn3 0) (qo (gn3 1) zx))) tt3 (v3 0) [none,none]) (gn3 6)) (qK (zg (lc3 (WH (v3 5)) (zu 2 (qo (gn3 0) (qo (gn3 1) zx))) tt3 (v3 1) [none,none]) (gn3 7)) (qZ (qgT (j0 (qc (u3 NA (cb3 MB (qc (v3 6) qj))) (qc (o3 (iI (· - ·)) (v3 2) (cb3 M4 (qc (v3 6) qj))) qj))) (gn3 0) tt3 (j0 (qc (u3 NA (cb3 MB (qc (v3 3) qj))) (qc (o3 (iI (· - ·)) (v3 2) (cb3 M4 (qc (v3 3) qj))) qj))) (gn3 1) tt3 (zJ (qc (v3 0) (qc (v3 1) qj))) [none,none,some 3,some 7]))))))
def jC : TS3 := (qK (LN (j0 (qc (cb3 DS (qc (v3 0) qj)) qj)) (gn3 1) (LN (j0 (qc (o3 zY (v3 1) (c3 (.int 1))) (qc (cb3 DS (qc (v3 0) qj)) qj))) (gn3 2) (Q5 (tb3 (o3 (Q6 false) (o3 ix3 (v3 0) (v3 1)) (o3 ix3 (v3 0) (v3 2)))) (qZ (zJ (qc (v3 1) (qc (v3 2) qj)))) ze))) (qZ (c3 .non)))
def VO (S_cells_of : Sp3) : TS3 := (qZ (lc3 (WH (cb3 S_cells_of (qc (v3 0) qj))) (zu 2 (qo (gn3 0) (qo (gn3 1) zx))) tt3 (zJ (qc (o3 zY (o3 ix3 (v3 2) (c3 (.int 0))) (v3 0)) (qc (o3 zY (o3 ix3 (v3 2) (c3 (.int 1))) (v3 1)) qj))) [none,none,some 1]))
def J4 (S_shifted : Sp3) (S_is_word : Sp3) (S_is_pair : Sp3) : TS3 := (qZ (QX (cb3 S_is_pair (qc (v3 2) qj)) (cb3 qa1 (qc (lc3 (WH (cb3 S_shifted (qc (v3 1) (qc (v3 2) qj)))) (gn3 0) tt3 (cb3 S_is_word (qc (v3 1) (qc (v3 0) qj))) [none,some 0]) qj))))
def J5 (S_is_start : Sp3) (S_shifted : Sp3) : TS3 := (qK (Q5 (MM (tb3 (cb3 S_is_start (qc (v3 0) (qc (v3 1) (qc (v3 2) qj)))))) qgQ ze) (qZ (cb3 S_shifted (qc (v3 1) (qc (v3 2) qj)))))
def j7 (S_words_of : Sp3) (S_bank_in : Sp3) : TS3 := (qZ (lc3 (WH (cb3 S_words_of (qc (v3 0) (qc (v3 1) (qc (v3 2) qj))))) (gn3 0) tt3 (cb3 S_bank_in (qc (v3 1) (qc (v3 0) qj))) [none,some 0]))
def CT (S_starts : Sp3) (S_banks_from : Sp3) (S_first_alike : Sp3) : TS3 := (qK (LN (WH (cb3 S_starts (qc (v3 0) (qc (v3 1) qj)))) (gn3 2) (qK (zg (cb3 S_first_alike (qc (cb3 S_banks_from (qc (v3 0) (qc (v3 1) (qc (v3 2) qj)))) qj)) (gn3 3)) (Q5 (tb3 (o3 (MR true) (v3 3) (c3 .non))) (qZ (zJ (qc (v3 2) (qc (o3 ix3 (v3 3) (c3 (.int 0))) (qc (o3 ix3 (v3 3) (c3 (.int 1))) qj))))) ze))) (qZ (c3 .non)))
inductive Wk where
 | line (k m : Nat)
 | block (h w : Nat)
 | step (d a : Int) (m : Nat)
 | cells (ps : List (Int × Int))
def VJ : Nat → Str
 | 0 => "row" | 1 => "column" | 2 => "slant" | _ => "back"
def lnD : Nat → Int
 | 0 => 0 | _ => 1
def lnA : Nat → Int
 | 0 => 1 | 1 => 0 | 2 => 1 | _ => -1
def zI (d a : Int) (m : Nat) : List (Int × Int) := (List.range m).map fun (t : Nat) => ((t : Int) * d,(t : Int) * a)
def zb (h w : Nat) : List (Int × Int) := (List.range h).flatMap fun (p : Nat) => (List.range w).map fun (q : Nat) => ((p : Int),(q : Int))
def Wk.pc : Wk → List (Int × Int)
 | .line k m => zI (lnD k) (lnA k) m
 | .block h w => zb h w
 | .step d a m => zI d a m
 | .cells ps => ps
def Wk.Ok : Wk → Prop
 | .line k m => k < 4∧1 ≤ m∧m ≤ 16
 | .block h w => 1 ≤ h∧1 ≤ w∧h ≤ 16∧w ≤ 16∧h * w ≤ 16
 | .step d a m => (-16 ≤ d∧d ≤ 16)∧(-16 ≤ a∧a ≤ 16)∧1 ≤ m∧m ≤ 16
 | .cells ps => 1 ≤ ps.length∧ps.length ≤ 16∧ps.Nodup∧∀ p ∈ ps,(-16 ≤ p.1∧p.1 ≤ 16)∧(-16 ≤ p.2∧p.2 ≤ 16)
theorem W5 (h w : Nat) : zb (h + 1) w = zb h w ++ (List.range w).map fun (q : Nat) => ((h : Int),(q : Int)) := by
 simp [zb,List.range_succ]
theorem zq (h w : Nat) : (zb h w).length = h * w := by
 induction h with
 | zero => simp [zb]
 | succ h ih => rw [W5,List.length_append,ih,List.length_map,List.length_range,Nat.succ_mul]
theorem qhF {w : Wk} (ok : w.Ok) : 1 ≤ w.pc.length∧w.pc.length ≤ 16 := by
 cases w with
 | line k m => simp only [Wk.pc,zI,List.length_map,List.length_range];exact ok.2
 | block h v =>
  obtain ⟨h1,h2,h3,h4,h5⟩ := ok
  simp only [Wk.pc,zq]
  exact ⟨Nat.mul_le_mul h1 h2,h5⟩
 | step d a m => simp only [Wk.pc,zI,List.length_map,List.length_range];exact ok.2.2
 | cells ps => exact ⟨ok.1,ok.2.1⟩
end Bk
namespace Bk
open PySem L2 L3
end Bk
namespace Bk
open PySem L2 L3
end Bk
namespace Bk
open PySem L2 L3
end Bk
namespace Bk
open PySem L2 L3
end Bk
namespace Bk
open PySem L2 L3
end Bk
namespace Bk
open PySem L2 L3
def Un2 (ns : List Int) (i : Nat) : Prop := ∀ a b,a < i → a < b → b < ns.length → ns[a]? ≠ ns[b]?
structure Fst (ns : List Int) (i j : Nat) : Prop where
 ij : i < j
 jl : j < ns.length
 un : Un2 ns i
 nb : ∀ b,i < b → b < j → ns[i]? ≠ ns[b]?
 eq : ns[i]? = ns[j]?
theorem Fst.uniq {ns : List Int} {i j i' j' : Nat} (F : Fst ns i j) (F' : Fst ns i' j') : i = i'∧j = j' := by
 have e : i = i' := by
  rcases Nat.lt_trichotomy i i' with z | z | z
  ·exact absurd F.eq (F'.un i j z F.ij F.jl)
  ·exact z
  ·exact absurd F'.eq (F.un i' j' z F'.ij F'.jl)
 subst e
 refine ⟨rfl,?_⟩
 rcases Nat.lt_trichotomy j j' with z | z | z
 ·exact absurd F.eq (F'.nb j F.ij z)
 ·exact z
 ·exact absurd F'.eq (F.nb j' F'.ij z)
open Classical in
def faO (ns : List Int) : Option (Nat × Nat) := if h : ∃ ij : Nat × Nat,Fst ns ij.1 ij.2 then some h.choose else none
theorem zC {ns : List Int} {i j : Nat} (F : Fst ns i j) : faO ns = some (i,j) := by
 have h : ∃ ij : Nat × Nat,Fst ns ij.1 ij.2 := ⟨(i,j),F⟩
 unfold faO
 rw [dif_pos h]
 have := h.choose_spec
 obtain ⟨e1,e2⟩ := this.uniq F
 exact congrArg some (Prod.ext e1 e2)
theorem zS {ns : List Int} (h : Un2 ns ns.length) : faO ns = none := by
 unfold faO
 rw [dif_neg]
 rintro ⟨ij,F⟩
 exact h ij.1 ij.2 (Nat.lt_trans F.ij F.jl) F.ij F.jl F.eq
end Bk
namespace Bk
open PySem L2 L3
def J6 (S_cells_of : Sp3) : TS3 := (qK (zg (v3 1) (zu 2 (qo (gn3 3) (qo (gn3 4) zx)))) (qZ (cb3 DG (qc (lc3 (WH (cb3 S_cells_of (qc (v3 2) qj))) (zu 2 (qo (gn3 0) (qo (gn3 1) zx))) tt3 (o3 (iC (fun _ j => 0 < j) (· % ·)) (o3 zY (o3 (iC jd (· * ·)) (v3 3) (v3 0)) (o3 (iC jd (· * ·)) (v3 4) (v3 1))) (v3 2)) [none,none,some 0,some 3,some 4]) qj))))
theorem WP {ns : List Int} (h : ¬ Un2 ns ns.length) : ∃ i j,Fst ns i j := by
 have key : ∀ k,k ≤ ns.length → Un2 ns k ∨ ∃ i j,Fst ns i j := by
  intro k
  induction k with
  | zero => exact fun _ => .inl fun a b ha => by omega
  | succ k ih =>
   intro hk
   rcases ih (by omega) with hu | he
   ·have inner : ∀ n,(∀ b,k < b → b < k + 1 + n → b < ns.length → ns[k]? ≠ ns[b]?) ∨ ∃ j,Fst ns k j := by
     intro n
     induction n with
     | zero => exact .inl fun b h1 h2 => by omega
     | succ n ihn =>
      rcases ihn with hn | he
      ·by_cases hb : k + 1 + n < ns.length∧ns[k]? = ns[k + 1 + n]?
       ·exact .inr ⟨k + 1 + n,by omega,hb.1,hu,fun b h1 h2 => hn b h1 h2 (by omega),hb.2⟩
       ·refine .inl fun b h1 h2 h3 => ?_
        by_cases e : b = k + 1 + n
        ·subst e;exact fun z => hb ⟨h3,z⟩
        ·exact hn b h1 (by omega) h3
      ·exact .inr he
    rcases inner ns.length with hn | ⟨j,F⟩
    ·refine .inl fun a b ha hab hb => ?_
     by_cases e : a = k
     ·subst e;exact hn b hab (by omega) hb
     ·exact hu a b (by omega) hab hb
    ·exact .inr ⟨k,j,F⟩
   ·exact .inr he
 rcases key ns.length (Nat.le_refl _) with hu | he
 ·exact absurd hu h
 ·exact he
end Bk
namespace Bk
open PySem L2 L3
end Bk
namespace Bk
open PySem L2 L3
end Bk
namespace Bk
open PySem L2 L3
end Bk
namespace Bk
open PySem L2 L3
end Bk
namespace Pu
open PySem L2 L3
def cif {α : Type} (P : Prop) (a b : α) : α := @ite α P (Classical.propDecidable P) a b
theorem zO {α : Type} {P : Prop} {a b : α} (h : P) : cif P a b = a := @if_pos P (Classical.propDecidable P) h α a b
theorem S7 {α : Type} {P : Prop} {a b : α} (h : ¬ P) : cif P a b = b := @if_neg P (Classical.propDecidable P) h α a b
structure Tru (b : Bool) : Prop where
 h : b = true
mutual
inductive Dq (G : Gp) : T → PyData → Prop
 | non : Dq G .non .none
 | bl (b : Bool) : Dq G (.bl b) (.bool b)
 | int (i : Int) : Dq G (.int i) (.int i)
 | str (x : Str) : Dq G (.str x) (.str x)
 | tup {xs : List T} {ds : List PyData} : Dqs G xs ds → Dq G (.tup xs) (.tuple ds)
 | lst {p : Addr} {xs : List T} {ds : List PyData} : G p = some (.lst xs) → Dqs G xs ds → Dq G (.ref p) (.list ds)
inductive Dqs (G : Gp) : List T → List PyData → Prop
 | nil : Dqs G [] []
 | cons {x : T} {d : PyData} {xs : List T} {ds : List PyData} : Dq G x d → Dqs G xs ds → Dqs G (x :: xs) (d :: ds)
end
mutual
theorem Dq.up {G G' : Gp} (e : Ex G G') : ∀ {x : T} {d : PyData},Dq G x d → Dq G' x d
 | _,_,.non => .non
 | _,_,.bl b => .bl b
 | _,_,.int i => .int i
 | _,_,.str x => .str x
 | _,_,.tup h => .tup (Dqs.up e h)
 | _,_,.lst h1 h2 => .lst (e _ _ h1) (Dqs.up e h2)
theorem Dqs.up {G G' : Gp} (e : Ex G G') : ∀ {x : List T} {d : List PyData},Dqs G x d → Dqs G' x d
 | _,_,.nil => .nil
 | _,_,.cons a b => .cons (Dq.up e a) (Dqs.up e b)
end
theorem jw {G : Gp} {p : Addr} {xs : List T} (h : G p = some (.lst xs)) : getL G p = some xs := by unfold getL;rw [h]
mutual
theorem Dq.dp {G : Gp} : ∀ {x : T} {d : PyData},Dq G x d → Dp G x d
 | _,_,.non => .non
 | _,_,.bl b => .bl b
 | _,_,.int i => .int i
 | _,_,.str x => .str x
 | _,_,.tup h => .tup (Dqs.dp h)
 | _,_,.lst h1 h2 => .lst (jw h1) (Dqs.dp h2)
theorem Dqs.dp {G : Gp} : ∀ {x : List T} {d : List PyData},Dqs G x d → Dps G x d
 | _,_,.nil => .nil
 | _,_,.cons a b => .cons (Dq.dp a) (Dqs.dp b)
end
theorem Dqs.length {G : Gp} : ∀ {xs : List T} {ds : List PyData},Dqs G xs ds → xs.length = ds.length
 | _,_,.nil => rfl
 | _,_,.cons _ b => by simp [Dqs.length b]
theorem Dqs.get {G : Gp} : ∀ {xs : List T} {ds : List PyData} {i : Nat} {d : PyData},Dqs G xs ds → ds[i]? = some d → ∃ x,xs[i]? = some x∧Dq G x d
 | _,_,_,_,.nil,e => by simp at e
 | _,_,0,_,.cons r _,e => by simp at e;subst e;exact ⟨_,rfl,r⟩
 | _,_,i + 1,d,.cons _ t,e => by
  obtain ⟨u,h1,h2⟩ := Dqs.get (i := i) (d := d) t (by simpa using e)
  exact ⟨u,by simpa using h1,h2⟩
theorem Dqs.append {G : Gp} : ∀ {xs : List T} {ds : List PyData} {ys : List T} {es : List PyData},Dqs G xs ds → Dqs G ys es → Dqs G (xs ++ ys) (ds ++ es)
 | _,_,_,_,.nil,h => h
 | _,_,_,_,.cons a b,h => .cons a (Dqs.append b h)
theorem Dqs.drop {G : Gp} : ∀ {xs : List T} {ds : List PyData} (n : Nat),Dqs G xs ds → Dqs G (xs.drop n) (ds.drop n)
 | _,_,0,h => h
 | _,_,_ + 1,.nil => .nil
 | _,_,n + 1,.cons _ b => Dqs.drop n b
theorem Dqs.take {G : Gp} : ∀ {xs : List T} {ds : List PyData} (n : Nat),Dqs G xs ds → Dqs G (xs.take n) (ds.take n)
 | _,_,0,h => by simp;exact .nil
 | _,_,_ + 1,.nil => .nil
 | _,_,n + 1,.cons a b => .cons a (Dqs.take n b)
theorem Dqs.ints {G : Gp} : ∀ {ns : List Int} {xs : List T},Dqs G xs (ns.map PyData.int) → xs = ns.map T.int
 | [],_,.nil => rfl
 | n :: ns,_,.cons a b => by cases a;rw [Dqs.ints b];rfl
theorem Dqs.ofInts {G : Gp} : ∀ (ns : List Int),Dqs G (ns.map T.int) (ns.map PyData.int)
 | [] => .nil
 | n :: r => .cons (.int n) (Dqs.ofInts r)
def rs (D : Addr → Prop) (G : Gp) : Gp := fun b => cif (D b) none (G b)
theorem qF {D : Addr → Prop} {G : Gp} {b : Addr} {o : O} (h : rs D G b = some o) : ¬ D b∧G b = some o := by
 unfold rs cif at h
 split at h
 ·cases h
 ·rename_i n;exact ⟨n,h⟩
theorem jE {D : Addr → Prop} {G : Gp} {b : Addr} (n : ¬ D b) : rs D G b = G b := by unfold rs;exact S7 n
theorem V3 {D : Addr → Prop} {G : Gp} : Ex (rs D G) G := fun b o h => (qF h).2
theorem j1 {D : Addr → Prop} {G G' : Gp} (e : Ex G G') : Ex (rs D G) (rs D G') := fun b o h => by
 obtain ⟨n,h⟩ := qF h
 rw [jE n];exact e _ _ h
theorem zK {D D' : Addr → Prop} {G : Gp} (h : ∀ b,D' b → D b) : Ex (rs D G) (rs D' G) := fun b o e => by
 obtain ⟨n,e⟩ := qF e
 rw [jE fun z => n (h b z)];exact e
def Dom (D : Addr → Prop) (G : Gp) : Prop := ∀ b,D b → G b ≠ none
theorem Dom.up {D : Addr → Prop} {G G' : Gp} (h : Dom D G) (e : Ex G G') : Dom D G' := fun b d z => by
 cases g : G b with
 | none => exact h b d g
 | some o => rw [e _ _ g] at z;cases z
theorem qjf {D : Addr → Prop} {G : Gp} {p : Addr} {o : O} (hd : Dom D G) (hp : G p = none) : rs D (gu G p o) p = some o := by
 rw [jE fun z => hd p z hp,qN]
inductive Sl where
 | un | sh (d : PyData) | ow (ds : List PyData)
abbrev Rho := List Sl
def Sl.d : Sl → Option PyData
 | .un => none | .sh d => some d | .ow ds => some (.list ds)
def vw (ρ : Rho) (i : Nat) : Option PyData := (ρ[i]?).bind Sl.d
def W0 (fv : List Nat) (D : Addr → Prop) (G : Gp) (τ : St3) (ρ : Rho) : Prop := ∀ i ∈ fv,∀ d,vw ρ i = some d → ∃ t,τ[i]? = some (some t)∧Dq (rs D G) t d
theorem W0.up {fv : List Nat} {D : Addr → Prop} {G G' : Gp} {τ : St3} {ρ : Rho} (h : W0 fv D G τ ρ) (e : Ex G G') : W0 fv D G' τ ρ := fun i hi d hd =>
 let ⟨t,a,b⟩ := h i hi d hd;⟨t,a,b.up (j1 e)⟩
theorem W0.l {fv gv : List Nat} {D : Addr → Prop} {G : Gp} {τ : St3} {ρ : Rho} (h : W0 (fv ++ gv) D G τ ρ) : W0 fv D G τ ρ := fun i hi => h i (by simp [hi])
theorem W0.r {fv gv : List Nat} {D : Addr → Prop} {G : Gp} {τ : St3} {ρ : Rho} (h : W0 (fv ++ gv) D G τ ρ) : W0 gv D G τ ρ := fun i hi => h i (by simp [hi])
def Nw (D : Addr → Prop) (G G' : Gp) (x : T) (d : PyData) : Prop := d = .none ∨ ∃ p xs ds,x = .ref p∧d = .list ds∧G p = none∧G' p = some (.lst xs)∧Dqs (rs (fun b => D b ∨ b = p) G') xs ds
theorem Nw.back {D : Addr → Prop} {G0 G G' : Gp} {x : T} {d : PyData} (h : Nw D G G' x d) (e : Ex G0 G) : Nw D G0 G' x d := by
 rcases h with h | ⟨p,xs,ds,a,b,c,r⟩
 ·exact .inl h
 refine .inr ⟨p,xs,ds,a,b,?_,r⟩
 cases z : G0 p with
 | none => rfl
 | some o => rw [e _ _ z] at c;cases c
structure PuE (t : TE3) where
 f : Rho → Option PyData
 fv : List Nat
 nw : Bool
 ok : ∀ {D τ ρ G} {q : Q3} {d},W0 fv D G τ ρ → Dom D G → f ρ = some d → (∀ x G',Ex G G' → Dq (rs D G') x d → (nw = true → Nw D G G' x d) → q x G') → t τ G q
structure PuC (t : TT3) where
 f : Rho → Option Bool
 fv : List Nat
 ok : ∀ {D τ ρ G} {q : Bool → Gp → Prop} {k},W0 fv D G τ ρ → Dom D G → f ρ = some k → (∀ G',Ex G G' → q k G') → t τ G q
structure PuA (t : TA3) where
 f : Rho → Option (List PyData)
 fv : List Nat
 n : Nat
 ln : ∀ {ρ d},f ρ = some d → d.length = n
 ok : ∀ {D τ ρ G} {q : List T → Gp → Prop} {d},W0 fv D G τ ρ → Dom D G → f ρ = some d → (∀ x G',Ex G G' → Dqs (rs D G') x d → q x G') → t τ G q
structure PuO (t : TO3) where
 f : Rho → Option (Option Int)
 fv : List Nat
 ok : ∀ {D τ ρ G} {q : Option Int → Gp → Prop} {k},W0 fv D G τ ρ → Dom D G → f ρ = some k → (∀ G',Ex G G' → q k G') → t τ G q
structure PuI (t : TI3) where
 f : Rho → Option (List PyData)
 fv : List Nat
 /-- numbers alone -/
 nm : Bool
 ok : ∀ {D τ ρ G} {r : List T → (Gp → Prop) → Gp → Prop} {ds},W0 fv D G τ ρ → Dom D G → f ρ = some ds →
  (∀ items stay G',Ex G G' → Dqs (rs D G') items ds → (∀ G'',(nm = true ∨ Ex (rs D G') G'') → stay G'') → (nm = true → ∃ ns : List Int,ds = ns.map PyData.int) → r items stay G') → t τ G r
structure OpD (r : R3) where
 f : PyData → PyData → Option PyData
 nw : Bool
 ok : ∀ {D G x y d e v} {q : Q3},Dq (rs D G) x d → Dq (rs D G) y e → Dom D G → f d e = some v → (∀ z G',Ex G G' → Dq (rs D G') z v → (nw = true → Nw D G G' z v) → q z G') → r x y G q
structure FnD (r : List T → Gp → Q3 → Prop) where
 f : List PyData → Option PyData
 nw : Bool
 ok : ∀ {D G xs ds v} {q : Q3},Dqs (rs D G) xs ds → Dom D G → f ds = some v → (∀ z G',Ex G G' → Dq (rs D G') z v → (nw = true → Nw D G G' z v) → q z G') → r xs G q
def bV (i : Nat) : PuE (v3 i) := ⟨fun ρ => vw ρ i,[i],false,fun hv hd hf k => by
 obtain ⟨t,e,h⟩ := hv i (by simp) _ hf
 unfold v3
 rw [e]
 exact k t _ Ex.refl h (fun z => by cases z)⟩
def qz (i : Int) : PuE (c3 (.int i)) := ⟨fun _ => some (.int i),[],false,fun hv hd hf k => by cases hf;exact k _ _ Ex.refl (.int i) (fun z => by cases z)⟩
def bBl (i : Bool) : PuE (c3 (.bl i)) := ⟨fun _ => some (.bool i),[],false,fun hv hd hf k => by cases hf;exact k _ _ Ex.refl (.bl i) (fun z => by cases z)⟩
def XD (i : Str) : PuE (c3 (.str i)) := ⟨fun _ => some (.str i),[],false,fun hv hd hf k => by cases hf;exact k _ _ Ex.refl (.str i) (fun z => by cases z)⟩
def qgD : PuE (c3 .non) := ⟨fun _ => some .none,[],false,fun hv hd hf k => by cases hf;exact k _ _ Ex.refl .non (fun z => by cases z)⟩
def bO {r : R3} {ta tb : TE3} (R : OpD r) (a : PuE ta) (b : PuE tb) : PuE (o3 r ta tb) :=
 ⟨fun ρ => (a.f ρ).bind fun x => (b.f ρ).bind fun y => R.f x y,a.fv ++ b.fv,R.nw,fun hv hd hf k => by
  obtain ⟨x,e1,hf⟩ := Option.bind_eq_some_iff.mp hf
  obtain ⟨y,e2,hf⟩ := Option.bind_eq_some_iff.mp hf
  exact a.ok hv.l hd e1 fun x' G1 E1 D1 _ => b.ok (hv.r.up E1) (hd.up E1) e2 fun y' G2 E2 D2 _ => R.ok (D1.up (j1 E2)) D2 ((hd.up E1).up E2) hf fun z G3 E3 D3 N3 => k z G3 ((E1.trans E2).trans E3) D3 fun h => (N3 h).back (E1.trans E2)⟩
def qA : PuA qj := ⟨fun _ => some [],[],0,(fun h => by cases h;rfl),fun hv hd hf k => by cases hf;exact k _ _ Ex.refl .nil⟩
def qf {ta : TE3} {tr : TA3} (a : PuE ta) (r : PuA tr) : PuA (qc ta tr) :=
 ⟨fun ρ => (a.f ρ).bind fun x => (r.f ρ).bind fun xs => some (x :: xs),a.fv ++ r.fv,r.n + 1,(fun hf => by
  obtain ⟨x,e1,hf⟩ := Option.bind_eq_some_iff.mp hf
  obtain ⟨xs,e2,hf⟩ := Option.bind_eq_some_iff.mp hf
  cases hf
  simp [r.ln e2]),fun hv hd hf k => by
  obtain ⟨x,e1,hf⟩ := Option.bind_eq_some_iff.mp hf
  obtain ⟨xs,e2,hf⟩ := Option.bind_eq_some_iff.mp hf
  cases hf
  exact a.ok hv.l hd e1 fun x' G1 E1 D1 _ => r.ok (hv.r.up E1) (hd.up E1) e2 fun y' G2 E2 D2 => k _ G2 (E1.trans E2) (.cons (D1.up (j1 E2)) D2)⟩
theorem few {n : Nat} (h : Tru (Nat.ble n 1000)) : n ≤ sizeLine := Nat.le_trans (Nat.le_of_ble_eq_true h.h) (by rw [sizeLine_eq];omega)
def YG {t : TA3} (a : PuA t) (hn : Tru (Nat.ble a.n 1000)) : PuE (zJ t) := ⟨fun ρ => (a.f ρ).map .tuple,a.fv,false,fun hv hd hf k => by
 obtain ⟨xs,e1,rfl⟩ := Option.map_eq_some_iff.mp hf
 exact a.ok hv hd e1 fun x G1 E1 D1 => ⟨by rw [D1.length,a.ln e1];exact few hn,k _ _ E1 (.tup D1) (fun z => by cases z)⟩⟩
theorem WK {D : Addr → Prop} {G : Gp} {p : Addr} {xs : List T} {ds : List PyData} (hp : G p = none) (h : Dqs (rs D G) xs ds) : Nw D G (gu G p (.lst xs)) (.ref p) (.list ds) :=
 .inr ⟨p,xs,ds,rfl,rfl,hp,qN,h.up fun b o e => by
  obtain ⟨n,e⟩ := qF e
  have : b ≠ p := by rintro rfl;rw [hp] at e;cases e
  rw [jE (by rintro (z | z);exact n z;exact this z),jB this];exact e⟩
theorem U1 {D : Addr → Prop} {G : Gp} {p : Addr} {xs : List T} {ds : List PyData} (hd : Dom D G) (hp : G p = none) (h : Dqs (rs D G) xs ds) : Dq (rs D (gu G p (.lst xs))) (.ref p) (.list ds) :=
 .lst (qjf hd hp) (h.up (j1 (JK hp)))
def qbz {t : TA3} (a : PuA t) (hn : Tru (Nat.ble a.n 1000)) : PuE (UF t) := ⟨fun ρ => (a.f ρ).map .list,a.fv,true,fun hv hd hf k => by
 obtain ⟨xs,e1,rfl⟩ := Option.map_eq_some_iff.mp hf
 exact a.ok hv hd e1 fun x G1 E1 D1 => ⟨by rw [D1.length,a.ln e1];exact few hn,fun p hp => k _ _ (E1.trans (JK hp)) (U1 (hd.up E1) hp D1) fun _ => (WK hp D1).back E1⟩⟩
def qB {r : List T → Gp → Q3 → Prop} {t : TA3} (R : FnD r) (a : PuA t) : PuE (cb3 r t) :=
 ⟨fun ρ => (a.f ρ).bind R.f,a.fv,R.nw,fun hv hd hf k => by
  obtain ⟨x,e1,hf⟩ := Option.bind_eq_some_iff.mp hf
  exact a.ok hv hd e1 fun x' G1 E1 D1 => R.ok D1 (hd.up E1) hf fun z G3 E3 D3 N3 => k z G3 (E1.trans E3) D3 fun h => (N3 h).back E1⟩
def asB : PyData → Option Bool
 | .bool b => some b
 | _ => none
def asI : PyData → Option Int
 | .int b => some b
 | _ => none
theorem RJ {d : PyData} {b : Bool} (h : asB d = some b) : d = .bool b := by cases d <;> simp [asB] at h;subst h;rfl
theorem KZ {d : PyData} {b : Int} (h : asI d = some b) : d = .int b := by cases d <;> simp [asI] at h;subst h;rfl
def bTb {t : TE3} (a : PuE t) : PuC (tb3 t) := ⟨fun ρ => (a.f ρ).bind asB,a.fv,fun hv hd hf k => by
 obtain ⟨x,e1,hf⟩ := Option.bind_eq_some_iff.mp hf
 have := RJ hf;subst this
 exact a.ok hv hd e1 fun x' G1 E1 D1 _ => by cases D1;exact k G1 E1⟩
def qn9 {t u : TT3} (a : PuC t) (b : PuC u) : PuC (qgX t u) := ⟨fun ρ => (a.f ρ).bind fun k => if k then b.f ρ else some false,a.fv ++ b.fv,fun hv hd hf k => by
 obtain ⟨x,e1,hf⟩ := Option.bind_eq_some_iff.mp hf
 refine a.ok hv.l hd e1 fun G1 E1 => ?_
 cases x with
 | true => exact b.ok (hv.r.up E1) (hd.up E1) hf fun G2 E2 => k G2 (E1.trans E2)
 | false => cases hf;exact k G1 E1⟩
def bOr {t u : TT3} (a : PuC t) (b : PuC u) : PuC (or3 t u) := ⟨fun ρ => (a.f ρ).bind fun k => if k then some true else b.f ρ,a.fv ++ b.fv,fun hv hd hf k => by
 obtain ⟨x,e1,hf⟩ := Option.bind_eq_some_iff.mp hf
 refine a.ok hv.l hd e1 fun G1 E1 => ?_
 cases x with
 | false => exact b.ok (hv.r.up E1) (hd.up E1) hf fun G2 E2 => k G2 (E1.trans E2)
 | true => cases hf;exact k G1 E1⟩
def qgU {t : TT3} (a : PuC t) : PuC (MM t) := ⟨fun ρ => (a.f ρ).map (! ·),a.fv,fun hv hd hf k => by
 obtain ⟨x,e1,hf⟩ := Option.map_eq_some_iff.mp hf
 subst hf
 exact a.ok hv hd e1 fun G1 E1 => k G1 E1⟩
def bTt : PuC tt3 := ⟨fun _ => some true,[],fun hv hd hf k => by cases hf;exact k _ Ex.refl⟩
def WC {ta tb : TE3} (a : PuE ta) (b : PuE tb) : PuE (QX ta tb) := ⟨fun ρ => ((a.f ρ).bind asB).bind fun k => if k then b.f ρ else some (.bool false),a.fv ++ b.fv,false,fun hv hd hf k => by
 obtain ⟨x,e1,hf⟩ := Option.bind_eq_some_iff.mp hf
 obtain ⟨y,e1,e2⟩ := Option.bind_eq_some_iff.mp e1
 have := RJ e2;subst this
 refine a.ok hv.l hd e1 fun x' G1 E1 D1 _ => ?_
 cases D1
 cases x with
 | true => exact b.ok (hv.r.up E1) (hd.up E1) hf fun z G2 E2 D2 _ => k z G2 (E1.trans E2) D2 (fun z => by cases z)
 | false => cases hf;exact k _ G1 E1 (.bl false) (fun z => by cases z)⟩
def qhn {ta : TE3} (a : PuE ta) : PuE (KR ta) := ⟨fun ρ => ((a.f ρ).bind asB).map fun k => .bool (!k),a.fv,false,fun hv hd hf k => by
 obtain ⟨x,e1,hf⟩ := Option.map_eq_some_iff.mp hf
 obtain ⟨y,e1,e2⟩ := Option.bind_eq_some_iff.mp e1
 have := RJ e2;subst this
 subst hf
 refine a.ok hv hd e1 fun x' G1 E1 D1 _ => ?_
 cases D1
 exact k _ G1 E1 (.bl _) (fun z => by cases z)⟩
def qlY {ta : TE3} (a : PuE ta) : PuE (u3 NA ta) := ⟨fun ρ => ((a.f ρ).bind asI).map fun i => .int (-i),a.fv,false,fun hv hd hf k => by
 obtain ⟨x,e1,hf⟩ := Option.map_eq_some_iff.mp hf
 obtain ⟨y,e1,e2⟩ := Option.bind_eq_some_iff.mp e1
 have := KZ e2;subst this
 subst hf
 refine a.ok hv hd e1 fun x' G1 E1 D1 _ => ?_
 cases D1
 exact k _ G1 E1 (.int _) (fun z => by cases z)⟩
def bCh {r r' : R3} {ta tb tc : TE3} (R : OpD r) (R' : OpD r') (a : PuE ta) (b : PuE tb) (c : PuE tc) : PuE (ch3 r r' ta tb tc) :=
 ⟨fun ρ => (a.f ρ).bind fun x => (b.f ρ).bind fun y => ((R.f x y).bind asB).bind fun k => if k then (c.f ρ).bind fun z => R'.f y z else some (.bool false),a.fv ++ (b.fv ++ c.fv),false,fun {D τ ρ G q d} hv hd hf k => by
  obtain ⟨x,e1,hf⟩ := Option.bind_eq_some_iff.mp hf
  obtain ⟨y,e2,hf⟩ := Option.bind_eq_some_iff.mp hf
  obtain ⟨j,e3,hf⟩ := Option.bind_eq_some_iff.mp hf
  obtain ⟨v,e3,e4⟩ := Option.bind_eq_some_iff.mp e3
  have := RJ e4;subst this
  refine a.ok hv.l hd e1 fun x' G1 E1 D1 _ => b.ok (hv.r.l.up E1) (hd.up E1) e2 fun y' G2 E2 D2 _ => R.ok (D1.up (j1 E2)) D2 ((hd.up E1).up E2) e3 fun z G3 E3 D3 _ => ?_
  cases D3
  have E := (E1.trans E2).trans E3
  cases j with
  | true =>
   obtain ⟨w,e5,hf⟩ := Option.bind_eq_some_iff.mp hf
   exact c.ok (hv.r.r.up E) (hd.up E) e5 fun w' G4 E4 D4 _ => R'.ok ((D2.up (j1 E3)).up (j1 E4)) D4 ((hd.up E).up E4) hf fun u G5 E5 D5 _ => k u G5 ((E.trans E4).trans E5) D5 (fun z => by cases z)
  | false => cases hf;exact k _ G3 E (.bl false) (fun z => by cases z)⟩
def tyD : PyData → Option String
 | .none => some "NoneType" | .bool _ => some "bool" | .int _ => some "int" | .str _ => some "str" | .tuple _ => some "tuple" | .list _ => some "list" | .dict _ => none
def qlP {ta : TE3} (g : String → Bool) (a : PuE ta) : PuE (DU g ta) := ⟨fun ρ => (a.f ρ).bind fun d => (tyD d).map fun t => .bool (g t),a.fv,false,fun hv hd hf k => by
 obtain ⟨x,e1,hf⟩ := Option.bind_eq_some_iff.mp hf
 obtain ⟨y,e2,hf⟩ := Option.map_eq_some_iff.mp hf
 subst hf
 refine a.ok hv hd e1 fun x' G1 E1 D1 _ => ?_
 have : tyT G1 x' = some y := by
  cases D1 with
  | lst h _ => have g := jw (qF h).2;simp [tyT,g];simpa [tyD] using e2
  | _ => simpa [tyT,tyD] using e2
 simp only [this]
 exact k _ G1 E1 (.bl _) (fun z => by cases z)⟩
def bSp {t : TE3} (a : PuE t) : PuO (sp3 t) := ⟨fun ρ => ((a.f ρ).bind asI).map some,a.fv,fun hv hd hf k => by
 obtain ⟨x,e1,hf⟩ := Option.map_eq_some_iff.mp hf
 obtain ⟨y,e1,e2⟩ := Option.bind_eq_some_iff.mp e1
 have := KZ e2;subst this
 subst hf
 refine a.ok hv hd e1 fun x' G1 E1 D1 _ => ?_
 cases D1
 exact k G1 E1⟩
theorem Dqs.cut {G : Gp} {xs : List T} {ds : List PyData} (h : Dqs G xs ds) (lo hi : Option Int) : Dqs G (qa3 xs lo hi) (qa3 ds lo hi) := by
 unfold qa3
 rw [h.length]
 exact (h.drop _).take _
def slD (d : PyData) (lo hi : Option Int) : Option PyData := match d with
 | .tuple xs => cif (HT.sIx xs.length 0 lo = 0∧HT.sIx xs.length xs.length hi = xs.length) none (some (.tuple (qa3 xs lo hi)))
 | .list xs => some (.list (qa3 xs lo hi))
 | _ => none
def bSl {te : TE3} {tl th : TO3} (a : PuE te) (l : PuO tl) (h : PuO th) : PuE (qgP te tl th) := ⟨fun ρ => (a.f ρ).bind fun d => (l.f ρ).bind fun lo => (h.f ρ).bind fun hi => slD d lo hi,a.fv ++ (l.fv ++ h.fv),false,fun hv hd hf k => by
 obtain ⟨d,e1,hf⟩ := Option.bind_eq_some_iff.mp hf
 obtain ⟨lo,e2,hf⟩ := Option.bind_eq_some_iff.mp hf
 obtain ⟨hi,e3,hf⟩ := Option.bind_eq_some_iff.mp hf
 refine a.ok hv.l hd e1 fun x' G1 E1 D1 _ => l.ok (hv.r.l.up E1) (hd.up E1) e2 fun G2 E2 => h.ok (hv.r.r.up (E1.trans E2)) (hd.up (E1.trans E2)) e3 fun G3 E3 => ?_
 have E := (E1.trans E2).trans E3
 have D3 := (D1.up (j1 E2)).up (j1 E3)
 unfold slD at hf
 cases D3 with
 | tup hs =>
  simp only [cif] at hf
  split at hf
  ·cases hf
  ·rename_i n
   cases hf
   exact ⟨by rw [hs.length];exact n,k _ _ E (.tup (hs.cut _ _)) (fun z => by cases z)⟩
 | lst g hs =>
  simp only at hf
  cases hf
  simp only [sl3,jw (qF g).2]
  intro p hp
  exact k _ _ (E.trans (JK hp)) (U1 (hd.up E) hp (hs.cut _ _)) (fun z => by cases z)
 | _ => simp at hf⟩
def V2 : List PyData → Option (List Int)
 | [] => some []
 | .int i :: r => (V2 r).map (i :: ·)
 | _ => none
theorem SU (ns : List Int) : V2 (ns.map PyData.int) = some ns := by
 induction ns with
 | nil => rfl
 | cons n r ih => simp [V2,ih]
theorem CV : ∀ {xs : List PyData} {ns : List Int},V2 xs = some ns → xs = ns.map PyData.int
 | [],_,h => by simp [V2] at h;subst h;rfl
 | .int i :: r,ns,h => by
  simp only [V2] at h
  obtain ⟨ms,e,rfl⟩ := Option.map_eq_some_iff.mp h
  rw [CV e];rfl
 | .none :: r,ns,h => by simp [V2] at h
 | .bool _ :: r,ns,h => by simp [V2] at h
 | .str _ :: r,ns,h => by simp [V2] at h
 | .list _ :: r,ns,h => by simp [V2] at h
 | .tuple _ :: r,ns,h => by simp [V2] at h
 | .dict _ :: r,ns,h => by simp [V2] at h
end Pu
namespace Pu
open PySem L2 L3
def opI (g : Int → Int → Int) : OpD (iI g) := ⟨fun d e => match d,e with | .int i,.int j => some (.int (g i j)) | _,_ => none,false,fun {D G x y d e v q} hx hy hd hf k => by
 cases hx <;> try (simp at hf;done)
 cases hy <;> try (simp at hf;done)
 cases hf
 exact k _ _ Ex.refl (.int _) (fun z => by cases z)⟩
def cI (C : Int → Int → Prop) (g : Int → Int → Int) (d e : PyData) : Option PyData := match d,e with | .int i,.int j => cif (C i j) (some (.int (g i j))) none | _,_ => none
def opC (C : Int → Int → Prop) (g : Int → Int → Int) : OpD (iC C g) := ⟨cI C g,false,fun {D G x y d e v q} hx hy hd hf k => by
 unfold cI at hf
 cases hx <;> try (simp at hf;done)
 cases hy <;> try (simp at hf;done)
 simp only [cif] at hf
 split at hf
 ·rename_i c
  cases hf
  exact ⟨c,k _ _ Ex.refl (.int _) (fun z => by cases z)⟩
 ·cases hf⟩
def opB (g : Int → Int → Bool) : OpD (iB g) := ⟨fun d e => match d,e with | .int i,.int j => some (.bool (g i j)) | _,_ => none,false,fun {D G x y d e v q} hx hy hd hf k => by
 cases hx <;> try (simp at hf;done)
 cases hy <;> try (simp at hf;done)
 cases hf
 exact k _ _ Ex.refl (.bl _) (fun z => by cases z)⟩
def qgK : PyData → PyData → Option Bool
 | .none,.none => some true | .none,.int _ => some false | .int _,.none => some false | .none,.bool _ => some false | .bool _,.none => some false | .none,.str _ => some false | .str _,.none => some false
 | .int i,.int j => some (decide (i = j)) | .bool i,.bool j => some (decide (i = j)) | .str i,.str j => some (decide (i = j))
 | .int _,.str _ => some false | .str _,.int _ => some false | .bool _,.str _ => some false | .str _,.bool _ => some false
 | _,_ => none
theorem N0 {G : Gp} {x y : T} {d e : PyData} (hx : Dq G x d) (hy : Dq G y e) : VF x y = qgK d e := by
 cases hx <;> cases hy <;> rfl
def eqD (neg : Bool) (d e : PyData) : Option PyData := match qgK d e with
 | some k => some (.bool (if neg then !k else k))
 | none => cif (dpt d ≤ 40∧dpt d ≠ 0) ((Z6 d e).map fun b => .bool (if neg then !b else b)) none
def XB (neg : Bool) : OpD (Q6 neg) := ⟨eqD neg,false,fun {D G x y d e v q} hx hy hd hf k => by
 unfold Q6
 rw [N0 hx hy]
 unfold eqD at hf
 cases h : qgK d e with
 | some b => rw [h] at hf;cases hf;exact k _ _ Ex.refl (.bl _) (fun z => by cases z)
 | none =>
  rw [h] at hf
  simp only [cif] at hf ⊢
  split at hf
  ·rename_i c
   obtain ⟨b,e1,rfl⟩ := Option.map_eq_some_iff.mp hf
   exact ⟨d,e,b,(hx.up V3).dp,(hy.up V3).dp,e1,c.1,c.2,k _ _ Ex.refl (.bl _) (fun z => by cases z)⟩
  ·cases hf⟩
def qg0 (neg : Bool) (d e : PyData) : Option PyData := match e with | .none => some (.bool (match d with | .none => !neg | _ => neg)) | _ => none
def qa5 (neg : Bool) : OpD (MR neg) := ⟨qg0 neg,false,fun {D G x y d e v q} hx hy hd hf k => by
 unfold qg0 at hf
 cases hy <;> try (simp at hf;done)
 cases hf
 unfold MR
 cases hx <;> exact k _ _ Ex.refl (.bl _) (fun z => by cases z)⟩
def ixD (d e : PyData) : Option PyData := match d,e with
 | .tuple xs,.int i => atI xs i
 | .list xs,.int i => atI xs i
 | _,_ => none
theorem Dqs.atI {G : Gp} {xs : List T} {ds : List PyData} {i : Int} {d : PyData} (h : Dqs G xs ds) (e : L2.atI ds i = some d) : ∃ x,L2.atI xs i = some x∧Dq G x d := by
 unfold L2.atI at e ⊢
 rw [h.length]
 obtain ⟨j,e1,e2⟩ := Option.bind_eq_some_iff.mp e
 obtain ⟨x,hx,r⟩ := h.get e2
 exact ⟨x,by rw [e1];exact hx,r⟩
def zw : OpD ix3 := ⟨ixD,false,fun {D G x y d e v q} hx hy hd hf k => by
 unfold ixD at hf
 cases hx with
 | tup hs =>
  cases hy <;> try (simp at hf;done)
  obtain ⟨x,e1,r⟩ := hs.atI hf
  simp only [ix3,e1]
  exact k _ _ Ex.refl r (fun z => by cases z)
 | lst g hs =>
  cases hy <;> try (simp at hf;done)
  obtain ⟨x,e1,r⟩ := hs.atI hf
  simp only [ix3,jw (qF g).2,e1]
  exact k _ _ Ex.refl r (fun z => by cases z)
 | _ => simp at hf⟩
def qlX (d e : PyData) : Option PyData := match d,e with
 | .tuple xs,.tuple ys => cif (xs ≠ []∧xs.length + ys.length ≤ sizeLine) (some (.tuple (xs ++ ys))) none
 | .list xs,.list ys => cif (xs.length + ys.length ≤ sizeLine) (some (.list (xs ++ ys))) none
 | .int i,.int j => some (.int (i + j))
 | _,_ => none
def Z5 : OpD zY := ⟨qlX,false,fun {D G x y d e v q} hx hy hd hf k => by
  unfold qlX at hf
  cases hx with
  | int i => cases hy <;> try (simp at hf;done)
             cases hf
             exact k _ _ Ex.refl (.int _) (fun z => by cases z)
  | tup hs =>
    cases hy <;> try (simp at hf;done)
    rename_i hs2
    simp only [cif] at hf
    split at hf
    · rename_i c
      cases hf
      refine ⟨?_,by rw [hs.length,hs2.length];exact c.2,k _ _ Ex.refl (.tup (hs.append hs2)) (fun z => by cases z)⟩
      rintro rfl
      cases hs
      exact c.1 rfl
    · cases hf
  | lst g hs =>
    cases hy <;> try (simp at hf;done)
    rename_i g2 hs2
    simp only [cif] at hf
    split at hf
    · rename_i c
      cases hf
      simp only [zY,(qF g).2,(qF g2).2]
      exact ⟨by rw [hs.length,hs2.length];exact c,fun p hp => k _ _ (JK hp) (U1 hd hp (hs.append hs2)) (fun z => by cases z)⟩
    · cases hf
  | _ => simp at hf⟩
def ql0 (d e : PyData) : Option PyData := match d,e with
 | .list xs,.list ys => cif (xs.length + ys.length ≤ sizeLine) (some (.list (xs ++ ys))) none
 | _,_ => none
def LH : OpD zY := ⟨ql0,true,fun {D G x y d e v q} hx hy hd hf k => by
 unfold ql0 at hf
 cases hx with
 | lst g hs =>
  cases hy <;> try (simp at hf;done)
  rename_i g2 hs2
  simp only [cif] at hf
  split at hf
  ·rename_i c
   cases hf
   simp only [zY,(qF g).2,(qF g2).2]
   exact ⟨by rw [hs.length,hs2.length];exact c,fun p hp => k _ _ (JK hp) (U1 hd hp (hs.append hs2)) fun _ => WK hp (hs.append hs2)⟩
  ·cases hf
 | _ => simp at hf⟩
def qeq : List PyData → Option PyData
 | [.tuple xs] => some (.int xs.length)
 | [.list xs] => some (.int xs.length)
 | _ => none
def qeX : FnD DS := ⟨qeq,false,fun {D G xs ds v q} hx hd hf k => by
 unfold qeq at hf
 split at hf
 ·cases hx with
  | cons a b => cases b;cases a;rename_i hs;cases hf;simp only [DS];rw [hs.length];exact k _ _ Ex.refl (.int _) (fun z => by cases z)
 ·cases hx with
  | cons a b => cases b;cases a;rename_i g hs;cases hf;simp only [DS,jw (qF g).2];rw [hs.length];exact k _ _ Ex.refl (.int _) (fun z => by cases z)
 ·cases hf⟩
def qlR : List PyData → Option PyData
 | [.int i] => some (.int (if i < 0 then -i else i))
 | _ => none
def qnE : FnD qbI := ⟨qlR,false,fun {D G xs ds v q} hx hd hf k => by
 unfold qlR at hf
 split at hf
 ·cases hx with
  | cons a b => cases b;cases a;cases hf;exact k _ _ Ex.refl (.int _) (fun z => by cases z)
 ·cases hf⟩
def qlV : List PyData → Option PyData
 | [.int i] => some (.int i)
 | [.bool k] => some (.int (if k then 1 else 0))
 | _ => none
def qoi : FnD qgR := ⟨qlV,false,fun {D G xs ds v q} hx hd hf k => by
 unfold qlV at hf
 split at hf
 ·cases hx with
  | cons a b => cases b;cases a;cases hf;exact k _ _ Ex.refl (.int _) (fun z => by cases z)
 ·cases hx with
  | cons a b => cases b;cases a;cases hf;exact k _ _ Ex.refl (.int _) (fun z => by cases z)
 ·cases hf⟩
def ql6 : List PyData → Option PyData
 | [.tuple xs] => some (.tuple xs)
 | [.list xs] => some (.tuple xs)
 | _ => none
def qmK : FnD DG := ⟨ql6,false,fun {D G xs ds v q} hx hd hf k => by
 unfold ql6 at hf
 split at hf
 ·cases hx with
  | cons a b => cases b;cases a;rename_i hs;cases hf;exact k _ _ Ex.refl (.tup hs) (fun z => by cases z)
 ·cases hx with
  | cons a b => cases b;cases a;rename_i g hs;cases hf;simp only [DG,jw (qF g).2];exact k _ _ Ex.refl (.tup hs) (fun z => by cases z)
 ·cases hf⟩
def ql7 : List PyData → Option PyData
 | [.tuple xs] => some (.list xs)
 | [.list xs] => some (.list xs)
 | _ => none
def qmy : FnD KF := ⟨ql7,true,fun {D G xs ds v q} hx hd hf k => by
 unfold ql7 at hf
 split at hf
 ·cases hx with
  | cons a b => cases b;cases a;rename_i hs;cases hf;exact fun p hp => k _ _ (JK hp) (U1 hd hp hs) fun _ => WK hp hs
 ·cases hx with
  | cons a b => cases b;cases a;rename_i g hs;cases hf;simp only [KF,jw (qF g).2];exact fun p hp => k _ _ (JK hp) (U1 hd hp hs) fun _ => WK hp hs
 ·cases hf⟩
def MK : List PyData → Option (List Bool)
 | [] => some []
 | .bool i :: r => (MK r).map (i :: ·)
 | _ => none
theorem qcu (ns : List Bool) : MK (ns.map PyData.bool) = some ns := by
 induction ns with
 | nil => rfl
 | cons n r ih => simp [MK,ih]
theorem qaO {G : Gp} : ∀ {xs : List T} {ds : List PyData} {ns : List Bool},Dqs G xs ds → MK ds = some ns → qd7 xs = some (ns.all id)∧qlS xs = some (ns.any id)
 | _,_,_,.nil,h => by simp [MK] at h;subst h;exact ⟨rfl,rfl⟩
 | _,.bool i :: r,ns,.cons a b,h => by
  simp only [MK] at h
  obtain ⟨ms,e,rfl⟩ := Option.map_eq_some_iff.mp h
  obtain ⟨h1,h2⟩ := qaO b e
  cases a
  simp [qd7,qlS,h1,h2]
 | _,.int _ :: r,ns,_,h => by simp [MK] at h
 | _,.none :: r,ns,_,h => by simp [MK] at h
 | _,.str _ :: r,ns,_,h => by simp [MK] at h
 | _,.list _ :: r,ns,_,h => by simp [MK] at h
 | _,.tuple _ :: r,ns,_,h => by simp [MK] at h
 | _,.dict _ :: r,ns,_,h => by simp [MK] at h
def qlB : List PyData → Option PyData
 | [.list xs] => (MK xs).map fun ns => .bool (ns.all id)
 | _ => none
def qoq : FnD qa1 := ⟨qlB,false,fun {D G xs ds v q} hx hd hf k => by
 unfold qlB at hf
 split at hf
 ·obtain ⟨ns,e,rfl⟩ := Option.map_eq_some_iff.mp hf
  cases hx with
  | cons a b => cases b;cases a;rename_i g hs;simp only [qa1,jw (qF g).2,(qaO hs e).1];exact k _ _ Ex.refl (.bl _) (fun z => by cases z)
 ·cases hf⟩
def mn : List Int → Int
 | [] => 0 | [a] => a | a :: b :: r => min a (mn (b :: r))
def mx : List Int → Int
 | [] => 0 | [a] => a | a :: b :: r => max a (mx (b :: r))
theorem ML : ∀ {ns : List Int} {m : Int},m ∈ ns → mn ns ≤ m
 | [a],m,h => by simp at h;subst h;exact Int.le_refl _
 | a :: b :: r,m,h => by
  unfold mn
  rcases List.mem_cons.mp h with rfl | h
  ·omega
  ·have := ML h;omega
theorem LQ : ∀ {ns : List Int},ns ≠ [] → mn ns ∈ ns
 | [a],_ => by simp [mn]
 | a :: b :: r,_ => by
  unfold mn
  have := LQ (ns := b :: r) (by simp)
  rcases Int.le_total a (mn (b :: r)) with h | h
  ·rw [Int.min_eq_left h];simp
  ·rw [Int.min_eq_right h];exact List.mem_cons_of_mem _ this
theorem qcr : ∀ {ns : List Int} {m : Int},m ∈ ns → m ≤ mx ns
 | [a],m,h => by simp at h;subst h;exact Int.le_refl _
 | a :: b :: r,m,h => by
  unfold mx
  rcases List.mem_cons.mp h with rfl | h
  ·omega
  ·have := qcr h;omega
theorem K2 : ∀ {ns : List Int},ns ≠ [] → mx ns ∈ ns
 | [a],_ => by simp [mx]
 | a :: b :: r,_ => by
  unfold mx
  have := K2 (ns := b :: r) (by simp)
  rcases Int.le_total a (mx (b :: r)) with h | h
  ·rw [Int.max_eq_right h];exact List.mem_cons_of_mem _ this
  ·rw [Int.max_eq_left h];simp
def mnD : List PyData → Option PyData
 | [.list xs] => (V2 xs).bind fun ns => cif (ns ≠ []) (some (.int (mn ns))) none
 | _ => none
def qfR : FnD MB := ⟨mnD,false,fun {D G xs ds v q} hx hd hf k => by
 unfold mnD at hf
 split at hf
 ·obtain ⟨ns,e,hf⟩ := Option.bind_eq_some_iff.mp hf
  unfold cif at hf
  split at hf
  ·rename_i c
   cases hf
   cases hx with
   | cons a b =>
    cases b;cases a;rename_i g hs;have := CV e;subst this;have := hs.ints;subst this;simp only [MB,jw (qF g).2,SS]
    refine ⟨c,fun m hm hl => ?_⟩
    have : m = mn ns := Int.le_antisymm (hl _ (LQ c)) (ML hm)
    subst this
    exact k _ _ Ex.refl (.int _) (fun z => by cases z)
  ·cases hf
 ·cases hf⟩
def mxD : List PyData → Option PyData
 | [.list xs] => (V2 xs).bind fun ns => cif (ns ≠ []) (some (.int (mx ns))) none
 | _ => none
def qgN : FnD M4 := ⟨mxD,false,fun {D G xs ds v q} hx hd hf k => by
 unfold mxD at hf
 split at hf
 ·obtain ⟨ns,e,hf⟩ := Option.bind_eq_some_iff.mp hf
  unfold cif at hf
  split at hf
  ·rename_i c
   cases hf
   cases hx with
   | cons a b =>
    cases b;cases a;rename_i g hs;have := CV e;subst this;have := hs.ints;subst this;simp only [M4,jw (qF g).2,SS]
    refine ⟨c,fun m hm hl => ?_⟩
    have : m = mx ns := Int.le_antisymm (qcr hm) (hl _ (K2 c))
    subst this
    exact k _ _ Ex.refl (.int _) (fun z => by cases z)
  ·cases hf
 ·cases hf⟩
def PSp (F : List PyData → Option PyData) (fr : Bool) : Sp3 := fun ts G q => ∃ (D : Addr → Prop) (ds : List PyData) (d : PyData),Dqs (rs D G) ts ds∧Dom D G∧F ds = some d∧∀ x G',Ex G G' → Dq (rs D G') x d → (fr = true → Nw D G G' x d) → q x G'
def qV (F : List PyData → Option PyData) (fr : Bool) : FnD (PSp F fr) := ⟨F,fr,fun {D G xs ds v q} hx hd hf k => ⟨D,ds,v,hx,hd,hf,k⟩⟩
def ql1 : PyData → Option (List PyData)
 | .tuple xs => some xs
 | .list xs => some xs
 | _ => none
def qcb {t : TE3} (a : PuE t) : PuI (WH t) := ⟨fun ρ => (a.f ρ).bind ql1,a.fv,false,fun {D τ ρ G r ds} hv hd hf k => by
 obtain ⟨d,e1,hf⟩ := Option.bind_eq_some_iff.mp hf
 refine a.ok hv hd e1 fun x G1 E1 D1 _ => ?_
 unfold ql1 at hf
 cases D1 with
 | tup hs => cases hf;exact k _ _ _ E1 hs (fun _ _ => trivial) (fun z => by cases z)
 | lst g hs =>
  cases hf
  simp only [jw (qF g).2]
  refine k _ _ _ E1 hs (fun G2 h => ?_) (fun z => by cases z)
  rcases h with h | h
  ·cases h
  ·exact jw (h _ _ g)
 | _ => simp at hf⟩
def jZ (lo : Int) (n : Nat) : List Int := (List.range n).map fun (i : Nat) => lo + (i : Int)
theorem qds (lo : Int) (n : Nat) : L5 lo n = (jZ lo n).map T.int := by simp [L5,jZ,List.map_map,Function.comp_def]
def qgM : List PyData → Option (List PyData)
 | [.int j] => cif (-(2 ^ 62) ≤ j∧j < 2 ^ 62) (some ((jZ 0 j.toNat).map PyData.int)) none
 | [.int i,.int j] => cif (-(2 ^ 62) ≤ i∧i < 2 ^ 62∧-(2 ^ 62) ≤ j∧j < 2 ^ 62) (some ((jZ i (j - i).toNat).map PyData.int)) none
 | _ => none
def MZ {t : TA3} (a : PuA t) : PuI (j0 t) := ⟨fun ρ => (a.f ρ).bind qgM,a.fv,true,fun {D τ ρ G r ds} hv hd hf k => by
 obtain ⟨d,e1,hf⟩ := Option.bind_eq_some_iff.mp hf
 refine a.ok hv hd e1 fun x G1 E1 D1 => ?_
 unfold qgM at hf
 split at hf
 ·unfold cif at hf
  split at hf
  ·rename_i c
   cases hf
   cases D1 with
   | cons a b => cases b;cases a;simp only;rw [qds];exact ⟨c,k _ _ _ E1 (Dqs.ofInts _) (fun _ _ => trivial) fun _ => ⟨_,rfl⟩⟩
  ·cases hf
 ·unfold cif at hf
  split at hf
  ·rename_i c
   cases hf
   cases D1 with
   | cons a b => cases b with
    | cons b c' => cases c';cases a;cases b;simp only;rw [qds];exact ⟨c,k _ _ _ E1 (Dqs.ofInts _) (fun _ _ => trivial) fun _ => ⟨_,rfl⟩⟩
  ·cases hf
 ·cases hf⟩
def qm5 (us vs : List PyData) : List PyData := (us.zip vs).map fun p => .tuple [p.1,p.2]
theorem Dqs.zip {G : Gp} : ∀ {xs : List T} {ds : List PyData} {ys : List T} {es : List PyData},Dqs G xs ds → Dqs G ys es → Dqs G (qbG xs ys) (qm5 ds es)
 | _,_,_,_,.nil,_ => by simp [qbG,qm5];exact .nil
 | _,_,_,_,.cons _ _,.nil => by simp [qbG,qm5];exact .nil
 | _,_,_,_,.cons a b,.cons c d => .cons (.tup (.cons a (.cons c .nil))) (Dqs.zip b d)
inductive Bd (H : Gp) : List (Nat × T) → List (Nat × PyData) → Prop
 | nil : Bd H [] []
 | cons {i : Nat} {x : T} {d : PyData} {ts : List (Nat × T)} {bs : List (Nat × PyData)} : Dq H x d → Bd H ts bs → Bd H ((i,x) :: ts) ((i,d) :: bs)
theorem Bd.append {H : Gp} : ∀ {ts : List (Nat × T)} {bs : List (Nat × PyData)} {us : List (Nat × T)} {cs : List (Nat × PyData)},Bd H ts bs → Bd H us cs → Bd H (ts ++ us) (bs ++ cs)
 | _,_,_,_,.nil,h => h
 | _,_,_,_,.cons a b,h => .cons a (Bd.append b h)
theorem Bd.up {H H' : Gp} (e : Ex H H') : ∀ {ts : List (Nat × T)} {bs : List (Nat × PyData)},Bd H ts bs → Bd H' ts bs
 | _,_,.nil => .nil
 | _,_,.cons a b => .cons (a.up e) (Bd.up e b)
def sets : St3 → List (Nat × T) → St3
 | τ,[] => τ
 | τ,p :: r => sets (τ.set p.1 (some p.2)) r
def QB : Rho → List (Nat × PyData) → Rho
 | ρ,[] => ρ
 | ρ,p :: r => QB (ρ.set p.1 (.sh p.2)) r
theorem LA : ∀ (τ : St3) (a b : List (Nat × T)),sets τ (a ++ b) = sets (sets τ a) b
 | τ,[],b => rfl
 | τ,p :: a,b => by simp only [List.cons_append,sets];exact LA _ a b
structure PuG (g : TG3) where
 f : PyData → Option (List (Nat × PyData))
 tg : List Nat
 at' : ∀ {d bs},f d = some bs → ∀ p ∈ bs,p.1 ∈ tg
 ok : ∀ {H x d bs},Dq H x d → f d = some bs → ∃ ts,Bd H ts bs∧∀ τ G (q : St3 → Gp → Prop),q (sets τ ts) G → g x τ G q
structure PuGs (g : S6) where
 f : List PyData → Option (List (Nat × PyData))
 tg : List Nat
 at' : ∀ {d bs},f d = some bs → ∀ p ∈ bs,p.1 ∈ tg
 ok : ∀ {H x d bs},Dqs H x d → f d = some bs → ∃ ts,Bd H ts bs∧∀ τ G (q : St3 → Gp → Prop),q (sets τ ts) G → g x τ G q
def gN (i : Nat) : PuG (gn3 i) := ⟨fun d => some [(i,d)],[i],fun h p hp => by cases h;simp at hp;subst hp;simp,fun hx h => by cases h;exact ⟨_,.cons hx .nil,fun τ G q hq => hq⟩⟩
def WJ : PuGs zx := ⟨fun ds => match ds with | [] => some [] | _ => none,[],(fun h p hp => by split at h;cases h;cases hp;cases h),fun hx h => by
 split at h
 ·cases h;cases hx;exact ⟨[],.nil,fun τ G q hq => hq⟩
 ·cases h⟩
def qR {t : TG3} {u : S6} (a : PuG t) (b : PuGs u) : PuGs (qo t u) := ⟨fun ds => match ds with | d :: r => (a.f d).bind fun x => (b.f r).map fun y => x ++ y | [] => none,a.tg ++ b.tg,(fun h p hp => by
 split at h
 ·obtain ⟨x,e1,h⟩ := Option.bind_eq_some_iff.mp h
  obtain ⟨y,e2,rfl⟩ := Option.map_eq_some_iff.mp h
  rcases List.mem_append.mp hp with z | z
  ·exact List.mem_append.mpr (.inl (a.at' e1 p z))
  ·exact List.mem_append.mpr (.inr (b.at' e2 p z))
 ·cases h),fun hx h => by
 split at h
 ·obtain ⟨x,e1,h⟩ := Option.bind_eq_some_iff.mp h
  obtain ⟨y,e2,rfl⟩ := Option.map_eq_some_iff.mp h
  cases hx with
  | cons hx hr =>
   obtain ⟨ts,b1,k1⟩ := a.ok hx e1
   obtain ⟨us,b2,k2⟩ := b.ok hr e2
   refine ⟨ts ++ us,b1.append b2,fun τ G q hq => k1 τ G _ (k2 _ G q ?_)⟩
   rw [← LA];exact hq
 ·cases h⟩
def D8 {u : S6} (n : Nat) (b : PuGs u) : PuG (zu n u) := ⟨fun d => match d with | .tuple ds => if ds.length = n then b.f ds else none | _ => none,b.tg,(fun h p hp => by
 split at h
 ·split at h
  ·exact b.at' h p hp
  ·cases h
 ·cases h),fun hx h => by
 split at h
 ·split at h
  ·rename_i c
   cases hx with
   | tup hs =>
    obtain ⟨ts,b1,k1⟩ := b.ok hs h
    exact ⟨ts,b1,fun τ G q hq => ⟨by rw [hs.length];exact c,k1 τ G q hq⟩⟩
  ·cases h
 ·cases h⟩
end Pu
namespace Pu
open PySem L2 L3
structure VA (D : Addr → Prop) (G : Gp) (τ : St3) (ρ : Rho) : Prop where
 len : ρ.length = τ.length
 vw : ∀ i d,vw ρ i = some d → ∃ t,τ[i]? = some (some t)∧Dq (rs D G) t d
theorem VA.view {D : Addr → Prop} {G : Gp} {τ : St3} {ρ : Rho} (h : VA D G τ ρ) (fv : List Nat) : W0 fv D G τ ρ := fun i _ d e => h.vw i d e
theorem VA.upx {D : Addr → Prop} {G G' : Gp} {τ : St3} {ρ : Rho} (h : VA D G τ ρ) (e : Ex (rs D G) (rs D G')) : VA D G' τ ρ := ⟨h.len,fun i d hd => let ⟨t,a,b⟩ := h.vw i d hd;⟨t,a,b.up e⟩⟩
theorem VA.up {D : Addr → Prop} {G G' : Gp} {τ : St3} {ρ : Rho} (h : VA D G τ ρ) (e : Ex G G') : VA D G' τ ρ := h.upx (j1 e)
theorem qea {ρ : Rho} {i j : Nat} {s : Sl} : vw (ρ.set i s) j = if i = j then (if i < ρ.length then s.d else none) else vw ρ j := by
 unfold vw
 rw [List.getElem?_set]
 split
 ·subst j;split
  ·rfl
  ·rfl
 ·rfl
theorem VA.set {D : Addr → Prop} {G : Gp} {τ : St3} {ρ : Rho} (h : VA D G τ ρ) {i : Nat} {x : T} {d : PyData} (hx : Dq (rs D G) x d) : VA D G (τ.set i (some x)) (ρ.set i (.sh d)) := by
 refine ⟨by simp [h.len],fun j e he => ?_⟩
 rw [qea] at he
 split at he
 ·subst j
  split at he
  ·rename_i l
   cases he
   refine ⟨x,?_,hx⟩
   rw [List.getElem?_set,if_pos rfl,if_pos (by rw [← h.len];exact l)]
  ·cases he
 ·rename_i n
  obtain ⟨t,a,b⟩ := h.vw j e he
  exact ⟨t,by rw [List.getElem?_set,if_neg n];exact a,b⟩
theorem VA.sets {D : Addr → Prop} {G : Gp} : ∀ {ts : List (Nat × T)} {bs : List (Nat × PyData)} {τ : St3} {ρ : Rho},VA D G τ ρ → Bd (rs D G) ts bs → VA D G (Pu.sets τ ts) (QB ρ bs)
 | _,_,_,_,h,.nil => h
 | _,_,_,_,h,.cons a b => by unfold Pu.sets QB;exact VA.sets (h.set a) b
theorem VA.keep {D : Addr → Prop} {G : Gp} {ρ : Rho} : ∀ {ts : List (Nat × T)} {τ : St3},VA D G τ ρ → (∀ p ∈ ts,Pu.vw ρ p.1 = none) → VA D G (Pu.sets τ ts) ρ
 | [],_,h,_ => h
 | p :: r,τ,h,hn => VA.keep (ts := r) ⟨by rw [List.length_set];exact h.len,fun j d hd => by
   have : p.1 ≠ j := by rintro rfl;rw [hn p (by simp)] at hd;cases hd
   obtain ⟨t,a,b⟩ := h.vw j d hd
   exact ⟨t,by rw [List.getElem?_set,if_neg this];exact a,b⟩⟩ fun q hq => hn q (by simp [hq])
def S5 (m : List (Option Nat)) (ρ : Rho) : Rho := m.map fun o => match o with | some j => (match vw ρ j with | some d => .sh d | none => .un) | none => .un
theorem VA.cap {m : List (Option Nat)} {D : Addr → Prop} {G : Gp} {τ : St3} {ρ : Rho} (h : W0 (m.filterMap id) D G τ ρ) : VA D G (L3.cap m τ) (S5 m ρ) := by
 refine ⟨by simp [S5,L3.cap],fun i d hd => ?_⟩
 unfold Pu.vw S5 at hd
 rw [List.getElem?_map] at hd
 cases e : m[i]? with
 | none => rw [e] at hd;cases hd
 | some o =>
  rw [e] at hd
  cases o with
  | none => cases hd
  | some j =>
   simp only [Option.map_some,Option.bind_some] at hd
   cases e2 : Pu.vw ρ j with
   | none => rw [e2] at hd;cases hd
   | some d' =>
    rw [e2] at hd
    have hd' : d' = d := by simpa [Sl.d] using hd
    subst hd'
    obtain ⟨t,a,b⟩ := h j (List.mem_filterMap.mpr ⟨some j,List.mem_of_getElem? e,rfl⟩) d' e2
    refine ⟨t,?_,b⟩
    unfold L3.cap
    rw [List.getElem?_map,e]
    simp [a]
theorem KB {m : List (Option Nat)} {ρ : Rho} {i : Nat} (h : m[i]? = some none) : vw (S5 m ρ) i = none := by
 unfold vw S5
 rw [List.getElem?_map,h]
 rfl
def lcP (h : PyData → Option (Option PyData)) : List PyData → Option (List PyData)
 | [] => some []
 | d :: r => (h d).bind fun o => (lcP h r).bind fun ys => some (match o with | some y => y :: ys | none => ys)
def lcH (gf : PyData → Option (List (Nat × PyData))) (cf : Rho → Option Bool) (ef : Rho → Option PyData) (ρ : Rho) (d : PyData) : Option (Option PyData) :=
 (gf d).bind fun bs => (cf (QB ρ bs)).bind fun k => if k then (ef (QB ρ bs)).map some else some none
theorem QH {h : PyData → Option (Option PyData)} {α : Type} {g : α → PyData} {k : α → PyData} {xs : List α} (hh : ∀ a ∈ xs,h (g a) = some (some (k a))) : lcP h (xs.map g) = some (xs.map k) := by
 induction xs with
 | nil => rfl
 | cons a r ih => simp only [List.map_cons,lcP,hh a (by simp),Option.bind_some,ih fun b hb => hh b (by simp [hb])]
theorem MC {h : PyData → Option (Option PyData)} {α : Type} {g : α → PyData} {k : α → PyData} {c : α → Bool} {xs : List α} (hh : ∀ a ∈ xs,h (g a) = some (if c a then some (k a) else none)) : lcP h (xs.map g) = some ((xs.filter c).map k) := by
 induction xs with
 | nil => rfl
 | cons a r ih =>
  simp only [List.map_cons,lcP,hh a (by simp),Option.bind_some,ih fun b hb => hh b (by simp [hb])]
  cases e : c a with
  | true => simp [e]
  | false => simp [e]
theorem qb3 {H : Gp} : ∀ {ts : List (Nat × T)} {bs : List (Nat × PyData)},Bd H ts bs → ∀ p ∈ ts,∃ q ∈ bs,q.1 = p.1
 | _,_,.nil,p,hp => by cases hp
 | _,_,.cons a b,p,hp => by
  rcases List.mem_cons.mp hp with rfl | hp
  ·exact ⟨_,List.mem_cons_self,rfl⟩
  ·obtain ⟨q,hq,e⟩ := qb3 b p hp
   exact ⟨q,by simp [hq],e⟩
theorem qfj {stay : Gp → Prop} {g : TG3} {tif : TT3} {te : TE3} {q : Q3} (pg : PuG g) (pc : PuC tif) (pe : PuE te) {D : Addr → Prop} {ρ0 : Rho} {G0 : Gp} (hs : ∀ G,Ex G0 G → stay G) (hm : ∀ i ∈ pg.tg,vw ρ0 i = none) (fin : List PyData) (hfin : fin.length ≤ sizeLine)
  (k : ∀ G ys,Ex G0 G → Dqs (rs D G) ys fin → ∀ p,G p = none → q (.ref p) (gu G p (.lst ys))) :
  ∀ (ds : List PyData) (items ys : List T) (es fs : List PyData) (τ : St3) (G : Gp),Dqs (rs D G0) items ds → VA D G τ ρ0 → Ex G0 G → Dom D G → Dqs (rs D G) ys es → lcP (lcH pg.f pc.f pe.f ρ0) ds = some fs → es ++ fs = fin → MW stay g tif te q items ys τ G
 | _,_,ys,es,fs,τ,G,.nil,va,E,hd,hy,hf,hl => by
  cases hf
  rw [List.append_nil] at hl
  subst hl
  exact ⟨hs G E,k G ys E hy⟩
 | d :: ds,x :: items,ys,es,fs,τ,G,.cons hx hr,va,E,hd,hy,hf,hl => by
  unfold lcP at hf
  obtain ⟨o,e1,hf⟩ := Option.bind_eq_some_iff.mp hf
  obtain ⟨QN,e2,hf⟩ := Option.bind_eq_some_iff.mp hf
  unfold lcH at e1
  obtain ⟨bs,e3,e1⟩ := Option.bind_eq_some_iff.mp e1
  obtain ⟨c,e4,e1⟩ := Option.bind_eq_some_iff.mp e1
  obtain ⟨ts,bd,kg⟩ := pg.ok (hx.up (j1 E)) e3
  refine ⟨hs G E,kg τ G _ ?_⟩
  have va1 := va.sets bd
  have va2 := va.keep (ts := ts) fun p hp => by
   obtain ⟨q,hq,e⟩ := qb3 bd p hp
   rw [← e];exact hm _ (pg.at' e3 q hq)
  refine pc.ok (va1.view _) hd e4 fun G1 E1 => ?_
  cases c with
  | true =>
   rw [if_pos rfl]
   rw [if_pos rfl] at e1
   obtain ⟨y,e5,rfl⟩ := Option.map_eq_some_iff.mp e1
   simp only [Option.some.injEq] at hf
   subst hf
   refine pe.ok ((va1.up E1).view _) (hd.up E1) e5 fun z G2 E2 D2 _ => ⟨?_,?_⟩
   ·rw [hy.length]
    rw [← hl] at hfin
    simp at hfin;omega
   ·refine qfj pg pc pe hs hm fin hfin k ds items (ys ++ [z]) (es ++ [y]) QN _ G2 hr ((va2.up E1).up E2) (E.trans (E1.trans E2)) ((hd.up E1).up E2) (((hy.up (j1 E1)).up (j1 E2)).append (.cons D2 .nil)) e2 ?_
    rw [← hl];simp
  | false =>
   rw [if_neg Bool.false_ne_true]
   simp at e1
   subst e1
   simp only [Option.some.injEq] at hf
   subst hf
   exact qfj pg pc pe hs hm fin hfin k ds items ys es QN _ G1 hr (va2.up E1) (E.trans E1) (hd.up E1) (hy.up (j1 E1)) e2 hl
def lcF (pi : Rho → Option (List PyData)) (h : Rho → PyData → Option (Option PyData)) (m : List (Option Nat)) (ρ : Rho) : Option PyData :=
 (pi ρ).bind fun ds => (lcP (h (S5 m ρ)) ds).bind fun fs => cif (fs.length ≤ sizeLine) (some (.list fs)) none
def bLc {wi : TI3} {g : TG3} {tif : TT3} {te : TE3} (pi : PuI wi) (pg : PuG g) (pc : PuC tif) (pe : PuE te) (m : List (Option Nat)) (hm : Tru (pg.tg.all fun i => m[i]? == some none)) : PuE (lc3 wi g tif te m) :=
 ⟨lcF pi.f (lcH pg.f pc.f pe.f) m,pi.fv ++ m.filterMap id,true,fun {D τ ρ G q d} hv hd hf k => by
  unfold lcF at hf
  obtain ⟨ds,e1,hf⟩ := Option.bind_eq_some_iff.mp hf
  obtain ⟨fs,e2,hf⟩ := Option.bind_eq_some_iff.mp hf
  unfold cif at hf
  split at hf
  ·rename_i hl
   cases hf
   refine pi.ok hv.l hd e1 fun items stay G1 E1 D1 hs _ => ?_
   have va := (VA.cap (m := m) hv.r).up E1
   refine qfj pg pc pe (D := D) (ρ0 := S5 m ρ) (G0 := G1) (fun G2 E2 => hs G2 (.inr (V3.trans E2))) (fun i hi => KB ?_) fs hl (fun G2 ys E2 D2 p hp => ?_) ds items [] [] fs _ G1 D1 va Ex.refl (hd.up E1) .nil e2 (by simp)
   ·have := List.all_eq_true.mp hm.h i hi
    simpa using this
   ·exact k _ _ ((E1.trans E2).trans (JK hp)) (U1 ((hd.up E1).up E2) hp D2) fun _ => (WK hp D2).back (E1.trans E2)
  ·cases hf⟩
def E0 (p : Addr) (G G' : Gp) : Prop := ∀ b o,b ≠ p → G b = some o → G' b = some o
theorem E0.refl {p : Addr} {G : Gp} : E0 p G G := fun _ _ _ e => e
theorem E0.trans {p : Addr} {G G1 G2 : Gp} (a : E0 p G G1) (b : E0 p G1 G2) : E0 p G G2 := fun x o n e => b x o n (a x o n e)
theorem E0.of {p : Addr} {G G1 : Gp} (a : Ex G G1) : E0 p G G1 := fun x o _ e => a x o e
theorem E0.wr {p : Addr} {G : Gp} {o : O} : E0 p G (gu G p o) := fun b ob n e => by rw [jB n];exact e
theorem E0.rs {p : Addr} {D : Addr → Prop} {G G1 : Gp} (a : E0 p G G1) : Ex (rs (fun b => D b ∨ b = p) G) (rs (fun b => D b ∨ b = p) G1) := fun b o h => by
 obtain ⟨n,h⟩ := qF h
 rw [jE n]
 exact a b o (fun z => n (.inr z)) h
theorem qkd {D : Addr → Prop} {G : Gp} {p : Addr} {o : O} (h : Dom D G) : Dom D (gu G p o) := fun b d z => by
 by_cases e : b = p
 ·subst e;rw [qN] at z;cases z
 ·rw [jB e] at z;exact h b d z
theorem qfs {p : Addr} {stay : Gp → Prop} {g : TG3} {tif : TT3} {te : TE3} {N : St3 → Gp → Prop} (pg : PuG g) (pc : PuC tif) (pe : PuE te) {D : Addr → Prop} {ρ0 : Rho} {G0 : Gp} (hs : ∀ G,Ex (rs (fun b => D b ∨ b = p) G0) G → stay G) (hm : ∀ i ∈ pg.tg,vw ρ0 i = none) (fin : List PyData) (hfin : fin.length ≤ sizeLine)
  (k : ∀ τ G ys,VA (fun b => D b ∨ b = p) G τ ρ0 → E0 p G0 G → Dom (fun b => D b ∨ b = p) G → G p = some (.lst ys) → Dqs (rs (fun b => D b ∨ b = p) G) ys fin → N τ G) :
  ∀ (ds : List PyData) (items ys : List T) (es fs : List PyData) (τ : St3) (G : Gp),Dqs (rs (fun b => D b ∨ b = p) G0) items ds → VA (fun b => D b ∨ b = p) G τ ρ0 → E0 p G0 G → Dom (fun b => D b ∨ b = p) G → G p = some (.lst ys) → Dqs (rs (fun b => D b ∨ b = p) G) ys es → lcP (lcH pg.f pc.f pe.f ρ0) ds = some fs → es ++ fs = fin → qgZ p stay g tif te N items τ G
 | _,_,ys,es,fs,τ,G,.nil,va,E,hd,gp,hy,hf,hl => by
  cases hf
  rw [List.append_nil] at hl
  subst hl
  exact ⟨hs G (E.rs.trans V3),k τ G ys va E hd gp hy⟩
 | d :: ds,x :: items,ys,es,fs,τ,G,.cons hx hr,va,E,hd,gp,hy,hf,hl => by
  unfold lcP at hf
  obtain ⟨o,e1,hf⟩ := Option.bind_eq_some_iff.mp hf
  obtain ⟨QN,e2,hf⟩ := Option.bind_eq_some_iff.mp hf
  unfold lcH at e1
  obtain ⟨bs,e3,e1⟩ := Option.bind_eq_some_iff.mp e1
  obtain ⟨c,e4,e1⟩ := Option.bind_eq_some_iff.mp e1
  obtain ⟨ts,bd,kg⟩ := pg.ok (hx.up E.rs) e3
  refine ⟨hs G (E.rs.trans V3),kg τ G _ ?_⟩
  have va1 := va.sets bd
  have va2 := va.keep (ts := ts) fun p hp => by
   obtain ⟨q,hq,e⟩ := qb3 bd p hp
   rw [← e];exact hm _ (pg.at' e3 q hq)
  refine pc.ok (va1.view _) hd e4 fun G1 E1 => ?_
  cases c with
  | true =>
   rw [if_pos rfl]
   rw [if_pos rfl] at e1
   obtain ⟨y,e5,rfl⟩ := Option.map_eq_some_iff.mp e1
   simp only [Option.some.injEq] at hf
   subst hf
   refine pe.ok ((va1.up E1).view _) (hd.up E1) e5 fun z G2 E2 D2 _ => ?_
   simp only [E2 _ _ (E1 _ _ gp)]
   have W : E0 p G2 (gu G2 p (.lst (ys ++ [z]))) := E0.wr
   refine ⟨?_,?_⟩
   ·rw [hy.length]
    rw [← hl] at hfin
    simp at hfin;omega
   ·refine qfs pg pc pe hs hm fin hfin k ds items (ys ++ [z]) (es ++ [y]) QN _ _ hr (((va2.up E1).up E2).upx W.rs) ((E.trans (E0.of (E1.trans E2))).trans W) (qkd ((hd.up E1).up E2)) qN ((((hy.up (j1 E1)).up (j1 E2)).append (.cons D2 .nil)).up W.rs) e2 ?_
    rw [← hl];simp
  | false =>
   rw [if_neg Bool.false_ne_true]
   simp at e1
   subst e1
   simp only [Option.some.injEq] at hf
   subst hf
   exact qfs pg pc pe hs hm fin hfin k ds items ys es QN _ G1 hr (va2.up E1) (E.trans (E0.of E1)) (hd.up E1) (E1 _ _ gp) (hy.up (j1 E1)) e2 hl
def qe3 (h : PyData → Option (Option (List PyData))) : List PyData → Option (List PyData)
 | [] => some []
 | d :: r => (h d).bind fun o => (qe3 h r).bind fun ys => some (match o with | some y => y ++ ys | none => ys)
def qiy (gf : PyData → Option (List (Nat × PyData))) (cf : Rho → Option Bool) (it : Rho → Option (List PyData)) (h : Rho → PyData → Option (Option PyData)) (ρ : Rho) (d : PyData) : Option (Option (List PyData)) :=
 (gf d).bind fun bs => (cf (QB ρ bs)).bind fun k => if k then ((it (QB ρ bs)).bind fun ds => lcP (h (QB ρ bs)) ds).map some else some none
theorem TV : ∀ {bs : List (Nat × PyData)} {ρ : Rho} {i : Nat},(∀ p ∈ bs,p.1 ≠ i) → vw (QB ρ bs) i = vw ρ i
 | [],_,_,_ => rfl
 | p :: r,ρ,i,h => by
  unfold QB
  rw [TV (fun q hq => h q (by simp [hq])),qea,if_neg (h p (by simp))]
theorem K6 : ∀ (bs : List (Nat × PyData)) (ρ : Rho),(QB ρ bs).length = ρ.length
 | [],τ => rfl
 | p :: r,τ => by unfold QB;rw [K6 r];simp
theorem qbv {p : Addr} {stay : Gp → Prop} {g g2 : TG3} {tif tif2 : TT3} {wi2 : TI3} {te : TE3} {q : Q3} (pg : PuG g) (pc : PuC tif) (pi2 : PuI wi2) (pg2 : PuG g2) (pc2 : PuC tif2) (pe : PuE te) {D : Addr → Prop} {ρ0 : Rho} {G0 : Gp} (hs : ∀ G,Ex (rs (fun b => D b ∨ b = p) G0) G → stay G) (hm : ∀ i ∈ pg.tg,vw ρ0 i = none) (hm2 : ∀ i ∈ pg2.tg,vw ρ0 i = none) (hdj : ∀ i ∈ pg2.tg,i ∉ pg.tg) (fin : List PyData) (hfin : fin.length ≤ sizeLine)
  (k : ∀ G ys,E0 p G0 G → G p = some (.lst ys) → Dqs (rs (fun b => D b ∨ b = p) G) ys fin → q (.ref p) G) :
  ∀ (ds : List PyData) (items ys : List T) (es fs : List PyData) (τ : St3) (G : Gp),Dqs (rs (fun b => D b ∨ b = p) G0) items ds → VA (fun b => D b ∨ b = p) G τ ρ0 → E0 p G0 G → Dom (fun b => D b ∨ b = p) G → G p = some (.lst ys) → Dqs (rs (fun b => D b ∨ b = p) G) ys es → qe3 (qiy pg.f pc.f pi2.f (lcH pg2.f pc2.f pe.f) ρ0) ds = some fs → es ++ fs = fin → qaE p stay g tif wi2 g2 tif2 te q items τ G
 | _,_,ys,es,fs,τ,G,.nil,va,E,hd,gp,hy,hf,hl => by
  cases hf
  rw [List.append_nil] at hl
  subst hl
  exact ⟨hs G (E.rs.trans V3),k G ys E gp hy⟩
 | d :: ds,x :: items,ys,es,fs,τ,G,.cons hx hr,va,E,hd,gp,hy,hf,hl => by
  unfold qe3 at hf
  obtain ⟨o,e1,hf⟩ := Option.bind_eq_some_iff.mp hf
  obtain ⟨QN,e2,hf⟩ := Option.bind_eq_some_iff.mp hf
  unfold qiy at e1
  obtain ⟨bs,e3,e1⟩ := Option.bind_eq_some_iff.mp e1
  obtain ⟨c,e4,e1⟩ := Option.bind_eq_some_iff.mp e1
  obtain ⟨ts,bd,kg⟩ := pg.ok (hx.up E.rs) e3
  refine ⟨hs G (E.rs.trans V3),kg τ G _ ?_⟩
  have va1 := va.sets bd
  have va2 := va.keep (ts := ts) fun p hp => by
   obtain ⟨q,hq,e⟩ := qb3 bd p hp
   rw [← e];exact hm _ (pg.at' e3 q hq)
  refine pc.ok (va1.view _) hd e4 fun G1 E1 => ?_
  cases c with
  | true =>
   rw [if_pos rfl]
   rw [if_pos rfl] at e1
   obtain ⟨y,e5,rfl⟩ := Option.map_eq_some_iff.mp e1
   obtain ⟨ds2,e6,e5⟩ := Option.bind_eq_some_iff.mp e5
   simp only [Option.some.injEq] at hf
   subst hf
   refine pi2.ok ((va1.up E1).view _) (hd.up E1) e6 fun items2 stay2 G2 E2 D2 hs2 _ => ?_
   have l2 : (es ++ y).length ≤ sizeLine := by
    rw [← hl] at hfin
    simp at hfin ⊢;omega
   refine qfs pg2 pc2 pe (ρ0 := QB ρ0 bs) (G0 := G2) (fun G3 E3 => hs2 G3 (.inr E3)) (fun i hi => ?_) (es ++ y) l2 (fun τ3 G3 zs va3 E3 hd3 gp3 hz => ?_) ds2 items2 ys es y _ G2 D2 ((va1.up E1).up E2) E0.refl ((hd.up E1).up E2) (E2 _ _ (E1 _ _ gp)) ((hy.up (j1 E1)).up (j1 E2)) e5 rfl
   ·rw [TV fun q hq e => hdj i hi (by rw [← e];exact pg.at' e3 q hq)];exact hm2 i hi
   ·have E4 : E0 p G G3 := (E0.of (E1.trans E2)).trans E3
    have va4 : VA (fun b => D b ∨ b = p) G3 τ3 ρ0 := ⟨by rw [← va3.len,K6],fun i d' hd' => va3.vw i d' (by
     rw [TV fun q hq e => ?_];exact hd'
     rw [← e,hm _ (pg.at' e3 q hq)] at hd';cases hd')⟩
    exact qbv pg pc pi2 pg2 pc2 pe hs hm hm2 hdj fin hfin k ds items zs (es ++ y) QN τ3 G3 hr va4 (E.trans E4) hd3 gp3 hz e2 (by rw [← hl];simp)
  | false =>
   rw [if_neg Bool.false_ne_true]
   simp at e1
   subst e1
   simp only [Option.some.injEq] at hf
   subst hf
   exact qbv pg pc pi2 pg2 pc2 pe hs hm hm2 hdj fin hfin k ds items ys es QN _ G1 hr (va2.up E1) (E.trans (E0.of E1)) (hd.up E1) (E1 _ _ gp) (hy.up (j1 E1)) e2 hl
def qlG (pi : Rho → Option (List PyData)) (h : Rho → PyData → Option (Option (List PyData))) (m : List (Option Nat)) (ρ : Rho) : Option PyData :=
 (pi ρ).bind fun ds => (qe3 (h (S5 m ρ)) ds).bind fun fs => cif (fs.length ≤ sizeLine) (some (.list fs)) none
theorem XO {h : PyData → Option (Option (List PyData))} {α : Type} {g : α → PyData} {k : α → List PyData} {xs : List α} (hh : ∀ a ∈ xs,h (g a) = some (some (k a))) : qe3 h (xs.map g) = some (xs.flatMap k) := by
 induction xs with
 | nil => rfl
 | cons a r ih => simp only [List.map_cons,qe3,hh a (by simp),Option.bind_some,ih fun b hb => hh b (by simp [hb]),List.flatMap_cons]
def qjN {wi wi2 : TI3} {g g2 : TG3} {tif tif2 : TT3} {te : TE3} (pi : PuI wi) (pg : PuG g) (pc : PuC tif) (pi2 : PuI wi2) (pg2 : PuG g2) (pc2 : PuC tif2) (pe : PuE te) (m : List (Option Nat)) (hm : Tru (pg.tg.all fun i => m[i]? == some none)) (hm2 : Tru (pg2.tg.all fun i => m[i]? == some none)) (hdj : Tru (pg2.tg.all fun i => !pg.tg.contains i)) : PuE (qgT wi g tif wi2 g2 tif2 te m) :=
 ⟨qlG pi.f (qiy pg.f pc.f pi2.f (lcH pg2.f pc2.f pe.f)) m,pi.fv ++ m.filterMap id,true,fun {D τ ρ G q d} hv hd hf k => by
  unfold qlG at hf
  obtain ⟨ds,e1,hf⟩ := Option.bind_eq_some_iff.mp hf
  obtain ⟨fs,e2,hf⟩ := Option.bind_eq_some_iff.mp hf
  unfold cif at hf
  split at hf
  ·rename_i hl
   cases hf
   refine pi.ok hv.l hd e1 fun items stay G1 E1 D1 hs _ p hp => ?_
   have va := (VA.cap (m := m) hv.r).up E1
   have np : ∀ {b o},G1 b = some o → b ≠ p := fun e => by rintro rfl;rw [hp] at e;cases e
   have X1 : Ex (rs D G1) (rs (fun b => D b ∨ b = p) (gu G1 p (.lst []))) := fun b o e => by
    obtain ⟨n,e⟩ := qF e
    rw [jE (by rintro (z | z);exact n z;exact np e z),jB (np e)];exact e
   refine qbv pg pc pi2 pg2 pc2 pe (D := D) (ρ0 := S5 m ρ) (G0 := gu G1 p (.lst [])) (p := p) (fun G2 E2 => hs G2 (.inr (X1.trans E2))) (fun i hi => KB ?_) (fun i hi => KB ?_) (fun i hi hj => ?_) fs hl (fun G2 ys E2 gp D2 => ?_) ds items [] [] fs _ _ (D1.up X1) ⟨va.len,fun i d hd => let ⟨t,a,b⟩ := va.vw i d hd;⟨t,a,b.up X1⟩⟩ E0.refl ?_ qN .nil e2 (by simp)
   ·simpa using List.all_eq_true.mp hm.h i hi
   ·simpa using List.all_eq_true.mp hm2.h i hi
   ·have := List.all_eq_true.mp hdj.h i hi
    simp at this
    exact this hj
   ·have EE : Ex G1 G2 := fun b o e => E2 b o (np e) (by rw [jB (np e)];exact e)
    have hdp : ¬ D p := fun z => (hd.up E1) p z hp
    refine k _ _ (E1.trans EE) (.lst (by rw [jE hdp];exact gp) (D2.up (zK fun b z => .inl z))) fun _ => Nw.back (.inr ⟨p,ys,fs,rfl,rfl,hp,gp,D2⟩) E1
   ·intro b hb z
    by_cases e : b = p
    ·subst e;rw [qN] at z;cases z
    ·rw [jB e] at z
     rcases hb with hb | hb
     ·exact (hd.up E1) b hb z
     ·exact e hb
  ·cases hf⟩
end Pu
namespace Pu
open PySem L2 L3
def AD (D : Addr → Prop) (A : Nat → Option Addr) (b : Addr) : Prop := D b ∨ ∃ i,A i = some b
structure RS (D : Addr → Prop) (G0 : Gp) (A : Nat → Option Addr) (τ : St3) (ρ : Rho) (G : Gp) : Prop where
 ex : Ex G0 G
 dm : Dom D G0
 fr : ∀ i p,A i = some p → G0 p = none
 da : ∀ i p,A i = some p → G p ≠ none
 inj : ∀ i j p,A i = some p → A j = some p → i = j
 len : ρ.length = τ.length
 sh : ∀ (i : Nat) (d : PyData),ρ[i]? = some (Sl.sh d) → ∃ t,τ[i]? = some (some t)∧Dq (rs (AD D A) G) t d
 ow : ∀ (i : Nat) (ds : List PyData),ρ[i]? = some (Sl.ow ds) → ∃ p xs,A i = some p∧τ[i]? = some (some (.ref p))∧G p = some (.lst xs)∧Dqs (rs (AD D A) G) xs ds
section
variable {D : Addr → Prop} {G0 G G' : Gp} {A A' : Nat → Option Addr} {τ : St3} {ρ : Rho}
theorem RS.nd (h : RS D G0 A τ ρ G) {i : Nat} {p : Addr} (e : A i = some p) : ¬ D p := fun z => h.dm p z (h.fr i p e)
theorem RS.dom (h : RS D G0 A τ ρ G) : Dom (AD D A) G := fun b hb => by
 rcases hb with hb | ⟨i,hi⟩
 ·exact (h.dm.up h.ex) b hb
 ·exact h.da i b hi
theorem RS.domD (h : RS D G0 A τ ρ G) : Dom D G := h.dm.up h.ex
theorem RS.up (h : RS D G0 A τ ρ G) (e : Ex G G') : RS D G0 A τ ρ G' :=
 ⟨h.ex.trans e,h.dm,h.fr,fun i p a z => (h.da i p a) (by
  cases g : G p with
  | none => rfl
  | some o => rw [e _ _ g] at z;cases z),h.inj,h.len,fun i d a => let ⟨t,b,c⟩ := h.sh i d a;⟨t,b,c.up (j1 e)⟩,fun i ds a => let ⟨p,xs,b,c,d,f⟩ := h.ow i ds a;⟨p,xs,b,c,e _ _ d,f.up (j1 e)⟩⟩
theorem RS.viewAll (h : RS D G0 A τ ρ G) (fv : List Nat) : W0 fv D G τ ρ := fun i _ d hd => by
 unfold vw at hd
 obtain ⟨s,e,hd⟩ := Option.bind_eq_some_iff.mp hd
 have less : Ex (rs (AD D A) G) (rs D G) := zK fun b z => .inl z
 cases s with
 | un => cases hd
 | sh d' =>
  cases hd
  obtain ⟨t,b,c⟩ := h.sh i _ e
  exact ⟨t,b,c.up less⟩
 | ow ds =>
  cases hd
  obtain ⟨p,xs,b,c,g,f⟩ := h.ow i _ e
  exact ⟨_,c,.lst (by rw [jE (h.nd b)];exact g) (f.up less)⟩
theorem RS.view (h : RS D G0 A τ ρ G) {fv : List Nat} (hn : ∀ i ∈ fv,A i = none) : W0 fv (AD D A) G τ ρ := fun i hi d hd => by
 unfold vw at hd
 obtain ⟨s,e,hd⟩ := Option.bind_eq_some_iff.mp hd
 cases s with
 | un => cases hd
 | sh d' =>
  cases hd
  exact h.sh i _ e
 | ow ds =>
  obtain ⟨p,xs,b,_⟩ := h.ow i _ e
  rw [hn i hi] at b;cases b
def Sl.dem : Sl → Sl
 | .ow ds => .sh (.list ds)
 | s => s
def dm : List Bool → Rho → Rho
 | b :: m,s :: r => (match b with | true => s.dem | false => s) :: dm m r
 | _,r => r
def mkb (m : List Bool) (i : Nat) : Bool := (m[i]?).getD false
theorem qaG : ∀ (m : List Bool) (ρ : Rho) (i : Nat),(dm m ρ)[i]? = (ρ[i]?).map fun s => if mkb m i = true then s.dem else s
 | [],ρ,i => by simp [dm,mkb]
 | b :: m,[],i => by simp [dm]
 | b :: m,s :: r,0 => by cases b <;> simp [dm,mkb]
 | b :: m,s :: r,i + 1 => by
  have := qaG m r i
  simp only [dm,List.getElem?_cons_succ,mkb] at this ⊢
  exact this
theorem qnr (s : Sl) : s.dem.d = s.d := by cases s <;> rfl
theorem qnC (m : List Bool) (ρ : Rho) (i : Nat) : vw (dm m ρ) i = vw ρ i := by
 unfold vw
 rw [qaG]
 cases ρ[i]? with
 | none => rfl
 | some s =>
  simp only [Option.map_some,Option.bind_some]
  split
  ·exact qnr s
  ·rfl
theorem qc5 : ∀ (m : List Bool) (ρ : Rho),(dm m ρ).length = ρ.length
 | [],ρ => rfl
 | b :: m,[] => rfl
 | b :: m,s :: r => by simp [dm,qc5 m r]
def Ad (m : List Bool) (A : Nat → Option Addr) : Nat → Option Addr := fun i => if mkb m i = true then none else A i
theorem DF {m : List Bool} {i : Nat} {p : Addr} (h : Ad m A i = some p) : A i = some p∧mkb m i = false := by
 unfold Ad at h
 split at h
 ·cases h
 ·rename_i n;exact ⟨h,by simpa using n⟩
theorem RS.dem (h : RS D G0 A τ ρ G) (m : List Bool) : RS D G0 (Ad m A) τ (Pu.dm m ρ) G := by
 have less : Ex (rs (AD D A) G) (rs (AD D (Ad m A)) G) := zK fun b z => by
  rcases z with z | ⟨i,z⟩
  ·exact .inl z
  ·exact .inr ⟨i,(DF z).1⟩
 refine ⟨h.ex,h.dm,fun i p e => h.fr i p (DF e).1,fun i p e => h.da i p (DF e).1,fun i j p a b => h.inj i j p (DF a).1 (DF b).1,by rw [qc5];exact h.len,fun i d e => ?_,fun i ds e => ?_⟩
 ·rw [qaG] at e
  obtain ⟨s,e1,e2⟩ := Option.map_eq_some_iff.mp e
  cases s with
  | un => split at e2 <;> cases e2
  | sh d' =>
   have : d' = d := by split at e2 <;> (cases e2;rfl)
   subst this
   obtain ⟨t,b,c⟩ := h.sh i _ e1
   exact ⟨t,b,c.up less⟩
  | ow ds =>
   split at e2
   ·rename_i hm
    cases e2
    obtain ⟨p,xs,b,c,g,f⟩ := h.ow i _ e1
    refine ⟨_,c,.lst ?_ (f.up less)⟩
    rw [jE]
    ·exact g
    ·rintro (z | ⟨j,z⟩)
     ·exact h.nd b z
     ·have := h.inj i j p b (DF z).1
      subst this
      rw [(DF z).2] at hm;cases hm
   ·cases e2
 ·rw [qaG] at e
  obtain ⟨s,e1,e2⟩ := Option.map_eq_some_iff.mp e
  cases s with
  | un => split at e2 <;> cases e2
  | sh d' => split at e2 <;> cases e2
  | ow ds' =>
   split at e2
   ·cases e2
   ·rename_i hm
    cases e2
    obtain ⟨p,xs,b,c,g,f⟩ := h.ow i _ e1
    exact ⟨p,xs,by unfold Ad;rw [if_neg hm];exact b,c,g,f.up less⟩
theorem RS.viewD (h : RS D G0 A τ ρ G) {m : List Bool} {fv : List Nat} (hm : Tru (fv.all (mkb m))) : W0 fv (AD D (Ad m A)) G τ ρ := by
 have := (h.dem m).view (fv := fv) fun i hi => by unfold Ad;rw [if_pos (List.all_eq_true.mp hm.h i hi)]
 intro i hi d hd
 exact this i hi d (by rw [qnC];exact hd)
def Er (A : Nat → Option Addr) (i : Nat) : Nat → Option Addr := fun j => if j = i then none else A j
theorem DJ {i j : Nat} {p : Addr} (h : Er A i j = some p) : A j = some p∧j ≠ i := by
 unfold Er at h
 split at h
 ·cases h
 ·rename_i n;exact ⟨h,n⟩
theorem RS.put (h : RS D G0 A τ ρ G) (i : Nat) {x : T} {d : PyData} (hx : Dq (rs (AD D A) G) x d) : RS D G0 (Er A i) (τ.set i (some x)) (ρ.set i (.sh d)) G := by
 have less : Ex (rs (AD D A) G) (rs (AD D (Er A i)) G) := zK fun b z => by
  rcases z with z | ⟨j,z⟩
  ·exact .inl z
  ·exact .inr ⟨j,(DJ z).1⟩
 refine ⟨h.ex,h.dm,fun j p e => h.fr j p (DJ e).1,fun j p e => h.da j p (DJ e).1,fun j k p a b => h.inj j k p (DJ a).1 (DJ b).1,by simp [h.len],fun j e he => ?_,fun j ds e => ?_⟩
 ·rw [List.getElem?_set] at he ⊢
  split at he
  ·rename_i hj
   rw [if_pos hj]
   split at he
   ·rename_i hl
    cases he
    exact ⟨x,by rw [if_pos (by rw [← h.len];exact hl)],hx.up less⟩
   ·cases he
  ·rename_i hj
   rw [if_neg hj]
   obtain ⟨t,b,c⟩ := h.sh j _ he
   exact ⟨t,b,c.up less⟩
 ·rw [List.getElem?_set] at e ⊢
  split at e
  ·split at e <;> cases e
  ·rename_i hj
   rw [if_neg hj]
   obtain ⟨p,xs,b,c,g,f⟩ := h.ow j _ e
   exact ⟨p,xs,by unfold Er;rw [if_neg (fun z => hj z.symm)];exact b,c,g,f.up less⟩
theorem RS.puts : ∀ {ts : List (Nat × T)} {bs : List (Nat × PyData)} {A : Nat → Option Addr} {τ : St3} {ρ : Rho},RS D G0 A τ ρ G → Bd (rs (AD D A) G) ts bs → ∃ A',RS D G0 A' (sets τ ts) (QB ρ bs) G
 | _,_,A,_,_,h,.nil => ⟨A,h⟩
 | _,_,A,_,_,h,.cons (i := i) a b => by
  unfold sets QB
  exact RS.puts (h.put i a) (b.up (zK fun b z => by
   rcases z with z | ⟨j,z⟩
   ·exact .inl z
   ·exact .inr ⟨j,(DJ z).1⟩))
theorem RS.putN (h : RS D G0 A τ ρ G) (i : Nat) {x : T} {d : PyData} {ds : List PyData} (hd : d = .list ds) (E : Ex G G') (hx : Nw (AD D A) G G' x d) : RS D G0 (fun j => if j = i then (match x with | .ref p => some p | _ => none) else A j) (τ.set i (some x)) (ρ.set i (.ow ds)) G' := by
 rcases hx with hx | ⟨p,xs,ds',rfl,e',gp,gp',hs⟩
 ·rw [hd] at hx;cases hx
 rw [hd] at e'
 cases e'
 have np : ∀ {j q},A j = some q → q ≠ p := fun e => by rintro rfl;exact h.da _ _ e gp
 have X1 : Ex (rs (AD D A) G) (rs (AD D (fun j => if j = i then some p else A j)) G') := fun b o e => by
  obtain ⟨n,e⟩ := qF e
  rw [jE]
  ·exact E _ _ e
  ·rintro (z | ⟨j,z⟩)
   ·exact n (.inl z)
   ·simp only at z
    split at z
    ·cases z;rw [gp] at e;cases e
    ·exact n (.inr ⟨j,z⟩)
 refine ⟨h.ex.trans E,h.dm,fun j q e => ?_,fun j q e => ?_,fun j k q a b => ?_,by simp [h.len],fun j e he => ?_,fun j es e => ?_⟩
 ·simp only at e
  split at e
  ·cases e
   cases z : G0 p with
   | none => rfl
   | some o => rw [h.ex _ _ z] at gp;cases gp
  ·exact h.fr j q e
 ·simp only at e
  split at e
  ·cases e;rw [gp'];simp
  ·exact (h.up E).da j q e
 ·simp only at a b
  split at a
  ·cases a
   split at b
   ·rename_i h1 h2;rw [h1,h2]
   ·exact absurd rfl (np b)
  ·split at b
   ·cases b;exact absurd rfl (np a)
   ·exact h.inj j k q a b
 ·rw [List.getElem?_set] at he ⊢
  split at he
  ·split at he <;> cases he
  ·rename_i hj
   rw [if_neg hj]
   obtain ⟨t,b,c⟩ := h.sh j _ he
   exact ⟨t,b,c.up X1⟩
 ·rw [List.getElem?_set] at e ⊢
  split at e
  ·rename_i hj
   subst hj
   split at e
   ·rename_i hl
    cases e
    refine ⟨p,xs,by simp,by rw [if_pos rfl,if_pos (by rw [← h.len];exact hl)],gp',hs.up (zK fun b z => ?_)⟩
    rcases z with z | ⟨j,z⟩
    ·exact .inl (.inl z)
    ·simp only at z
     split at z
     ·cases z;exact .inr rfl
     ·exact .inl (.inr ⟨j,z⟩)
   ·cases e
  ·rename_i hj
   rw [if_neg hj]
   obtain ⟨q,ys,b,c,g,f⟩ := h.ow j _ e
   exact ⟨q,ys,by rw [if_neg (fun z => hj z.symm)];exact b,c,E _ _ g,f.up X1⟩
theorem RS.wr (h : RS D G0 A τ ρ G) {i : Nat} {p : Addr} {xs : List T} {ds : List PyData} (hi : A i = some p) (ht : τ[i]? = some (some (.ref p))) (hs : Dqs (rs (AD D A) G) xs ds) : RS D G0 A τ (ρ.set i (.ow ds)) (gu G p (.lst xs)) := by
 have X1 : Ex (rs (AD D A) G) (rs (AD D A) (gu G p (.lst xs))) := fun b o e => by
  obtain ⟨n,e⟩ := qF e
  rw [jE n,jB (by rintro rfl;exact n (.inr ⟨i,hi⟩))];exact e
 refine ⟨fun b o e => ?_,h.dm,h.fr,fun j q e => ?_,h.inj,by simp [h.len],fun j e he => ?_,fun j es e => ?_⟩
 ·rw [jB (by rintro rfl;rw [h.fr i _ hi] at e;cases e)];exact h.ex _ _ e
 ·by_cases z : q = p
  ·subst z;rw [qN];simp
  ·rw [jB z];exact h.da j q e
 ·rw [List.getElem?_set] at he
  split at he
  ·split at he <;> cases he
  ·obtain ⟨t,b,c⟩ := h.sh j _ he
   exact ⟨t,b,c.up X1⟩
 ·rw [List.getElem?_set] at e
  split at e
  ·rename_i hj
   subst hj
   split at e
   ·cases e
    exact ⟨p,xs,hi,ht,qN,hs.up X1⟩
   ·cases e
  ·rename_i hj
   obtain ⟨q,ys,b,c,g,f⟩ := h.ow j _ e
   exact ⟨q,ys,b,c,by rw [jB (by rintro rfl;exact hj (h.inj i j _ hi b))];exact g,f.up X1⟩
theorem RS.base {Gb : Gp} (h : RS D Gb A τ ρ G) (e : Ex G0 Gb) (hd : Dom D G0) : RS D G0 A τ ρ G :=
 ⟨e.trans h.ex,hd,(fun i p a => by
  cases z : G0 p with
  | none => rfl
  | some o => have := h.fr i p a;rw [e _ _ z] at this;cases this),h.da,h.inj,h.len,h.sh,h.ow⟩
end
inductive Ot where
 | nx (ρ : Rho) | bk (ρ : Rho) | ct (ρ : Rho) | rt (d : PyData) (fr : Bool)
def qhb (D : Addr → Prop) (G0 : Gp) (e : Ends3) : Ot → Prop
 | .nx ρ => ∀ A τ G,RS D G0 A τ ρ G → e.nx τ G
 | .bk ρ => ∀ A τ G,RS D G0 A τ ρ G → e.bk τ G
 | .ct ρ => ∀ A τ G,RS D G0 A τ ρ G → e.ct τ G
 | .rt d fr => ∀ x G,Ex G0 G → Dq (rs D G) x d → (fr = true → Nw D G0 G x d) → e.rt x G
theorem qhb.base {D : Addr → Prop} {G0 Gb : Gp} {e : Ends3} {o : Ot} (h : qhb D G0 e o) (x : Ex G0 Gb) (hd : Dom D G0) : qhb D Gb e o := by
 cases o with
 | nx ρ => exact fun A τ G r => h A τ G (r.base x hd)
 | bk ρ => exact fun A τ G r => h A τ G (r.base x hd)
 | ct ρ => exact fun A τ G r => h A τ G (r.base x hd)
 | rt d fr => exact fun y G a b c => h y G (x.trans a) b fun z => (c z).back x
structure PuS (t : TS3) where
 f : Nat → Rho → Option Ot
 ok : ∀ {D G0 A τ ρ G n o} {e : Ends3},RS D G0 A τ ρ G → f n ρ = some o → qhb D G0 e o → t e τ G
def YH : PuS ze := ⟨fun _ ρ => some (.nx ρ),fun h hf k => by cases hf;exact k _ _ _ h⟩
def qoP : PuS qgQ := ⟨fun _ ρ => none,fun h hf k => by cases hf⟩
def ql9 (a b : Nat → Rho → Option Ot) (n : Nat) (ρ : Rho) : Option Ot := (a n ρ).bind fun o => match o with | .nx ρ' => b n ρ' | o => some o
def Z0 {t u : TS3} (a : PuS t) (b : PuS u) : PuS (qK t u) := ⟨ql9 a.f b.f,fun {D G0 A τ ρ G n o e} h hf k => by
 unfold ql9 at hf
 obtain ⟨o1,e1,hf⟩ := Option.bind_eq_some_iff.mp hf
 refine a.ok h e1 ?_
 cases o1 with
 | nx ρ' => exact fun A' τ' G' h' => b.ok h' hf k
 | bk ρ' => cases hf;exact k
 | ct ρ' => cases hf;exact k
 | rt d fr => cases hf;exact k⟩
def sIf {c : TT3} {t u : TS3} (pc : PuC c) (a : PuS t) (b : PuS u) : PuS (Q5 c t u) := ⟨fun n ρ => (pc.f ρ).bind fun k => if k then a.f n ρ else b.f n ρ,fun h hf k => by
 obtain ⟨o1,e1,hf⟩ := Option.bind_eq_some_iff.mp hf
 refine pc.ok (h.viewAll _) h.domD e1 fun G1 E1 => ?_
 cases o1 with
 | true => exact a.ok (h.up E1) hf k
 | false => exact b.ok (h.up E1) hf k⟩
def ZX {t : TE3} (a : PuE t) : PuS (qZ t) := ⟨fun _ ρ => (a.f ρ).map fun d => .rt d a.nw,fun h hf k => by
 obtain ⟨d,e1,rfl⟩ := Option.map_eq_some_iff.mp hf
 exact a.ok (h.viewAll _) h.domD e1 fun x G1 E1 D1 N1 => k x G1 (h.ex.trans E1) D1 fun z => (N1 z).back h.ex⟩
def qgS (ρ : Rho) (i : Nat) : Option Ot := match ρ[i]? with | some (.ow ds) => some (.rt (.list ds) true) | some (.sh d) => some (.rt d false) | _ => none
def qgz (i : Nat) : PuS (qZ (v3 i)) := ⟨fun _ ρ => qgS ρ i,fun h hf k => by
 unfold qgS at hf
 split at hf
 ·rename_i ds e
  cases hf
  obtain ⟨p,xs,b,c,g,f⟩ := h.ow i _ e
  simp only [qZ,v3,c]
  refine k _ _ h.ex (.lst (by rw [jE (h.nd b)];exact g) (f.up (zK fun b z => .inl z))) fun _ => .inr ⟨p,xs,ds,rfl,rfl,h.fr i p b,g,f.up (zK fun q z => ?_)⟩
  rcases z with z | z
  ·exact .inl z
  ·subst z;exact .inr ⟨i,b⟩
 ·rename_i d e
  cases hf
  obtain ⟨t,b,c⟩ := h.sh i _ e
  simp only [qZ,v3,b]
  exact k _ _ h.ex (c.up (zK fun b z => .inl z)) (fun z => by cases z)
 ·cases hf⟩
def qdT : PyData → Bool
 | .none => true | .bool _ => true | .int _ => true | .str _ => true | _ => false
theorem WZ {H H' : Gp} {x : T} {d : PyData} (h : Dq H x d) (s : qdT d = true) : Dq H' x d := by
 cases h <;> first | (constructor;done) | (simp [qdT] at s;done)
def qoL : PyData → Sl
 | .list ds => .ow ds
 | d => .sh d
def NF (m : List Bool) (nw : Bool) (i : Nat) (d : PyData) (ρ : Rho) : Rho := if qdT d then ρ.set i (.sh d) else (dm m ρ).set i (if nw then qoL d else .sh d)
def NH {t : TE3} (a : PuE t) (i : Nat) (m : List Bool) (hm : Tru (a.fv.all (mkb m))) : PuS (zg t (gn3 i)) := ⟨fun _ ρ => (a.f ρ).map fun d => .nx (NF m a.nw i d ρ),fun {D G0 A τ ρ G n o e} h hf k => by
 obtain ⟨d,e1,rfl⟩ := Option.map_eq_some_iff.mp hf
 refine a.ok (h.viewD hm) (h.dem m).dom e1 fun x G1 E1 D1 N1 => ?_
 unfold NF at k
 show e.nx (τ.set i (some x)) G1
 split at k
 ·rename_i hs
  exact k _ _ _ ((h.up E1).put i (WZ D1 hs))
 ·split at k
  ·rename_i hn
   have N := N1 hn
   rcases id N with h2 | ⟨p,xs,ds,h1,h2,_⟩
   ·subst h2;rename_i hs;exact absurd rfl hs
   subst h2
   exact k _ _ _ ((h.dem m).putN i rfl E1 N)
  ·exact k _ _ _ (((h.dem m).up E1).put i D1)⟩
def D7 {t : TE3} {g : TG3} (a : PuE t) (pg : PuG g) (m : List Bool) (hm : Tru (a.fv.all (mkb m))) : PuS (zg t g) := ⟨fun _ ρ => (a.f ρ).bind fun d => (pg.f d).map fun bs => .nx (QB (dm m ρ) bs),fun {D G0 A τ ρ G n o e} h hf k => by
 obtain ⟨d,e1,hf⟩ := Option.bind_eq_some_iff.mp hf
 obtain ⟨bs,e2,rfl⟩ := Option.map_eq_some_iff.mp hf
 refine a.ok (h.viewD hm) (h.dem m).dom e1 fun x G1 E1 D1 N1 => ?_
 obtain ⟨ts,bd,kg⟩ := pg.ok D1 e2
 refine kg _ _ _ ?_
 obtain ⟨A',h'⟩ := ((h.dem m).up E1).puts bd
 exact k _ _ _ h'⟩
def ql3 (i j : Nat) (m : List Bool) (ds : List PyData) (ρ : Rho) : Option Ot := match ds with
 | [d,e] => if qdT d && qdT e then some (.nx ((ρ.set i (.sh d)).set j (.sh e))) else some (.nx (((dm m ρ).set i (.sh d)).set j (.sh e)))
 | _ => none
theorem qho {D : Addr → Prop} {A : Nat → Option Addr} {G : Gp} {i : Nat} : Ex (rs (AD D A) G) (rs (AD D (Er A i)) G) := zK fun b z => by
 rcases z with z | ⟨j,z⟩
 ·exact .inl z
 ·exact .inr ⟨j,(DJ z).1⟩
def qly (i : Nat) (d : PyData) (ρ : Rho) : Option Ot := match (vw ρ i).bind asI,asI d with | some x,some y => some (.nx (ρ.set i (.sh (.int (x + y))))) | _,_ => none
def qnw {t : TE3} (a : PuE t) (i : Nat) : PuS (qce i (iI (· + ·)) t) := ⟨fun _ ρ => (a.f ρ).bind fun d => qly i d ρ,fun {D G0 A τ ρ G n o e} h hf k => by
 obtain ⟨d,e1,hf⟩ := Option.bind_eq_some_iff.mp hf
 unfold qly at hf
 split at hf
 ·rename_i u v hu hv
  cases hf
  obtain ⟨w,e2,hu⟩ := Option.bind_eq_some_iff.mp hu
  have := KZ hu;subst this
  have := KZ hv;subst this
  obtain ⟨t,b,c⟩ := h.viewAll [i] i (by simp) _ e2
  cases c
  simp only [qce,b]
  refine a.ok (h.viewAll _) h.domD e1 fun y G1 E1 D1 _ => ?_
  cases D1
  exact k _ _ _ ((h.up E1).put i (.int _))
 ·cases hf⟩
def slot (ρ : Rho) (i : Nat) : Option (List PyData) := match ρ[i]? with | some (.ow ds) => some ds | _ => none
def dmS (m : List Bool) (d : PyData) (ρ : Rho) : Rho := if qdT d then ρ else dm m ρ
theorem RS.evalS {D : Addr → Prop} {G0 G : Gp} {A : Nat → Option Addr} {τ : St3} {ρ : Rho} (h : RS D G0 A τ ρ G) {t : TE3} (a : PuE t) (m : List Bool) (hm : Tru (a.fv.all (mkb m))) {d : PyData} (hf : a.f ρ = some d) : ∃ A1,RS D G0 A1 τ (dmS m d ρ) G∧∀ q : Q3,(∀ x G',Ex G G' → Dq (rs (AD D A1) G') x d → q x G') → t τ G q := by
 unfold dmS
 by_cases hs : qdT d = true
 ·rw [if_pos hs]
  exact ⟨A,h,fun q k => a.ok (h.viewAll _) h.domD hf fun x G1 E1 D1 _ => k x G1 E1 (WZ D1 hs)⟩
 ·rw [if_neg hs]
  exact ⟨Ad m A,h.dem m,fun q k => a.ok (h.viewD hm) (h.dem m).dom hf fun x G1 E1 D1 _ => k x G1 E1 D1⟩
def WO (gf : PyData → Option (List (Nat × PyData))) (bf : Rho → Option Ot) : List PyData → Rho → Option Ot
 | [],ρ => some (.nx ρ)
 | d :: r,ρ => (gf d).bind fun bs => (bf (QB ρ bs)).bind fun o => match o with
  | .nx ρ' => WO gf bf r ρ'
  | .ct ρ' => WO gf bf r ρ'
  | .bk ρ' => some (.nx ρ')
  | .rt d b => some (.rt d b)
theorem KS {stay : Gp → Prop} {g : TG3} {tb : TS3} {e : Ends3} (pg : PuG g) (pb : PuS tb) {D : Addr → Prop} {G0 : Gp} {n : Nat} {o : Ot} {items0 : List T} (hs : ∀ A τ ρ G,RS D G0 A τ ρ G → stay G) (k : qhb D G0 e o) :
  ∀ (ds : List PyData) (items : List T),(∀ A τ ρ G,RS D G0 A τ ρ G → Dqs (rs (AD D A) G) items ds) → ∀ A τ ρ G,RS D G0 A τ ρ G → WO pg.f (pb.f n) ds ρ = some o → CF stay g tb e items τ G
 | [],items,hi,A,τ,ρ,G,h,hf => by
  cases hf
  have := hi _ _ _ _ h
  cases this
  exact ⟨hs _ _ _ _ h,k _ _ _ h⟩
 | d :: ds,items,hi,A,τ,ρ,G,h,hf => by
  have hh := hi _ _ _ _ h
  cases hh with
  | cons hx hr =>
   rename_i x items
   unfold WO at hf
   obtain ⟨bs,e1,hf⟩ := Option.bind_eq_some_iff.mp hf
   obtain ⟨o1,e2,hf⟩ := Option.bind_eq_some_iff.mp hf
   obtain ⟨ts,bd,kg⟩ := pg.ok hx e1
   refine ⟨hs _ _ _ _ h,kg _ _ _ ?_⟩
   obtain ⟨A',h'⟩ := h.puts bd
   refine pb.ok h' e2 ?_
   have hi' : ∀ A τ ρ G,RS D G0 A τ ρ G → Dqs (rs (AD D A) G) items ds := fun A τ ρ G h => by
    have := hi _ _ _ _ h
    cases this with
    | cons a b => exact b
   cases o1 with
   | nx ρ' => exact fun A2 τ2 G2 h2 => KS (items0 := items0) pg pb hs k ds items hi' _ _ _ _ h2 hf
   | ct ρ' => exact fun A2 τ2 G2 h2 => KS (items0 := items0) pg pb hs k ds items hi' _ _ _ _ h2 hf
   | bk ρ' => cases hf;exact k
   | rt d fr => cases hf;exact k
def qiG (pi : Rho → Option (List PyData)) (nm : Bool) (m : List Bool) (gf : PyData → Option (List (Nat × PyData))) (bf : Nat → Rho → Option Ot) (n : Nat) (ρ : Rho) : Option Ot := (pi ρ).bind fun ds => WO gf (bf n) ds (if nm then ρ else dm m ρ)
def ql8 {wi : TI3} {g : TG3} {tb : TS3} (pi : PuI wi) (pg : PuG g) (pb : PuS tb) (m : List Bool) (hm : Tru (pi.fv.all (mkb m))) : PuS (LN wi g tb) := ⟨qiG pi.f pi.nm m pg.f pb.f,fun {D G0 A τ ρ G n o e} h hf k => by
 unfold qiG at hf
 obtain ⟨ds,e1,hf⟩ := Option.bind_eq_some_iff.mp hf
 refine pi.ok (h.viewD hm) (h.dem m).dom e1 fun items stay G1 E1 D1 hs hnm => ?_
 cases hb : pi.nm with
 | true =>
  rw [hb,if_pos rfl] at hf
  obtain ⟨ns,rfl⟩ := hnm hb
  have := D1.ints
  subst this
  exact KS (items0 := []) pg pb (fun _ _ _ _ _ => hs _ (.inl hb)) k _ _ (fun A τ ρ G _ => Dqs.ofInts _) _ _ _ _ (h.up E1) hf
 | false =>
  rw [hb,if_neg Bool.false_ne_true] at hf
  have h1 := (h.dem m).up E1
  have b1 : Ex G0 (rs (fun b => ∃ i,Ad m A i = some b) G1) := fun b o e => by
   rw [jE]
   ·exact h1.ex _ _ e
   ·rintro ⟨i,z⟩;rw [h1.fr i _ z] at e;cases e
  have h2 : RS D (rs (fun b => ∃ i,Ad m A i = some b) G1) (Ad m A) τ (dm m ρ) G1 := ⟨V3,h.dm.up b1,fun i p z => by unfold rs;exact zO ⟨i,z⟩,h1.da,h1.inj,h1.len,h1.sh,h1.ow⟩
  have X : ∀ A2 τ2 ρ2 G2,RS D (rs (fun b => ∃ i,Ad m A i = some b) G1) A2 τ2 ρ2 G2 → Ex (rs (AD D (Ad m A)) G1) (rs (AD D A2) G2) := fun A2 τ2 ρ2 G2 r b o e => by
   obtain ⟨n1,e⟩ := qF e
   have eb : rs (fun b => ∃ i,Ad m A i = some b) G1 b = some o := by rw [jE (fun z => n1 (.inr z))];exact e
   rw [jE]
   ·exact r.ex _ _ eb
   ·rintro (z | ⟨i,z⟩)
    ·exact n1 (.inl z)
    ·rw [r.fr i _ z] at eb;cases eb
  exact KS (items0 := []) pg pb (fun A2 τ2 ρ2 G2 r => hs _ (.inr ((X _ _ _ _ r).trans V3))) (k.base b1 h.dm) _ _ (fun A2 τ2 ρ2 G2 r => D1.up (X _ _ _ _ r)) _ _ _ _ h2 hf⟩
def whP (cf : Rho → Option Bool) (bf : Rho → Option Ot) : Nat → Rho → Option Ot
 | 0,_ => none
 | n + 1,ρ => (cf ρ).bind fun k => if k then (bf ρ).bind fun o => match o with
   | .nx ρ' => whP cf bf n ρ'
   | .ct ρ' => whP cf bf n ρ'
   | .bk ρ' => some (.nx ρ')
   | .rt d b => some (.rt d b)
  else some (.nx ρ)
def sWh {c : TT3} {tb : TS3} (pc : PuC c) (pb : PuS tb) : PuS (EK c tb) := ⟨fun n ρ => whP pc.f (pb.f n) n ρ,fun {D G0 A τ ρ G n o e} h hf k => by
 refine ⟨fun m τ G => ∃ A ρ,RS D G0 A τ ρ G∧whP pc.f (pb.f n) m ρ = some o,⟨n,A,ρ,h,hf⟩,?_⟩
 rintro m τ G ⟨A,ρ,h,hf⟩
 cases m with
 | zero => cases hf
 | succ m =>
  unfold whP at hf
  obtain ⟨b,e1,hf⟩ := Option.bind_eq_some_iff.mp hf
  refine pc.ok (h.viewAll _) h.domD e1 fun G1 E1 => ?_
  cases b with
  | true =>
   rw [if_pos rfl] at hf ⊢
   obtain ⟨o1,e2,hf⟩ := Option.bind_eq_some_iff.mp hf
   cases o1 with
   | nx ρ' => exact ⟨fun τ' G' => ∃ A',RS D G0 A' τ' ρ' G',fun τ' G' ⟨A',h'⟩ => ⟨m,by omega,A',ρ',h',hf⟩,pb.ok (h.up E1) e2 fun A' τ' G' h' => ⟨A',h'⟩⟩
   | ct ρ' => exact ⟨fun τ' G' => ∃ A',RS D G0 A' τ' ρ' G',fun τ' G' ⟨A',h'⟩ => ⟨m,by omega,A',ρ',h',hf⟩,pb.ok (h.up E1) e2 fun A' τ' G' h' => ⟨A',h'⟩⟩
   | bk ρ' => cases hf;exact ⟨fun _ _ => False,fun _ _ z => z.elim,pb.ok (h.up E1) e2 k⟩
   | rt d fr => cases hf;exact ⟨fun _ _ => False,fun _ _ z => z.elim,pb.ok (h.up E1) e2 k⟩
  | false =>
   cases hf
   rw [if_neg Bool.false_ne_true]
   exact k _ _ _ (h.up E1)⟩
def JR (fr : Bool) : Option Ot → Option PyData
 | some (.rt d b) => if fr = true∧b = false then (match d with | .none => some .none | _ => none) else some d
 | some (.nx _) => if fr then none else some .none
 | _ => none
def st (ds : List PyData) (N : Nat) : Rho := ds.map Sl.sh ++ List.replicate (N - ds.length) .un
def run (f : Nat → Rho → Option Ot) (k N n : Nat) (fr : Bool) (ds : List PyData) : Option PyData := if ds.length = k then JR fr (f n (st ds N)) else none
theorem qL {t : TS3} (b : PuS t) (N : List Str) (k n : Nat) (fr : Bool) : ∀ ts G q,PSp (run b.f k N.length n fr) fr ts G q → ts.length = k∧t { nx := fun _ G' => q .non G',rt := q } (qs N ts) G := by
 rintro ts G q ⟨D,ds,d,hs,hd,hf,h⟩
 unfold run at hf
 split at hf
 ·rename_i hk
  refine ⟨by rw [hs.length];exact hk,?_⟩
  have r : RS D G (fun _ => none) (qs N ts) (st ds N.length) G := by
   refine ⟨Ex.refl,hd,(fun i p e => by cases e),(fun i p e => by cases e),(fun i j p e => by cases e),(by simp [st,qs,hs.length]),fun i d' e => ?_,fun i es e => ?_⟩
   ·unfold st at e
    unfold qs
    by_cases hi : i < ds.length
    ·rw [List.getElem?_append_left (by simpa using hi),List.getElem?_map] at e
     obtain ⟨d2,e3,e4⟩ := Option.map_eq_some_iff.mp e
     cases e4
     obtain ⟨x,e5,hx⟩ := hs.get e3
     refine ⟨x,?_,hx.up (zK fun b z => ?_)⟩
     ·rw [List.getElem?_append_left (by simp [hs.length];exact hi),List.getElem?_map,e5];rfl
     ·rcases z with z | ⟨i,z⟩
      ·exact z
      ·cases z
    ·rw [List.getElem?_append_right (by simpa using hi),List.getElem?_replicate] at e
     split at e <;> cases e
   ·unfold st at e
    by_cases hi : i < ds.length
    ·rw [List.getElem?_append_left (by simpa using hi),List.getElem?_map] at e
     obtain ⟨d2,e3,e4⟩ := Option.map_eq_some_iff.mp e
     cases e4
    ·rw [List.getElem?_append_right (by simpa using hi),List.getElem?_replicate] at e
     split at e <;> cases e
  unfold JR at hf
  split at hf
  ·rename_i d' b' e
   split at hf
   ·split at hf
    ·cases hf
     exact b.ok r e fun x G' a c z => h x G' a c fun _ => .inl rfl
    ·cases hf
   ·rename_i hb
    cases hf
    exact b.ok r e fun x G' a c z => h x G' a c fun w => z (by
     cases b' with
     | true => rfl
     | false => exact absurd ⟨w,rfl⟩ hb)
  ·rename_i ρ' e
   split at hf
   ·cases hf
   ·rename_i hb
    cases hf
    exact b.ok r e fun A τ G' r' => h .non G' r'.ex .non fun w => absurd w hb
  ·cases hf
 ·cases hf
end Pu
namespace Pu
open PySem L2 L3
mutual
def tD : T → Option PyData
 | .non => some .none | .bl b => some (.bool b) | .int i => some (.int i) | .str x => some (.str x) | .tup xs => (tDs xs).map .tuple | .ref _ => none
def tDs : List T → Option (List PyData)
 | [] => some []
 | x :: r => (tD x).bind fun d => (tDs r).map (d :: ·)
end
mutual
theorem qlr {G : Gp} : ∀ (t : T) {d : PyData},tD t = some d → Dq G t d
 | .non,_,h => by cases h;exact .non
 | .bl b,_,h => by cases h;exact .bl b
 | .int b,_,h => by cases h;exact .int b
 | .str b,_,h => by cases h;exact .str b
 | .tup xs,_,h => by
  unfold tD at h
  obtain ⟨ds,e,rfl⟩ := Option.map_eq_some_iff.mp h
  exact .tup (qeC xs e)
 | .ref _,_,h => by cases h
theorem qeC {G : Gp} : ∀ (t : List T) {d : List PyData},tDs t = some d → Dqs G t d
 | [],_,h => by cases h;exact .nil
 | x :: r,_,h => by
  unfold tDs at h
  obtain ⟨d,e,h⟩ := Option.bind_eq_some_iff.mp h
  obtain ⟨ds,e2,rfl⟩ := Option.map_eq_some_iff.mp h
  exact .cons (qlr x e) (qeC r e2)
end
def asS : PyData → Option Str
 | .str s => some s
 | _ => none
theorem qiJ {d : PyData} {b : Str} (h : asS d = some b) : d = .str b := by cases d <;> simp [asS] at h;subst h;rfl
def qkt (tab : List (Str × T)) {te : TE3} (a : PuE te) : PuE (qco tab te) := ⟨fun ρ => ((a.f ρ).bind asS).bind fun s => (YM tab s).bind tD,a.fv,false,fun hv hd hf k => by
 obtain ⟨s,e1,hf⟩ := Option.bind_eq_some_iff.mp hf
 obtain ⟨d,e1,e2⟩ := Option.bind_eq_some_iff.mp e1
 have := qiJ e2;subst this
 obtain ⟨t,e3,hf⟩ := Option.bind_eq_some_iff.mp hf
 refine a.ok hv hd e1 fun x' G1 E1 D1 _ => ?_
 cases D1
 simp only [e3]
 exact k _ _ E1 (qlr t hf) (fun z => by cases z)⟩
theorem qbZ {fr : Bool} : ∀ ts G q,PSp (fun _ => none) fr ts G q → False := fun ts G q ⟨_,_,_,_,_,h,_⟩ => by cases h
theorem Fn3.pz {P : Program} {w : World} {K : PySem.W.Frag} {mg : Str → Option Value} {base : Heap} {k : Nat} {x : Str} {sp : Sp3} (F : Fn3 P w K mg base k x sp) (fr : Bool) : Fn3 P w K mg base k x (PSp (fun _ => none) fr) := F.imp fun ts G q h => (qbZ ts G q h).elim
end Pu
namespace Pu
open PySem L2 L3
theorem qn0 {i : Nat} : (bV i).f = fun ρ => vw ρ i := id rfl
theorem qeS {i : Int} : (qz i).f = fun _ => some (.int i) := id rfl
theorem qh1 {i : Bool} : (bBl i).f = fun _ => some (.bool i) := id rfl
theorem qeB {i : Str} : (XD i).f = fun _ => some (.str i) := id rfl
theorem qeP : qgD.f = fun _ => some .none := id rfl
theorem qoh {r : R3} {ta tb : TE3} {R : OpD r} {a : PuE ta} {b : PuE tb} : (bO R a b).f = fun ρ => (a.f ρ).bind fun x => (b.f ρ).bind fun y => R.f x y := id rfl
theorem qdx : qA.f = fun _ => some [] := id rfl
theorem qaZ {ta : TE3} {tr : TA3} {a : PuE ta} {r : PuA tr} : (qf a r).f = fun ρ => (a.f ρ).bind fun x => (r.f ρ).bind fun xs => some (x :: xs) := id rfl
theorem qeG {t : TA3} {a : PuA t} {hn : Tru (Nat.ble a.n 1000)} : (YG a hn).f = fun ρ => (a.f ρ).map .tuple := id rfl
theorem qcW {t : TA3} {a : PuA t} {hn : Tru (Nat.ble a.n 1000)} : (qbz a hn).f = fun ρ => (a.f ρ).map .list := id rfl
theorem NV {r : List T → Gp → Q3 → Prop} {t : TA3} {R : FnD r} {a : PuA t} : (qB R a).f = fun ρ => (a.f ρ).bind R.f := id rfl
theorem qhe {t : TE3} {a : PuE t} : (bTb a).f = fun ρ => (a.f ρ).bind asB := id rfl
theorem qd2 {t u : TT3} {a : PuC t} {b : PuC u} : (qn9 a b).f = fun ρ => (a.f ρ).bind fun k => if k then b.f ρ else some false := id rfl
theorem qkN {t u : TT3} {a : PuC t} {b : PuC u} : (bOr a b).f = fun ρ => (a.f ρ).bind fun k => if k then some true else b.f ρ := id rfl
theorem qdz {t : TT3} {a : PuC t} : (qgU a).f = fun ρ => (a.f ρ).map (! ·) := id rfl
theorem qj7 : bTt.f = fun _ => some true := id rfl
theorem N9 {ta tb : TE3} {a : PuE ta} {b : PuE tb} : (WC a b).f = fun ρ => ((a.f ρ).bind asB).bind fun k => if k then b.f ρ else some (.bool false) := id rfl
theorem qaj {ta : TE3} {a : PuE ta} : (qhn a).f = fun ρ => ((a.f ρ).bind asB).map fun k => .bool (!k) := id rfl
theorem qeY {ta : TE3} {a : PuE ta} : (qlY a).f = fun ρ => ((a.f ρ).bind asI).map fun i => .int (-i) := id rfl
theorem qkY {r r' : R3} {ta tb tc : TE3} {R : OpD r} {R' : OpD r'} {a : PuE ta} {b : PuE tb} {c : PuE tc} : (bCh R R' a b c).f = fun ρ => (a.f ρ).bind fun x => (b.f ρ).bind fun y => ((R.f x y).bind asB).bind fun k => if k then (c.f ρ).bind fun z => R'.f y z else some (.bool false) := id rfl
theorem qes {ta : TE3} {g : String → Bool} {a : PuE ta} : (qlP g a).f = fun ρ => (a.f ρ).bind fun d => (tyD d).map fun t => .bool (g t) := id rfl
theorem qiH {t : TE3} {a : PuE t} : (bSp a).f = fun ρ => ((a.f ρ).bind asI).map some := id rfl
theorem qg5 {te : TE3} {tl th : TO3} {a : PuE te} {l : PuO tl} {h : PuO th} : (bSl a l h).f = fun ρ => (a.f ρ).bind fun d => (l.f ρ).bind fun lo => (h.f ρ).bind fun hi => slD d lo hi := id rfl
theorem qa2 {tab : List (Str × T)} {te : TE3} {a : PuE te} : (qkt tab a).f = fun ρ => ((a.f ρ).bind asS).bind fun s => (YM tab s).bind tD := id rfl
theorem qh7 {wi : TI3} {g : TG3} {tif : TT3} {te : TE3} {pi : PuI wi} {pg : PuG g} {pc : PuC tif} {pe : PuE te} {m : List (Option Nat)} {hm : Tru (pg.tg.all fun i => m[i]? == some none)} : (bLc pi pg pc pe m hm).f = lcF pi.f (lcH pg.f pc.f pe.f) m := id rfl
theorem qdO {wi wi2 : TI3} {g g2 : TG3} {tif tif2 : TT3} {te : TE3} {pi : PuI wi} {pg : PuG g} {pc : PuC tif} {pi2 : PuI wi2} {pg2 : PuG g2} {pc2 : PuC tif2} {pe : PuE te} {m : List (Option Nat)} {hm : Tru (pg.tg.all fun i => m[i]? == some none)} {hm2 : Tru (pg2.tg.all fun i => m[i]? == some none)} {hdj : Tru (pg2.tg.all fun i => !pg.tg.contains i)} : (qjN pi pg pc pi2 pg2 pc2 pe m hm hm2 hdj).f = qlG pi.f (qiy pg.f pc.f pi2.f (lcH pg2.f pc2.f pe.f)) m := id rfl
theorem qdN : qeX.f = qeq := id rfl
theorem qdJ : qnE.f = qlR := id rfl
theorem qe2 : qoi.f = qlV := id rfl
theorem qdd : qmK.f = ql6 := id rfl
theorem qeZ : qmy.f = ql7 := id rfl
theorem qc8 : qoq.f = qlB := id rfl
theorem qbo : qfR.f = mnD := id rfl
theorem NJ : qgN.f = mxD := id rfl
theorem qbg {F : List PyData → Option PyData} {fr : Bool} : (qV F fr).f = F := id rfl
theorem qk5 {g : Int → Int → Int} {i j : Int} : (opI g).f (.int i) (.int j) = some (.int (g i j)) := id rfl
theorem qlJ {g : Int → Int → Bool} {i j : Int} : (opB g).f (.int i) (.int j) = some (.bool (g i j)) := id rfl
theorem qiV {C : Int → Int → Prop} {g : Int → Int → Int} : (opC C g).f = cI C g := id rfl
theorem qc4 {n : Bool} : (XB n).f = eqD n := id rfl
theorem qav {n : Bool} : (qa5 n).f = qg0 n := id rfl
theorem qeL : zw.f = ixD := id rfl
theorem qad : Z5.f = qlX := id rfl
theorem LR : LH.f = ql0 := id rfl
theorem qc2 {t : TE3} {a : PuE t} : (qcb a).f = fun ρ => (a.f ρ).bind ql1 := id rfl
theorem qd9 {t : TA3} {a : PuA t} : (MZ a).f = fun ρ => (a.f ρ).bind qgM := id rfl
theorem qbE {t : TE3} {a : PuE t} : (qcb a).nm = false := id rfl
theorem qaK {t : TA3} {a : PuA t} : (MZ a).nm = true := id rfl
theorem qow {i : Nat} : (gN i).f = fun d => some [(i,d)] := id rfl
theorem qdt : WJ.f [] = some [] := id rfl
theorem qa6 {t : TG3} {u : S6} {a : PuG t} {b : PuGs u} {d : PyData} {r : List PyData} : (qR a b).f (d :: r) = (a.f d).bind fun x => (b.f r).map fun y => x ++ y := id rfl
theorem qdo {u : S6} {n : Nat} {b : PuGs u} {ds : List PyData} : (D8 n b).f (.tuple ds) = if ds.length = n then b.f ds else none := id rfl
theorem qaP : YH.f = fun _ ρ => some (.nx ρ) := id rfl
theorem qed {t u : TS3} {a : PuS t} {b : PuS u} : (Z0 a b).f = ql9 a.f b.f := id rfl
theorem qkF {c : TT3} {t u : TS3} {pc : PuC c} {a : PuS t} {b : PuS u} : (sIf pc a b).f = fun n ρ => (pc.f ρ).bind fun k => if k then a.f n ρ else b.f n ρ := id rfl
theorem qdU {t : TE3} {a : PuE t} : (ZX a).f = fun _ ρ => (a.f ρ).map fun d => .rt d a.nw := id rfl
theorem qaq {i : Nat} : (qgz i).f = fun _ ρ => qgS ρ i := id rfl
theorem qez {t : TE3} {a : PuE t} {i : Nat} {m : List Bool} {hm : Tru (a.fv.all (mkb m))} : (NH a i m hm).f = fun _ ρ => (a.f ρ).map fun d => .nx (NF m a.nw i d ρ) := id rfl
theorem qak {t : TE3} {g : TG3} {a : PuE t} {pg : PuG g} {m : List Bool} {hm : Tru (a.fv.all (mkb m))} : (D7 a pg m hm).f = fun _ ρ => (a.f ρ).bind fun d => (pg.f d).map fun bs => .nx (QB (dm m ρ) bs) := id rfl
theorem qc3 {t : TE3} {a : PuE t} {i : Nat} : (qnw a i).f = fun _ ρ => (a.f ρ).bind fun d => qly i d ρ := id rfl
theorem qdD {wi : TI3} {g : TG3} {tb : TS3} {pi : PuI wi} {pg : PuG g} {pb : PuS tb} {m : List Bool} {hm : Tru (pi.fv.all (mkb m))} : (ql8 pi pg pb m hm).f = qiG pi.f pi.nm m pg.f pb.f := id rfl
theorem qkx {c : TT3} {tb : TS3} {pc : PuC c} {pb : PuS tb} : (sWh pc pb).f = fun n ρ => whP pc.f (pb.f n) n ρ := id rfl
theorem qbp {i : Int} : (qz i).nw = false := id rfl
theorem qeR {i : Bool} : (bBl i).nw = false := id rfl
theorem qac : qgD.nw = false := id rfl
theorem qhT {r : R3} {ta tb : TE3} {R : OpD r} {a : PuE ta} {b : PuE tb} : (bO R a b).nw = R.nw := id rfl
theorem qaD {t : TA3} {a : PuA t} {hn : Tru (Nat.ble a.n 1000)} : (YG a hn).nw = false := id rfl
theorem qam {t : TA3} {a : PuA t} {hn : Tru (Nat.ble a.n 1000)} : (qbz a hn).nw = true := id rfl
theorem K8 {r : List T → Gp → Q3 → Prop} {t : TA3} {R : FnD r} {a : PuA t} : (qB R a).nw = R.nw := id rfl
theorem LJ {F : List PyData → Option PyData} {fr : Bool} : (qV F fr).nw = fr := id rfl
theorem LM {ta tb : TE3} {a : PuE ta} {b : PuE tb} : (WC a b).nw = false := id rfl
theorem qd0 {wi : TI3} {g : TG3} {tif : TT3} {te : TE3} {pi : PuI wi} {pg : PuG g} {pc : PuC tif} {pe : PuE te} {m : List (Option Nat)} {hm : Tru (pg.tg.all fun i => m[i]? == some none)} : (bLc pi pg pc pe m hm).nw = true := id rfl
theorem qbd {wi wi2 : TI3} {g g2 : TG3} {tif tif2 : TT3} {te : TE3} {pi : PuI wi} {pg : PuG g} {pc : PuC tif} {pi2 : PuI wi2} {pg2 : PuG g2} {pc2 : PuC tif2} {pe : PuE te} {m : List (Option Nat)} {hm : Tru (pg.tg.all fun i => m[i]? == some none)} {hm2 : Tru (pg2.tg.all fun i => m[i]? == some none)} {hdj : Tru (pg2.tg.all fun i => !pg.tg.contains i)} : (qjN pi pg pc pi2 pg2 pc2 pe m hm hm2 hdj).nw = true := id rfl
theorem qbw : qnE.nw = false := id rfl
theorem N7 : qmK.nw = false := id rfl
theorem NK : qmy.nw = true := id rfl
theorem qaJ : zw.nw = false := id rfl
theorem LK : Z5.nw = false := id rfl
theorem SX : LH.nw = true := id rfl
theorem LT {n : Bool} : (qa5 n).nw = false := id rfl
theorem qeO {C : Int → Int → Prop} {g : Int → Int → Int} : (opC C g).nw = false := id rfl
theorem qov {s : Sl} {r : Rho} : vw (s :: r) 0 = s.d := id rfl
theorem qn6 {s : Sl} {r : Rho} {i : Nat} : vw (s :: r) (i + 1) = vw r i := id rfl
theorem qjh {d : PyData} : (Sl.sh d).d = some d := id rfl
theorem qk8 {ds : List PyData} : (Sl.ow ds).d = some (.list ds) := id rfl
theorem qbh {r : Rho} {d : PyData} : qgS (.sh d :: r) 0 = some (.rt d false) := id rfl
theorem qc6 {s : Sl} {r : Rho} {i : Nat} : qgS (s :: r) (i + 1) = qgS r i := id rfl
theorem qlk {xs : List PyData} {i : Int} : ixD (.tuple xs) (.int i) = L2.atI xs i := id rfl
theorem qjt {xs : List PyData} {i : Int} : ixD (.list xs) (.int i) = L2.atI xs i := id rfl
theorem at0 {α : Type} {a : α} {r : List α} : L2.atI (a :: r) 0 = some a := by simp [L2.atI,ixN]
theorem at1 {α : Type} {a b : α} {r : List α} : L2.atI (a :: b :: r) 1 = some b := by
 have h : ixN (a :: b :: r).length 1 = some 1 := by unfold ixN;rw [if_pos (by omega),if_pos (by simp;omega)];rfl
 unfold L2.atI;rw [h];rfl
theorem at2 {α : Type} {a b c : α} {r : List α} : L2.atI (a :: b :: c :: r) 2 = some c := by
 have h : ixN (a :: b :: c :: r).length 2 = some 2 := by unfold ixN;rw [if_pos (by omega),if_pos (by simp;omega)];rfl
 unfold L2.atI;rw [h];rfl
theorem at3 {α : Type} {a b c d : α} {r : List α} : L2.atI (a :: b :: c :: d :: r) 3 = some d := by
 have h : ixN (a :: b :: c :: d :: r).length 3 = some 3 := by unfold ixN;rw [if_pos (by omega),if_pos (by simp;omega)];rfl
 unfold L2.atI;rw [h];rfl
theorem at4 {α : Type} {a b c d e : α} {r : List α} : L2.atI (a :: b :: c :: d :: e :: r) 4 = some e := by
 have h : ixN (a :: b :: c :: d :: e :: r).length 4 = some 4 := by unfold ixN;rw [if_pos (by omega),if_pos (by simp;omega)];rfl
 unfold L2.atI;rw [h];rfl
theorem at5 {α : Type} {a b c d e f : α} {r : List α} : L2.atI (a :: b :: c :: d :: e :: f :: r) 5 = some f := by
 have h : ixN (a :: b :: c :: d :: e :: f :: r).length 5 = some 5 := by unfold ixN;rw [if_pos (by omega),if_pos (by simp;omega)];rfl
 unfold L2.atI;rw [h];rfl
theorem atN {α : Type} {xs : List α} {k : Nat} (h : k < xs.length) : L2.atI xs (k : Int) = xs[k]? := by
 have e : ixN xs.length (k : Int) = some k := by unfold ixN;rw [if_pos (by omega),if_pos (by omega)];rfl
 unfold L2.atI;rw [e];rfl
theorem eqS {n : Bool} {a b : Str} : eqD n (.str a) (.str b) = some (.bool (if n then !decide (a = b) else decide (a = b))) := id rfl
theorem eqI {n : Bool} {a b : Int} : eqD n (.int a) (.int b) = some (.bool (if n then !decide (a = b) else decide (a = b))) := id rfl
theorem qjj {n : Bool} : qg0 n .none .none = some (.bool !n) := id rfl
theorem qlf {n : Bool} {xs : List PyData} : qg0 n (.tuple xs) .none = some (.bool n) := id rfl
theorem NQ {C : Int → Int → Prop} {g : Int → Int → Int} {i j : Int} (h : C i j) : cI C g (.int i) (.int j) = some (.int (g i j)) := by simp only [cI];exact zO h
theorem qer {i j : Int} (h : -1000000 < j∧j < 1000000) : cI jd (· * ·) (.int i) (.int j) = some (.int (i * j)) := NQ (.inr ⟨by omega,by omega⟩)
theorem ZQ {i j : Int} (h : -1000000 < i∧i < 1000000) : cI jd (· * ·) (.int i) (.int j) = some (.int (i * j)) := NQ (.inl ⟨by omega,by omega⟩)
theorem R5 {i j : Int} (h : 0 < j) : cI (fun _ j => 0 < j) (· % ·) (.int i) (.int j) = some (.int (i % j)) := NQ h
theorem qin {i j : Int} (h : 0 < j∧j < 1073741824) : cI qas (· / ·) (.int i) (.int j) = some (.int (i / j)) := NQ h
theorem qk9 {i j : Int} (h : 0 ≤ j∧j ≤ 1000000∧i.natAbs < 2 ^ 64) : cI S4 (fun i j => i * 2 ^ j.toNat) (.int i) (.int j) = some (.int (i * 2 ^ j.toNat)) := NQ h
theorem qn7 {i j : Int} : qlX (.int i) (.int j) = some (.int (i + j)) := id rfl
theorem qgY {j : Int} (h : -1000000000 ≤ j∧j < 1000000000) : qgM [.int j] = some ((jZ 0 j.toNat).map PyData.int) := by simp only [qgM];exact zO ⟨by omega,by omega⟩
theorem qgn {i j : Int} (h : -1000000000 ≤ i∧i < 1000000000∧-1000000000 ≤ j∧j < 1000000000) : qgM [.int i,.int j] = some ((jZ i (j - i).toNat).map PyData.int) := by simp only [qgM];exact zO ⟨by omega,by omega,by omega,by omega⟩
theorem UW {pi : Rho → Option (List PyData)} {h : Rho → PyData → Option (Option PyData)} {m : List (Option Nat)} {ρ : Rho} {ds fs : List PyData} (h1 : pi ρ = some ds) (h2 : lcP (h (S5 m ρ)) ds = some fs) (h3 : fs.length ≤ 16777216) : lcF pi h m ρ = some (.list fs) := by unfold lcF;rw [h1];simp only [Option.bind_some,h2];exact zO h3
theorem KQ {pi : Rho → Option (List PyData)} {h : Rho → PyData → Option (Option (List PyData))} {m : List (Option Nat)} {ρ : Rho} {ds fs : List PyData} (h1 : pi ρ = some ds) (h2 : qe3 (h (S5 m ρ)) ds = some fs) (h3 : fs.length ≤ 16777216) : qlG pi h m ρ = some (.list fs) := by unfold qlG;rw [h1];simp only [Option.bind_some,h2];exact zO h3
theorem qbV {gf : PyData → Option (List (Nat × PyData))} {bf : Rho → Option Ot} {α : Type} {g : α → PyData} (xs : List α) (I : Nat → Rho → Prop) {ρ : Rho} (h0 : I 0 ρ)
  (hs : ∀ i x ρ,xs[i]? = some x → I i ρ → ∃ bs ρ',gf (g x) = some bs∧(bf (QB ρ bs) = some (.nx ρ') ∨ bf (QB ρ bs) = some (.ct ρ'))∧I (i + 1) ρ') : ∃ ρ',WO gf bf (xs.map g) ρ = some (.nx ρ')∧I xs.length ρ' := by
 have key : ∀ (r : List α) (i : Nat) (ρ : Rho),xs.drop i = r → i ≤ xs.length → I i ρ → ∃ ρ',WO gf bf (r.map g) ρ = some (.nx ρ')∧I xs.length ρ' := by
  intro r
  induction r with
  | nil =>
   intro i ρ e hi h
   have : i = xs.length := by
    have := congrArg List.length e
    simp at this;omega
   subst this
   exact ⟨ρ,rfl,h⟩
  | cons x r ih =>
   intro i ρ e hi h
   have hl : i < xs.length := by
    have := congrArg List.length e
    simp at this;omega
   have e' := List.drop_eq_getElem_cons hl
   rw [e] at e'
   injection e' with e1 e2
   obtain ⟨bs,ρ',h1,h2,h3⟩ := hs i x ρ (by rw [List.getElem?_eq_getElem hl,e1]) h
   obtain ⟨ρ2,h4,h5⟩ := ih (i + 1) ρ' e2.symm hl h3
   refine ⟨ρ2,?_,h5⟩
   simp only [List.map_cons,WO,h1,Option.bind_some]
   rcases h2 with h2 | h2 <;> (rw [h2];exact h4)
 exact key xs 0 ρ (by simp) (Nat.zero_le _) h0
theorem qa7 {gf : PyData → Option (List (Nat × PyData))} {bf : Rho → Option Ot} {α : Type} {g : α → PyData} (xs : List α) (n : Nat) (x : α) (hn : xs[n]? = some x) (I : Nat → Rho → Prop) {ρ : Rho} {o : Ot} (h0 : I 0 ρ)
  (hs : ∀ i x ρ,i < n → xs[i]? = some x → I i ρ → ∃ bs ρ',gf (g x) = some bs∧(bf (QB ρ bs) = some (.nx ρ') ∨ bf (QB ρ bs) = some (.ct ρ'))∧I (i + 1) ρ')
  (he : ∀ ρ,I n ρ → ∃ bs,gf (g x) = some bs∧((∃ d b,o = .rt d b∧bf (QB ρ bs) = some (.rt d b)) ∨ ∃ ρ',o = .nx ρ'∧bf (QB ρ bs) = some (.bk ρ'))) : WO gf bf (xs.map g) ρ = some o := by
 have hl := (List.getElem?_eq_some_iff.mp hn).1
 have key : ∀ (k i : Nat) (ρ : Rho),i + k = n → I i ρ → WO gf bf ((xs.drop i).map g) ρ = some o := by
  intro k
  induction k with
  | zero =>
   intro i ρ e h
   have : i = n := by omega
   subst this
   obtain ⟨bs,h1,h2⟩ := he ρ h
   rw [List.drop_eq_getElem_cons hl]
   have ex : xs[i] = x := by
    rw [List.getElem?_eq_getElem hl] at hn
    exact Option.some.inj hn
   rw [ex]
   simp only [List.map_cons,WO,h1,Option.bind_some]
   rcases h2 with ⟨d,b,rfl,h2⟩ | ⟨ρ',rfl,h2⟩ <;> (rw [h2];rfl)
  | succ k ih =>
   intro i ρ e h
   have hi : i < xs.length := by omega
   obtain ⟨bs,ρ',h1,h2,h3⟩ := hs i xs[i] ρ (by omega) (List.getElem?_eq_getElem hi) h
   rw [List.drop_eq_getElem_cons hi]
   simp only [List.map_cons,WO,h1,Option.bind_some]
   rcases h2 with h2 | h2 <;> (rw [h2];exact ih (i + 1) ρ' (by omega) h3)
 exact key n 0 ρ (by omega) h0
def sqk (b : Nat → Rho → Option Ot) (n : Nat) (o : Ot) : Option Ot := match o with | .nx ρ' => b n ρ' | o => some o
theorem qeI {a b : Nat → Rho → Option Ot} {n : Nat} {ρ : Rho} : ql9 a b n ρ = (a n ρ).bind (sqk b n) := id rfl
theorem qeV {b : Nat → Rho → Option Ot} {n : Nat} {ρ : Rho} : sqk b n (.nx ρ) = b n ρ := id rfl
theorem qde {b : Nat → Rho → Option Ot} {n : Nat} {d : PyData} {f : Bool} : sqk b n (.rt d f) = some (.rt d f) := id rfl
theorem qar {d : PyData} : JR true (some (.rt d true)) = some d := id rfl
theorem qdY {d : PyData} {b : Bool} : JR false (some (.rt d b)) = some d := by simp [JR]
theorem qk0 {b : Bool} : asB (.bool b) = some b := id rfl
theorem qjm {b : Int} : asI (.int b) = some b := id rfl
theorem qj4 {b : Str} : asS (.str b) = some b := id rfl
theorem qdP {xs : List PyData} : qeq [.tuple xs] = some (.int xs.length) := id rfl
theorem qdH {xs : List PyData} : qeq [.list xs] = some (.int xs.length) := id rfl
theorem qdj {i : Int} : qlR [.int i] = some (.int (if i < 0 then -i else i)) := id rfl
theorem qcO {i : Bool} : qlV [.bool i] = some (.int (if i then 1 else 0)) := id rfl
theorem qdf {xs : List PyData} : ql6 [.list xs] = some (.tuple xs) := id rfl
theorem qeA {xs : List PyData} : ql7 [.tuple xs] = some (.list xs) := id rfl
theorem qaI {xs : List Bool} : qlB [.list (xs.map PyData.bool)] = some (.bool (xs.all id)) := by simp only [qlB,qcu,Option.map_some]
theorem qka {xs : List Int} (h : xs ≠ []) : mnD [.list (xs.map PyData.int)] = some (.int (mn xs)) := by simp only [mnD,SU,Option.bind_some];exact zO h
theorem qkA {xs : List Int} (h : xs ≠ []) : mxD [.list (xs.map PyData.int)] = some (.int (mx xs)) := by simp only [mxD,SU,Option.bind_some];exact zO h
theorem qcQ {xs : List PyData} : ql1 (.list xs) = some xs := id rfl
theorem qhh {i : Int} : tyD (.int i) = some "int" := id rfl
theorem qjL {i : List PyData} : tyD (.tuple i) = some "tuple" := id rfl
theorem qlC {m : List Bool} {nw : Bool} {i : Nat} {v : Int} {ρ : Rho} : NF m nw i (.int v) ρ = ρ.set i (.sh (.int v)) := id rfl
theorem qla {m : List Bool} {nw : Bool} {i : Nat} {v : Str} {ρ : Rho} : NF m nw i (.str v) ρ = ρ.set i (.sh (.str v)) := id rfl
theorem qkO {m : List Bool} {nw : Bool} {i : Nat} {ρ : Rho} : NF m nw i .none ρ = ρ.set i (.sh .none) := id rfl
theorem qfl {m : List Bool} {nw : Bool} {i : Nat} {v : List PyData} {ρ : Rho} : NF m nw i (.tuple v) ρ = (dm m ρ).set i (.sh (.tuple v)) := by cases nw <;> rfl
theorem qdK {m : List Bool} {i : Nat} {v : List PyData} {ρ : Rho} : NF m true i (.list v) ρ = (dm m ρ).set i (.ow v) := id rfl
theorem qos {ρ : Rho} : dm [] ρ = ρ := id rfl
theorem qok {m : List Bool} {s : Sl} {ρ : Rho} : dm (true :: m) (s :: ρ) = s.dem :: dm m ρ := id rfl
theorem qoE {m : List Bool} {s : Sl} {ρ : Rho} : dm (false :: m) (s :: ρ) = s :: dm m ρ := id rfl
theorem qkX {ds : List PyData} : (Sl.ow ds).dem = .sh (.list ds) := id rfl
theorem qky {d : PyData} : (Sl.sh d).dem = .sh d := id rfl
theorem qg2 {ρ : Rho} : S5 [] ρ = [] := id rfl
theorem qim {m : List (Option Nat)} {ρ : Rho} : S5 (none :: m) ρ = .un :: S5 m ρ := id rfl
def cp (o : Option PyData) : Sl := match o with | some d => .sh d | none => .un
theorem qkE {m : List (Option Nat)} {j : Nat} {ρ : Rho} : S5 (some j :: m) ρ = cp (vw ρ j) :: S5 m ρ := id rfl
theorem qoz {d : PyData} : cp (some d) = .sh d := id rfl
theorem qdV {i : Nat} {x y : Int} {ρ : Rho} (h : vw ρ i = some (.int x)) : qly i (.int y) ρ = some (.nx (ρ.set i (.sh (.int (x + y))))) := by unfold qly;rw [h];rfl
theorem qhk {i j : Nat} {m : List Bool} {x y : Int} {ρ : Rho} : ql3 i j m [.int x,.int y] ρ = some (.nx ((ρ.set i (.sh (.int x))).set j (.sh (.int y)))) := id rfl
theorem qdh {pi : Rho → Option (List PyData)} {m : List Bool} {gf : PyData → Option (List (Nat × PyData))} {bf : Nat → Rho → Option Ot} {n : Nat} {ρ : Rho} : qiG pi true m gf bf n ρ = (pi ρ).bind fun ds => WO gf (bf n) ds ρ := id rfl
theorem qc9 {pi : Rho → Option (List PyData)} {m : List Bool} {gf : PyData → Option (List (Nat × PyData))} {bf : Nat → Rho → Option Ot} {n : Nat} {ρ : Rho} : qiG pi false m gf bf n ρ = (pi ρ).bind fun ds => WO gf (bf n) ds (dm m ρ) := id rfl
theorem qee {ρ : Rho} : QB ρ [] = ρ := id rfl
theorem qdS {ρ : Rho} {i : Nat} {d : PyData} {r : List (Nat × PyData)} : QB ρ ((i,d) :: r) = QB (ρ.set i (.sh d)) r := id rfl
theorem UN {gf : PyData → Option (List (Nat × PyData))} {cf : Rho → Option Bool} {ef : Rho → Option PyData} {ρ : Rho} {d : PyData} : lcH gf cf ef ρ d = (gf d).bind fun bs => (cf (QB ρ bs)).bind fun k => if k then (ef (QB ρ bs)).map some else some none := id rfl
theorem qbD {gf : PyData → Option (List (Nat × PyData))} {cf : Rho → Option Bool} {it : Rho → Option (List PyData)} {h : Rho → PyData → Option (Option PyData)} {ρ : Rho} {d : PyData} : qiy gf cf it h ρ d = (gf d).bind fun bs => (cf (QB ρ bs)).bind fun k => if k then ((it (QB ρ bs)).bind fun ds => lcP (h (QB ρ bs)) ds).map some else some none := id rfl
def Nx (o : Option Ot) (P : Rho → Prop) : Prop := match o with | some (.nx ρ) => P ρ | some (.ct ρ) => P ρ | _ => False
theorem qjK {ρ : Rho} {P : Rho → Prop} : Nx (some (.nx ρ)) P = P ρ := id rfl
theorem qfd {o : Option Ot} {P : Rho → Prop} (h : Nx o P) : ∃ ρ,(o = some (.nx ρ) ∨ o = some (.ct ρ))∧P ρ := by
 unfold Nx at h
 split at h
 ·exact ⟨_,.inl rfl,h⟩
 ·exact ⟨_,.inr rfl,h⟩
 ·exact h.elim
section
variable {gf : PyData → Option (List (Nat × PyData))} {bf : Rho → Option Ot} {α : Type} {g : α → PyData} {ρ : Rho} {Q : Option Ot → Prop} {F : Ot → Option Ot}
theorem XM (xs : List α) (I : Nat → Rho → Prop) (h0 : I 0 ρ) (hs : ∀ i x ρ,xs[i]? = some x → I i ρ → Nx ((gf (g x)).bind fun bs => bf (QB ρ bs)) (I (i + 1))) (k : ∀ ρ',I xs.length ρ' → Q (some (.nx ρ'))) : Q (WO gf bf (xs.map g) ρ) := by
 obtain ⟨ρ',e,h⟩ := qbV (gf := gf) (bf := bf) (g := g) xs I h0 fun i x ρ hx hi => by
  obtain ⟨ρ2,e,h⟩ := qfd (hs i x ρ hx hi)
  cases e1 : gf (g x) with
  | none => rw [e1] at e;rcases e with e | e <;> cases e
  | some bs => rw [e1] at e;exact ⟨bs,ρ2,rfl,e,h⟩
 rw [e]
 exact k ρ' h
theorem qa9 (xs : List α) (I : Nat → Rho → Prop) (h0 : I 0 ρ) (hs : ∀ i x ρ,xs[i]? = some x → I i ρ → Nx ((gf (g x)).bind fun bs => bf (QB ρ bs)) (I (i + 1))) (k : ∀ ρ',I xs.length ρ' → Q (F (.nx ρ'))) : Q ((WO gf bf (xs.map g) ρ).bind F) :=
 XM (Q := fun o => Q (o.bind F)) xs I h0 hs k
theorem U0 (xs : List α) (n : Nat) (x : α) (d : PyData) (b : Bool) (hn : xs[n]? = some x) (I : Nat → Rho → Prop) (h0 : I 0 ρ) (hs : ∀ i x ρ,i < n → xs[i]? = some x → I i ρ → Nx ((gf (g x)).bind fun bs => bf (QB ρ bs)) (I (i + 1))) (he : ∀ ρ,I n ρ → ((gf (g x)).bind fun bs => bf (QB ρ bs)) = some (.rt d b)) (k : Q (some (.rt d b))) : Q (WO gf bf (xs.map g) ρ) := by
 rw [qa7 (gf := gf) (bf := bf) (g := g) xs n x hn I h0 (fun i x ρ hi hx hI => by
  obtain ⟨ρ2,e,h⟩ := qfd (hs i x ρ hi hx hI)
  cases e1 : gf (g x) with
  | none => rw [e1] at e;rcases e with e | e <;> cases e
  | some bs => rw [e1] at e;exact ⟨bs,ρ2,rfl,e,h⟩) (o := .rt d b) fun ρ hI => by
  have := he ρ hI
  cases e1 : gf (g x) with
  | none => rw [e1] at this;cases this
  | some bs => rw [e1] at this;exact ⟨bs,rfl,.inl ⟨d,b,rfl,this⟩⟩]
 exact k
theorem qfI (xs : List α) (n : Nat) (x : α) (d : PyData) (b : Bool) (hn : xs[n]? = some x) (I : Nat → Rho → Prop) (h0 : I 0 ρ) (hs : ∀ i x ρ,i < n → xs[i]? = some x → I i ρ → Nx ((gf (g x)).bind fun bs => bf (QB ρ bs)) (I (i + 1))) (he : ∀ ρ,I n ρ → ((gf (g x)).bind fun bs => bf (QB ρ bs)) = some (.rt d b)) (k : Q (F (.rt d b))) : Q ((WO gf bf (xs.map g) ρ).bind F) :=
 U0 (Q := fun o => Q (o.bind F)) xs n x d b hn I h0 hs he k
theorem qel {cf : Rho → Option Bool} {N : Nat} (n : Nat) (hn : n < N) (I : Nat → Rho → Prop) (h0 : I 0 ρ) (hc : ∀ i ρ,i < n → I i ρ → cf ρ = some true) (hs : ∀ i ρ,i < n → I i ρ → Nx (bf ρ) (I (i + 1))) (he : ∀ ρ,I n ρ → cf ρ = some false) (k : ∀ ρ',I n ρ' → Q (F (.nx ρ'))) : Q ((whP cf bf N ρ).bind F) := by
 have key : ∀ (k i M : Nat) (ρ : Rho),i + k = n → k < M → I i ρ → ∃ ρ',whP cf bf M ρ = some (.nx ρ')∧I n ρ' := by
  intro k
  induction k with
  | zero =>
   intro i M ρ e hM h
   have : i = n := by omega
   subst this
   cases M with
   | zero => omega
   | succ M => exact ⟨ρ,by unfold whP;rw [he ρ h];rfl,h⟩
  | succ k ih =>
   intro i M ρ e hM h
   cases M with
   | zero => omega
   | succ M =>
    have h1 := hc i ρ (by omega) h
    obtain ⟨ρ',h2,h3⟩ := qfd (hs i ρ (by omega) h)
    obtain ⟨ρ2,h4,h5⟩ := ih (i + 1) M ρ' (by omega) (by omega) h3
    refine ⟨ρ2,?_,h5⟩
    unfold whP
    rw [h1]
    rcases h2 with h2 | h2 <;> (simp only [Option.bind_some,if_pos,h2];exact h4)
 obtain ⟨ρ',e,h⟩ := key n 0 N ρ (by omega) hn h0
 rw [e]
 exact k ρ' h
end
theorem MJ {α : Type} {us : List α} (h : us.length = 1) : ∃ a0,us = [a0] := List.length_eq_one_iff.mp h
theorem W6 {α : Type} {us : List α} (h : us.length = 2) : ∃ a0 a1,us = [a0,a1] := by
 obtain ⟨a0,r,rfl⟩ := List.exists_cons_of_length_pos (show 0 < us.length by omega)
 obtain ⟨a1,rfl⟩ := MJ (show r.length = 1 by simpa using h)
 exact ⟨a0,a1,rfl⟩
theorem qei {α : Type} {us : List α} (h : us.length = 3) : ∃ a0 a1 a2,us = [a0,a1,a2] := by
 obtain ⟨a0,r,rfl⟩ := List.exists_cons_of_length_pos (show 0 < us.length by omega)
 obtain ⟨a1,a2,rfl⟩ := W6 (show r.length = 2 by simpa using h)
 exact ⟨a0,a1,a2,rfl⟩
end Pu
namespace Pu
open PySem L2 L3
end Pu
namespace Pu
open PySem L2 L3
end Pu
namespace Pu
open PySem L2 L3
end Pu
namespace Pv
open PySem L2 L3 Pu
def U6 : PuS (Bk.EC) := (ZX (bLc (MZ (qf (bV 2) qA)) (gN 0) bTt (YG (qf (bO (opC jd (· * ·)) (bV 0) (bV 1)) (qf (bO (opC jd (· * ·)) (bV 0) (bV 2)) qA)) ⟨rfl⟩) [none,some 0,some 1] ⟨rfl⟩))
def zn : List PyData → Option PyData := run (U6).f 3 3 1000000000 true
theorem qaW : ∀ ts G q,PSp (zn) true ts G q → ts.length = 3∧Bk.EC { nx := fun _ G' => q .non G',rt := q } (qs ["down","along","many"] ts) G := qL (U6) ["down","along","many"] 3 1000000000 true
theorem qbf {x0 x1 x2 : PyData} : zn [x0,x1,x2] = JR true ((U6).f 1000000000 [.sh x0,.sh x1,.sh x2]) := id rfl
def z9 (zn : List PyData → Option PyData) : PuS (Bk.JW (PSp zn true)) := (Z0 (NH (bO zw (bV 0) (qz 0)) 1 [true] ⟨rfl⟩) (Z0 (sIf (bTb (bO (XB false) (bV 1) (XD "cells"))) (ZX (qB qmy (qf (bO zw (bV 0) (qz 1)) qA))) YH) (Z0 (sIf (bTb (bO (XB false) (bV 1) (XD "block"))) (ZX (qjN (MZ (qf (bO zw (bV 0) (qz 1)) qA)) (gN 0) bTt (MZ (qf (bO zw (bV 2) (qz 2)) qA)) (gN 1) bTt (YG (qf (bV 0) (qf (bV 1) qA)) ⟨rfl⟩) [none,none,some 0] ⟨rfl⟩ ⟨rfl⟩ ⟨rfl⟩)) YH) (Z0 (sIf (bTb (bO (XB false) (bV 1) (XD "step"))) (ZX (qB (qV zn true) (qf (bO zw (bV 0) (qz 1)) (qf (bO zw (bV 0) (qz 2)) (qf (bO zw (bV 0) (qz 3)) qA))))) YH) (Z0 (D7 (qkt VL (bV 1)) (D8 2 (qR (gN 2) (qR (gN 3) WJ))) [false,true] ⟨rfl⟩) (ZX (qB (qV zn true) (qf (bV 2) (qf (bV 3) (qf (bO zw (bV 0) (qz 1)) qA))))))))))
def qr : List PyData → Option PyData := run (z9 zn).f 1 4 1000000000 true
theorem KH : ∀ ts G q,PSp (qr) true ts G q → ts.length = 1∧Bk.JW (PSp zn true) { nx := fun _ G' => q .non G',rt := q } (qs ["walk","kind","down","along"] ts) G := qL (z9 zn) ["walk","kind","down","along"] 1 1000000000 true
theorem ZD {x0 : PyData} : qr [x0] = JR true ((z9 zn).f 1000000000 [.sh x0,.un,.un,.un]) := id rfl
def jD : PuS (Bk.jC) := (Z0 (ql8 (MZ (qf (qB qeX (qf (bV 0) qA)) qA)) (gN 1) (ql8 (MZ (qf (bO Z5 (bV 1) (qz 1)) (qf (qB qeX (qf (bV 0) qA)) qA))) (gN 2) (sIf (bTb (bO (XB false) (bO zw (bV 0) (bV 1)) (bO zw (bV 0) (bV 2)))) (ZX (YG (qf (bV 1) (qf (bV 2) qA)) ⟨rfl⟩)) YH) [true,true] ⟨rfl⟩) [true] ⟨rfl⟩) (ZX qgD))
def ql : List PyData → Option PyData := run (jD).f 1 3 1000000000 false
theorem WG : ∀ ts G q,PSp (ql) false ts G q → ts.length = 1∧Bk.jC { nx := fun _ G' => q .non G',rt := q } (qs ["things","k","l"] ts) G := qL (jD) ["things","k","l"] 1 1000000000 false
theorem D0 {x0 : PyData} : ql [x0] = JR false ((jD).f 1000000000 [.sh x0,.un,.un]) := id rfl
def j3 : TS3 := (qK (Q5 (tb3 (o3 (Q6 false) (o3 ix3 (v3 0) (c3 (.int 0))) (c3 (.str "rests")))) (qZ (zJ (qc (o3 ix3 (v3 0) (c3 (.int 2))) (qc (c3 (.int 1)) qj)))) ze) (qZ (zJ (qc (o3 ix3 (v3 0) (c3 (.int 4))) (qc (o3 ix3 (v3 0) (c3 (.int 5))) qj)))))
def jj : PuS (Pv.j3) := (Z0 (sIf (bTb (bO (XB false) (bO zw (bV 0) (qz 0)) (XD "rests"))) (ZX (YG (qf (bO zw (bV 0) (qz 2)) (qf (qz 1) qA)) ⟨rfl⟩)) YH) (ZX (YG (qf (bO zw (bV 0) (qz 4)) (qf (bO zw (bV 0) (qz 5)) qA)) ⟨rfl⟩)))
def qq : List PyData → Option PyData := run (jj).f 1 1 1000000000 false
theorem CS : ∀ ts G q,PSp (qq) false ts G q → ts.length = 1∧Pv.j3 { nx := fun _ G' => q .non G',rt := q } (qs ["dealing"] ts) G := qL (jj) ["dealing"] 1 1000000000 false
theorem XN {x0 : PyData} : qq [x0] = JR false ((jj).f 1000000000 [.sh x0]) := id rfl
def J8 (qr : List PyData → Option PyData) : PuS (Bk.J6 (PSp qr true)) := (Z0 (D7 (bV 1) (D8 2 (qR (gN 3) (qR (gN 4) WJ))) [false,true] ⟨rfl⟩) (ZX (qB qmK (qf (bLc (qcb (qB (qV qr true) (qf (bV 2) qA))) (D8 2 (qR (gN 0) (qR (gN 1) WJ))) bTt (bO (opC (fun _ j => 0 < j) (· % ·)) (bO Z5 (bO (opC jd (· * ·)) (bV 3) (bV 0)) (bO (opC jd (· * ·)) (bV 4) (bV 1))) (bV 2)) [none,none,some 0,some 3,some 4] ⟨rfl⟩) qA))))
def qS : List PyData → Option PyData := run (J8 qr).f 3 5 1000000000 false
theorem TK : ∀ ts G q,PSp (qS) false ts G q → ts.length = 3∧Bk.J6 (PSp qr true) { nx := fun _ G' => q .non G',rt := q } (qs ["banks","factors","walk","a","b"] ts) G := qL (J8 qr) ["banks","factors","walk","a","b"] 3 1000000000 false
theorem T7 {x0 x1 x2 : PyData} : qS [x0,x1,x2] = JR false ((J8 qr).f 1000000000 [.sh x0,.sh x1,.sh x2,.un,.un]) := id rfl
def JU (S_factors_of : Sp3) (S_rests_by : Sp3) : TS3 := (qZ (cb3 S_rests_by (qc (o3 ix3 (v3 0) (c3 (.int 3))) (qc (cb3 S_factors_of (qc (v3 0) qj)) (qc (v3 1) qj)))))
def YF (qq : List PyData → Option PyData) (qS : List PyData → Option PyData) : PuS (Pv.JU (PSp qq false) (PSp qS false)) := (ZX (qB (qV qS false) (qf (bO zw (bV 0) (qz 3)) (qf (qB (qV qq false) (qf (bV 0) qA)) (qf (bV 1) qA)))))
def qT : List PyData → Option PyData := run (YF qq qS).f 2 2 1000000000 false
theorem T6 : ∀ ts G q,PSp (qT) false ts G q → ts.length = 2∧Pv.JU (PSp qq false) (PSp qS false) { nx := fun _ G' => q .non G',rt := q } (qs ["dealing","walk"] ts) G := qL (YF qq qS) ["dealing","walk"] 2 1000000000 false
theorem KP {x0 x1 : PyData} : qT [x0,x1] = JR false ((YF qq qS).f 1000000000 [.sh x0,.sh x1]) := id rfl
def ZM (S_rests_of : Sp3) (S_first_alike : Sp3) : TS3 := (qZ (o3 (MR false) (cb3 S_first_alike (qc (cb3 S_rests_of (qc (v3 0) (qc (v3 1) qj))) qj)) (c3 .non)))
def ZS (qT : List PyData → Option PyData) (ql : List PyData → Option PyData) : PuS (Pv.ZM (PSp qT false) (PSp ql false)) := (ZX (bO (qa5 false) (qB (qV ql false) (qf (qB (qV qT false) (qf (bV 0) (qf (bV 1) qA))) qA)) qgD))
def qt : List PyData → Option PyData := run (ZS qT ql).f 2 2 1000000000 false
theorem RG : ∀ ts G q,PSp (qt) false ts G q → ts.length = 2∧Pv.ZM (PSp qT false) (PSp ql false) { nx := fun _ G' => q .non G',rt := q } (qs ["dealing","walk"] ts) G := qL (ZS qT ql) ["dealing","walk"] 2 1000000000 false
theorem RD {x0 x1 : PyData} : qt [x0,x1] = JR false ((ZS qT ql).f 1000000000 [.sh x0,.sh x1]) := id rfl
def VW (S_factors_of : Sp3) : TS3 := (qK (zg (cb3 S_factors_of (qc (v3 0) qj)) (zu 2 (qo (gn3 3) (qo (gn3 4) zx)))) (qK (zg (c3 (.int 1)) (gn3 5)) (qK (EK (tb3 (o3 (Q6 true) (o3 (iC (fun _ j => 0 < j) (· % ·)) (o3 (iC jd (· * ·)) (v3 5) (o3 zY (o3 (iC jd (· * ·)) (v3 3) (v3 1)) (o3 (iC jd (· * ·)) (v3 4) (v3 2)))) (o3 ix3 (v3 0) (c3 (.int 3)))) (c3 (.int 0)))) (qce 5 (iI (· + ·)) (c3 (.int 1)))) (qZ (v3 5)))))
def V5 (qq : List PyData → Option PyData) : PuS (Pv.VW (PSp qq false)) := (Z0 (D7 (qB (qV qq false) (qf (bV 0) qA)) (D8 2 (qR (gN 3) (qR (gN 4) WJ))) [true] ⟨rfl⟩) (Z0 (NH (qz 1) 5 [] ⟨rfl⟩) (Z0 (sWh (bTb (bO (XB true) (bO (opC (fun _ j => 0 < j) (· % ·)) (bO (opC jd (· * ·)) (bV 5) (bO Z5 (bO (opC jd (· * ·)) (bV 3) (bV 1)) (bO (opC jd (· * ·)) (bV 4) (bV 2)))) (bO zw (bV 0) (qz 3))) (qz 0))) (qnw (qz 1) 5)) (qgz 5))))
def jq : List PyData → Option PyData := run (V5 qq).f 3 6 1000000000 false
theorem LW : ∀ ts G q,PSp (jq) false ts G q → ts.length = 3∧Pv.VW (PSp qq false) { nx := fun _ G' => q .non G',rt := q } (qs ["dealing","down","along","a","b","many"] ts) G := qL (V5 qq) ["dealing","down","along","a","b","many"] 3 1000000000 false
theorem LX {x0 x1 x2 : PyData} : jq [x0,x1,x2] = JR false ((V5 qq).f 1000000000 [.sh x0,.sh x1,.sh x2,.un,.un,.un]) := id rfl
def U5 (S_is_unlike : Sp3) : TS3 := (qK (zg (c3 (.int 0)) (gn3 2)) (qK (EK (tb3 (cb3 S_is_unlike (qc (v3 0) (qc (zJ (qc (c3 (.str "block")) (qc (v3 1) (qc (o3 zY (v3 2) (c3 (.int 1))) qj)))) qj)))) (qce 2 (iI (· + ·)) (c3 (.int 1)))) (qZ (v3 2))))
def EB (qt : List PyData → Option PyData) : PuS (Pv.U5 (PSp qt false)) := (Z0 (NH (qz 0) 2 [] ⟨rfl⟩) (Z0 (sWh (bTb (qB (qV qt false) (qf (bV 0) (qf (YG (qf (XD "block") (qf (bV 1) (qf (bO Z5 (bV 2) (qz 1)) qA))) ⟨rfl⟩) qA)))) (qnw (qz 1) 2)) (qgz 2)))
def zB : List PyData → Option PyData := run (EB qt).f 2 3 1000000000 false
theorem NW : ∀ ts G q,PSp (zB) false ts G q → ts.length = 2∧Pv.U5 (PSp qt false) { nx := fun _ G' => q .non G',rt := q } (qs ["dealing","high","wide"] ts) G := qL (EB qt) ["dealing","high","wide"] 2 1000000000 false
theorem qai {x0 x1 : PyData} : zB [x0,x1] = JR false ((EB qt).f 1000000000 [.sh x0,.sh x1,.un]) := id rfl
def U4 (S_widest : Sp3) : TS3 := (qZ (lc3 (j0 (qc (c3 (.int 1)) (qc (o3 zY (o3 ix3 (v3 0) (c3 (.int 3))) (c3 (.int 1))) qj))) (gn3 0) tt3 (cb3 S_widest (qc (v3 1) (qc (v3 0) qj))) [none,some 0]))
def U9 (zB : List PyData → Option PyData) : PuS (Pv.U4 (PSp zB false)) := (ZX (bLc (MZ (qf (qz 1) (qf (bO Z5 (bO zw (bV 0) (qz 3)) (qz 1)) qA))) (gN 0) bTt (qB (qV zB false) (qf (bV 1) (qf (bV 0) qA))) [none,some 0] ⟨rfl⟩))
def j2 : List PyData → Option PyData := run (U9 zB).f 1 1 1000000000 true
theorem qbx : ∀ ts G q,PSp (j2) true ts G q → ts.length = 1∧Pv.U4 (PSp zB false) { nx := fun _ G' => q .non G',rt := q } (qs ["dealing"] ts) G := qL (U9 zB) ["dealing"] 1 1000000000 true
theorem qap {x0 : PyData} : j2 [x0] = JR true ((U9 zB).f 1000000000 [.sh x0]) := id rfl
def jf (qp : List PyData → Option PyData) : PuS (Bk.VU (PSp qp false)) := (Z0 (NH (bO zw (bV 0) (qz 0)) 1 [true] ⟨rfl⟩) (Z0 (sIf (bTb (bO (XB false) (bV 1) (XD "bits"))) (ZX (YG (qf (bO (opC S4 (fun i j => i * 2 ^ j.toNat)) (qz 1) (bO zw (bV 0) (qz 1))) (qf (bO (opC S4 (fun i j => i * 2 ^ j.toNat)) (qz 1) (bO zw (bV 0) (qz 2))) (qf (bO (opC S4 (fun i j => i * 2 ^ j.toNat)) (qz 1) (qB qeX (qf (bO zw (bV 0) (qz 3)) qA))) qA))) ⟨rfl⟩)) YH) (Z0 (sIf (bTb (bO (XB false) (bV 1) (XD "table"))) (ZX (YG (qf (qB qeX (qf (bO zw (bV 0) (qz 2)) qA)) (qf (qB qeX (qf (bO zw (bO zw (bV 0) (qz 2)) (qz 0)) qA)) (qf (bO zw (bV 0) (qz 1)) qA))) ⟨rfl⟩)) YH) (Z0 (sIf (bTb (bO (XB false) (bV 1) (XD "joined"))) (Z0 (D7 (qB (qV qp false) (qf (bO zw (bV 0) (qz 1)) qA)) (D8 3 (qR (gN 2) (qR (gN 3) (qR (gN 4) WJ)))) [true] ⟨rfl⟩) (Z0 (D7 (qB (qV qp false) (qf (bO zw (bV 0) (qz 2)) qA)) (D8 3 (qR (gN 5) (qR (gN 6) (qR (gN 7) WJ)))) [true] ⟨rfl⟩) (ZX (YG (qf (bO (opC jd (· * ·)) (bV 2) (bV 5)) (qf (bO (opC jd (· * ·)) (bV 3) (bV 6)) (qf (bO (opC jd (· * ·)) (bV 4) (bV 7)) qA))) ⟨rfl⟩)))) YH) (ZX (YG (qf (bO zw (bV 0) (qz 1)) (qf (bO zw (bV 0) (qz 2)) (qf (bO zw (bV 0) (qz 3)) qA))) ⟨rfl⟩))))))
def qp : Nat → List PyData → Option PyData
 | 0 => fun _ => none
 | j + 1 => run (jf (qp j)).f 1 8 1000000000 false
theorem M5 (j : Nat) : ∀ ts G q,PSp (qp (j + 1)) false ts G q → ts.length = 1∧Bk.VU (PSp (qp j) false) { nx := fun _ G' => q .non G',rt := q } (qs ["dealing","kind","rows","columns","banks","other_rows","other_columns","other_banks"] ts) G := qL (jf (qp j)) ["dealing","kind","rows","columns","banks","other_rows","other_columns","other_banks"] 1 1000000000 false
theorem QZ {j : Nat} {x0 : PyData} : qp (j + 1) [x0] = JR false ((jf (qp j)).f 1000000000 [.sh x0,.un,.un,.un,.un,.un,.un,.un]) := id rfl
def U7 (qp : List PyData → Option PyData) (qr : List PyData → Option PyData) : PuS (Bk.U8 (PSp qp false) (PSp qr true)) := (Z0 (D7 (qB (qV qp false) (qf (bV 0) qA)) (D8 3 (qR (gN 2) (qR (gN 3) (qR (gN 4) WJ)))) [true] ⟨rfl⟩) (Z0 (NH (qB (qV qr true) (qf (bV 1) qA)) 5 [false,true] ⟨rfl⟩) (Z0 (NH (bLc (qcb (bV 5)) (D8 2 (qR (gN 0) (qR (gN 1) WJ))) bTt (bV 0) [none,none] ⟨rfl⟩) 6 [false,false,false,false,false,true] ⟨rfl⟩) (Z0 (NH (bLc (qcb (bV 5)) (D8 2 (qR (gN 0) (qR (gN 1) WJ))) bTt (bV 1) [none,none] ⟨rfl⟩) 7 [false,false,false,false,false,true] ⟨rfl⟩) (ZX (qjN (MZ (qf (qlY (qB qfR (qf (bV 6) qA))) (qf (bO (opI (· - ·)) (bV 2) (qB qgN (qf (bV 6) qA))) qA))) (gN 0) bTt (MZ (qf (qlY (qB qfR (qf (bV 3) qA))) (qf (bO (opI (· - ·)) (bV 2) (qB qgN (qf (bV 3) qA))) qA))) (gN 1) bTt (YG (qf (bV 0) (qf (bV 1) qA)) ⟨rfl⟩) [none,none,some 3,some 7] ⟨rfl⟩ ⟨rfl⟩ ⟨rfl⟩))))))
def qU (j : Nat) : List PyData → Option PyData := run (U7 (qp j) qr).f 2 8 1000000000 true
theorem qaT (j : Nat) : ∀ ts G q,PSp (qU j) true ts G q → ts.length = 2∧Bk.U8 (PSp (qp j) false) (PSp qr true) { nx := fun _ G' => q .non G',rt := q } (qs ["dealing","walk","rows","columns","banks","cells","downs","alongs"] ts) G := qL (U7 (qp j) qr) ["dealing","walk","rows","columns","banks","cells","downs","alongs"] 2 1000000000 true
theorem qbC {j : Nat} {x0 x1 : PyData} : qU j [x0,x1] = JR true ((U7 (qp j) qr).f 1000000000 [.sh x0,.sh x1,.un,.un,.un,.un,.un,.un]) := id rfl
def V6 (S_is_unlike : Sp3) (S_starts : Sp3) : TS3 := (qZ (QX (o3 (iB fun i j => decide (j < i)) (cb3 DS (qc (cb3 S_starts (qc (v3 0) (qc (v3 1) qj))) qj)) (c3 (.int 0))) (cb3 S_is_unlike (qc (v3 0) (qc (v3 1) qj)))))
def VG (qt : List PyData → Option PyData) (qU : List PyData → Option PyData) : PuS (Pv.V6 (PSp qt false) (PSp qU true)) := (ZX (WC (bO (opB fun i j => decide (j < i)) (qB qeX (qf (qB (qV qU true) (qf (bV 0) (qf (bV 1) qA))) qA)) (qz 0)) (qB (qV qt false) (qf (bV 0) (qf (bV 1) qA)))))
def zl (j : Nat) : List PyData → Option PyData := run (VG qt (qU j)).f 2 2 1000000000 false
theorem M9 (j : Nat) : ∀ ts G q,PSp (zl j) false ts G q → ts.length = 2∧Pv.V6 (PSp qt false) (PSp (qU j) true) { nx := fun _ G' => q .non G',rt := q } (qs ["dealing","walk"] ts) G := qL (VG qt (qU j)) ["dealing","walk"] 2 1000000000 false
theorem MY {j : Nat} {x0 x1 : PyData} : zl j [x0,x1] = JR false ((VG qt (qU j)).f 1000000000 [.sh x0,.sh x1]) := id rfl
def QA (S_is_free : Sp3) : TS3 := (qK (zg (qgP (v3 0) (sp3 (c3 (.int 1))) (sp3 (c3 (.int 3)))) (zu 2 (qo (gn3 2) (qo (gn3 3) zx)))) (qZ (qgT (j0 (qc (v3 2) qj)) (gn3 0) tt3 (j0 (qc (o3 (iI (· - ·)) (c3 (.int 1)) (v3 2)) (qc (v3 2) qj))) (gn3 1) (qgX (or3 (tb3 (o3 (iB fun i j => decide (j < i)) (v3 0) (c3 (.int 0)))) (tb3 (o3 (iB fun i j => decide (j < i)) (v3 1) (c3 (.int 0))))) (tb3 (cb3 S_is_free (qc (v3 3) (qc (zJ (qc (c3 (.str "step")) (qc (v3 0) (qc (v3 1) (qc (v3 4) qj))))) qj))))) (zJ (qc (v3 0) (qc (v3 1) qj))) [none,none,some 3,some 0,some 1])))
def j6 (zl : List PyData → Option PyData) : PuS (Pv.QA (PSp zl false)) := (Z0 (D7 (bSl (bV 0) (bSp (qz 1)) (bSp (qz 3))) (D8 2 (qR (gN 2) (qR (gN 3) WJ))) [true] ⟨rfl⟩) (ZX (qjN (MZ (qf (bV 2) qA)) (gN 0) bTt (MZ (qf (bO (opI (· - ·)) (qz 1) (bV 2)) (qf (bV 2) qA))) (gN 1) (qn9 (bOr (bTb (bO (opB fun i j => decide (j < i)) (bV 0) (qz 0))) (bTb (bO (opB fun i j => decide (j < i)) (bV 1) (qz 0)))) (bTb (qB (qV zl false) (qf (bV 3) (qf (YG (qf (XD "step") (qf (bV 0) (qf (bV 1) (qf (bV 4) qA)))) ⟨rfl⟩) qA))))) (YG (qf (bV 0) (qf (bV 1) qA)) ⟨rfl⟩) [none,none,some 3,some 0,some 1] ⟨rfl⟩ ⟨rfl⟩ ⟨rfl⟩)))
def zi (j : Nat) : List PyData → Option PyData := run (j6 (zl j)).f 2 4 1000000000 true
theorem C5 (j : Nat) : ∀ ts G q,PSp (zi j) true ts G q → ts.length = 2∧Pv.QA (PSp (zl j) false) { nx := fun _ G' => q .non G',rt := q } (qs ["dealing","many","rows","columns"] ts) G := qL (j6 (zl j)) ["dealing","many","rows","columns"] 2 1000000000 true
theorem XV {j : Nat} {x0 x1 : PyData} : zi j [x0,x1] = JR true ((j6 (zl j)).f 1000000000 [.sh x0,.sh x1,.un,.un]) := id rfl
end Pv
namespace Pv
open PySem L2 L3 Pu
open Bk (Wk Dl zI zb VJ lnD lnA)
def pD (p : Int × Int) : PyData := .tuple [.int p.1,.int p.2]
def Wk.d : Wk → PyData
 | .line k m => .tuple [.str (VJ k),.int m]
 | .block h w => .tuple [.str "block",.int h,.int w]
 | .step d a m => .tuple [.str "step",.int d,.int a,.int m]
 | .cells ps => .tuple [.str "cells",.tuple (ps.map pD)]
def qgV (r : List Int) : PyData := .tuple (r.map PyData.int)
def dlD : Dl → PyData
 | .skew r c b x y => .tuple [.str "skew",.int r,.int c,.int b,.int x,.int y]
 | .rests r c b p => .tuple [.str "rests",.int r,.int c,.int b,.int p]
 | .bits h l ms => .tuple [.str "bits",.int h,.int l,.tuple (ms.map PyData.int)]
 | .table b cells => .tuple [.str "table",.int b,.tuple (cells.map qgV)]
 | .joined d e => .tuple [.str "joined",dlD d,dlD e]
theorem NP (G : Gp) : ∀ (cs : List (List Int)),Dqs G (cs.map Bk.qor) (cs.map qgV)
 | [] => .nil
 | r :: cs => .cons (.tup (Dqs.ofInts r)) (NP G cs)
theorem qfu (G : Gp) : ∀ (d : Dl),Dq G d.t (dlD d)
 | .skew r c b x y => .tup (.cons (.str _) (.cons (.int _) (.cons (.int _) (.cons (.int _) (.cons (.int _) (.cons (.int _) .nil))))))
 | .rests r c b p => .tup (.cons (.str _) (.cons (.int _) (.cons (.int _) (.cons (.int _) (.cons (.int _) .nil)))))
 | .bits h l ms => .tup (.cons (.str _) (.cons (.int _) (.cons (.int _) (.cons (.tup (Dqs.ofInts ms)) .nil))))
 | .table b cells => .tup (.cons (.str _) (.cons (.int _) (.cons (.tup (NP G cells)) .nil)))
 | .joined d e => .tup (.cons (.str _) (.cons (qfu G d) (.cons (qfu G e) .nil)))
end Pv
namespace Pu
open PySem L2 L3
open Bk (Lf Ext)
section
variable {D : Addr → Prop} {a : Addr} {G G' G0 : Gp} {n n' : Nat} {fv gv : List Nat} {l : Nat} {τ : St3} {ρ : Rho}
theorem RN (e : Ext a G G') (h : D a) : Ex (rs D G) (rs D G') := fun b o x => by
 obtain ⟨n,x⟩ := qF x
 rw [jE n];exact e b o (by rintro rfl;exact n h) x
theorem EO {k : Int} (h : Lf G a k) : G a ≠ none := by
 obtain ⟨o,c,m,e,_⟩ := h
 rw [e];simp
theorem X7 {k : Int} (hd : Dom D G) (e : Ext a G G') (lf : Lf G' a k) : Dom D G' := fun b hb z => by
 by_cases h : b = a
 ·subst h;exact EO lf z
 ·cases g : G b with
  | none => exact hd b hb g
  | some o => rw [e b o h g] at z;cases z
theorem Nw.backx {x : T} {d : PyData} {k : Int} (h : Nw D G G' x d) (e : Ext a G0 G) (lf : Lf G a k) : Nw D G0 G' x d := by
 rcases h with h | ⟨p,xs,ds,h1,h2,c,r⟩
 ·exact .inl h
 refine .inr ⟨p,xs,ds,h1,h2,?_,r⟩
 cases z : G0 p with
 | none => rfl
 | some o =>
  by_cases hp : p = a
  ·subst hp;exact absurd c (EO lf)
  ·rw [e p o hp z] at c;cases c
structure Ln (fv : List Nat) (l : Nat) (D : Addr → Prop) (G : Gp) (τ : St3) (ρ : Rho) (a : Addr) (n : Nat) : Prop where
 v : W0 fv D G τ ρ
 d : Dom D G
 da : D a
 tl : τ[l]? = some (some (.ref a))
 ul : vw ρ l = none
 lf : Lf G a n
theorem Ln.up (h : Ln fv l D G τ ρ a n) (e : Ext a G G') (lf : Lf G' a n') : Ln fv l D G' τ ρ a n' :=
 ⟨fun i hi d hd => let ⟨t,x,y⟩ := h.v i hi d hd;⟨t,x,y.up (RN e h.da)⟩,X7 h.d e lf,h.da,h.tl,h.ul,lf⟩
theorem Ln.fst (h : Ln (fv ++ gv) l D G τ ρ a n) : Ln fv l D G τ ρ a n := ⟨h.v.l,h.d,h.da,h.tl,h.ul,h.lf⟩
theorem Ln.snd (h : Ln (fv ++ gv) l D G τ ρ a n) : Ln gv l D G τ ρ a n := ⟨h.v.r,h.d,h.da,h.tl,h.ul,h.lf⟩
end
abbrev QD := PyData → Nat → Prop
structure PwE (l : Nat) (t : TE3) where
 w : Rho → Nat → QD → Prop
 fv : List Nat
 nw : Bool
 mono : ∀ {ρ n} {Q Q' : QD},w ρ n Q → (∀ d m,Q d m → Q' d m) → w ρ n Q'
 ok : ∀ {D τ ρ G a n} {q : Q3} {Q : QD},Ln fv l D G τ ρ a n → w ρ n Q → (∀ x d G' n',Q d n' → Ext a G G' → Lf G' a n' → Dq (rs D G') x d → (nw = true → Nw D G G' x d) → q x G') → t τ G q
structure PwC (l : Nat) (t : TT3) where
 w : Rho → Nat → (Bool → Nat → Prop) → Prop
 fv : List Nat
 mono : ∀ {ρ n} {Q Q' : Bool → Nat → Prop},w ρ n Q → (∀ d m,Q d m → Q' d m) → w ρ n Q'
 ok : ∀ {D τ ρ G a n} {q : Bool → Gp → Prop} {Q : Bool → Nat → Prop},Ln fv l D G τ ρ a n → w ρ n Q → (∀ k G' n',Q k n' → Ext a G G' → Lf G' a n' → q k G') → t τ G q
structure PwA (l : Nat) (t : TA3) where
 w : Rho → Nat → (List PyData → Nat → Prop) → Prop
 fv : List Nat
 k : Nat
 mono : ∀ {ρ n} {Q Q' : List PyData → Nat → Prop},w ρ n Q → (∀ d m,Q d m → Q' d m) → w ρ n Q'
 ok : ∀ {D τ ρ G a n} {q : List T → Gp → Prop} {Q : List PyData → Nat → Prop},Ln fv l D G τ ρ a n → w ρ n Q → (∀ x d G' n',Q d n' → d.length = k → Ext a G G' → Lf G' a n' → Dqs (rs D G') x d → q x G') → t τ G q
structure PwI (l : Nat) (t : TI3) where
 w : Rho → Nat → (List PyData → Nat → Prop) → Prop
 fv : List Nat
 nm : Bool
 mono : ∀ {ρ n} {Q Q' : List PyData → Nat → Prop},w ρ n Q → (∀ d m,Q d m → Q' d m) → w ρ n Q'
 ok : ∀ {D τ ρ G a n} {r : List T → (Gp → Prop) → Gp → Prop} {Q : List PyData → Nat → Prop},Ln fv l D G τ ρ a n → w ρ n Q →
  (∀ items stay ds G' n',Q ds n' → Ext a G G' → Lf G' a n' → Dqs (rs D G') items ds → (∀ G'',(nm = true ∨ Ex (rs D G') G'') → stay G'') → (nm = true → ∃ ns : List Int,ds = ns.map PyData.int) → r items stay G') → t τ G r
structure DrD (r : List T → Gp → Q3 → Prop) where
 W : List PyData → Nat → QD → Prop
 nw : Bool
 mono : ∀ {ds n} {Q Q' : QD},W ds n Q → (∀ d m,Q d m → Q' d m) → W ds n Q'
 ok : ∀ {D : Addr → Prop} {G : Gp} {a : Addr} {n : Nat} {ts : List T} {ds : List PyData} {q : Q3} {Q : QD},Lf G a n → D a → Dom D G → Dqs (rs D G) ts ds → W ds n Q → (∀ x d G' n',Q d n' → Ext a G G' → Lf G' a n' → Dq (rs D G') x d → (nw = true → Nw D G G' x d) → q x G') → r (.ref a :: ts) G q
section
variable {l : Nat}
def eOf {t : TE3} (b : PuE t) : PwE l t := ⟨fun ρ n Q => ∃ d,b.f ρ = some d∧Q d n,b.fv,b.nw,fun ⟨d,h1,h2⟩ h => ⟨d,h1,h _ _ h2⟩,fun h ⟨d,h1,h2⟩ k =>
 b.ok h.v h.d h1 fun x G1 E1 D1 N1 => k x d G1 _ h2 (Bk.RM E1) (h.lf.ex E1) D1 N1⟩
def cOf {t : TT3} (b : PuC t) : PwC l t := ⟨fun ρ n Q => ∃ d,b.f ρ = some d∧Q d n,b.fv,fun ⟨d,h1,h2⟩ h => ⟨d,h1,h _ _ h2⟩,fun h ⟨d,h1,h2⟩ k =>
 b.ok h.v h.d h1 fun G1 E1 => k d G1 _ h2 (Bk.RM E1) (h.lf.ex E1)⟩
def aOf {t : TA3} (b : PuA t) : PwA l t := ⟨fun ρ n Q => ∃ d,b.f ρ = some d∧Q d n,b.fv,b.n,fun ⟨d,h1,h2⟩ h => ⟨d,h1,h _ _ h2⟩,fun h ⟨d,h1,h2⟩ k =>
 b.ok h.v h.d h1 fun x G1 E1 D1 => k x d G1 _ h2 (b.ln h1) (Bk.RM E1) (h.lf.ex E1) D1⟩
def iOf {t : TI3} (b : PuI t) : PwI l t := ⟨fun ρ n Q => ∃ d,b.f ρ = some d∧Q d n,b.fv,b.nm,fun ⟨d,h1,h2⟩ h => ⟨d,h1,h _ _ h2⟩,fun h ⟨d,h1,h2⟩ k =>
 b.ok h.v h.d h1 fun items stay G1 E1 D1 s nm => k items stay d G1 _ h2 (Bk.RM E1) (h.lf.ex E1) D1 s nm⟩
def eO {r : R3} {ta tb : TE3} (R : OpD r) (a : PwE l ta) (b : PwE l tb) : PwE l (o3 r ta tb) :=
 ⟨fun ρ n Q => a.w ρ n fun x n1 => b.w ρ n1 fun y n2 => ∃ v,R.f x y = some v∧Q v n2,a.fv ++ b.fv,R.nw,fun h k => a.mono h fun x n1 h => b.mono h fun y n2 ⟨v,h1,h2⟩ => ⟨v,h1,k _ _ h2⟩,fun h hw k =>
  a.ok h.fst hw fun x dx G1 n1 h1 E1 L1 D1 _ => b.ok (h.snd.up E1 L1) h1 fun y dy G2 n2 ⟨v,e,hq⟩ E2 L2 D2 _ => R.ok (D1.up (RN E2 h.da)) D2 (X7 (X7 h.d E1 L1) E2 L2) e fun z G3 E3 D3 N3 => k z v G3 n2 hq ((E1.trans E2).trans (Bk.RM E3)) (L2.ex E3) D3 fun z => (N3 z).backx (E1.trans E2) L2⟩
def U2 {ta : TE3} {tr : TA3} (a : PwE l ta) (r : PwA l tr) : PwA l (qc ta tr) :=
 ⟨fun ρ n Q => a.w ρ n fun x n1 => r.w ρ n1 fun xs n2 => Q (x :: xs) n2,a.fv ++ r.fv,r.k + 1,fun h k => a.mono h fun x n1 h => r.mono h fun xs n2 h => k _ _ h,fun h hw k =>
  a.ok h.fst hw fun x dx G1 n1 h1 E1 L1 D1 _ => r.ok (h.snd.up E1 L1) h1 fun y dy G2 n2 hq hl E2 L2 D2 => k _ _ G2 n2 hq (by simp [hl]) (E1.trans E2) L2 (.cons (D1.up (RN E2 h.da)) D2)⟩
def qnm {t : TA3} (b : PwA l t) (hn : Tru (Nat.ble b.k 1000)) : PwE l (zJ t) := ⟨fun ρ n Q => b.w ρ n fun xs n1 => Q (.tuple xs) n1,b.fv,false,fun h k => b.mono h fun xs n1 h => k _ _ h,fun h hw k =>
 b.ok h hw fun x dx G1 n1 h1 hl E1 L1 D1 => ⟨by rw [D1.length,hl];exact few hn,k _ _ _ _ h1 E1 L1 (.tup D1) (fun z => by cases z)⟩⟩
def eDr {r : List T → Gp → Q3 → Prop} {t : TA3} (R : DrD r) (b : PwA l t) : PwE l (cb3 r (qc (v3 l) t)) := ⟨fun ρ n Q => b.w ρ n fun xs n1 => R.W xs n1 Q,b.fv,R.nw,fun h k => b.mono h fun xs n1 h => R.mono h k,fun {D τ ρ G a n q Q} h hw k => by
 simp only [cb3,qc,v3,h.tl]
 exact b.ok h hw fun x dx G1 n1 hW hl E1 L1 D1 => R.ok L1 h.da (X7 h.d E1 L1) D1 hW fun z d G3 n3 hq E3 L3 D3 N3 => k z d G3 n3 hq (E1.trans E3) L3 D3 fun z => (N3 z).backx E1 L1⟩
def cTb {t : TE3} (b : PwE l t) : PwC l (tb3 t) := ⟨fun ρ n Q => b.w ρ n fun d n1 => ∃ k,asB d = some k∧Q k n1,b.fv,fun h k => b.mono h fun d m ⟨v,h1,h2⟩ => ⟨v,h1,k _ _ h2⟩,fun h hw k => b.ok h hw fun x d G1 n1 ⟨v,e,hq⟩ E1 L1 D1 _ => by
 have := RJ e;subst this
 cases D1
 exact k _ _ _ hq E1 L1⟩
def eIf {t : TT3} {ta tb : TE3} (c : PwC l t) (a : PwE l ta) (b : PwE l tb) : PwE l (if3 t ta tb) := ⟨fun ρ n Q => c.w ρ n fun k n1 => if k then a.w ρ n1 Q else b.w ρ n1 Q,c.fv ++ (a.fv ++ b.fv),false,fun h k => c.mono h fun j m h => by
  cases j with
  | true => rw [if_pos rfl] at h ⊢;exact a.mono h k
  | false => exact b.mono h k,fun h hw k => c.ok h.fst hw fun j G1 n1 hj E1 L1 => by
  cases j with
  | true => rw [if_pos rfl] at hj ⊢;exact a.ok (h.snd.fst.up E1 L1) hj fun x d G2 n2 hq E2 L2 D2 _ => k _ _ _ _ hq (E1.trans E2) L2 D2 (fun z => by cases z)
  | false => exact b.ok (h.snd.snd.up E1 L1) hj fun x d G2 n2 hq E2 L2 D2 _ => k _ _ _ _ hq (E1.trans E2) L2 D2 (fun z => by cases z)⟩
end
theorem VA.ext {D : Addr → Prop} {a : Addr} {G G' : Gp} {τ : St3} {ρ : Rho} (h : VA D G τ ρ) (e : Ext a G G') (da : D a) : VA D G' τ ρ := h.upx (RN e da)
end Pu
namespace Pu
open PySem L2 L3
open Bk (Lf Ext)
structure RL (l : Nat) (a : Addr) (z0 : Option (Option T) × Nat) (D : Addr → Prop) (G0 : Gp) (A : Nat → Option Addr) (τ : St3) (ρ : Rho) (G : Gp) (n : Nat) : Prop where
 r : RS D G0 A τ ρ G
 al : A l = some a
 tl : τ[l]? = some (some (.ref a))
 ul : ρ[l]? = some Sl.un
 lf : Lf G a n
 tz : τ[0]? = z0.1∧τ.length = z0.2
section
variable {l : Nat} {a : Addr} {z0 : Option (Option T) × Nat} {D : Addr → Prop} {G0 G G' : Gp} {A : Nat → Option Addr} {τ : St3} {ρ : Rho} {n n' : Nat}
theorem RL.vl (h : RL l a z0 D G0 A τ ρ G n) : vw ρ l = none := by unfold vw;rw [h.ul];rfl
theorem RL.up (h : RL l a z0 D G0 A τ ρ G n) (e : Ext a G G') (lf : Lf G' a n') : RL l a z0 D G0 A τ ρ G' n' := by
 have X : Ex (rs (AD D A) G) (rs (AD D A) G') := RN e (.inr ⟨l,h.al⟩)
 refine ⟨⟨fun b o x => e b o (by rintro rfl;rw [h.r.fr l _ h.al] at x;cases x) (h.r.ex b o x),h.r.dm,h.r.fr,fun i p hp z => ?_,h.r.inj,h.r.len,fun i d x => let ⟨t,y,z⟩ := h.r.sh i d x;⟨t,y,z.up X⟩,fun i ds x => ?_⟩,h.al,h.tl,h.ul,lf,h.tz⟩
 ·by_cases c : p = a
  ·subst c;exact EO lf z
  ·cases g : G p with
   | none => exact h.r.da i p hp g
   | some o => rw [e p o c g] at z;cases z
 ·obtain ⟨p,xs,y1,y2,y3,y4⟩ := h.r.ow i ds x
  refine ⟨p,xs,y1,y2,e p _ ?_ y3,y4.up X⟩
  rintro rfl
  have := h.r.inj i l _ y1 h.al
  subst this
  rw [h.ul] at x;cases x
theorem RL.all (h : RL l a z0 D G0 A τ ρ G n) (fv : List Nat) : Ln fv l (fun b => D b ∨ b = a) G τ ρ a n := by
 refine ⟨fun i _ d hd => ?_,fun b hb => ?_,.inr rfl,h.tl,h.vl,h.lf⟩
 ·unfold vw at hd
  obtain ⟨s,e,hd⟩ := Option.bind_eq_some_iff.mp hd
  have less : Ex (rs (AD D A) G) (rs (fun b => D b ∨ b = a) G) := zK fun b z => by
   rcases z with z | z
   ·exact .inl z
   ·subst z;exact .inr ⟨l,h.al⟩
  cases s with
  | un => cases hd
  | sh d' =>
   cases hd
   obtain ⟨t,b,c⟩ := h.r.sh i _ e
   exact ⟨t,b,c.up less⟩
  | ow ds =>
   cases hd
   obtain ⟨p,xs,b,c,g,f⟩ := h.r.ow i _ e
   refine ⟨_,c,.lst ?_ (f.up less)⟩
   rw [jE]
   ·exact g
   ·rintro (z | z)
    ·exact h.r.nd b z
    ·subst z
     have := h.r.inj i l _ b h.al
     subst this
     rw [h.ul] at e;cases e
 ·rcases hb with hb | hb
  ·exact h.r.domD b hb
  ·subst hb;exact EO h.lf
theorem qoo {m : List Bool} (hm : mkb m l = false) (al : A l = some a) : Ad m A l = some a := by unfold Ad;rw [if_neg (by rw [hm];simp)];exact al
theorem RL.dem (h : RL l a z0 D G0 A τ ρ G n) {m : List Bool} (hm : mkb m l = false) : RL l a z0 D G0 (Ad m A) τ (Pu.dm m ρ) G n :=
 ⟨h.r.dem m,qoo hm h.al,h.tl,by rw [qaG,h.ul];simp [hm],h.lf,h.tz⟩
theorem RL.ln (h : RL l a z0 D G0 A τ ρ G n) {m : List Bool} {fv : List Nat} (hm : mkb m l = false) (hf : Tru (fv.all (mkb m))) : Ln fv l (AD D (Ad m A)) G τ ρ a n :=
 ⟨h.r.viewD hf,(h.r.dem m).dom,.inr ⟨l,qoo hm h.al⟩,h.tl,h.vl,h.lf⟩
theorem RL.put (h : RL l a z0 D G0 A τ ρ G n) {i : Nat} (hi : i ≠ l) (h0 : i ≠ 0) {x : T} {d : PyData} (hx : Dq (rs (AD D A) G) x d) : RL l a z0 D G0 (Er A i) (τ.set i (some x)) (ρ.set i (.sh d)) G n :=
 ⟨h.r.put i hx,by unfold Er;rw [if_neg (fun z => hi z.symm)];exact h.al,by rw [List.getElem?_set,if_neg hi];exact h.tl,by rw [List.getElem?_set,if_neg hi];exact h.ul,h.lf,⟨by rw [List.getElem?_set,if_neg h0];exact h.tz.1,by rw [List.length_set];exact h.tz.2⟩⟩
theorem RL.puts : ∀ {ts : List (Nat × T)} {bs : List (Nat × PyData)} {A : Nat → Option Addr} {τ : St3} {ρ : Rho},RL l a z0 D G0 A τ ρ G n → Bd (rs (AD D A) G) ts bs → (∀ p ∈ bs,p.1 ≠ l∧p.1 ≠ 0) → ∃ A',RL l a z0 D G0 A' (sets τ ts) (QB ρ bs) G n
 | _,_,A,_,_,h,.nil,_ => ⟨A,h⟩
 | _,_,A,_,_,h,.cons x b,hn => by
  unfold sets QB
  exact RL.puts (h.put (hn _ List.mem_cons_self).1 (hn _ List.mem_cons_self).2 x) (b.up qho) (fun p hp => hn p (List.mem_cons_of_mem _ hp))
theorem RL.putN (h : RL l a z0 D G0 A τ ρ G n) {i : Nat} (hi : i ≠ l) (h0 : i ≠ 0) {x : T} {d : PyData} {ds : List PyData} (hd : d = .list ds) (E : Ext a G G') (lf : Lf G' a n') (hx : Nw (AD D A) G G' x d) : ∃ A',RL l a z0 D G0 A' (τ.set i (some x)) (ρ.set i (.ow ds)) G' n' := by
 have h1 := h.up E lf
 rcases hx with hx | ⟨p,xs,ds',rfl,e',gp,gp',hs⟩
 ·rw [hd] at hx;cases hx
 rw [hd] at e'
 cases e'
 have np : ∀ {j q},A j = some q → q ≠ p := fun e => by rintro rfl;exact h.r.da _ _ e gp
 have X1 : Ex (rs (AD D A) G) (rs (AD D (fun j => if j = i then some p else A j)) G') := fun b o e => by
  obtain ⟨n,e⟩ := qF e
  rw [jE]
  ·exact E b o (by rintro rfl;exact n (.inr ⟨l,h.al⟩)) e
  ·rintro (z | ⟨j,z⟩)
   ·exact n (.inl z)
   ·simp only at z
    split at z
    ·cases z;rw [gp] at e;cases e
    ·exact n (.inr ⟨j,z⟩)
 refine ⟨fun j => if j = i then some p else A j,⟨h1.r.ex,h.r.dm,fun j q e => ?_,fun j q e => ?_,fun j k q x y => ?_,by simp [h.r.len],fun j e he => ?_,fun j es e => ?_⟩,by rw [if_neg (fun z => hi z.symm)];exact h.al,by rw [List.getElem?_set,if_neg hi];exact h.tl,by rw [List.getElem?_set,if_neg hi];exact h.ul,lf,⟨by rw [List.getElem?_set,if_neg h0];exact h.tz.1,by rw [List.length_set];exact h.tz.2⟩⟩
 ·split at e
  ·cases e
   cases z : G0 p with
   | none => rfl
   | some o => rw [h.r.ex _ _ z] at gp;cases gp
  ·exact h.r.fr j q e
 ·split at e
  ·cases e;rw [gp'];simp
  ·exact h1.r.da j q e
 ·split at x
  ·cases x
   split at y
   ·rename_i h1 h2;rw [h1,h2]
   ·exact absurd rfl (np y)
  ·split at y
   ·cases y;exact absurd rfl (np x)
   ·exact h.r.inj j k q x y
 ·rw [List.getElem?_set] at he ⊢
  split at he
  ·split at he <;> cases he
  ·rename_i hj
   rw [if_neg hj]
   obtain ⟨t,b,c⟩ := h.r.sh j _ he
   exact ⟨t,b,c.up X1⟩
 ·rw [List.getElem?_set] at e ⊢
  split at e
  ·rename_i hj
   subst hj
   split at e
   ·rename_i hl
    cases e
    refine ⟨p,xs,by simp,by rw [if_pos rfl,if_pos (by rw [← h.r.len];exact hl)],gp',hs.up (zK fun b z => ?_)⟩
    rcases z with z | ⟨j,z⟩
    ·exact .inl (.inl z)
    ·simp only at z
     split at z
     ·cases z;exact .inr rfl
     ·exact .inl (.inr ⟨j,z⟩)
   ·cases e
  ·rename_i hj
   rw [if_neg hj]
   obtain ⟨q,ys,b,c,g,f⟩ := h1.r.ow j _ e
   obtain ⟨q',ys',b',c',g',f'⟩ := h.r.ow j _ e
   rw [b] at b';cases b'
   have : G' q = some (.lst ys') := E q _ (by rintro rfl;have := h.r.inj j l _ b h.al;subst this;rw [h.ul] at e;cases e) g'
   exact ⟨q,ys',by rw [if_neg (fun z => hj z.symm)];exact b,c,this,f'.up X1⟩
theorem RL.wr (h : RL l a z0 D G0 A τ ρ G n) {i : Nat} {p : Addr} {xs : List T} {ds ds0 : List PyData} (ho : ρ[i]? = some (Sl.ow ds0)) (hi : A i = some p) (ht : τ[i]? = some (some (.ref p))) (hs : Dqs (rs (AD D A) G) xs ds) : RL l a z0 D G0 A τ (ρ.set i (.ow ds)) (gu G p (.lst xs)) n := by
 have il : i ≠ l := by rintro rfl;rw [h.ul] at ho;cases ho
 have pa : p ≠ a := by rintro rfl;exact il (h.r.inj i l _ hi h.al)
 exact ⟨h.r.wr hi ht hs,h.al,h.tl,by rw [List.getElem?_set,if_neg il];exact h.ul,h.lf.new pa,h.tz⟩
end
abbrev QO := Ot → Nat → Prop
def qah (l : Nat) (a : Addr) (z0 : Option (Option T) × Nat) (D : Addr → Prop) (G0 : Gp) (e : Ends3) : Ot → Nat → Prop
 | .nx ρ,n => ∀ A τ G,RL l a z0 D G0 A τ ρ G n → e.nx τ G
 | .bk ρ,n => ∀ A τ G,RL l a z0 D G0 A τ ρ G n → e.bk τ G
 | .ct ρ,n => ∀ A τ G,RL l a z0 D G0 A τ ρ G n → e.ct τ G
 | .rt d fr,n => ∀ x G,Ex G0 G → Lf G a n → Dq (rs (fun b => D b ∨ b = a) G) x d → (fr = true → Nw (fun b => D b ∨ b = a) G0 G x d) → e.rt x G
structure PwS (l : Nat) (t : TS3) where
 w : Rho → Nat → QO → Prop
 mono : ∀ {ρ n} {Q Q' : QO},w ρ n Q → (∀ o m,Q o m → Q' o m) → w ρ n Q'
 ok : ∀ {a z0 D G0 A τ ρ G n} {e : Ends3} {Q : QO},RL l a z0 D G0 A τ ρ G n → w ρ n Q → (∀ o m,Q o m → qah l a z0 D G0 e o m) → t e τ G
section
variable {l : Nat}
def qby : PwS l ze := ⟨fun ρ n Q => Q (.nx ρ) n,fun h k => k _ _ h,fun h hw k => k _ _ hw _ _ _ h⟩
def sqw (b : Rho → Nat → QO → Prop) (Q : QO) : QO := fun o n => match o with | .nx ρ' => b ρ' n Q | o => Q o n
def DZ {t u : TS3} (x : PwS l t) (y : PwS l u) : PwS l (qK t u) := ⟨fun ρ n Q => x.w ρ n (sqw y.w Q),fun h k => x.mono h fun o m h => by
  cases o with
  | nx ρ => exact y.mono h k
  | bk ρ => exact k _ _ h
  | ct ρ => exact k _ _ h
  | rt d f => exact k _ _ h,fun h hw k => x.ok h hw fun o m h => by
  cases o with
  | nx ρ => exact fun A τ G r => y.ok r h k
  | bk ρ => exact k _ _ h
  | ct ρ => exact k _ _ h
  | rt d f => exact k _ _ h⟩
def wIf {c : TT3} {t u : TS3} (pc : PwC l c) (x : PwS l t) (y : PwS l u) : PwS l (Q5 c t u) := ⟨fun ρ n Q => pc.w ρ n fun k n1 => if k then x.w ρ n1 Q else y.w ρ n1 Q,fun h k => pc.mono h fun j m h => by
  cases j with
  | true => rw [if_pos rfl] at h ⊢;exact x.mono h k
  | false => exact y.mono h k,fun h hw k => pc.ok (h.all _) hw fun j G1 n1 hj E1 L1 => by
  cases j with
  | true => rw [if_pos rfl] at hj ⊢;exact x.ok (h.up E1 L1) hj k
  | false => exact y.ok (h.up E1 L1) hj k⟩
theorem qfH {a : Addr} {z0 : Option (Option T) × Nat} {D : Addr → Prop} {G0 G G' : Gp} {A : Nat → Option Addr} {τ : St3} {ρ : Rho} {n : Nat} (h : RL l a z0 D G0 A τ ρ G n) (e : Ext a G G') : Ex G0 G' := fun b o x => e b o (by rintro rfl;rw [h.r.fr l _ h.al] at x;cases x) (h.r.ex b o x)
def qgA {t : TE3} (x : PwE l t) : PwS l (qZ t) := ⟨fun ρ n Q => x.w ρ n fun d n1 => Q (.rt d x.nw) n1,fun h k => x.mono h fun d m h => k _ _ h,fun h hw k => x.ok (h.all _) hw fun y d G1 n1 hq E1 L1 D1 N1 => k _ _ hq y G1 (qfH h E1) L1 D1 fun z => (N1 z).back h.r.ex⟩
def qcp {t : TE3} (x : PwE l t) (i : Nat) (m : List Bool) (hm : Tru (x.fv.all (mkb m))) (hl : Tru (!mkb m l && (i != l && i != 0))) : PwS l (zg t (gn3 i)) := ⟨fun ρ n Q => x.w ρ n fun d n1 => Q (.nx (NF m x.nw i d ρ)) n1,fun h k => x.mono h fun d m h => k _ _ h,fun {a z0 D G0 A τ ρ G n e Q} h hw k => by
 have hl' : mkb m l = false∧i ≠ l∧i ≠ 0 := by simpa using hl.h
 refine x.ok (h.ln hl'.1 hm) hw fun y d G1 n1 hq E1 L1 D1 N1 => ?_
 have k := k _ _ hq
 unfold NF at k
 show e.nx (τ.set i (some y)) G1
 split at k
 ·rename_i hs
  exact k _ _ _ ((h.up E1 L1).put hl'.2.1 hl'.2.2 (WZ D1 hs))
 ·split at k
  ·rename_i hn
   have N := N1 hn
   rcases id N with h2 | ⟨p,xs,ds,h1,h2,_⟩
   ·subst h2;rename_i hs;exact absurd rfl hs
   subst h2
   obtain ⟨A',r⟩ := (h.dem hl'.1).putN hl'.2.1 hl'.2.2 rfl E1 L1 N
   exact k _ _ _ r
  ·exact k _ _ _ (((h.dem hl'.1).up E1 L1).put hl'.2.1 hl'.2.2 D1)⟩
def MQ {t : TE3} {g : TG3} (x : PwE l t) (pg : PuG g) (m : List Bool) (hm : Tru (x.fv.all (mkb m))) (hl : Tru (!mkb m l && pg.tg.all (fun i => i != l && i != 0))) : PwS l (zg t g) := ⟨fun ρ n Q => x.w ρ n fun d n1 => ∃ bs,pg.f d = some bs∧Q (.nx (QB (dm m ρ) bs)) n1,fun h k => x.mono h fun d m ⟨bs,h1,h2⟩ => ⟨bs,h1,k _ _ h2⟩,fun {a z0 D G0 A τ ρ G n e Q} h hw k => by
 have hl' : mkb m l = false∧∀ i ∈ pg.tg,i ≠ l∧i ≠ 0 := by simpa using hl.h
 refine x.ok (h.ln hl'.1 hm) hw fun y d G1 n1 ⟨bs,e2,hq⟩ E1 L1 D1 N1 => ?_
 obtain ⟨ts,bd,kg⟩ := pg.ok D1 e2
 refine kg _ _ _ ?_
 obtain ⟨A',h'⟩ := ((h.dem hl'.1).up E1 L1).puts bd (fun p hp => hl'.2 _ (pg.at' e2 p hp))
 exact k _ _ hq _ _ _ h'⟩
def qmc {t : TA3} (x : PwA l t) (i j : Nat) (m : List Bool) (hm : Tru (x.fv.all (mkb m))) (hl : Tru (!mkb m l && ((i != l && i != 0) && (j != l && j != 0)))) : PwS l (S0 i j t) := ⟨fun ρ n Q => x.w ρ n fun ds n1 => ∃ o,ql3 i j m ds ρ = some o∧Q o n1,fun h k => x.mono h fun d m ⟨bs,h1,h2⟩ => ⟨bs,h1,k _ _ h2⟩,fun {a z0 D G0 A τ ρ G n e Q} h hw k => by
 have hl' : mkb m l = false∧(i ≠ l∧i ≠ 0)∧j ≠ l∧j ≠ 0 := by simpa using hl.h
 refine x.ok (h.ln hl'.1 hm) hw fun y d G1 n1 ⟨o,e2,hq⟩ hlen E1 L1 D1 => ?_
 unfold ql3 at e2
 split at e2
 ·cases D1 with
  | cons x1 b => cases b with
   | cons x2 c =>
    cases c
    split at e2
    ·rename_i hs
     cases e2
     rw [Bool.and_eq_true] at hs
     exact k _ _ hq _ _ _ (((h.up E1 L1).put hl'.2.1.1 hl'.2.1.2 (WZ x1 hs.1)).put hl'.2.2.1 hl'.2.2.2 (WZ x2 hs.2))
    ·cases e2
     exact k _ _ hq _ _ _ ((((h.dem hl'.1).up E1 L1).put hl'.2.1.1 hl'.2.1.2 x1).put hl'.2.2.1 hl'.2.2.2 (x2.up qho))
 ·cases e2⟩
theorem RL.evalS {a : Addr} {z0 : Option (Option T) × Nat} {D : Addr → Prop} {G0 G : Gp} {A : Nat → Option Addr} {τ : St3} {ρ : Rho} {n : Nat} (h : RL l a z0 D G0 A τ ρ G n) {t : TE3} (x : PwE l t) (m : List Bool) (hm : Tru (x.fv.all (mkb m))) (hl : mkb m l = false) {Q : QD} (hw : x.w ρ n Q) (q : Q3) (k : ∀ y d G' n' A1,Q d n' → RL l a z0 D G0 A1 τ (dmS m d ρ) G' n' → Ext a G G' → Dq (rs (AD D A1) G') y d → q y G') : t τ G q := by
 refine x.ok (h.ln hl hm) hw fun y d G1 n1 hq E1 L1 D1 _ => ?_
 by_cases hs : qdT d = true
 ·exact k y d G1 n1 A hq (by unfold dmS;rw [if_pos hs];exact h.up E1 L1) E1 (WZ D1 hs)
 ·exact k y d G1 n1 _ hq (by unfold dmS;rw [if_neg hs];exact (h.dem hl).up E1 L1) E1 D1
def qbT (gf : PyData → Option (List (Nat × PyData))) (bw : Rho → Nat → QO → Prop) : List PyData → Rho → Nat → QO → Prop
 | [],ρ,n,Q => Q (.nx ρ) n
 | d :: r,ρ,n,Q => ∃ bs,gf d = some bs∧bw (QB ρ bs) n fun o n1 => match o with
  | .nx ρ' => qbT gf bw r ρ' n1 Q
  | .ct ρ' => qbT gf bw r ρ' n1 Q
  | .bk ρ' => Q (.nx ρ') n1
  | .rt d b => Q (.rt d b) n1
theorem E9 {g : TG3} {tb : TS3} (pg : PuG g) (pb : PwS l tb) : ∀ {ds : List PyData} {ρ : Rho} {n : Nat} {Q Q' : QO},qbT pg.f pb.w ds ρ n Q → (∀ o m,Q o m → Q' o m) → qbT pg.f pb.w ds ρ n Q'
 | [],_,_,_,_,h,k => k _ _ h
 | d :: r,_,_,_,_,⟨bs,e,h⟩,k => ⟨bs,e,pb.mono h fun o m h => by
   cases o with
   | nx ρ => exact E9 pg pb h k
   | ct ρ => exact E9 pg pb h k
   | bk ρ => exact k _ _ h
   | rt d b => exact k _ _ h⟩
theorem X9 {stay : Gp → Prop} {g : TG3} {tb : TS3} {e : Ends3} (pg : PuG g) (pb : PwS l tb) {a : Addr} {z0 : Option (Option T) × Nat} {D : Addr → Prop} {G0 : Gp} {Q : QO} (hl : ∀ i ∈ pg.tg,i ≠ l∧i ≠ 0) (hs : ∀ A τ ρ G n,RL l a z0 D G0 A τ ρ G n → stay G) (k : ∀ o m,Q o m → qah l a z0 D G0 e o m) :
  ∀ (ds : List PyData) (items : List T),(∀ A τ ρ G n,RL l a z0 D G0 A τ ρ G n → Dqs (rs (AD D A) G) items ds) → ∀ A τ ρ G n,RL l a z0 D G0 A τ ρ G n → qbT pg.f pb.w ds ρ n Q → CF stay g tb e items τ G
 | [],items,hi,A,τ,ρ,G,n,h,hw => by
  have := hi _ _ _ _ _ h
  cases this
  exact ⟨hs _ _ _ _ _ h,k _ _ hw _ _ _ h⟩
 | d :: ds,items,hi,A,τ,ρ,G,n,h,⟨bs,e1,hw⟩ => by
  have hh := hi _ _ _ _ _ h
  cases hh with
  | cons hx hr =>
   rename_i x items
   obtain ⟨ts,bd,kg⟩ := pg.ok hx e1
   refine ⟨hs _ _ _ _ _ h,kg _ _ _ ?_⟩
   obtain ⟨A',h'⟩ := h.puts bd fun p hp => hl _ (pg.at' e1 p hp)
   have hi' : ∀ A τ ρ G n,RL l a z0 D G0 A τ ρ G n → Dqs (rs (AD D A) G) items ds := fun A τ ρ G n h => by
    have := hi _ _ _ _ _ h
    cases this with
    | cons a b => exact b
   refine pb.ok h' hw fun o m hq => ?_
   cases o with
   | nx ρ' => exact fun A2 τ2 G2 h2 => X9 pg pb hl hs k ds items hi' _ _ _ _ _ h2 hq
   | ct ρ' => exact fun A2 τ2 G2 h2 => X9 pg pb hl hs k ds items hi' _ _ _ _ _ h2 hq
   | bk ρ' => exact k _ _ hq
   | rt d fr => exact k _ _ hq
theorem RL.base {a : Addr} {z0 : Option (Option T) × Nat} {D : Addr → Prop} {G0 Gb G : Gp} {A : Nat → Option Addr} {τ : St3} {ρ : Rho} {n : Nat} (h : RL l a z0 D Gb A τ ρ G n) (e : Ex G0 Gb) (hd : Dom D G0) : RL l a z0 D G0 A τ ρ G n := ⟨h.r.base e hd,h.al,h.tl,h.ul,h.lf,h.tz⟩
theorem qah.base {a : Addr} {z0 : Option (Option T) × Nat} {D : Addr → Prop} {G0 Gb : Gp} {e : Ends3} {o : Ot} {n : Nat} (h : qah l a z0 D G0 e o n) (x : Ex G0 Gb) (hd : Dom D G0) : qah l a z0 D Gb e o n := by
 cases o with
 | nx ρ => exact fun A τ G r => h A τ G (r.base x hd)
 | bk ρ => exact fun A τ G r => h A τ G (r.base x hd)
 | ct ρ => exact fun A τ G r => h A τ G (r.base x hd)
 | rt d fr => exact fun y G p q r z => h y G (x.trans p) q r fun w => (z w).back x
def qou {wi : TI3} {g : TG3} {tb : TS3} (pi : PwI l wi) (pg : PuG g) (pb : PwS l tb) (m : List Bool) (hm : Tru (pi.fv.all (mkb m))) (hl : Tru (!mkb m l && pg.tg.all (fun i => i != l && i != 0))) : PwS l (LN wi g tb) := ⟨fun ρ n Q => pi.w ρ n fun ds n1 => qbT pg.f pb.w ds (if pi.nm then ρ else dm m ρ) n1 Q,fun h k => pi.mono h fun d m h => E9 pg pb h k,fun {a z0 D G0 A τ ρ G n e Q} h hw k => by
 have hl' : mkb m l = false∧∀ i ∈ pg.tg,i ≠ l∧i ≠ 0 := by simpa using hl.h
 refine pi.ok (h.ln hl'.1 hm) hw fun items stay ds G1 n1 hq E1 L1 D1 hs hnm => ?_
 cases hb : pi.nm with
 | true =>
  rw [hb,if_pos rfl] at hq
  obtain ⟨ns,rfl⟩ := hnm hb
  have := D1.ints
  subst this
  exact X9 pg pb hl'.2 (fun _ _ _ _ _ _ => hs _ (.inl hb)) k _ _ (fun A τ ρ G _ _ => Dqs.ofInts _) _ _ _ _ _ (h.up E1 L1) hq
 | false =>
  rw [hb,if_neg Bool.false_ne_true] at hq
  have h1 := (h.dem hl'.1).up E1 L1
  have b1 : Ex G0 (rs (fun b => ∃ i,Ad m A i = some b) G1) := fun b o e => by
   rw [jE]
   ·exact h1.r.ex _ _ e
   ·rintro ⟨i,z⟩;rw [h1.r.fr i _ z] at e;cases e
  have h2 : RL l a z0 D (rs (fun b => ∃ i,Ad m A i = some b) G1) (Ad m A) τ (dm m ρ) G1 n1 := ⟨⟨V3,h.r.dm.up b1,fun i p z => by unfold rs;exact zO ⟨i,z⟩,h1.r.da,h1.r.inj,h1.r.len,h1.r.sh,h1.r.ow⟩,h1.al,h1.tl,h1.ul,h1.lf,h1.tz⟩
  have X : ∀ A2 τ2 ρ2 G2,RS D (rs (fun b => ∃ i,Ad m A i = some b) G1) A2 τ2 ρ2 G2 → Ex (rs (AD D (Ad m A)) G1) (rs (AD D A2) G2) := fun A2 τ2 ρ2 G2 r b o e => by
   obtain ⟨n1,e⟩ := qF e
   have eb : rs (fun b => ∃ i,Ad m A i = some b) G1 b = some o := by rw [jE (fun z => n1 (.inr z))];exact e
   rw [jE]
   ·exact r.ex _ _ eb
   ·rintro (z | ⟨i,z⟩)
    ·exact n1 (.inl z)
    ·rw [r.fr i _ z] at eb;cases eb
  exact X9 pg pb hl'.2 (fun A2 τ2 ρ2 G2 n2 r => hs _ (.inr ((X _ _ _ _ r.r).trans V3))) (fun o m hq => (k o m hq).base b1 h.r.dm) _ _ (fun A2 τ2 ρ2 G2 n2 r => D1.up (X _ _ _ _ r.r)) _ _ _ _ _ h2 hq⟩
end
def DSp (W : List PyData → Nat → QD → Prop) (fr : Bool) : Sp3 := fun ts G q => ∃ (D : Addr → Prop) (a : Addr) (n : Nat) (ts' : List T) (ds : List PyData) (Q : QD),ts = .ref a :: ts'∧Lf G a n∧D a∧Dom D G∧Dqs (rs D G) ts' ds∧W ds n Q∧∀ x d G' n',Q d n' → Ext a G G' → Lf G' a n' → Dq (rs D G') x d → (fr = true → Nw D G G' x d) → q x G'
structure Wm where
 W : List PyData → Nat → QD → Prop
 mono : ∀ {ds n} {Q Q' : QD},W ds n Q → (∀ d m,Q d m → Q' d m) → W ds n Q'
def dSp (w : Wm) (fr : Bool) : DrD (DSp w.W fr) := ⟨w.W,fr,w.mono,fun {D G a n ts ds q Q} lf da hd hs hw k => ⟨D,a,n,ts,ds,Q,rfl,lf,da,hd,hs,hw,k⟩⟩
def qh9 (fr : Bool) (Q : QD) : QO := fun o n => match o with
 | .rt d b => (fr = true → b = true)∧∃ m,n ≤ m∧Q d m
 | .nx _ => fr = false∧∃ m,n ≤ m∧Q .none m
 | _ => False
def qma {t : TS3} (b : PwS 0 t) (k N : Nat) (fr : Bool) : Wm := ⟨fun ds n Q => ds.length + 1 = k∧b.w (.un :: (ds.map Sl.sh ++ List.replicate (N - (ds.length + 1)) .un)) n (qh9 fr Q),fun ⟨h1,h2⟩ k => ⟨h1,b.mono h2 fun o m h => by
 cases o with
 | rt d f => obtain ⟨h1,m,h2,h3⟩ := h;exact ⟨h1,m,h2,k _ _ h3⟩
 | nx ρ => obtain ⟨h1,m,h2,h3⟩ := h;exact ⟨h1,m,h2,k _ _ h3⟩
 | bk ρ => exact h
 | ct ρ => exact h⟩⟩
theorem T3 {t : TS3} (b : PwS 0 t) (N : List Str) (k : Nat) (fr : Bool) : ∀ ts G q,DSp (qma b k N.length fr).W fr ts G q → ts.length = k∧t { nx := fun _ G' => q .non G',rt := q } (qs N ts) G := by
 rintro ts G q ⟨D,a,n,ts',ds,Q,rfl,lf,da,hd,hs,⟨hk,hw⟩,h⟩
 refine ⟨by simp [hs.length];omega,?_⟩
 have DD : ∀ b,(D b∧b ≠ a) ∨ b = a ↔ D b := fun b => by
  by_cases e : b = a
  ·subst e;simp [da]
  ·simp [e]
 have rr : ∀ H,rs (fun b => (D b∧b ≠ a) ∨ b = a) H = rs D H := fun H => by
  have : (fun b => (D b∧b ≠ a) ∨ b = a) = D := funext fun b => propext (DD b)
  rw [this]
 have ad : AD (fun b => D b∧b ≠ a) (fun i => if i = 0 then some a else none) = D := funext fun b => propext ⟨(fun z => by
   rcases z with z | ⟨i,z⟩
   ·exact z.1
   ·simp only at z
    split at z
    ·cases z;exact da
    ·cases z),(fun z => by
   by_cases e : b = a
   ·subst e;exact .inr ⟨0,rfl⟩
   ·exact .inl ⟨z,e⟩)⟩
 have ga : G a ≠ none := EO lf
 have r : RL 0 a (some (some (.ref a)),(qs N (.ref a :: ts')).length) (fun b => D b∧b ≠ a) (rs (fun b => b = a) G) (fun i => if i = 0 then some a else none) (qs N (.ref a :: ts')) (.un :: (ds.map Sl.sh ++ List.replicate (N.length - (ds.length + 1)) .un)) G n := by
  refine ⟨⟨V3,fun b hb => by rw [jE (D := fun b => b = a) hb.2];exact hd b hb.1,fun i p e => ?_,fun i p e => ?_,fun i j p e e' => ?_,by simp [qs,hs.length],fun i d' e => ?_,fun i es e => ?_⟩,rfl,by simp [qs],rfl,lf,⟨by simp [qs],rfl⟩⟩
  ·split at e
   ·cases e;unfold rs;exact zO rfl
   ·cases e
  ·split at e
   ·cases e;exact ga
   ·cases e
  ·split at e
   ·split at e'
    ·rename_i h1 h2;rw [h1,h2]
    ·cases e'
   ·cases e
  ·rw [ad]
   cases i with
   | zero => cases e
   | succ i =>
    rw [List.getElem?_cons_succ] at e
    by_cases hi : i < ds.length
    ·rw [List.getElem?_append_left (by simpa using hi),List.getElem?_map] at e
     obtain ⟨d2,e3,e4⟩ := Option.map_eq_some_iff.mp e
     cases e4
     obtain ⟨x,e5,hx⟩ := hs.get e3
     refine ⟨x,?_,hx⟩
     unfold qs
     rw [List.getElem?_append_left (by simp [hs.length];exact hi),List.getElem?_map,List.getElem?_cons_succ,e5];rfl
    ·rw [List.getElem?_append_right (by simpa using hi),List.getElem?_replicate] at e
     split at e <;> cases e
  ·cases i with
   | zero => cases e
   | succ i =>
    rw [List.getElem?_cons_succ] at e
    by_cases hi : i < ds.length
    ·rw [List.getElem?_append_left (by simpa using hi),List.getElem?_map] at e
     obtain ⟨d2,e3,e4⟩ := Option.map_eq_some_iff.mp e
     cases e4
    ·rw [List.getElem?_append_right (by simpa using hi),List.getElem?_replicate] at e
     split at e <;> cases e
 have xe : ∀ {G'},Ex (rs (fun b => b = a) G) G' → Ext a G G' := fun e b o n x => e b o (by rw [jE (D := fun b => b = a) n];exact x)
 refine b.ok r hw fun o m hq => ?_
 cases o with
 | rt d f =>
  intro x G' E L Dx0 N
  have Dx := Dx0
  rw [rr] at Dx
  obtain ⟨hq1,m2,hm,hq2⟩ := hq
  refine h x d G' m2 hq2 (xe E) (L.mono (by omega)) Dx fun z => ?_
  rcases N (hq1 z) with h2 | ⟨p,xs,ds',h1,h2,c,g,f'⟩
  ·exact .inl h2
  have np : p ≠ a := by
   rintro rfl
   rw [h1] at Dx0
   cases Dx0 with
   | lst g0 _ => exact (qF g0).1 (.inr rfl)
  refine .inr ⟨p,xs,ds',h1,h2,by rw [jE (D := fun b => b = a) np] at c;exact c,g,f'.up (zK fun b z => ?_)⟩
  rcases z with z | z
  ·exact .inl ((DD b).mpr z)
  ·exact .inr z
 | nx ρ =>
  obtain ⟨hq1,m2,hm,hq2⟩ := hq
  exact fun A τ G' r' => h .non .none G' m2 hq2 (xe r'.r.ex) (r'.lf.mono (by omega)) .non fun z => by rw [hq1] at z;cases z
 | bk ρ => exact hq.elim
 | ct ρ => exact hq.elim
end Pu
namespace Pu
open PySem L2 L3
open Bk (Lf Ext Dl Wk Dr)
def okW : QO := fun o _ => match o with | .nx _ => True | .ct _ => True | _ => False
def qog (K : Int) : TE3 := o3 zY (c3 (.int 1)) (cb3 qgc (qc (c3 (.int K)) (qc (cb3 DS (qc (v3 0) qj)) qj)))
theorem qiY {i : Nat} {τ : St3} {t : T} {G : Gp} {q : Q3} (h : τ[i]? = some (some t)) : v3 i τ G q = q t G := by unfold v3;rw [h]
def qox (K : Int) (R : TS3) : TS3 := qK (LN (j0 (qc (qog K) qj)) (gn3 1) (qK (zg (cb3 Bk.ZK (qc (v3 0) (qc (v3 1) qj))) (gn3 2)) R)) (qZ (c3 (.bl true)))
theorem qb0 {R : TS3} (b : PwS 2 R) (N : List Str) (K : Int) (M : Nat) (hK : 0 ≤ K∧K ≤ 60) (hN : N.length = M + 3) (h : ∀ k : Nat,k ≤ 60 → b.w ([.un,.sh (.int k),.un] ++ List.replicate M .un) 0 okW) : ∀ ts G q,WW ts G q → ts.length = 1∧qox K R { nx := fun _ G' => q .non G',rt := q } (qs N ts) G := by
 rintro ts G q ⟨a,ns,rfl,hG,hl,hq⟩
 refine ⟨rfl,?_⟩
 have s0 : (qs N [T.ref a])[0]? = some (some (.ref a)) := by simp [qs]
 have gl : getL G a = some (ns.map T.int) := by unfold getL;rw [hG]
 simp only [qox,qK,LN,j0,qog,qc,qj,o3,c3,cb3,v3,s0,DS,gl,qgc,zY,List.length_map]
 have cnt : ((1 + (if ((ns.length : Nat) : Int) < K then ((ns.length : Nat) : Int) else K)).toNat) ≤ 61 := by split <;> omega
 refine ⟨⟨by split <;> omega,by split <;> omega⟩,?_⟩
 refine SH _ (fun _ τ G' => G' a = some (.frz (ns.map T.int))∧τ[0]? = some (some (.ref a))∧τ.length = M + 3) ⟨hG,s0,by simp [qs,hN]⟩ (fun _ _ _ _ _ => True.intro) ?_ ?_
 ·rintro i z τ G' nx hz ⟨gA,t0,tl⟩ hn
  obtain ⟨hi,rfl⟩ := qfJ hz
  have hi2 : i ≤ 60 := by omega
  have t1 : (τ.set 1 (some (T.int (0 + (i : Int)))))[0]? = some (some (.ref a)) := by rw [List.getElem?_set,if_neg (by omega)];exact t0
  have t2 : (τ.set 1 (some (T.int (0 + (i : Int)))))[1]? = some (some (T.int (0 + (i : Int)))) := by rw [List.getElem?_set,if_pos rfl,if_pos (by omega)]
  show v3 0 (τ.set 1 (some (T.int (0 + (i : Int))))) G' (fun x G1 => v3 1 (τ.set 1 (some (T.int (0 + (i : Int))))) G1 fun y G2 => Bk.ZK [x,y] G2 fun z G3 => R _ ((τ.set 1 (some (T.int (0 + (i : Int))))).set 2 (some z)) G3)
  rw [qiY t1,qiY t2]
  refine ⟨a,_,ns,rfl,gA,hl,by omega,by omega,fun p o c hp ho => ?_⟩
  have pa : a ≠ p := by rintro rfl;rw [gA] at hp;cases hp
  have r : RL 2 p (some (some (.ref a)),M + 3) (fun _ => False) G' (fun j => if j = 2 then some p else none) ((τ.set 1 (some (T.int (0 + (i : Int))))).set 2 (some (.ref p))) ([.un,.sh (.int i),.un] ++ List.replicate M .un) (gu G' p (.lst [.int o,.int c,.int 0])) 0 := by
   refine ⟨⟨JK hp,fun b z => z.elim,fun j q e => ?_,fun j q e => ?_,fun j k q e e' => ?_,by simp [tl],fun j d e => ?_,fun j ds e => ?_⟩,rfl,by rw [List.getElem?_set,if_pos rfl,if_pos (by simp;omega)],rfl,⟨o,c,0,qN,ho,by omega,by omega⟩,⟨by rw [List.getElem?_set,if_neg (by omega)];exact t1,by simp [tl]⟩⟩
   ·split at e
    ·cases e;exact hp
    ·cases e
   ·split at e
    ·cases e;rw [qN];simp
    ·cases e
   ·split at e
    ·split at e'
     ·rename_i h1 h2;rw [h1,h2]
     ·cases e'
    ·cases e
   ·match j,e with
    | 0,e => cases e
    | 1,e =>
     cases e
     refine ⟨.int (0 + (i : Int)),by rw [List.getElem?_set,if_neg (by omega)];exact t2,?_⟩
     rw [Int.zero_add];exact .int _
    | 2,e => cases e
    | j + 3,e =>
     simp only [List.cons_append,List.nil_append,List.getElem?_cons_succ,List.getElem?_replicate] at e
     split at e <;> cases e
   ·match j,e with
    | 0,e => cases e
    | 1,e => cases e
    | 2,e => cases e
    | j + 3,e =>
     simp only [List.cons_append,List.nil_append,List.getElem?_cons_succ,List.getElem?_replicate] at e
     split at e <;> cases e
  refine b.ok r (h i hi2) fun o' m ho' => ?_
  cases o' with
  | nx ρ' => exact fun A τ' G2 r2 => hn _ _ ⟨r2.r.ex _ _ gA,r2.tz.1,r2.tz.2⟩
  | ct ρ' => exact fun A τ' G2 r2 => hn _ _ ⟨r2.r.ex _ _ gA,r2.tz.1,r2.tz.2⟩
  | bk ρ' => exact ho'.elim
  | rt d f => exact ho'.elim
 ·rintro τ G' ⟨gA,t0,tl⟩
  exact hq G'
theorem qat {G : Gp} {ts : List T} (h : Dqs G ts []) : ts = [] := by cases h;rfl
theorem qmU {G : Gp} {ts : List T} {i : Int} (h : Dqs G ts [.int i]) : ts = [.int i] := by
 cases h with
 | cons a b => cases b;cases a;rfl
theorem lfc {G : Gp} {a : Addr} {n c : Nat} (h : Lf G a ((n : Int) + (c : Int))) : Lf G a ((n + c : Nat) : Int) := by rw [Int.natCast_add];exact h
def V0 : DrD Bk.qG := ⟨fun ds n Q => ∃ m : Int,ds = [.int m]∧(1 ≤ m∧m < 1073741824)∧n < 1000000000∧∀ d : Int,0 ≤ d → d < m → Q (.int d) (n + 1),false,
 fun ⟨m,h1,h2,h3,h4⟩ k => ⟨m,h1,h2,h3,fun d x y => k _ _ (h4 d x y)⟩,fun {D G a n ts ds q Q} lf da hd hs ⟨m,h1,h2,h3,h4⟩ k => by
 subst h1
 have := qmU hs;subst this
 exact ⟨a,n,m,rfl,h2.1,h2.2,lf,by omega,fun d G' x y L E => k _ _ G' (n + 1) (h4 d x y) E (lfc (c := 1) L) (.int d) (fun z => by cases z)⟩⟩
def qen : DrD Bk.jk := ⟨fun ds n Q => ds = []∧n < 10000000∧∀ r c : Int,1 ≤ r∧r ≤ 16 → 1 ≤ c∧c ≤ 16 → Q (.tuple [.int r,.int c]) (n + 4),false,
 fun ⟨h1,h3,h4⟩ k => ⟨h1,h3,fun r c x y => k _ _ (h4 r c x y)⟩,fun {D G a n ts ds q Q} lf da hd hs ⟨h1,h3,h4⟩ k => by
 subst h1
 have := qat hs;subst this
 exact ⟨a,n,rfl,lf,by omega,fun r c G' a1 a2 a3 a4 L E => k _ _ G' (n + 4) (h4 r c ⟨a1,a2⟩ ⟨a3,a4⟩) E (lfc (c := 4) L) (.tup (.cons (.int _) (.cons (.int _) .nil))) (fun z => by cases z)⟩⟩
def qcP : DrD Bk.QC := ⟨fun ds n Q => ds = []∧n < 1000000∧∀ r c b p,Dr (.rests r c b p) 16 16 32 → Q (Pv.dlD (.rests r c b p)) (n + 10),false,
 fun ⟨h1,h3,h4⟩ k => ⟨h1,h3,fun r c b x z => k _ _ (h4 r c b x z)⟩,fun {D G a n ts ds q Q} lf da hd hs ⟨h1,h3,h4⟩ k => by
 subst h1
 have := qat hs;subst this
 exact ⟨a,n,rfl,lf,by omega,fun r c b x G' a1 L E => k _ _ G' (n + 10) (h4 r c b x a1) E (lfc (c := 10) L) (Pv.qfu _ _) (fun z => by cases z)⟩⟩
def qcK (n : Nat) : FnD (Bk.ja (n + 1)) := ⟨fun ds => match ds with | [d,e] => cif (d = e∧Bk.YI n d) (some (.bool true)) none | _ => none,false,fun {D G xs ds v q} hx hd hf k => by
 split at hf
 ·unfold cif at hf
  split at hf
  ·rename_i c
   cases hf
   obtain ⟨rfl,c⟩ := c
   cases hx with
   | cons x b => cases b with
    | cons y b =>
     cases b
     exact ⟨_,_,_,rfl,(x.up V3).dp,(y.up V3).dp,c,fun G' E => k _ _ E (.bl true) (fun z => by cases z)⟩
  ·cases hf
 ·cases hf⟩
theorem TF {n : Nat} {d : PyData} (h : Bk.YI n d) : (qcK n).f [d,d] = some (.bool true) := zO ⟨rfl,h⟩
end Pu
namespace Pu
open PySem L2 L3
open Bk (Lf Ext Dl Wk Dr)
theorem qik {l : Nat} {t : TE3} {b : PuE t} : (eOf (l := l) b).w = fun ρ n Q => ∃ d,b.f ρ = some d∧Q d n := id rfl
theorem qie {l : Nat} {t : TT3} {b : PuC t} : (cOf (l := l) b).w = fun ρ n Q => ∃ d,b.f ρ = some d∧Q d n := id rfl
theorem qks {l : Nat} {t : TA3} {b : PuA t} : (aOf (l := l) b).w = fun ρ n Q => ∃ d,b.f ρ = some d∧Q d n := id rfl
theorem qld {l : Nat} {t : TI3} {b : PuI t} : (iOf (l := l) b).w = fun ρ n Q => ∃ d,b.f ρ = some d∧Q d n := id rfl
theorem qoI {l : Nat} {r : R3} {ta tb : TE3} {R : OpD r} {a : PwE l ta} {b : PwE l tb} : (eO R a b).w = fun ρ n Q => a.w ρ n fun x n1 => b.w ρ n1 fun y n2 => ∃ v,R.f x y = some v∧Q v n2 := id rfl
theorem qbq {l : Nat} {ta : TE3} {tr : TA3} {a : PwE l ta} {r : PwA l tr} : (U2 a r).w = fun ρ n Q => a.w ρ n fun x n1 => r.w ρ n1 fun xs n2 => Q (x :: xs) n2 := id rfl
theorem qeN {l : Nat} {t : TA3} {b : PwA l t} {hn : Tru (Nat.ble b.k 1000)} : (qnm b hn).w = fun ρ n Q => b.w ρ n fun xs n1 => Q (.tuple xs) n1 := id rfl
theorem qir {l : Nat} {r : List T → Gp → Q3 → Prop} {t : TA3} {R : DrD r} {b : PwA l t} : (eDr R b).w = fun ρ n Q => b.w ρ n fun xs n1 => R.W xs n1 Q := id rfl
theorem qkI {l : Nat} {t : TE3} {b : PwE l t} : (cTb b).w = fun ρ n Q => b.w ρ n fun d n1 => ∃ k,asB d = some k∧Q k n1 := id rfl
theorem qhQ {l : Nat} {t : TT3} {ta tb : TE3} {c : PwC l t} {a : PwE l ta} {b : PwE l tb} : (eIf c a b).w = fun ρ n Q => c.w ρ n fun k n1 => if k then a.w ρ n1 Q else b.w ρ n1 Q := id rfl
theorem qet {l : Nat} {t : TI3} {b : PuI t} : (iOf (l := l) b).nm = b.nm := id rfl
theorem qeJ {l : Nat} {t : TE3} {b : PuE t} : (eOf (l := l) b).nw = b.nw := id rfl
theorem qiU {l : Nat} {r : R3} {ta tb : TE3} {R : OpD r} {a : PwE l ta} {b : PwE l tb} : (eO R a b).nw = R.nw := id rfl
theorem qaX {l : Nat} {t : TA3} {b : PwA l t} {hn : Tru (Nat.ble b.k 1000)} : (qnm b hn).nw = false := id rfl
theorem qc7 {l : Nat} {r : List T → Gp → Q3 → Prop} {t : TA3} {R : DrD r} {b : PwA l t} : (eDr R b).nw = R.nw := id rfl
theorem qda {l : Nat} {t : TT3} {ta tb : TE3} {c : PwC l t} {a : PwE l ta} {b : PwE l tb} : (eIf c a b).nw = false := id rfl
theorem NS {l : Nat} : (qby (l := l)).w = fun ρ n Q => Q (.nx ρ) n := id rfl
theorem N8 {l : Nat} {t u : TS3} {x : PwS l t} {y : PwS l u} : (DZ x y).w = fun ρ n Q => x.w ρ n (sqw y.w Q) := id rfl
theorem qef {b : Rho → Nat → QO → Prop} {Q : QO} {ρ : Rho} {n : Nat} : sqw b Q (.nx ρ) n = b ρ n Q := id rfl
theorem qdr {b : Rho → Nat → QO → Prop} {Q : QO} {d : PyData} {f : Bool} {n : Nat} : sqw b Q (.rt d f) n = Q (.rt d f) n := id rfl
theorem qhE {l : Nat} {c : TT3} {t u : TS3} {pc : PwC l c} {x : PwS l t} {y : PwS l u} : (wIf pc x y).w = fun ρ n Q => pc.w ρ n fun k n1 => if k then x.w ρ n1 Q else y.w ρ n1 Q := id rfl
theorem qek {l : Nat} {t : TE3} {x : PwE l t} : (qgA x).w = fun ρ n Q => x.w ρ n fun d n1 => Q (.rt d x.nw) n1 := id rfl
theorem qcX {l : Nat} {t : TE3} {x : PwE l t} {i : Nat} {m : List Bool} {hm : Tru (x.fv.all (mkb m))} {hl : Tru (!mkb m l && (i != l && i != 0))} : (qcp x i m hm hl).w = fun ρ n Q => x.w ρ n fun d n1 => Q (.nx (NF m x.nw i d ρ)) n1 := id rfl
theorem qaa {l : Nat} {t : TE3} {g : TG3} {x : PwE l t} {pg : PuG g} {m : List Bool} {hm : Tru (x.fv.all (mkb m))} {hl : Tru (!mkb m l && pg.tg.all (fun i => i != l && i != 0))} : (MQ x pg m hm hl).w = fun ρ n Q => x.w ρ n fun d n1 => ∃ bs,pg.f d = some bs∧Q (.nx (QB (dm m ρ) bs)) n1 := id rfl
theorem qe1 {l : Nat} {t : TA3} {x : PwA l t} {i j : Nat} {m : List Bool} {hm : Tru (x.fv.all (mkb m))} {hl : Tru (!mkb m l && ((i != l && i != 0) && (j != l && j != 0)))} : (qmc x i j m hm hl).w = fun ρ n Q => x.w ρ n fun ds n1 => ∃ o,ql3 i j m ds ρ = some o∧Q o n1 := id rfl
theorem qey {l : Nat} {wi : TI3} {g : TG3} {tb : TS3} {pi : PwI l wi} {pg : PuG g} {pb : PwS l tb} {m : List Bool} {hm : Tru (pi.fv.all (mkb m))} {hl : Tru (!mkb m l && pg.tg.all (fun i => i != l && i != 0))} : (qou pi pg pb m hm hl).w = fun ρ n Q => pi.w ρ n fun ds n1 => qbT pg.f pb.w ds (if pi.nm then ρ else dm m ρ) n1 Q := id rfl
theorem qaR {ds : List PyData} {n : Nat} {Q : QD} : V0.W ds n Q = (∃ m : Int,ds = [.int m]∧(1 ≤ m∧m < 1073741824)∧n < 1000000000∧∀ d : Int,0 ≤ d → d < m → Q (.int d) (n + 1)) := id rfl
theorem LS {ds : List PyData} {n : Nat} {Q : QD} : qen.W ds n Q = (ds = []∧n < 10000000∧∀ r c : Int,1 ≤ r∧r ≤ 16 → 1 ≤ c∧c ≤ 16 → Q (.tuple [.int r,.int c]) (n + 4)) := id rfl
theorem LV {ds : List PyData} {n : Nat} {Q : QD} : qcP.W ds n Q = (ds = []∧n < 1000000∧∀ r c b p,Dr (.rests r c b p) 16 16 32 → Q (Pv.dlD (.rests r c b p)) (n + 10)) := id rfl
theorem qlh {w : Wm} {fr : Bool} : (dSp w fr).W = w.W := id rfl
theorem qd1 {w : Wm} {fr : Bool} : (dSp w fr).nw = fr := id rfl
theorem NZ {Q : QD} {d : PyData} {b : Bool} {n : Nat} : qh9 false Q (.rt d b) n = ∃ m,n ≤ m∧Q d m := propext ⟨fun h => h.2,fun h => ⟨fun z => (Bool.false_ne_true z).elim,h⟩⟩
theorem qdM {ρ : Rho} {n : Nat} : okW (.nx ρ) n = True := id rfl
theorem qkn {α : Type} {v : α} {P : α → Prop} : (∃ d,some v = some d∧P d) = P v := propext ⟨fun ⟨d,h1,h2⟩ => by cases h1;exact h2,fun h => ⟨v,rfl,h⟩⟩
theorem qdw {v : Int} {P : Int → Prop} : (∃ m : Int,[PyData.int v] = [.int m]∧P m) = P v := propext ⟨fun ⟨d,h1,h2⟩ => by cases h1;exact h2,fun h => ⟨v,rfl,h⟩⟩
theorem qex {m : List Bool} {nw : Bool} {i : Nat} {d : Dl} {ρ : Rho} : NF m nw i (Pv.dlD d) ρ = (dm m ρ).set i (.sh (Pv.dlD d)) := by cases d <;> exact qfl
theorem VN {l : Nat} {t u : TS3} {x : PwS l t} {y : PwS l u} {ρ : Rho} {n : Nat} {Q : QO} (h : ∀ Y : Rho → Nat → QO → Prop,Y = y.w → x.w ρ n (sqw Y Q)) : (DZ x y).w ρ n Q := h _ rfl
theorem XG {ks : List Int} {d : Int} {P : PyData → Prop} (h0 : 0 ≤ d) (h1 : d < (ks.length : Int)) (h : ∀ k ∈ ks,P (.int k)) : ∃ v,L2.atI (ks.map PyData.int) d = some v∧P v := by
 obtain ⟨i,rfl⟩ := Int.eq_ofNat_of_zero_le h0
 have hi : i < ks.length := by omega
 refine ⟨.int ks[i],?_,h _ (List.getElem_mem hi)⟩
 have := atN (xs := ks.map PyData.int) (k := i) (by simpa using hi)
 rw [List.getElem?_map,List.getElem?_eq_getElem hi] at this
 exact this
structure Mn (bw : Rho → Nat → QO → Prop) : Prop where
 h : ∀ ρ n (Q Q' : QO),bw ρ n Q → (∀ o m,Q o m → Q' o m) → bw ρ n Q'
theorem PwS.mn {l : Nat} {t : TS3} (b : PwS l t) : Mn b.w := ⟨fun _ _ _ _ h k => b.mono h k⟩
section
variable {l : Nat} {g : TG3} {tb : TS3}
theorem qca {gf : PyData → Option (List (Nat × PyData))} {bw : Rho → Nat → QO → Prop} {α : Type} {f : α → PyData} (xs : List α) (mono : Mn bw) (I : Nat → Rho → Nat → Prop) {ρ : Rho} {n : Nat} {Q : QO} (h0 : I 0 ρ n)
  (hs : ∀ i x ρ n,xs[i]? = some x → I i ρ n → ∃ bs,gf (f x) = some bs∧bw (QB ρ bs) n fun o m => match o with | .nx ρ' => I (i + 1) ρ' m | .ct ρ' => I (i + 1) ρ' m | .bk ρ' => Q (.nx ρ') m | .rt d b => Q (.rt d b) m)
  (k : ∀ ρ n,I xs.length ρ n → Q (.nx ρ) n) : qbT gf bw (xs.map f) ρ n Q := by
 have key : ∀ (r : List α) (i : Nat) (ρ : Rho) (n : Nat),xs.drop i = r → i ≤ xs.length → I i ρ n → qbT gf bw (r.map f) ρ n Q := by
  intro r
  induction r with
  | nil =>
   intro i ρ n e hi h
   have : i = xs.length := by
    have := congrArg List.length e
    simp at this;omega
   subst this
   exact k ρ n h
  | cons x r ih =>
   intro i ρ n e hi h
   have hl : i < xs.length := by
    have := congrArg List.length e
    simp at this;omega
   have e' := List.drop_eq_getElem_cons hl
   rw [e] at e'
   injection e' with e1 e2
   obtain ⟨bs,h1,h2⟩ := hs i x ρ n (by rw [List.getElem?_eq_getElem hl,e1]) h
   refine ⟨bs,h1,mono.h _ _ _ _ h2 fun o m h => ?_⟩
   cases o with
   | nx ρ' => exact ih (i + 1) ρ' m e2.symm hl h
   | ct ρ' => exact ih (i + 1) ρ' m e2.symm hl h
   | bk ρ' => exact h
   | rt d b => exact h
 exact key xs 0 ρ n (by simp) (Nat.zero_le _) h0
end
theorem qaN {α β : Type} {x : α} {f : α → Option β} : (some x).bind f = f x := id rfl
theorem qdG {α β : Type} {x : α} {f : α → β} : (some x).map f = some (f x) := id rfl
theorem qio {α : Type} {x : α} {r : List α} : (x :: r).length = r.length + 1 := id rfl
theorem qjF {α : Type} : ([] : List α).length = 0 := id rfl
theorem qjw {α : Type} {x y : α} {r : List α} : (x :: r).set 0 y = y :: r := id rfl
theorem qjU {α : Type} {x y : α} {r : List α} {i : Nat} : (x :: r).set (i + 1) y = x :: r.set i y := id rfl
theorem qh0 {α : Type} {r : List α} : r ++ [] = r := List.append_nil r
theorem qhD {α : Type} {x : α} {r s : List α} : (x :: r) ++ s = x :: (r ++ s) := id rfl
theorem qhI {α : Type} {s : List α} : [] ++ s = s := id rfl
theorem qih {n : Nat} : 0 + n = n := Nat.zero_add n
theorem qht {p : Prop} : (True∧p) = p := true_and p
theorem qiq {p : Prop} : (p∧True) = p := and_true p
theorem qhd {α : Type} {a b : α} {i : Decidable True} : @ite α True i a b = a := if_pos trivial
theorem qi5 {α : Type} {a b : α} {i : Decidable False} : @ite α False i a b = b := if_neg not_false
theorem qjM : (false = true) = False := Bool.false_eq_true
theorem qhW : (!true) = false := id rfl
theorem qg9 : (!false) = true := id rfl
theorem qhR {i : Decidable True} : @decide True i = true := decide_true i
theorem qkp {i : Decidable False} : @decide False i = false := decide_false i
theorem qhS {b : Bool} : (b || true) = true := Bool.or_true b
theorem qlj {b : Bool} : (true || b) = true := Bool.true_or b
theorem qlI {b : Bool} : (b || false) = b := Bool.or_false b
theorem qkb {b : Bool} : (true && b) = b := Bool.true_and b
theorem qjC {b : Bool} : (false && b) = false := Bool.false_and b
theorem pwA : type_of% (And.intro (And.intro (And.intro (And.intro (And.intro (And.intro (And.intro @Pu.qik (And.intro @Pu.qie @Pu.qks)) (And.intro @Pu.qld (And.intro @Pu.qoI @Pu.qbq))) (And.intro (And.intro @Pu.qeN (And.intro @Pu.qir @Pu.qkI)) (And.intro @Pu.qhQ (And.intro @Pu.qet @Pu.qeJ)))) (And.intro (And.intro (And.intro @Pu.qiU (And.intro @Pu.qaX @Pu.qc7)) (And.intro @Pu.qda (And.intro @Pu.NS @Pu.N8))) (And.intro (And.intro @Pu.qef (And.intro @Pu.qdr @Pu.qhE)) (And.intro @Pu.qek (And.intro @Pu.qcX @Pu.qaa))))) (And.intro (And.intro (And.intro (And.intro @Pu.qe1 (And.intro @Pu.qey @Pu.qaR)) (And.intro @Pu.LS (And.intro @Pu.LV @Pu.qlh))) (And.intro (And.intro @Pu.qd1 (And.intro @Pu.NZ @Pu.qdM)) (And.intro @Pu.qdw (And.intro @Pu.qex @Pu.qjK)))) (And.intro (And.intro (And.intro @Pu.qn0 (And.intro @Pu.qeS @Pu.qh1)) (And.intro @Pu.qeB (And.intro @Pu.qeP @Pu.qoh))) (And.intro (And.intro @Pu.qdx (And.intro @Pu.qaZ @Pu.qeG)) (And.intro (And.intro @Pu.qcW @Pu.NV) (And.intro @Pu.qhe @Pu.qd2)))))) (And.intro (And.intro (And.intro (And.intro (And.intro @Pu.qkN (And.intro @Pu.qdz @Pu.qj7)) (And.intro @Pu.N9 (And.intro @Pu.qaj @Pu.qeY))) (And.intro (And.intro @Pu.qkY (And.intro @Pu.qes @Pu.qiH)) (And.intro @Pu.qg5 (And.intro @Pu.qa2 @Pu.qh7)))) (And.intro (And.intro (And.intro @Pu.qdO (And.intro @Pu.qdN @Pu.qdJ)) (And.intro @Pu.qe2 (And.intro @Pu.qdd @Pu.qeZ))) (And.intro (And.intro @Pu.qc8 (And.intro @Pu.qbo @Pu.NJ)) (And.intro @Pu.qbg (And.intro @Pu.qk5 @Pu.qlJ))))) (And.intro (And.intro (And.intro (And.intro @Pu.qiV (And.intro @Pu.qc4 @Pu.qav)) (And.intro @Pu.qeL (And.intro @Pu.qad @Pu.LR))) (And.intro (And.intro @Pu.qc2 (And.intro @Pu.qd9 @Pu.qbE)) (And.intro @Pu.qaK (And.intro @Pu.qow @Pu.qdt)))) (And.intro (And.intro (And.intro @Pu.qa6 (And.intro @Pu.qdo @Pu.qaP)) (And.intro @Pu.qed (And.intro @Pu.qkF @Pu.qdU))) (And.intro (And.intro @Pu.qaq (And.intro @Pu.qez @Pu.qak)) (And.intro (And.intro @Pu.qc3 @Pu.qdD) (And.intro @Pu.qkx @Pu.qbp))))))) (And.intro (And.intro (And.intro (And.intro (And.intro (And.intro @Pu.qeR (And.intro @Pu.qac @Pu.qhT)) (And.intro @Pu.qaD (And.intro @Pu.qam @Pu.K8))) (And.intro (And.intro @Pu.LJ (And.intro @Pu.LM @Pu.qd0)) (And.intro @Pu.qbd (And.intro @Pu.qbw @Pu.N7)))) (And.intro (And.intro (And.intro @Pu.NK (And.intro @Pu.qaJ @Pu.LK)) (And.intro @Pu.SX (And.intro @Pu.LT @Pu.qeO))) (And.intro (And.intro @Pu.qov (And.intro @Pu.qn6 @Pu.qjh)) (And.intro @Pu.qk8 (And.intro @Pu.qbh @Pu.qc6))))) (And.intro (And.intro (And.intro (And.intro @Pu.qlk (And.intro @Pu.qjt @Pu.at0)) (And.intro @Pu.at1 (And.intro @Pu.at2 @Pu.at3))) (And.intro (And.intro @Pu.at4 (And.intro @Pu.at5 @Pu.eqS)) (And.intro @Pu.eqI (And.intro @Pu.qjj @Pu.qlf)))) (And.intro (And.intro (And.intro @Pu.qn7 (And.intro @Pu.qeI @Pu.qeV)) (And.intro @Pu.qde (And.intro @Pu.qar @Pu.qdY))) (And.intro (And.intro @Pu.qk0 (And.intro @Pu.qjm @Pu.qj4)) (And.intro (And.intro @Pu.qdP @Pu.qdH) (And.intro @Pu.qdj @Pu.qcO)))))) (And.intro (And.intro (And.intro (And.intro (And.intro @Pu.qdf (And.intro @Pu.qeA @Pu.qaI)) (And.intro @Pu.qcQ (And.intro @Pu.qhh @Pu.qjL))) (And.intro (And.intro @Pu.qlC (And.intro @Pu.qla @Pu.qkO)) (And.intro @Pu.qfl (And.intro @Pu.qdK @Pu.qos)))) (And.intro (And.intro (And.intro @Pu.qok (And.intro @Pu.qoE @Pu.qkX)) (And.intro @Pu.qky (And.intro @Pu.qg2 @Pu.qim))) (And.intro (And.intro @Pu.qkE (And.intro @Pu.qoz @Pu.qhk)) (And.intro (And.intro @Pu.qdh @Pu.qc9) (And.intro @Pu.qee @Pu.qdS))))) (And.intro (And.intro (And.intro (And.intro @Pu.qkn (And.intro @Pu.qaN @Pu.qdG)) (And.intro @Pu.qio (And.intro @Pu.qjF @Pu.qjw))) (And.intro (And.intro @Pu.qjU (And.intro @Pu.qh0 @Pu.qhD)) (And.intro @Pu.qhI (And.intro @Pu.qih @Pu.qht)))) (And.intro (And.intro (And.intro @Pu.qiq (And.intro @Pu.qhd @Pu.qi5)) (And.intro @Pu.qjM (And.intro @Pu.qhW @Pu.qg9))) (And.intro (And.intro @Pu.qhR (And.intro @Pu.qkp @Pu.qhS)) (And.intro (And.intro @Pu.qlj @Pu.qlI) (And.intro @Pu.qkb @Pu.qjC)))))))) := (And.intro (And.intro (And.intro (And.intro (And.intro (And.intro (And.intro @Pu.qik (And.intro @Pu.qie @Pu.qks)) (And.intro @Pu.qld (And.intro @Pu.qoI @Pu.qbq))) (And.intro (And.intro @Pu.qeN (And.intro @Pu.qir @Pu.qkI)) (And.intro @Pu.qhQ (And.intro @Pu.qet @Pu.qeJ)))) (And.intro (And.intro (And.intro @Pu.qiU (And.intro @Pu.qaX @Pu.qc7)) (And.intro @Pu.qda (And.intro @Pu.NS @Pu.N8))) (And.intro (And.intro @Pu.qef (And.intro @Pu.qdr @Pu.qhE)) (And.intro @Pu.qek (And.intro @Pu.qcX @Pu.qaa))))) (And.intro (And.intro (And.intro (And.intro @Pu.qe1 (And.intro @Pu.qey @Pu.qaR)) (And.intro @Pu.LS (And.intro @Pu.LV @Pu.qlh))) (And.intro (And.intro @Pu.qd1 (And.intro @Pu.NZ @Pu.qdM)) (And.intro @Pu.qdw (And.intro @Pu.qex @Pu.qjK)))) (And.intro (And.intro (And.intro @Pu.qn0 (And.intro @Pu.qeS @Pu.qh1)) (And.intro @Pu.qeB (And.intro @Pu.qeP @Pu.qoh))) (And.intro (And.intro @Pu.qdx (And.intro @Pu.qaZ @Pu.qeG)) (And.intro (And.intro @Pu.qcW @Pu.NV) (And.intro @Pu.qhe @Pu.qd2)))))) (And.intro (And.intro (And.intro (And.intro (And.intro @Pu.qkN (And.intro @Pu.qdz @Pu.qj7)) (And.intro @Pu.N9 (And.intro @Pu.qaj @Pu.qeY))) (And.intro (And.intro @Pu.qkY (And.intro @Pu.qes @Pu.qiH)) (And.intro @Pu.qg5 (And.intro @Pu.qa2 @Pu.qh7)))) (And.intro (And.intro (And.intro @Pu.qdO (And.intro @Pu.qdN @Pu.qdJ)) (And.intro @Pu.qe2 (And.intro @Pu.qdd @Pu.qeZ))) (And.intro (And.intro @Pu.qc8 (And.intro @Pu.qbo @Pu.NJ)) (And.intro @Pu.qbg (And.intro @Pu.qk5 @Pu.qlJ))))) (And.intro (And.intro (And.intro (And.intro @Pu.qiV (And.intro @Pu.qc4 @Pu.qav)) (And.intro @Pu.qeL (And.intro @Pu.qad @Pu.LR))) (And.intro (And.intro @Pu.qc2 (And.intro @Pu.qd9 @Pu.qbE)) (And.intro @Pu.qaK (And.intro @Pu.qow @Pu.qdt)))) (And.intro (And.intro (And.intro @Pu.qa6 (And.intro @Pu.qdo @Pu.qaP)) (And.intro @Pu.qed (And.intro @Pu.qkF @Pu.qdU))) (And.intro (And.intro @Pu.qaq (And.intro @Pu.qez @Pu.qak)) (And.intro (And.intro @Pu.qc3 @Pu.qdD) (And.intro @Pu.qkx @Pu.qbp))))))) (And.intro (And.intro (And.intro (And.intro (And.intro (And.intro @Pu.qeR (And.intro @Pu.qac @Pu.qhT)) (And.intro @Pu.qaD (And.intro @Pu.qam @Pu.K8))) (And.intro (And.intro @Pu.LJ (And.intro @Pu.LM @Pu.qd0)) (And.intro @Pu.qbd (And.intro @Pu.qbw @Pu.N7)))) (And.intro (And.intro (And.intro @Pu.NK (And.intro @Pu.qaJ @Pu.LK)) (And.intro @Pu.SX (And.intro @Pu.LT @Pu.qeO))) (And.intro (And.intro @Pu.qov (And.intro @Pu.qn6 @Pu.qjh)) (And.intro @Pu.qk8 (And.intro @Pu.qbh @Pu.qc6))))) (And.intro (And.intro (And.intro (And.intro @Pu.qlk (And.intro @Pu.qjt @Pu.at0)) (And.intro @Pu.at1 (And.intro @Pu.at2 @Pu.at3))) (And.intro (And.intro @Pu.at4 (And.intro @Pu.at5 @Pu.eqS)) (And.intro @Pu.eqI (And.intro @Pu.qjj @Pu.qlf)))) (And.intro (And.intro (And.intro @Pu.qn7 (And.intro @Pu.qeI @Pu.qeV)) (And.intro @Pu.qde (And.intro @Pu.qar @Pu.qdY))) (And.intro (And.intro @Pu.qk0 (And.intro @Pu.qjm @Pu.qj4)) (And.intro (And.intro @Pu.qdP @Pu.qdH) (And.intro @Pu.qdj @Pu.qcO)))))) (And.intro (And.intro (And.intro (And.intro (And.intro @Pu.qdf (And.intro @Pu.qeA @Pu.qaI)) (And.intro @Pu.qcQ (And.intro @Pu.qhh @Pu.qjL))) (And.intro (And.intro @Pu.qlC (And.intro @Pu.qla @Pu.qkO)) (And.intro @Pu.qfl (And.intro @Pu.qdK @Pu.qos)))) (And.intro (And.intro (And.intro @Pu.qok (And.intro @Pu.qoE @Pu.qkX)) (And.intro @Pu.qky (And.intro @Pu.qg2 @Pu.qim))) (And.intro (And.intro @Pu.qkE (And.intro @Pu.qoz @Pu.qhk)) (And.intro (And.intro @Pu.qdh @Pu.qc9) (And.intro @Pu.qee @Pu.qdS))))) (And.intro (And.intro (And.intro (And.intro @Pu.qkn (And.intro @Pu.qaN @Pu.qdG)) (And.intro @Pu.qio (And.intro @Pu.qjF @Pu.qjw))) (And.intro (And.intro @Pu.qjU (And.intro @Pu.qh0 @Pu.qhD)) (And.intro @Pu.qhI (And.intro @Pu.qih @Pu.qht)))) (And.intro (And.intro (And.intro @Pu.qiq (And.intro @Pu.qhd @Pu.qi5)) (And.intro @Pu.qjM (And.intro @Pu.qhW @Pu.qg9))) (And.intro (And.intro @Pu.qhR (And.intro @Pu.qkp @Pu.qhS)) (And.intro (And.intro @Pu.qlj @Pu.qlI) (And.intro @Pu.qkb @Pu.qjC))))))))
end Pu
namespace Pu
open PySem L2 L3
open Bk (Lf Ext Dl Wk Dr)
end Pu
namespace Pu
open PySem L2 L3
open Bk (Lf Ext Dl Wk Dr)
def the (S : PyData → Prop) : Option PyData := @dite _ (∃ v,S v) (Classical.propDecidable _) (fun h => some (Classical.choose h)) fun _ => none
end Pu
namespace Pu
open PySem L2 L3
open Bk (Lf Ext Dl Wk Dr)
end Pu
namespace Pu
open PySem L2 L3
end Pu
namespace Pu
open PySem L2 L3
def nxM (M : Rho → Nat → Prop) : QO := fun o m => match o with | .nx ρ' => M ρ' m | _ => False
theorem KY {M : Rho → Nat → Prop} {ρ : Rho} {n : Nat} : nxM M (.nx ρ) n = M ρ n := id rfl
theorem NO {l : Nat} {t u : TS3} {x : PwS l t} {y : PwS l u} {ρ : Rho} {n : Nat} {Q : QO} (M : Rho → Nat → Prop) (h1 : x.w ρ n (nxM M)) (h2 : ∀ ρ' m,M ρ' m → y.w ρ' m Q) : (DZ x y).w ρ n Q := by
 rw [N8]
 refine x.mono h1 fun o m h => ?_
 cases o with
 | nx ρ' => exact h2 _ _ h
 | _ => exact h.elim
theorem LO {a m : Int} {n : Nat} (h : m ∈ jZ a n) : a ≤ m∧m < a + n := by
 unfold jZ at h
 obtain ⟨i,hi,rfl⟩ := List.mem_map.mp h
 have := List.mem_range.mp hi
 omega
end Pu
namespace Pu
open PySem L2 L3
end Pu
namespace Pu
open PySem L2 L3
def qlU (d e : PyData) : Option PyData := match d,e with
 | .list xs,.int k => cif ((-(2 ^ 63) ≤ k∧k < 2 ^ 63)∧xs.length * k.toNat ≤ sizeLine) (some (.list (List.replicate k.toNat xs).flatten)) none
 | _,_ => none
theorem Dqs.rep {G : Gp} {xs : List T} {ds : List PyData} (h : Dqs G xs ds) : ∀ k,Dqs G (List.replicate k xs).flatten (List.replicate k ds).flatten
 | 0 => .nil
 | k + 1 => by
  rw [List.replicate_succ,List.flatten_cons,List.replicate_succ,List.flatten_cons]
  exact h.append (h.rep k)
def qcn : OpD qfX := ⟨qlU,true,fun {D G x y d e v q} hx hy hd hf k => by
 unfold qlU at hf
 cases hx with
 | lst g hs =>
  cases hy <;> try (simp at hf;done)
  simp only [cif] at hf
  split at hf
  ·rename_i c
   cases hf
   simp only [qfX,(qF g).2]
   exact ⟨c.1,by rw [hs.length];exact c.2,fun p hp => k _ _ (JK hp) (U1 hd hp (hs.rep _)) fun _ => WK hp (hs.rep _)⟩
  ·cases hf
 | _ => simp at hf⟩
theorem qfb : qcn.f = qlU := id rfl
theorem qcC : qcn.nw = true := id rfl
theorem qol {d : PyData} {k : Int} (h : -1000 ≤ k∧k ≤ 1000000) : qlU (.list [d]) (.int k) = some (.list (List.replicate k.toNat d)) := by
 have e : (List.replicate k.toNat [d]).flatten = List.replicate k.toNat d := by simp
 refine (zO ⟨by omega,?_⟩).trans (by rw [e])
 rw [sizeLine_eq,List.length_singleton];omega
theorem qev {xs ys : List PyData} (h : xs.length + ys.length ≤ 16777216) : ql0 (.list xs) (.list ys) = some (.list (xs ++ ys)) := zO (by rw [sizeLine_eq];exact h)
def qme : List PyData → Option PyData
 | [.int x,.int y] => cif (0 ≤ x∧0 ≤ y) (some (.int (Int.gcd x y : Nat))) none
 | _ => none
def qnf : FnD Bk.QU := ⟨qme,false,fun {D G xs ds v q} hx hd hf k => by
 cases hx with
 | nil => cases hf
 | cons a b =>
  cases b with
  | nil => cases a <;> cases hf
  | cons b c =>
   cases c with
   | cons _ _ => cases a <;> cases b <;> cases hf
   | nil =>
    cases a <;> cases b <;> try (cases hf;done)
    rename_i x y
    unfold qme cif at hf
    simp only at hf
    split at hf
    ·rename_i z
     cases hf
     exact ⟨x,y,rfl,z.1,z.2,k _ _ Ex.refl (.int _) (fun z => by cases z)⟩
    ·cases hf⟩
theorem qg4 : qnf.f = qme := id rfl
theorem qf8 : qnf.nw = false := id rfl
theorem qm8 {x y : Int} (h : 0 ≤ x∧0 ≤ y) : qme [.int x,.int y] = some (.int (Int.gcd x y : Nat)) := zO h
end Pu
namespace Pv
open PySem L2 L3 Pu
open Bk (Wk zI zb VJ lnD lnA Un2 Fst faO zC zS WP)
theorem j9 {lo : Int} {n i : Nat} {x : Int} (h : (jZ lo n)[i]? = some x) : i < n∧x = lo + i := by
 unfold jZ at h
 rw [List.getElem?_map] at h
 obtain ⟨k,e1,e2⟩ := Option.map_eq_some_iff.mp h
 obtain ⟨hl,hk⟩ := List.getElem?_eq_some_iff.mp e1
 simp at hl hk
 subst hk
 exact ⟨hl,e2.symm⟩
theorem JY (lo : Int) (n : Nat) : (jZ lo n).length = n := by simp [jZ]
theorem qaB {lo : Int} {n i : Nat} (h : i < n) : (jZ lo n)[i]? = some (lo + i) := by simp [jZ,h]
theorem ES {d a : Int} {m : Nat} (hd : -1000 ≤ d∧d ≤ 1000) (ha : -1000 ≤ a∧a ≤ 1000) (hm : m ≤ 10000) : zn [.int d,.int a,.int m] = some (.list ((zI d a m).map pD)) := by
 rw [qbf]
 try simp only [Pu.pwA,U6]
 rw [UW (ds := (jZ 0 m).map PyData.int) (fs := (zI d a m).map pD)]
 ·try simp only [Pu.pwA]
 ·try simp (disch := omega) only [Pu.pwA,qgY,Int.toNat_natCast]
 ·have : zI d a m = (jZ 0 m).map fun i => (i * d,i * a) := by simp [zI,jZ,List.map_map,Function.comp_def]
  rw [this,List.map_map]
  refine QH fun i hi => ?_
  try simp (disch := omega) only [Pu.pwA,UN,qer,Function.comp_def,pD]
 ·simp [zI];omega
def Big : Wk → Prop
 | .line k m => k < 4∧m ≤ 1000
 | .block h w => h ≤ 1000∧w ≤ 1000
 | .step d a m => (-1000 ≤ d∧d ≤ 1000)∧(-1000 ≤ a∧a ≤ 1000)∧m ≤ 1000
 | .cells ps => ps.length ≤ 1000
theorem YE {w : Wk} (ok : Big w) : qr [Wk.d w] = some (.list (w.pc.map pD)) := by
 cases w with
 | cells ps =>
  rw [ZD]
  try simp only [Pu.pwA,z9,Wk.d,eq_self,Wk.pc]
 | block h v =>
  obtain ⟨h1,h2⟩ := ok
  rw [ZD]
  try simp only [Pu.pwA,z9,Wk.d,eq_self,L3.WA,Wk.pc]
  rw [KQ (ds := (jZ 0 h).map PyData.int) (fs := (zb h v).map pD)]
  ·try simp only [Pu.pwA]
  ·try simp (disch := omega) only [Pu.pwA,qgY,Int.toNat_natCast]
  ·have : (zb h v).map pD = (jZ 0 h).flatMap fun p => (jZ 0 v).map fun q => pD (p,q) := by
    simp only [zb,jZ,List.map_flatMap,List.map_map,List.flatMap_map,Function.comp_def,Int.zero_add]
   rw [this]
   refine XO fun p hp => ?_
   try simp (disch := omega) only [Pu.pwA,qbD,qgY,Int.toNat_natCast]
   rw [QH (k := fun q => pD (p,q)) fun q hq => ?_]
   ·try simp only [Pu.pwA]
   ·try simp only [Pu.pwA,UN,pD]
  ·have := Nat.mul_le_mul h1 h2
   rw [List.length_map,Bk.zq];omega
 | step d a m =>
  obtain ⟨h1,h2,h3⟩ := ok
  rw [ZD]
  try simp only [Pu.pwA,z9,Wk.d,eq_self,L3.CZ,L3.CY,Wk.pc,ES h1 h2 (show m ≤ 10000 by omega)]
 | line k m =>
  obtain ⟨h1,h2⟩ := ok
  have key : ∀ (s : Str) (d a : Int),¬ s = Str.ofString "cells" → ¬ s = Str.ofString "block" → ¬ s = Str.ofString "step" → (-1000 ≤ d∧d ≤ 1000) → (-1000 ≤ a∧a ≤ 1000) → (YM VL s).bind tD = some (.tuple [.int d,.int a]) → qr [.tuple [.str s,.int (m : Int)]] = some (.list ((zI d a m).map pD)) := by
   intro s d a n1 n2 n3 hd ha e
   rw [ZD]
   try simp only [Pu.pwA,z9,n1,n2,n3,e,ES (d := d) (a := a) (m := m) hd ha (by omega)]
  have : (k = 0 ∨ k = 1 ∨ k = 2 ∨ k = 3) := by omega
  rcases this with rfl | rfl | rfl | rfl
  ·exact key "row" 0 1 L3.R7 L3.SB L3.T9 (by decide) (by decide) rfl
  ·exact key "column" 1 0 L3.DH L3.DN L3.D9 (by decide) (by decide) rfl
  ·exact key "slant" 1 1 L3.DY L3.WB L3.XZ (by decide) (by decide) rfl
  ·exact key "back" 1 (-1) L3.X5 L3.CC L3.C6 (by decide) (by decide) rfl
def faD (ns : List Int) : PyData := match faO ns with | some (i,j) => .tuple [.int i,.int j] | none => .none
theorem qot {ns : List Int} {x : PyData} (hl : ns.length ≤ 1000000) (h1 : qeq [x] = some (.int ns.length)) (h2 : ∀ i,ixD x (.int i) = L2.atI (ns.map PyData.int) i) : ql [x] = some (faD ns) := by
 rw [D0]
 have at' : ∀ i : Nat,i < ns.length → ixD x (.int (0 + (i : Int))) = some (.int ((ns[i]?).getD 0)) := fun i hi => by
  rw [h2,Int.zero_add,atN (by simpa using hi),List.getElem?_map,List.getElem?_eq_getElem hi];rfl
 have at2 : ∀ i j : Nat,i + 1 + j < ns.length → ixD x (.int (0 + (i : Int) + 1 + (j : Int))) = some (.int ((ns[i + 1 + j]?).getD 0)) := fun i j hi => by
  rw [h2,show (0 + (i : Int) + 1 + (j : Int)) = ((i + 1 + j : Nat) : Int) by omega,atN (by simpa using hi),List.getElem?_map,List.getElem?_eq_getElem hi];rfl
 have ne' : ∀ {a b : Nat},a < ns.length → b < ns.length → ns[a]? ≠ ns[b]? → (ns[a]?).getD 0 ≠ (ns[b]?).getD 0 := fun {a b} ha hb hn e => by
  rw [List.getElem?_eq_getElem ha,List.getElem?_eq_getElem hb] at hn e
  exact hn (congrArg some e)
 try simp (disch := omega) only [Pu.pwA,jD,h1,qgY,Int.toNat_natCast]
 have tn : ∀ i : Nat,((ns.length : Int) - (0 + (i : Int) + 1)).toNat = ns.length - (i + 1) := fun i => by omega
 by_cases hu : Un2 ns ns.length
 ·refine qa9 (Q := fun o => JR false o = _) (jZ 0 ns.length) (fun _ ρ => ∃ s1 s2,ρ = [.sh x,s1,s2]) ⟨_,_,rfl⟩ ?_ ?_
  ·rintro i z ρ hz ⟨s1,s2,rfl⟩
   obtain ⟨hi,rfl⟩ := j9 hz
   try simp (disch := omega) only [Pu.pwA,h1,qgn,tn]
   refine XM (Q := fun o => Nx o _) _ (fun _ ρ => ∃ s3,ρ = [.sh x,.sh (.int (0 + (i : Int))),s3]) ⟨_,rfl⟩ ?_ ?_
   ·rintro j z ρ hz ⟨s3,rfl⟩
    obtain ⟨hj,rfl⟩ := j9 hz
    have hj2 : i + 1 + j < ns.length := by omega
    have := ne' hi hj2 (hu i _ hi (by omega) hj2)
    try simp only [Pu.pwA,at' i hi,at2 i j hj2,this]
    exact ⟨_,rfl⟩
   ·rintro ρ ⟨s3,rfl⟩
    try simp only [Pu.pwA]
    exact ⟨_,_,rfl⟩
  ·rintro ρ ⟨s1,s2,rfl⟩
   try simp only [Pu.pwA,faD,zS hu]
 ·obtain ⟨i,j,F⟩ := WP hu
  have hi : i < ns.length := Nat.lt_trans F.ij F.jl
  have jl := F.jl
  have ij := F.ij
  refine qfI (Q := fun o => JR false o = _) (jZ 0 ns.length) i (0 + (i : Int)) (.tuple [.int i,.int j]) false (qaB hi) (fun _ ρ => ∃ s1 s2,ρ = [.sh x,s1,s2]) ⟨_,_,rfl⟩ ?_ ?_ ?_
  ·rintro k z ρ hk hz ⟨s1,s2,rfl⟩
   obtain ⟨hk2,rfl⟩ := j9 hz
   try simp (disch := omega) only [Pu.pwA,h1,qgn,tn]
   refine XM (Q := fun o => Nx o _) _ (fun _ ρ => ∃ s3,ρ = [.sh x,.sh (.int (0 + (k : Int))),s3]) ⟨_,rfl⟩ ?_ ?_
   ·rintro l z ρ hz ⟨s3,rfl⟩
    obtain ⟨hj,rfl⟩ := j9 hz
    have hj2 : k + 1 + l < ns.length := by omega
    have := ne' hk2 hj2 (F.un k _ hk (by omega) hj2)
    try simp only [Pu.pwA,at' k hk2,at2 k l hj2,this]
    exact ⟨_,rfl⟩
   ·rintro ρ ⟨s3,rfl⟩
    try simp only [Pu.pwA]
    exact ⟨_,_,rfl⟩
  ·rintro ρ ⟨s1,s2,rfl⟩
   try simp (disch := omega) only [Pu.pwA,h1,qgn,tn]
   refine U0 (Q := fun o => o = _) _ (j - (i + 1)) (0 + (i : Int) + 1 + ((j - (i + 1) : Nat) : Int)) (.tuple [.int i,.int j]) false (qaB (by omega)) (fun _ ρ => ∃ s3,ρ = [.sh x,.sh (.int (0 + (i : Int))),s3]) ⟨_,rfl⟩ ?_ ?_ rfl
   ·rintro l z ρ hl hz ⟨s3,rfl⟩
    obtain ⟨hj,rfl⟩ := j9 hz
    have hj2 : i + 1 + l < ns.length := by omega
    have := ne' hi hj2 (F.nb _ (by omega) (by omega))
    try simp only [Pu.pwA,at' i hi,at2 i l hj2,this]
    exact ⟨_,rfl⟩
   ·rintro ρ ⟨s3,rfl⟩
    have hj2 : i + 1 + (j - (i + 1)) < ns.length := by omega
    have ej : i + 1 + (j - (i + 1)) = j := by omega
    have e2 : (ns[i]?).getD 0 = (ns[i + 1 + (j - (i + 1))]?).getD 0 := by rw [ej,F.eq]
    try simp only [Pu.pwA,at' i hi,at2 i _ hj2,e2]
    rw [show (0 + (i : Int)) = i by omega,show ((i : Int) + 1 + ((j - (i + 1) : Nat) : Int)) = j by omega]
  ·try simp only [Pu.pwA,faD,zC F]
theorem qh4 {ns : List Int} (hl : ns.length ≤ 1000000) : ql [.tuple (ns.map PyData.int)] = some (faD ns) := qot hl (by simp [qeq]) fun _ => rfl
theorem qlz {ns : List Int} (hl : ns.length ≤ 1000000) : ql [.list (ns.map PyData.int)] = some (faD ns) := qot hl (by simp [qeq]) fun _ => rfl
end Pv
namespace Pv
open PySem L2 L3 Pu
open Bk (Wk Dl zI zb VJ lnD lnA Un2 Fst faO zC zS WP)
theorem qjQ {w : Wk} (ok : w.Ok) : Big w := by
 cases w with
 | line k m => obtain ⟨h1,h2,h3⟩ := ok;exact ⟨h1,by omega⟩
 | block h v => obtain ⟨h1,h2,h3,h4,h5⟩ := ok;exact ⟨by omega,by omega⟩
 | step d a m => obtain ⟨h1,h2,h3,h4⟩ := ok;exact ⟨by omega,by omega,by omega⟩
 | cells ps => have h := ok.2.1;show ps.length ≤ 1000;omega
def Pl : Dl → Prop
 | .skew .. => True
 | .rests .. => True
 | _ => False
def fA : Dl → Int
 | .skew _ _ _ x _ => x
 | .rests _ c _ _ => c
 | _ => 0
def fB : Dl → Int
 | .skew _ _ _ _ y => y
 | .rests .. => 1
 | _ => 0
theorem M6 {d : Dl} (hp : Pl d) (ok : d.Ok) : (0 ≤ fA d∧fA d ≤ 1000)∧(0 ≤ fB d∧fB d ≤ 1000)∧1 ≤ d.B∧d.B ≤ 1000 := by
 cases d <;> simp [Pl] at hp <;> simp [Dl.Ok] at ok <;> simp [fA,fB,Dl.B] <;> omega
theorem qjJ {d : Dl} (hp : Pl d) : qq [dlD d] = some (.tuple [.int (fA d),.int (fB d)]) := by
 rw [XN]
 cases d <;> simp [Pl] at hp
 ·try simp only [Pu.pwA,jj,dlD,fA,fB,L3.XT]
 ·try simp only [Pu.pwA,jj,dlD,fA,fB,eq_self]
def rst (B a b : Int) (cs : List (Int × Int)) : List Int := cs.map fun p => (a * p.1 + b * p.2) % B
theorem DE (B a b : Int) (cs : List (Int × Int)) : (rst B a b cs).length = cs.length := by simp [rst]
theorem EG {w : Wk} (ok : Big w) : w.pc.length ≤ 1000000 := by
 cases w with
 | line k m => simp only [Wk.pc,zI,List.length_map,List.length_range];have := ok.2;omega
 | block h v => simp only [Wk.pc,Bk.zq];exact Nat.mul_le_mul ok.1 ok.2
 | step d a m => simp only [Wk.pc,zI,List.length_map,List.length_range];have := ok.2.2;omega
 | cells ps => have : ps.length ≤ 1000 := ok;simp only [Wk.pc];omega
theorem qo7 {B a b : Int} {w : Wk} (hB : 1 ≤ B) (ha : 0 ≤ a∧a ≤ 1000) (hb : 0 ≤ b∧b ≤ 1000) (ok : Big w) : qS [.int B,.tuple [.int a,.int b],Wk.d w] = some (.tuple ((rst B a b w.pc).map PyData.int)) := by
 rw [T7]
 have hl := EG ok
 try simp only [Pu.pwA,J8]
 rw [UW (ds := w.pc.map pD) (fs := (rst B a b w.pc).map PyData.int)]
 ·try simp only [Pu.pwA]
 ·try simp only [Pu.pwA,YE ok]
 ·rw [rst,List.map_map]
  refine QH fun p hp => ?_
  try simp (disch := omega) only [Pu.pwA,UN,pD,ZQ,R5,Function.comp_def]
 ·simp [rst];omega
theorem qpn {d : Dl} {w : Wk} (hp : Pl d) (okd : d.Ok) (ok : Big w) : qT [dlD d,Wk.d w] = some (.tuple ((rst d.B (fA d) (fB d) w.pc).map PyData.int)) := by
 obtain ⟨h1,h2,h3,_⟩ := M6 hp okd
 rw [KP]
 have e : ∀ n : Nat,∃ xs,dlD d = .tuple xs∧L2.atI xs 3 = some (.int d.B) := fun _ => by
  cases d <;> simp [Pl] at hp
  ·exact ⟨_,rfl,at3⟩
  ·exact ⟨_,rfl,at3⟩
 obtain ⟨xs,e1,e2⟩ := e 0
 have e3 := qjJ hp
 rw [e1] at e3 ⊢
 try simp only [Pu.pwA,YF,e2,e3,qo7 h3 h1 h2 ok]
def unB (ns : List Int) : Bool := (faO ns).isNone
theorem qkD (ns : List Int) : qg0 false (faD ns) .none = some (.bool (unB ns)) := by
 unfold faD unB
 cases faO ns with
 | none => rfl
 | some p => rfl
theorem qn4 {d : Dl} {w : Wk} (hp : Pl d) (okd : d.Ok) (ok : Big w) : qt [dlD d,Wk.d w] = some (.bool (unB (rst d.B (fA d) (fB d) w.pc))) := by
 rw [RD]
 have hl := EG ok
 try simp only [Pu.pwA,ZS,qpn hp okd ok,qh4 (ns := rst d.B (fA d) (fB d) w.pc) (by rw [DE];omega),qkD]
end Pv
namespace Pv
open PySem L2 L3 Pu
open Bk (Wk Dl zI zb VJ lnD lnA Un2 Fst faO zC zS WP)
theorem qhl {P : Nat → Prop} (h : ∃ n,P n) : ∃ n,P n∧∀ m,m < n → ¬ P m := by
 obtain ⟨n,hn⟩ := h
 induction n using Nat.strongRecOn with
 | _ n ih =>
  by_cases hx : ∃ m,m < n∧P m
  ·obtain ⟨m,h1,h2⟩ := hx;exact ih m h1 h2
  ·exact ⟨n,hn,fun m h1 h2 => hx ⟨m,h1,h2⟩⟩
def lst (P : Nat → Prop) : Nat := open Classical in if h : ∃ n,P n then (qhl h).choose else 0
theorem qa0 {P : Nat → Prop} (h : ∃ n,P n) : P (lst P)∧∀ m,m < lst P → ¬ P m := by
 unfold lst
 rw [dif_pos h]
 exact (qhl h).choose_spec
theorem LD {P : Nat → Prop} {n : Nat} (h : P n) (hm : ∀ m,m < n → ¬ P m) : lst P = n := by
 obtain ⟨h1,h2⟩ := qa0 ⟨n,h⟩
 rcases Nat.lt_trichotomy (lst P) n with z | z | z
 ·exact absurd h1 (hm _ z)
 ·exact z
 ·exact absurd h (h2 _ z)
def lo (B w : Int) : Nat := lst fun n => ((n : Int) + 1) * w % B = 0
theorem qjn {B w : Int} (hB : 1 ≤ B) : ((lo B w : Int) + 1) * w % B = 0∧∀ m : Nat,m < lo B w → ¬ ((m : Int) + 1) * w % B = 0 := qa0 (P := fun n => ((n : Int) + 1) * w % B = 0) ⟨B.toNat - 1,by
 have : ((B.toNat - 1 : Nat) : Int) + 1 = B := by omega
 rw [this]
 exact Int.mul_emod_right B w⟩
theorem qmw {B w : Int} (hB : 1 ≤ B) : (lo B w : Int) + 1 ≤ B := by
 apply Classical.byContradiction
 intro h
 have h2 := (qjn (w := w) hB).2 (B.toNat - 1) (by omega)
 apply h2
 have : ((B.toNat - 1 : Nat) : Int) + 1 = B := by omega
 rw [this]
 exact Int.mul_emod_right B w
theorem qoC {d : Dl} (hp : Pl d) : ∃ xs,dlD d = .tuple xs∧L2.atI xs 3 = some (.int d.B) := by
 cases d <;> simp [Pl] at hp
 ·exact ⟨_,rfl,at3⟩
 ·exact ⟨_,rfl,at3⟩
theorem qo6 {d : Dl} {u v : Int} (hp : Pl d) (ok : d.Ok) (hu : -1000 ≤ u∧u ≤ 1000) (hv : -1000 ≤ v∧v ≤ 1000) : jq [dlD d,.int u,.int v] = some (.int ((lo d.B (fA d * u + fB d * v) : Int) + 1)) := by
 obtain ⟨h1,h2,h3,h4⟩ := M6 hp ok
 obtain ⟨xs,e1,e2⟩ := qoC hp
 have e3 := qjJ hp
 rw [LX]
 rw [e1] at e3 ⊢
 have L := qmw (w := fA d * u + fB d * v) h3
 have I := qjn (w := fA d * u + fB d * v) h3
 try simp only [Pu.pwA,V5,e3]
 refine qel (Q := fun o => JR false o = _) (lo d.B (fA d * u + fB d * v)) (by omega) (fun i ρ => ρ = [.sh (.tuple xs),.sh (.int u),.sh (.int v),.sh (.int (fA d)),.sh (.int (fB d)),.sh (.int ((i : Int) + 1))]) rfl ?_ ?_ ?_ ?_
 ·rintro i ρ hi rfl
  have := I.2 i hi
  try simp (disch := omega) only [Pu.pwA,e2,ZQ,R5,this]
 ·rintro i ρ hi rfl
  try simp only [Pu.pwA,qdV (i := 5) (x := (i : Int) + 1) (y := 1) (ρ := [.sh (.tuple xs),.sh (.int u),.sh (.int v),.sh (.int (fA d)),.sh (.int (fB d)),.sh (.int ((i : Int) + 1))]) rfl,Int.natCast_add,Int.natCast_one]
 ·rintro ρ rfl
  try simp (disch := omega) only [Pu.pwA,e2,ZQ,R5,I.1]
 ·rintro ρ rfl
  try simp only [Pu.pwA]
def bU (B a b : Int) (h w : Nat) : Prop := unB (rst B a b (zb h w)) = true
theorem XC {ns : List Int} : unB ns = true ↔ Un2 ns ns.length := by
 constructor
 ·intro h
  apply Classical.byContradiction
  intro hn
  obtain ⟨i,j,F⟩ := WP hn
  unfold unB at h
  rw [zC F] at h
  cases h
 ·intro h
  unfold unB
  rw [zS h]
  rfl
theorem R6 {ns : List Int} (h : Un2 ns ns.length) : ns.Nodup := by
 rw [List.Nodup,List.pairwise_iff_getElem]
 intro i j hi hj hij e
 exact h i j hi hij hj (by simp [hi,hj,e])
theorem qdy : ∀ (b : Nat) (ns : List Int),(∀ x ∈ ns,0 ≤ x∧x < b) → ns.Nodup → ns.length ≤ b
 | 0,ns,h,_ => by
  cases ns with
  | nil => simp
  | cons x r => have := h x (by simp);omega
 | b + 1,ns,h,hn => by
  have ih := qdy b (ns.erase (b : Int)) (fun x hx => by
   have h1 := (List.Nodup.mem_erase_iff hn).mp hx
   have := h x h1.2
   have := h1.1
   omega) (hn.erase _)
  have := List.length_erase (a := (b : Int)) (l := ns)
  split at this <;> omega
theorem qhz {B a b : Int} {cs : List (Int × Int)} (hB : 1 ≤ B) (h : unB (rst B a b cs) = true) : (cs.length : Int) ≤ B := by
 have := qdy B.toNat (rst B a b cs) (fun z hz => by
  simp only [rst,List.mem_map] at hz
  obtain ⟨c,_,rfl⟩ := hz
  have h1 := Int.emod_nonneg (a * c.1 + b * c.2) (show B ≠ 0 by omega)
  have h2 := Int.emod_lt_of_pos (a * c.1 + b * c.2) (show 0 < B by omega)
  omega) (R6 (XC.mp h))
 rw [DE] at this
 omega
def wd (B a b : Int) (h : Nat) : Nat := lst fun w => ¬ bU B a b h (w + 1)
theorem qjd {B a b : Int} {h : Nat} (hB : 1 ≤ B) (hh : 1 ≤ h) : ¬ bU B a b h (wd B a b h + 1)∧∀ m,m < wd B a b h → ¬ ¬ bU B a b h (m + 1) := qa0 (P := fun w => ¬ bU B a b h (w + 1)) ⟨B.toNat,fun z => by
 have := qhz hB z
 rw [Bk.zq] at this
 have h2 : B.toNat + 1 ≤ h * (B.toNat + 1) := Nat.le_mul_of_pos_left _ hh
 omega⟩
theorem qnF {B a b : Int} {h : Nat} (hB : 1 ≤ B) (hh : 1 ≤ h) : (wd B a b h : Int) ≤ B := by
 apply Classical.byContradiction
 intro hn
 have := (qjd (a := a) (b := b) hB hh).2 B.toNat (by omega)
 apply this
 intro z
 have := qhz hB z
 rw [Bk.zq] at this
 have h2 : B.toNat + 1 ≤ h * (B.toNat + 1) := Nat.le_mul_of_pos_left _ hh
 omega
theorem qpo {d : Dl} {h : Nat} (hp : Pl d) (ok : d.Ok) (h1 : 1 ≤ h) (h2 : h ≤ 900) (hB : d.B ≤ 900) : zB [dlD d,.int h] = some (.int (wd d.B (fA d) (fB d) h)) := by
 obtain ⟨_,_,b1,_⟩ := M6 hp ok
 have L := qnF (a := fA d) (b := fB d) b1 h1
 have I := qjd (a := fA d) (b := fB d) b1 h1
 rw [qai]
 have U : ∀ w : Nat,w ≤ 1000 → qt [dlD d,.tuple [.str "block",.int h,.int w]] = some (.bool (unB (rst d.B (fA d) (fB d) (zb h w)))) := fun w hw => qn4 (w := .block h w) hp ok ⟨by omega,hw⟩
 try simp only [Pu.pwA,EB]
 refine qel (Q := fun o => JR false o = _) (wd d.B (fA d) (fB d) h) (by omega) (fun i ρ => ρ = [.sh (dlD d),.sh (.int h),.sh (.int (i : Int))]) rfl ?_ ?_ ?_ ?_
 ·rintro i ρ hi rfl
  have e := U (i + 1) (by omega)
  rw [Int.natCast_add,Int.natCast_one] at e
  have := Classical.byContradiction (I.2 i hi)
  try simp only [Pu.pwA,e,show unB (rst d.B (fA d) (fB d) (zb h (i + 1))) = true from this]
 ·rintro i ρ hi rfl
  try simp only [Pu.pwA,qdV (i := 2) (x := (i : Int)) (y := 1) (ρ := [.sh (dlD d),.sh (.int h),.sh (.int (i : Int))]) rfl,Int.natCast_add,Int.natCast_one]
 ·rintro ρ rfl
  have e := U (wd d.B (fA d) (fB d) h + 1) (by omega)
  rw [Int.natCast_add,Int.natCast_one] at e
  have : unB (rst d.B (fA d) (fB d) (zb h (wd d.B (fA d) (fB d) h + 1))) = false := by simpa [bU] using I.1
  try simp only [Pu.pwA,e,this]
 ·rintro ρ rfl
  try simp only [Pu.pwA]
def wds (B a b : Int) : List Int := (jZ 1 B.toNat).map fun h => (wd B a b h.toNat : Int)
theorem qo1 {d : Dl} (hp : Pl d) (ok : d.Ok) (hB : d.B ≤ 900) : j2 [dlD d] = some (.list ((wds d.B (fA d) (fB d)).map PyData.int)) := by
 obtain ⟨_,_,b1,_⟩ := M6 hp ok
 obtain ⟨xs,e1,e2⟩ := qoC hp
 rw [qap,e1]
 try simp only [Pu.pwA,U9]
 rw [UW (ds := (jZ 1 d.B.toNat).map PyData.int) (fs := (wds d.B (fA d) (fB d)).map PyData.int)]
 ·try simp only [Pu.pwA]
 ·try simp (disch := omega) only [Pu.pwA,e2,qgn]
  rw [show (d.B + 1 - 1) = d.B by omega]
 ·rw [wds,List.map_map]
  refine QH fun h hh => ?_
  obtain ⟨i,hi⟩ := List.mem_iff_getElem?.mp hh
  obtain ⟨hi2,rfl⟩ := j9 hi
  have e := qpo (h := i + 1) hp ok (by omega) (by omega) hB
  rw [e1] at e
  rw [show ((1 : Int) + (i : Int)) = ((i + 1 : Nat) : Int) by omega]
  try simp only [Pu.pwA,UN,e,Function.comp_def,Int.toNat_natCast]
 ·simp [wds,jZ];omega
end Pv
namespace Pv
open PySem L2 L3 Pu
open Bk (Wk Dl zI zb VJ lnD lnA Un2 Fst faO zC zS WP)
def szD (d : Dl) : PyData := .tuple [.int d.R,.int d.C,.int d.B]
theorem sh1 {n : Nat} (h : n ≤ 1000) : cI S4 (fun i j => i * 2 ^ j.toNat) (.int 1) (.int (n : Int)) = some (.int (2 ^ n)) := by
 rw [qk9 ⟨by omega,by omega,by decide⟩,Int.one_mul,Int.toNat_natCast]
theorem qlb : ∀ (d : Dl) (j : Nat),d.dep < j → d.Ok → qp j [dlD d] = some (szD d)
 | .skew r c b x y,j + 1,_,_ => by
  rw [QZ]
  try simp only [Pu.pwA,jf,dlD,szD,Dl.R,Dl.C,Dl.B,L3.R8,L3.X3,L3.WD]
 | .rests r c b x,j + 1,_,_ => by
  rw [QZ]
  try simp only [Pu.pwA,jf,dlD,szD,Dl.R,Dl.C,Dl.B,L3.X2,L3.WF,L3.EF]
 | .bits h l ms,j + 1,_,ok => by
  obtain ⟨h1,h2,h3,_⟩ := ok
  rw [QZ]
  try simp only [Pu.pwA,jf,dlD,szD,Dl.R,Dl.C,Dl.B,eq_self,List.length_map,sh1 (n := h) (by omega),sh1 (n := l) (by omega),sh1 (n := ms.length) (by omega)]
 | .table b cells,j + 1,_,ok => by
  obtain ⟨h1,h2,h3,h4,c,h5,h6,h7⟩ := ok
  have e0 : cells[0]? = some cells[0] := List.getElem?_eq_getElem (by omega)
  have e1 : L2.atI (cells.map qgV) 0 = some (qgV cells[0]) := by
   have := atN (xs := cells.map qgV) (k := 0) (by simp;omega)
   rw [List.getElem?_map,e0] at this
   exact this
  rw [QZ]
  try simp only [Pu.pwA,jf,dlD,szD,Dl.R,Dl.C,Dl.B,eq_self,L3.C0,List.length_map,e1,qgV,e0,Option.getD_some]
 | .joined d e,j + 1,hd,ok => by
  have hh : max d.dep e.dep + 1 < j + 1 := hd
  have r1 := qlb d j (by omega) ok.1
  have r2 := qlb e j (by omega) ok.2.1
  have l1 := Dl.lims ok.1
  have l2 := Dl.lims ok.2.1
  have a1 := l1.r1;have a2 := l1.r2;have a3 := l1.c1;have a4 := l1.c2;have a5 := l1.b1;have a6 := l1.b2
  rw [QZ]
  try simp (disch := omega) only [Pu.pwA,jf,dlD,szD,Dl.R,Dl.C,Dl.B,eq_self,L3.DW,L3.EL,r1,r2,ZQ]
def dn (cs : List (Int × Int)) : List Int := cs.map fun p => p.1
def al (cs : List (Int × Int)) : List Int := cs.map fun p => p.2
def stI (R C : Int) (cs : List (Int × Int)) : List (Int × Int) := (jZ (-(mn (dn cs))) (R - mx (dn cs) - -(mn (dn cs))).toNat).flatMap fun i => (jZ (-(mn (al cs))) (C - mx (al cs) - -(mn (al cs))).toNat).map fun j => (i,j)
theorem qb7 {α β : Type} (xs : List α) (ys : List β) {γ : Type} (f : α → β → γ) : (xs.flatMap fun a => ys.map fun b => f a b).length = xs.length * ys.length := by
 induction xs with
 | nil => simp
 | cons a r ih => simp only [List.flatMap_cons,List.length_append,List.length_map,ih,List.length_cons,Nat.succ_mul];omega
structure Cb (cs : List (Int × Int)) : Prop where
 ne : cs ≠ []
 b : ∀ p ∈ cs,(-1000000 ≤ p.1∧p.1 ≤ 1000000)∧(-1000000 ≤ p.2∧p.2 ≤ 1000000)
theorem Cb.lim {cs : List (Int × Int)} (h : Cb cs) : (-1000000 ≤ mn (dn cs)∧mn (dn cs) ≤ mx (dn cs)∧mx (dn cs) ≤ 1000000)∧(-1000000 ≤ mn (al cs)∧mn (al cs) ≤ mx (al cs)∧mx (al cs) ≤ 1000000) := by
 have n1 : dn cs ≠ [] := by simp [dn,h.ne]
 have n2 : al cs ≠ [] := by simp [al,h.ne]
 have m1 := LQ n1;have m2 := K2 n1;have m3 := LQ n2;have m4 := K2 n2
 have l1 := ML m2;have l2 := ML m4
 have b1 : ∀ x ∈ dn cs,-1000000 ≤ x∧x ≤ 1000000 := fun x hx => by
  obtain ⟨p,hp,rfl⟩ := List.mem_map.mp hx
  exact (h.b p hp).1
 have b2 : ∀ x ∈ al cs,-1000000 ≤ x∧x ≤ 1000000 := fun x hx => by
  obtain ⟨p,hp,rfl⟩ := List.mem_map.mp hx
  exact (h.b p hp).2
 have := b1 _ m1;have := b1 _ m2;have := b2 _ m3;have := b2 _ m4
 omega
theorem qf9 {R C : Int} {cs : List (Int × Int)} (h : Cb cs) (hR : R ≤ 4096) (hC : C ≤ 4096) : (stI R C cs).length ≤ 16777216 := by
 obtain ⟨⟨h1,h2,h3⟩,⟨h4,h5,h6⟩⟩ := h.lim
 unfold stI
 rw [qb7,JY,JY]
 have a : (R - mx (dn cs) - -(mn (dn cs))).toNat ≤ 4096 := by omega
 have b : (C - mx (al cs) - -(mn (al cs))).toNat ≤ 4096 := by omega
 exact Nat.le_trans (Nat.mul_le_mul a b) (by decide)
theorem qn2 {d : Dl} {w : Wk} {j : Nat} (hd : d.dep < j) (okd : d.Ok) (ok : Big w) (hc : Cb w.pc) : qU j [dlD d,Wk.d w] = some (.list ((stI d.R d.C w.pc).map pD)) := by
 have hl := EG ok
 have l := Dl.lims okd
 have := l.r1;have := l.r2;have := l.c1;have := l.c2
 obtain ⟨⟨h1,h2,h3⟩,⟨h4,h5,h6⟩⟩ := hc.lim
 rw [qbC]
 try simp only [Pu.pwA,U7,qlb d j hd okd,szD,YE ok]
 rw [UW (ds := w.pc.map pD) (fs := (dn w.pc).map PyData.int) rfl (by
  rw [dn,List.map_map]
  refine QH fun p hp => ?_
  try simp only [Pu.pwA,UN,pD,Function.comp_def]) (by simp [dn];omega)]
 try simp only [Pu.pwA]
 rw [UW (ds := w.pc.map pD) (fs := (al w.pc).map PyData.int) rfl (by
  rw [al,List.map_map]
  refine QH fun p hp => ?_
  try simp only [Pu.pwA,UN,pD,Function.comp_def]) (by simp [al];omega)]
 try simp only [Pu.pwA]
 have n1 : dn w.pc ≠ [] := by simp [dn,hc.ne]
 have n2 : al w.pc ≠ [] := by simp [al,hc.ne]
 rw [KQ (ds := (jZ (-(mn (dn w.pc))) (d.R - mx (dn w.pc) - -(mn (dn w.pc))).toNat).map PyData.int) (fs := (stI d.R d.C w.pc).map pD)]
 ·try simp only [Pu.pwA]
 ·try simp (disch := omega) only [Pu.pwA,qka n1,qkA n1,qgn]
 ·have : (stI d.R d.C w.pc).map pD = (jZ (-(mn (dn w.pc))) (d.R - mx (dn w.pc) - -(mn (dn w.pc))).toNat).flatMap fun i => (jZ (-(mn (al w.pc))) (d.C - mx (al w.pc) - -(mn (al w.pc))).toNat).map fun j => pD (i,j) := by
   simp only [stI,List.map_flatMap,List.map_map,Function.comp_def]
  rw [this]
  refine XO fun i hi => ?_
  try simp (disch := omega) only [Pu.pwA,qbD,qka n2,qkA n2,qgn]
  rw [QH (k := fun q => pD (i,q)) fun q hq => ?_]
  ·try simp only [Pu.pwA]
  ·try simp only [Pu.pwA,UN,pD]
 ·rw [List.length_map];exact qf9 hc l.r2 l.c2
def frB (R C B a b : Int) (cs : List (Int × Int)) : Bool := decide (0 < (stI R C cs).length) && unB (rst B a b cs)
theorem qoR {d : Dl} {w : Wk} {j : Nat} (hp : Pl d) (hd : d.dep < j) (okd : d.Ok) (ok : Big w) (hc : Cb w.pc) : zl j [dlD d,Wk.d w] = some (.bool (frB d.R d.C d.B (fA d) (fB d) w.pc)) := by
 rw [MY]
 try simp only [Pu.pwA,VG,qn2 hd okd ok hc,qn4 hp okd ok,List.length_map]
 unfold frB
 by_cases h : 0 < (stI d.R d.C w.pc).length
 ·have h2 : (0 : Int) < ((stI d.R d.C w.pc).length : Int) := by omega
  try simp only [Pu.pwA,h,h2]
 ·have h2 : ¬ (0 : Int) < ((stI d.R d.C w.pc).length : Int) := by omega
  try simp only [Pu.pwA,h,h2]
theorem qmq {d : Dl} (hp : Pl d) : ∃ xs,dlD d = .tuple xs∧slD (.tuple xs) (some 1) (some 3) = some (.tuple [.int d.R,.int d.C]) := by
 cases d <;> simp [Pl] at hp
 ·exact ⟨_,rfl,S7 (by simp [HT.sIx])⟩
 ·exact ⟨_,rfl,S7 (by simp [HT.sIx])⟩
def fsI (R C B a b : Int) (m : Nat) : List (Int × Int) := (jZ 0 R.toNat).flatMap fun x => ((jZ (1 - C) (C - (1 - C)).toNat).filter fun y => (decide (0 < x) || decide (0 < y)) && frB R C B a b (zI x y m)).map fun y => (x,y)
theorem KK {α β γ : Type} (xs : List α) (ys : List β) (c : α → β → Bool) (f : α → β → γ) : (xs.flatMap fun a => (ys.filter (c a)).map fun b => f a b).length ≤ xs.length * ys.length := by
 induction xs with
 | nil => simp
 | cons a r ih =>
  have := List.length_filter_le (c a) ys
  simp only [List.flatMap_cons,List.length_append,List.length_map,List.length_cons,Nat.succ_mul];omega
theorem qb4 {x y : Int} {m : Nat} (hx : -1000 ≤ x∧x ≤ 1000) (hy : -1000 ≤ y∧y ≤ 1000) (h1 : 1 ≤ m) (h2 : m ≤ 1000) : Cb (zI x y m) := by
 refine ⟨by simp [zI];omega,fun p hp => ?_⟩
 simp only [zI,List.mem_map,List.mem_range] at hp
 obtain ⟨t,ht,rfl⟩ := hp
 have k1 : (t : Int) * x ≤ 1000 * 1000 := by
  rcases Int.le_total 0 x with z | z
  ·exact Int.mul_le_mul (by omega) hx.2 z (by omega)
  ·have := Int.mul_nonpos_of_nonneg_of_nonpos (a := (t : Int)) (b := x) (by omega) z;omega
 have k2 : -(1000 * 1000) ≤ (t : Int) * x := by
  rcases Int.le_total 0 x with z | z
  ·have := Int.mul_nonneg (a := (t : Int)) (b := x) (by omega) z;omega
  ·have := Int.mul_le_mul (a := (t : Int)) (b := -x) (c := 1000) (d := 1000) (by omega) (by omega) (by omega) (by omega)
   rw [Int.mul_neg] at this;omega
 have k3 : (t : Int) * y ≤ 1000 * 1000 := by
  rcases Int.le_total 0 y with z | z
  ·exact Int.mul_le_mul (by omega) hy.2 z (by omega)
  ·have := Int.mul_nonpos_of_nonneg_of_nonpos (a := (t : Int)) (b := y) (by omega) z;omega
 have k4 : -(1000 * 1000) ≤ (t : Int) * y := by
  rcases Int.le_total 0 y with z | z
  ·have := Int.mul_nonneg (a := (t : Int)) (b := y) (by omega) z;omega
  ·have := Int.mul_le_mul (a := (t : Int)) (b := -y) (c := 1000) (d := 1000) (by omega) (by omega) (by omega) (by omega)
   rw [Int.mul_neg] at this;omega
 simp only
 omega
theorem qoM {d : Dl} {m : Nat} {j : Nat} (hp : Pl d) (hd : d.dep < j) (okd : d.Ok) (h1 : 1 ≤ m) (h2 : m ≤ 1000) (hR : d.R ≤ 100) (hC : d.C ≤ 100) : zi j [dlD d,.int m] = some (.list ((fsI d.R d.C d.B (fA d) (fB d) m).map pD)) := by
 obtain ⟨xs,e1,e2⟩ := qmq hp
 have l := Dl.lims okd
 have := l.r1;have := l.c1
 rw [XV,e1]
 try simp only [Pu.pwA,j6,e2]
 rw [KQ (ds := (jZ 0 d.R.toNat).map PyData.int) (fs := (fsI d.R d.C d.B (fA d) (fB d) m).map pD)]
 ·try simp only [Pu.pwA]
 ·try simp (disch := omega) only [Pu.pwA,qgY]
 ·have : (fsI d.R d.C d.B (fA d) (fB d) m).map pD = (jZ 0 d.R.toNat).flatMap fun x => ((jZ (1 - d.C) (d.C - (1 - d.C)).toNat).filter fun y => (decide (0 < x) || decide (0 < y)) && frB d.R d.C d.B (fA d) (fB d) (zI x y m)).map fun y => pD (x,y) := by
   simp only [fsI,List.map_flatMap,List.map_map,Function.comp_def]
  rw [this]
  refine XO fun x hx => ?_
  try simp (disch := omega) only [Pu.pwA,qbD,qgn]
  obtain ⟨i,hi⟩ := List.mem_iff_getElem?.mp hx
  obtain ⟨hi2,rfl⟩ := j9 hi
  rw [MC (k := fun y => pD (0 + (i : Int),y)) (c := fun y => (decide ((0 : Int) < 0 + (i : Int)) || decide (0 < y)) && frB d.R d.C d.B (fA d) (fB d) (zI (0 + (i : Int)) y m)) fun y hy => ?_]
  ·try simp only [Pu.pwA]
  ·obtain ⟨k,hk⟩ := List.mem_iff_getElem?.mp hy
   obtain ⟨hk2,rfl⟩ := j9 hk
   have e := qoR (w := .step (0 + (i : Int)) (1 - d.C + (k : Int)) m) (j := j) hp hd okd ⟨by omega,by omega,h2⟩ (qb4 (by omega) (by omega) h1 h2)
   rw [e1] at e
   simp only [Wk.d] at e
   by_cases c1 : (0 : Int) < 0 + (i : Int)
   ·try simp only [Pu.pwA,UN,e,c1,pD,Wk.pc]
    split <;> rfl
   ·by_cases c2 : (0 : Int) < 1 - d.C + (k : Int)
    ·try simp only [Pu.pwA,UN,e,c1,c2,pD,Wk.pc]
     split <;> rfl
    ·try simp only [Pu.pwA,UN,e,c1,c2,pD]
 ·rw [List.length_map]
  have := KK (jZ 0 d.R.toNat) (jZ (1 - d.C) (d.C - (1 - d.C)).toNat) (fun x y => (decide (0 < x) || decide (0 < y)) && frB d.R d.C d.B (fA d) (fB d) (zI x y m)) fun x y => (x,y)
  rw [JY,JY] at this
  have k : d.R.toNat * (d.C - (1 - d.C)).toNat ≤ 100 * 200 := Nat.mul_le_mul (by omega) (by omega)
  exact Nat.le_trans this (by omega)
end Pv
namespace Pv
open PySem L2 L3 Pu
end Pv
namespace Pv
open PySem L2 L3 Pu
open Bk (Dl)
end Pv
namespace Pv
open PySem L2 L3 Pu
open Bk (Dl)
end Pv
namespace Pv
open PySem L2 L3 Pu
open Bk (Dl)
end Pv
namespace Hd
open PySem L2 L3 PySem.W
def oF (x : Str) (st : Stmt) (pm cd : Value) : Obj := ⟨.type "function",none,.func (PySem.W.fnOf x x (Q8 st) (zV st) (qh st) .none .none .none pm none cd .none),#[]⟩
def oG (x : Str) (st : Stmt) : Obj := ⟨.none,none,.func { name := x,qualname := x,params := Q8 st,body := .stmts (zV st),scope := qh st,globals := 0,closure := [],defaults := .none,kwdefaults := .none },#[]⟩
def oC (vs : List Value) : Obj := ⟨.type "code",none,.fields vs.toArray,#[]⟩
def oT (vs : List Value) : Obj := ⟨.type "tuple",none,.seq vs.toArray 0,#[]⟩
def eD (P : Params) : Value × Value → DictEntry
 | (.str x t,v) => ⟨PyData.keyHash P x,.str x t,v⟩
 | (u,v) => ⟨0,u,v⟩
def oD (P : Params) (n : Nat) (es : List (Value × Value)) : Obj := ⟨.type "dict",none,.dict (es.map (eD P)).toArray n,#[]⟩
def oK (x : Str) (t l n m : Nat) (a b : Addr) (u v z : Value) (e y q : Nat) : Obj := oC [.str x t,.str x (t + 1),.str "/claim/cut.py" (t + 2),.int l 0,.int n 0,.int 0 0,.int 0 0,.int 3 0,.ref a,.bool true,.int m 0,.ref b,u,v,z,.ref e,.int y 0,.int l 0,.str "/claim/cut.py" q]
def nmV : List Str → Nat → List Value
 | [],_ => []
 | x :: r,t => .str x t :: nmV r (t + 1)
def oN (xs : List Str) (t : Nat) : Obj := oT (nmV xs t)
abbrev nd (o : Obj) (l r : PySem.W.BT) : PySem.W.BT := .node o l r
abbrev lf (o : Obj) : PySem.W.BT := .node o .nil .nil
theorem zh {K : PySem.W.Frag} (x : Str) (st : Stmt) (f : Addr) (pm cd : Value) (l : K.lookup f = some (oF x st pm cd)) (c : PySem.W.codeIn K cd x = true) (k : PySem.W.keepIn K (.ref f) = true) :
  Fun K x x st f (PySem.W.fnOf x x (Q8 st) (zV st) (qh st) .none .none .none pm none cd .none) := qjT l c k
theorem q5 {K : PySem.W.Frag} {h : Heap} {mg : Str → Option Value} (X : K.In h) (G : h.Ns mainGlobals mg) (n : Str) (v : Value) (e : PySem.W.nsIn K mainGlobals n = some (some v)) : mg n = some v := PySem.W.mg_of X G e
theorem YR {K : PySem.W.Frag} {h : Heap} {mg : Str → Option Value} (X : K.In h) (G : h.Ns mainGlobals mg) (n : Str) (e : PySem.W.nsIn K mainGlobals n = some none) : mg n = none := PySem.W.mg_none_of X G e
theorem head {l : OpenLaw} {q : Program} {loose : List Str} {K : Params → Frag} {as : List Addr} {d : DefRec} {N : Nat} {k : Nat} {x : Str} (ha : ∀ P,as = (K P).map (·.1))
  (ok : l.wellSaid = true)
  (left : LeftO l.prog q loose (fun s => xlAt q [] s && recOk [] s) (fun s => as.map s.heap.get?) (fun w => (K w.params).map fun p => some p.2) N)
  (hdef : defOf q l.name = some (d,[])) (hp : l.prog.theDef l.name = some (d.params,d.body,d.scope)) (hk : kwWritten? d.params.kwonlyargs d.params.kw_defaults = some [])
  (hwr : (!l.row.writes || l.row.records.isEmpty) = true) (ok2 : (chainsOk q && opensWell l.prog && (frees l.row.toRowW && l.row.within.isEmpty)) = true) (hb : l.prog.bare) (hw : l.row.toRowW.promised)
  (hn : l.most = some 63) (hdf : d.params.defaults = []) (hr : Room k callerA) (hK : ∀ w : World,V9 (K w.params) = true)
  (F : ∀ (w : World) (mg : Str → Option Value) (fa : Addr) (h : Heap),(K w.params).In h → h.Ns mainGlobals mg → mg d.name = some (.ref fa) →
   ∃ fd : FuncData,(∀ (s : Shared) (u : Value),BindsTo s fd ⟨[u],[]⟩ [(x,u)])∧∀ base : Heap,(K w.params).In base → base.Ns mainGlobals mg → FnOk l.prog w (K w.params) mg base CX0 k fa fd [x] (lSp (K w.params) WW)) : l.Holds := by
 refine holds_law ok fun said => ?_
 exact holds_open (q := q) (loose := loose) (Xt := fun s => xlAt q [] s && recOk [] s) (XP := XL q []) (Yf := Hook.obs (kHook K as ha)) (Ya := Hook.val (kHook K as ha)) (YP := Hook.says (kHook K as ha)) (N := N) left
  (Hook.of (kHook K as ha)) (Hook.keeps (kHook K as ha)) (fun s e => xl_of s (Bool.and_eq_true_iff.mp e).1) XL.keeps hdef hp hk (fun s e => recFacts_of (Bool.and_eq_true_iff.mp e).2) hwr said ok2 hb hw
  (L3.qmJ (l := l) (k := k) (x := x) hn hdf hr (fun w h Y => kIn_of Y) hK F)
end Hd
namespace K26
open PySem L2 L3 Bk
def top (i : Nat) : Stmt := PySem.Challenge.pw_bankwalk_k26_known_rests.main.body.getD i (.Pass ⟨0,0,0,0⟩)
variable {P : Program} {w : World} {K : PySem.W.Frag} {mg : Str → Option Value} {base : Heap} {f : Addr} {fd : FuncData} {k : Nat} {sp : Sp3}
abbrev je : Stmt := top 1
abbrev Q9 : List Str := ["thing"]
abbrev YQ : List Str := ["thing"]
theorem SA : FnScope Q9 YQ (qh je) := ⟨rfl,rfl,rfl,by decide +kernel,rfl,by decide +kernel,by decide +kernel⟩
theorem RW (F : Fun K "is_number" "is_number" je f fd) (bd : qW K fd YQ []) (hm : mg "is_number" = some (.ref f))  (m_isinstance : mg "isinstance" = none) (m_bool : mg "bool" = none) (m_int : mg "int" = none)
  (read : Rd sp 1 (Bk.ZI) Q9) : Fn3 P w K mg base (k + 1) "is_number" sp :=
 qy (t3 := (Bk.ZI)) F SA bd hm (fun cdv A outer s H E hr => (qm (qv (Q0 (JP (qb 0) rfl m_isinstance rfl m_int PyProof.Rows.boot_int) (VI (qdF (JP (qb 0) rfl m_isinstance rfl m_bool PyProof.Rows.boot_bool))))))) read
abbrev QM : Stmt := top 2
abbrev QY : List Str := ["thing"]
abbrev DK : List Str := ["thing"]
theorem MS : FnScope QY DK (qh QM) := ⟨rfl,rfl,rfl,by decide +kernel,rfl,by decide +kernel,by decide +kernel⟩
theorem MG {S_is_number : Sp3} (F : Fun K "is_pair" "is_pair" QM f fd) (bd : qW K fd DK []) (hm : mg "is_pair" = some (.ref f)) (qY : Fn3 P w K mg base k "is_number" S_is_number) (m_len : mg "len" = none) (m_isinstance : mg "isinstance" = none) (m_tuple : mg "tuple" = none)
  (read : Rd sp 1 (Bk.VS S_is_number) QY) : Fn3 P w K mg base (k + 1) "is_pair" sp :=
 qy (t3 := (Bk.VS S_is_number)) F MS bd hm (fun cdv A outer s H E hr => (qm (qv (Q0 (JP (qb 0) rfl m_isinstance rfl m_tuple PyProof.Rows.boot_tuple) (Q0 (ZY (zt hr.units) qQ (qJ zL jJ rfl m_len PySem.boot_len (qa (qb 0) qe)) qd (qE _)) (Q0 (qg qY hr rfl (qa (qx (qb 0) qd) qe)) (VI (qg qY hr rfl (qa (qx (qb 0) qd) qe))))))))) read
abbrev zz : Stmt := top 3
abbrev ZU : List Str := ["things","k","l"]
abbrev ZH : List Str := ["things"]
theorem QJ : FnScope ZU ZH (qh zz) := ⟨rfl,rfl,rfl,by decide +kernel,rfl,by decide +kernel,by decide +kernel⟩
theorem DX (F : Fun K "first_alike" "first_alike" zz f fd) (bd : qW K fd ZH []) (hm : mg "first_alike" = some (.ref f))  (m_len : mg "len" = none) (m_range : mg "range" = none)
  (read : Rd sp 1 (Bk.jC) ZU) : Fn3 P w K mg base (k + 1) "first_alike" sp :=
 qy (t3 := (Bk.jC)) F QJ bd hm (fun cdv A outer s H E hr => (qi (WS PassesOwn.never rfl (jt rfl m_range (qa (qJ zL jJ rfl m_len PySem.boot_len (qa (qb 0) qe)) qe) (h1 := by intro _ _ _ h;simpa [qc,qj] using h)) (qw (i := 1) (QJ.nd)) (qm (WS PassesOwn.never rfl (JH rfl m_range (qa (qD (qb 1) qd) (qa (qJ zL jJ rfl m_len PySem.boot_len (qa (qb 0) qe)) qe)) (h1 := by intro _ _ _ h;simpa [qc,qj] using h)) (qw (i := 2) (QJ.nd)) (qm (jA (za (zt hr.units) qQ (qx (qb 0) (qb 1)) (qx (qb 0) (qb 2)) (qE _)) (qm (qv (qH (qa (qb 1) (qa (qb 2) qe))))) zp))))) (qm (qv UY)))) read
abbrev Q1 : Stmt := top 8
abbrev EY : List Str := ["dealing","kind","rows","columns","banks","other_rows","other_columns","other_banks"]
abbrev EV : List Str := ["dealing"]
theorem zE : FnScope EY EV (qh Q1) := ⟨rfl,rfl,rfl,by decide +kernel,rfl,by decide +kernel,by decide +kernel⟩
theorem MP {S_size_of : Sp3} (F : Fun K "size_of" "size_of" Q1 f fd) (bd : qW K fd EV []) (hm : mg "size_of" = some (.ref f)) (qp : Fn3 P w K mg base k "size_of" S_size_of) (m_len : mg "len" = none)
  (read : Rd sp 1 (Bk.VU S_size_of) EY) : Fn3 P w K mg base (k + 1) "size_of" sp :=
 qy (t3 := (Bk.VU S_size_of)) F zE bd hm (fun cdv A outer s H E hr => (qi (zf 1 zE.nd (qx (qb 0) qd)) (qi (jA (za (zt hr.units) qQ (qb 1) zN (qE _)) (qm (qv (qH (qa (qbn qd (qx (qb 0) qd)) (qa (qbn qd (qx (qb 0) qd)) (qa (qbn qd (qJ zL jJ rfl m_len PySem.boot_len (qa (qx (qb 0) qd) qe))) qe)))))) zp) (qi (jA (za (zt hr.units) qQ (qb 1) zN (qE _)) (qm (qv (qH (qa (qJ zL jJ rfl m_len PySem.boot_len (qa (qx (qb 0) qd) qe)) (qa (qJ zL jJ rfl m_len PySem.boot_len (qa (qx (qx (qb 0) qd) qd) qe)) (qa (qx (qb 0) qd) qe)))))) zp) (qi (jA (za (zt hr.units) qQ (qb 1) zN (qE _)) (qi (jy (qg qp hr rfl (qa (qx (qb 0) qd) qe)) (zP rfl (qu (qw (i := 2) (zE.nd)) (qu (qw (i := 3) (zE.nd)) (qu (qw (i := 4) (zE.nd)) zT))))) (qi (jy (qg qp hr rfl (qa (qx (qb 0) qd) qe)) (zP rfl (qu (qw (i := 5) (zE.nd)) (qu (qw (i := 6) (zE.nd)) (qu (qw (i := 7) (zE.nd)) zT))))) (qm (qv (qH (qa (zo (qb 2) (qb 5)) (qa (zo (qb 3) (qb 6)) (qa (zo (qb 4) (qb 7)) qe)))))))) zp) (qm (qv (qH (qa (qx (qb 0) qd) (qa (qx (qb 0) qd) (qa (qx (qb 0) qd) qe))))))))))) read
abbrev jr : Stmt := top 9
abbrev jT : List Str := ["dealing","word","rows","columns","banks"]
abbrev YZ : List Str := ["dealing","word"]
theorem j5 : FnScope jT YZ (qh jr) := ⟨rfl,rfl,rfl,by decide +kernel,rfl,by decide +kernel,by decide +kernel⟩
theorem RR {S_size_of : Sp3} (F : Fun K "number_of" "number_of" jr f fd) (bd : qW K fd YZ []) (hm : mg "number_of" = some (.ref f)) (qp : Fn3 P w K mg base k "size_of" S_size_of) 
  (read : Rd sp 2 (Bk.ZV S_size_of) jT) : Fn3 P w K mg base (k + 1) "number_of" sp :=
 qy (t3 := (Bk.ZV S_size_of)) F j5 bd hm (fun cdv A outer s H E hr => (qi (jy (qg qp hr rfl (qa (qb 0) qe)) (zP rfl (qu (qw (i := 2) (j5.nd)) (qu (qw (i := 3) (j5.nd)) (qu (qw (i := 4) (j5.nd)) zT))))) (qm (qv (qD (zo (qx (qb 1) qd) (qb 3)) (qx (qb 1) qd)))))) read
abbrev QW : Stmt := top 10
abbrev JF : List Str := ["dealing","thing","rows","columns","banks"]
abbrev DM : List Str := ["dealing","thing"]
theorem J3 : FnScope JF DM (qh QW) := ⟨rfl,rfl,rfl,by decide +kernel,rfl,by decide +kernel,by decide +kernel⟩
theorem LZ {S_is_pair : Sp3} {S_size_of : Sp3} (F : Fun K "is_word" "is_word" QW f fd) (bd : qW K fd DM []) (hm : mg "is_word" = some (.ref f)) (zc : Fn3 P w K mg base k "is_pair" S_is_pair) (qp : Fn3 P w K mg base k "size_of" S_size_of) 
  (read : Rd sp 2 (Bk.V7 S_is_pair S_size_of) JF) : Fn3 P w K mg base (k + 1) "is_word" sp :=
 qy (t3 := (Bk.V7 S_is_pair S_size_of)) F J3 bd hm (fun cdv A outer s H E hr => (qi (jA (RC (V4 (qg zc hr rfl (qa (qb 1) qe)))) (qm (qv MX)) zp) (qi (jy (qg qp hr rfl (qa (qb 0) qe)) (zP rfl (qu (qw (i := 2) (J3.nd)) (qu (qw (i := 3) (J3.nd)) (qu (qw (i := 4) (J3.nd)) zT))))) (qm (qv (Q0 (LF qj2 ZZ qfD ZZ qd (qx (qb 1) qd) (qb 2)) (VI (LF qj2 ZZ qfD ZZ qd (qx (qb 1) qd) (qb 3))))))))) read
abbrev jx : Stmt := top 11
abbrev EJ : List Str := ["number","mask","common","many"]
abbrev E7 : List Str := ["number","mask"]
abbrev JE : Stmt := top 12
abbrev TB : List Str := ["masks","number"]
abbrev DO : Stmt := top 13
abbrev qcm : List Str := ["word","rows","columns","i","j"]
abbrev qcf : List Str := ["word","rows","columns"]
abbrev QG : Stmt := top 14
abbrev W8 : List Str := ["one","other","word","rows","columns","banks","upper","lower"]
abbrev XH : List Str := ["one","other","word"]
abbrev QT : Stmt := top 15
abbrev JA : List Str := ["dealing","word","kind"]
abbrev EU : List Str := ["dealing","word"]
theorem WT : FnScope JA EU (qh QT) := ⟨rfl,rfl,rfl,by decide +kernel,rfl,by decide +kernel,by decide +kernel⟩
theorem NE {S_number_of : Sp3} {S_bits_bank : Sp3} {S_joined_bank : Sp3} (F : Fun K "bank_in" "bank_in" QT f fd) (bd : qW K fd EU []) (hm : mg "bank_in" = some (.ref f)) (qX : Fn3 P w K mg base k "number_of" S_number_of) (F_bits_bank : Fn3 P w K mg base k "bits_bank" S_bits_bank) (F_joined_bank : Fn3 P w K mg base k "joined_bank" S_joined_bank) 
  (read : Rd sp 2 (Bk.VM S_number_of S_bits_bank S_joined_bank) JA) : Fn3 P w K mg base (k + 1) "bank_in" sp :=
 qy (t3 := (Bk.VM S_number_of S_bits_bank S_joined_bank)) F WT bd hm (fun cdv A outer s H E hr => (qi (zf 2 WT.nd (qx (qb 0) qd)) (qi (jA (za (zt hr.units) qQ (qb 2) zN (qE _)) (qm (qv (YJ (qD (zo (qx (qb 0) qd) (qx (qb 1) qd)) (zo (qx (qb 0) qd) (qx (qb 1) qd))) (qx (qb 0) qd)))) zp) (qi (jA (za (zt hr.units) qQ (qb 2) zN (qE _)) (qm (qv (YJ (qg qX hr rfl (qa (qb 0) (qa (qb 1) qe))) (qx (qb 0) qd)))) zp) (qi (jA (za (zt hr.units) qQ (qb 2) zN (qE _)) (qm (qv (qg F_bits_bank hr rfl (qa (qx (qb 0) qd) (qa (qg qX hr rfl (qa (qb 0) (qa (qb 1) qe))) qe))))) zp) (qi (jA (za (zt hr.units) qQ (qb 2) zN (qE _)) (qm (qv (qx (qx (qx (qb 0) qd) (qx (qb 1) qd)) (qx (qb 1) qd)))) zp) (qm (qv (qg F_joined_bank hr rfl (qa (qx (qb 0) qd) (qa (qx (qb 0) qd) (qa (qb 1) qe)))))))))))) read
abbrev JM : Stmt := top 18
abbrev K1 : List Str := ["down","along","many"]
abbrev X0 : List Str := ["down","along","many"]
theorem NX : FnScope K1 X0 (qh JM) := ⟨rfl,rfl,rfl,by decide +kernel,rfl,by decide +kernel,by decide +kernel⟩
theorem qbk (F : Fun K "strung" "strung" JM f fd) (bd : qW K fd X0 []) (hm : mg "strung" = some (.ref f))  (m_range : mg "range" = none)
  (read : Rd sp 3 (Bk.EC) K1) : Fn3 P w K mg base (k + 1) "strung" sp :=
 qy (t3 := (Bk.EC)) F NX bd hm (fun cdv A outer s H E hr => (qm (qv (SZ ["t","down","along"] [none,some 0,some 1] rfl (jt rfl m_range (qa (qb 2) qe) (h1 := by intro _ _ _ h;simpa [qc,qj] using h)) (fun _ _ _ => (jgn 0)) (fun _ _ _ => j4) (fun _ _ _ => (qH (qa (zo (qb 0) (qb 1)) (qa (zo (qb 0) (qb 2)) qe)))) (by kernel_rfl) (by kernel_rfl))))) read
abbrev jY : Stmt := top 19
abbrev WX : List Str := ["walk","kind","down","along"]
abbrev UM : List Str := ["walk"]
theorem ZL : FnScope WX UM (qh jY) := ⟨rfl,rfl,rfl,by decide +kernel,rfl,by decide +kernel,by decide +kernel⟩
theorem T5 {S_strung : Sp3} (F : Fun K "cells_of" "cells_of" jY f fd) (bd : qW K fd UM []) (hm : mg "cells_of" = some (.ref f)) (zn : Fn3 P w K mg base k "strung" S_strung) (m_list : mg "list" = none) (m_range : mg "range" = none) (m_STRIDES : Tb K mg w "STRIDES" VL)
  (read : Rd sp 1 (Bk.JW S_strung) WX) : Fn3 P w K mg base (k + 1) "cells_of" sp :=
 qy (t3 := (Bk.JW S_strung)) F ZL bd hm (fun cdv A outer s H E hr => (qi (zf 1 ZL.nd (qx (qb 0) qd)) (qi (jA (za (zt hr.units) qQ (qb 1) zN (qE _)) (qm (qv (DI RZ qci rfl m_list PyProof.Rows.boot_list (qa (qx (qb 0) qd) qe)))) zp) (qi (jA (za (zt hr.units) qQ (qb 1) zN (qE _)) (qm (qv (qaC ["p","q","walk"] [none,none,some 0] rfl (jt rfl m_range (qa (qx (qb 0) qd) qe) (h1 := by intro _ _ _ h;simpa [qc,qj] using h)) (fun _ _ _ => (jgn 0)) (fun _ _ _ => j4) (fun _ _ _ => (jt rfl m_range (qa (qx (qb 2) qd) qe) (h1 := by intro _ _ _ h;simpa [qc,qj] using h))) (fun _ _ _ => (jgn 1)) (fun _ _ _ => j4) (fun _ _ _ => (qH (qa (qb 0) (qa (qb 1) qe)))) (by kernel_rfl) (by kernel_rfl)))) zp) (qi (jA (za (zt hr.units) qQ (qb 1) zN (qE _)) (qm (qv (qg zn hr rfl (qa (qx (qb 0) qd) (qa (qx (qb 0) qd) (qa (qx (qb 0) qd) qe)))))) zp) (qi (jy (qgH m_STRIDES rfl (qb 1) (fun _ _ => rfl)) (zP rfl (qu (qw (i := 2) (ZL.nd)) (qu (qw (i := 3) (ZL.nd)) zT)))) (qm (qv (qg zn hr rfl (qa (qb 2) (qa (qb 3) (qa (qx (qb 0) qd) qe)))))))))))) read
abbrev JG : Stmt := top 20
abbrev LB : List Str := ["dealing","walk","rows","columns","banks","cells","downs","alongs"]
abbrev CD : List Str := ["dealing","walk"]
theorem jH : FnScope LB CD (qh JG) := ⟨rfl,rfl,rfl,by decide +kernel,rfl,by decide +kernel,by decide +kernel⟩
theorem qaz {S_size_of : Sp3} {S_cells_of : Sp3} (F : Fun K "starts" "starts" JG f fd) (bd : qW K fd CD []) (hm : mg "starts" = some (.ref f)) (qp : Fn3 P w K mg base k "size_of" S_size_of) (qr : Fn3 P w K mg base k "cells_of" S_cells_of) (m_min : mg "min" = none) (m_max : mg "max" = none) (m_range : mg "range" = none)
  (read : Rd sp 2 (Bk.U8 S_size_of S_cells_of) LB) : Fn3 P w K mg base (k + 1) "starts" sp :=
 qy (t3 := (Bk.U8 S_size_of S_cells_of)) F jH bd hm (fun cdv A outer s H E hr => (qi (jy (qg qp hr rfl (qa (qb 0) qe)) (zP rfl (qu (qw (i := 2) (jH.nd)) (qu (qw (i := 3) (jH.nd)) (qu (qw (i := 4) (jH.nd)) zT))))) (qi (zf 5 jH.nd (qg qr hr rfl (qa (qb 1) qe))) (qi (qcw 6 ["p","q"] [none,none] rfl jH.nd (DC (qb 5)) (fun _ _ _ => (zP rfl (qu (jgn 0) (qu (jgn 1) zT)))) (fun _ _ _ => j4) (fun _ _ _ => (qb 0)) (by kernel_rfl) (by kernel_rfl) rfl rfl) (qi (zf 7 jH.nd (SZ ["p","q"] [none,none] rfl (DC (qb 5)) (fun _ _ _ => (zP rfl (qu (jgn 0) (qu (jgn 1) zT)))) (fun _ _ _ => j4) (fun _ _ _ => (qb 1)) (by kernel_rfl) (by kernel_rfl))) (qm (qv (qaC ["i","j","columns","alongs"] [none,none,some 3,some 7] rfl (JH rfl m_range (qa (SR (qJ (ST rfl) LU rfl m_min PyProof.Rows.boot_min (qa (qb 6) qe))) (qa (DB (qb 2) (qJ (RK rfl) KW rfl m_max PyProof.Rows.boot_max (qa (qb 6) qe))) qe)) (h1 := by intro _ _ _ h;simpa [qc,qj] using h)) (fun _ _ _ => (jgn 0)) (fun _ _ _ => j4) (fun _ _ _ => (JH rfl m_range (qa (SR (qJ (ST rfl) LU rfl m_min PyProof.Rows.boot_min (qa (qb 3) qe))) (qa (DB (qb 2) (qJ (RK rfl) KW rfl m_max PyProof.Rows.boot_max (qa (qb 3) qe))) qe)) (h1 := by intro _ _ _ h;simpa [qc,qj] using h))) (fun _ _ _ => (jgn 1)) (fun _ _ _ => j4) (fun _ _ _ => (qH (qa (qb 0) (qa (qb 1) qe)))) (by kernel_rfl) (by kernel_rfl))))))))) read
abbrev QL : Stmt := top 21
abbrev V1 : List Str := ["walk","start"]
abbrev EQ : List Str := ["walk","start"]
theorem NC : FnScope V1 EQ (qh QL) := ⟨rfl,rfl,rfl,by decide +kernel,rfl,by decide +kernel,by decide +kernel⟩
theorem MN {S_cells_of : Sp3} (F : Fun K "shifted" "shifted" QL f fd) (bd : qW K fd EQ []) (hm : mg "shifted" = some (.ref f)) (qr : Fn3 P w K mg base k "cells_of" S_cells_of) 
  (read : Rd sp 2 (Bk.VO S_cells_of) V1) : Fn3 P w K mg base (k + 1) "shifted" sp :=
 qy (t3 := (Bk.VO S_cells_of)) F NC bd hm (fun cdv A outer s H E hr => (qm (qv (SZ ["p","q","start"] [none,none,some 1] rfl (DC (qg qr hr rfl (qa (qb 0) qe))) (fun _ _ _ => (zP rfl (qu (jgn 0) (qu (jgn 1) zT)))) (fun _ _ _ => j4) (fun _ _ _ => (qH (qa (qD (qx (qb 2) qd) (qb 0)) (qa (qD (qx (qb 2) qd) (qb 1)) qe)))) (by kernel_rfl) (by kernel_rfl))))) read
abbrev jW : Stmt := top 22
abbrev J0 : List Str := ["dealing","walk","thing"]
abbrev UJ : List Str := ["dealing","walk","thing"]
theorem TJ : FnScope J0 UJ (qh jW) := ⟨rfl,rfl,rfl,by decide +kernel,rfl,by decide +kernel,by decide +kernel⟩
theorem KD {S_shifted : Sp3} {S_is_word : Sp3} {S_is_pair : Sp3} (F : Fun K "is_start" "is_start" jW f fd) (bd : qW K fd UJ []) (hm : mg "is_start" = some (.ref f)) (zd : Fn3 P w K mg base k "shifted" S_shifted) (jm : Fn3 P w K mg base k "is_word" S_is_word) (zc : Fn3 P w K mg base k "is_pair" S_is_pair) (m_all : mg "all" = none)
  (read : Rd sp 3 (Bk.J4 S_shifted S_is_word S_is_pair) J0) : Fn3 P w K mg base (k + 1) "is_start" sp :=
 qy (t3 := (Bk.J4 S_shifted S_is_word S_is_pair)) F TJ bd hm (fun cdv A outer s H E hr => (qm (qv (Q0 (qg zc hr rfl (qa (qb 2) qe)) (VI (qJ (YK rfl) NU rfl m_all PyProof.Rows.boot_all (qa (SZ ["word","dealing"] [none,some 0] rfl (DC (qg zd hr rfl (qa (qb 1) (qa (qb 2) qe)))) (fun _ _ _ => (jgn 0)) (fun _ _ _ => j4) (fun _ _ _ => (qg jm hr rfl (qa (qb 1) (qa (qb 0) qe)))) (by kernel_rfl) (by kernel_rfl)) qe))))))) read
abbrev jO : Stmt := top 23
abbrev YA : List Str := ["dealing","walk","start"]
abbrev UC : List Str := ["dealing","walk","start"]
theorem TY : FnScope YA UC (qh jO) := ⟨rfl,rfl,rfl,by decide +kernel,rfl,by decide +kernel,by decide +kernel⟩
theorem TH {S_is_start : Sp3} {S_shifted : Sp3} (F : Fun K "words_of" "words_of" jO f fd) (bd : qW K fd UC []) (hm : mg "words_of" = some (.ref f)) (zG : Fn3 P w K mg base k "is_start" S_is_start) (zd : Fn3 P w K mg base k "shifted" S_shifted) 
  (read : Rd sp 3 (Bk.J5 S_is_start S_shifted) YA) : Fn3 P w K mg base (k + 1) "words_of" sp :=
 qy (t3 := (Bk.J5 S_is_start S_shifted)) F TY bd hm (fun cdv A outer s H E hr => (qi (jA (RC (V4 (qg zG hr rfl (qa (qb 0) (qa (qb 1) (qa (qb 2) qe)))))) qbY zp) (qm (qv (qg zd hr rfl (qa (qb 1) (qa (qb 2) qe))))))) read
abbrev zR : Stmt := top 25
abbrev UX : List Str := ["dealing"]
abbrev JN : List Str := ["dealing"]
theorem C2 : FnScope UX JN (qh zR) := ⟨rfl,rfl,rfl,by decide +kernel,rfl,by decide +kernel,by decide +kernel⟩
theorem CU (F : Fun K "factors_of" "factors_of" zR f fd) (bd : qW K fd JN []) (hm : mg "factors_of" = some (.ref f))  
  (read : Rd sp 1 (Pv.j3) UX) : Fn3 P w K mg base (k + 1) "factors_of" sp :=
 qy (t3 := (Pv.j3)) F C2 bd hm (fun cdv A outer s H E hr => (qi (jA (za (zt hr.units) qQ (qx (qb 0) qd) zN (qE _)) (qm (qv (qH (qa (qx (qb 0) qd) (qa qd qe))))) zp) (qm (qv (qH (qa (qx (qb 0) qd) (qa (qx (qb 0) qd) qe))))))) read
abbrev jQ : Stmt := top 26
abbrev WM : List Str := ["banks","factors","walk","a","b"]
abbrev UA : List Str := ["banks","factors","walk"]
theorem YO : FnScope WM UA (qh jQ) := ⟨rfl,rfl,rfl,by decide +kernel,rfl,by decide +kernel,by decide +kernel⟩
theorem TX {S_cells_of : Sp3} (F : Fun K "rests_by" "rests_by" jQ f fd) (bd : qW K fd UA []) (hm : mg "rests_by" = some (.ref f)) (qr : Fn3 P w K mg base k "cells_of" S_cells_of) (m_tuple : mg "tuple" = none)
  (read : Rd sp 3 (Bk.J6 S_cells_of) WM) : Fn3 P w K mg base (k + 1) "rests_by" sp :=
 qy (t3 := (Bk.J6 S_cells_of)) F YO bd hm (fun cdv A outer s H E hr => (qi (jy (qb 1) (zP rfl (qu (qw (i := 3) (YO.nd)) (qu (qw (i := 4) (YO.nd)) zT)))) (qm (qv (DI CJ qbj rfl m_tuple PyProof.Rows.boot_tuple (qa (SZ ["p","q","banks","a","b"] [none,none,some 0,some 3,some 4] rfl (DC (qg qr hr rfl (qa (qb 2) qe))) (fun _ _ _ => (zP rfl (qu (jgn 0) (qu (jgn 1) zT)))) (fun _ _ _ => j4) (fun _ _ _ => (YJ (qD (zo (qb 3) (qb 0)) (zo (qb 4) (qb 1))) (qb 2))) (by kernel_rfl) (by kernel_rfl)) qe)))))) read
abbrev jP : Stmt := top 27
abbrev WV : List Str := ["dealing","walk"]
abbrev UE : List Str := ["dealing","walk"]
theorem KI : FnScope WV UE (qh jP) := ⟨rfl,rfl,rfl,by decide +kernel,rfl,by decide +kernel,by decide +kernel⟩
theorem KO {S_factors_of : Sp3} {S_rests_by : Sp3} (F : Fun K "rests_of" "rests_of" jP f fd) (bd : qW K fd UE []) (hm : mg "rests_of" = some (.ref f)) (qq : Fn3 P w K mg base k "factors_of" S_factors_of) (qS : Fn3 P w K mg base k "rests_by" S_rests_by) 
  (read : Rd sp 2 (Pv.JU S_factors_of S_rests_by) WV) : Fn3 P w K mg base (k + 1) "rests_of" sp :=
 qy (t3 := (Pv.JU S_factors_of S_rests_by)) F KI bd hm (fun cdv A outer s H E hr => (qm (qv (qg qS hr rfl (qa (qx (qb 0) qd) (qa (qg qq hr rfl (qa (qb 0) qe)) (qa (qb 1) qe))))))) read
abbrev jh : Stmt := top 28
abbrev EI : List Str := ["dealing","walk"]
abbrev YT : List Str := ["dealing","walk"]
theorem SM : FnScope EI YT (qh jh) := ⟨rfl,rfl,rfl,by decide +kernel,rfl,by decide +kernel,by decide +kernel⟩
theorem C8 {S_rests_of : Sp3} {S_first_alike : Sp3} (F : Fun K "is_unlike" "is_unlike" jh f fd) (bd : qW K fd YT []) (hm : mg "is_unlike" = some (.ref f)) (qT : Fn3 P w K mg base k "rests_of" S_rests_of) (ql : Fn3 P w K mg base k "first_alike" S_first_alike) 
  (read : Rd sp 2 (Pv.ZM S_rests_of S_first_alike) EI) : Fn3 P w K mg base (k + 1) "is_unlike" sp :=
 qy (t3 := (Pv.ZM S_rests_of S_first_alike)) F SM bd hm (fun cdv A outer s H E hr => (qm (qv (ZY KT XJ (qg ql hr rfl (qa (qg qT hr rfl (qa (qb 0) (qa (qb 1) qe))) qe)) UY (qE _))))) read
abbrev Q2 : Stmt := top 29
abbrev E6 : List Str := ["dealing","down","along","a","b","many"]
abbrev EN : List Str := ["dealing","down","along"]
theorem QR : FnScope E6 EN (qh Q2) := ⟨rfl,rfl,rfl,by decide +kernel,rfl,by decide +kernel,by decide +kernel⟩
theorem M8 {S_factors_of : Sp3} (F : Fun K "longest" "longest" Q2 f fd) (bd : qW K fd EN []) (hm : mg "longest" = some (.ref f)) (qq : Fn3 P w K mg base k "factors_of" S_factors_of) 
  (read : Rd sp 3 (Pv.VW S_factors_of) E6) : Fn3 P w K mg base (k + 1) "longest" sp :=
 qy (t3 := (Pv.VW S_factors_of)) F QR bd hm (fun cdv A outer s H E hr => (qi (jy (qg qq hr rfl (qa (qb 0) qe)) (zP rfl (qu (qw (i := 3) (QR.nd)) (qu (qw (i := 4) (QR.nd)) zT)))) (qi (zf 5 QR.nd qd) (qi (XW PassesOwn.never (za (qaF hr.units) TR (YJ (zo (qb 5) (qD (zo (qb 3) (qb 1)) (zo (qb 4) (qb 2)))) (qx (qb 0) qd)) qd (qE _)) (qm (SK 5 QR.nd qd))) (qm (qv (qb 5))))))) read
abbrev Z8 : Stmt := top 30
abbrev XS : List Str := ["dealing","high","wide"]
abbrev CH : List Str := ["dealing","high"]
theorem EW : FnScope XS CH (qh Z8) := ⟨rfl,rfl,rfl,by decide +kernel,rfl,by decide +kernel,by decide +kernel⟩
theorem qbi {S_is_unlike : Sp3} (F : Fun K "widest" "widest" Z8 f fd) (bd : qW K fd CH []) (hm : mg "widest" = some (.ref f)) (qt : Fn3 P w K mg base k "is_unlike" S_is_unlike) 
  (read : Rd sp 2 (Pv.U5 S_is_unlike) XS) : Fn3 P w K mg base (k + 1) "widest" sp :=
 qy (t3 := (Pv.U5 S_is_unlike)) F EW bd hm (fun cdv A outer s H E hr => (qi (zf 2 EW.nd qd) (qi (XW PassesOwn.never (V4 (qg qt hr rfl (qa (qb 0) (qa (qH (qa zN (qa (qb 1) (qa (qD (qb 2) qd) qe)))) qe)))) (qm (SK 2 EW.nd qd))) (qm (qv (qb 2)))))) read
abbrev JC : Stmt := top 31
abbrev CQ : List Str := ["dealing"]
abbrev W9 : List Str := ["dealing"]
theorem qau : FnScope CQ W9 (qh JC) := ⟨rfl,rfl,rfl,by decide +kernel,rfl,by decide +kernel,by decide +kernel⟩
theorem qan {S_widest : Sp3} (F : Fun K "blocks" "blocks" JC f fd) (bd : qW K fd W9 []) (hm : mg "blocks" = some (.ref f)) (zB : Fn3 P w K mg base k "widest" S_widest) (m_range : mg "range" = none)
  (read : Rd sp 1 (Pv.U4 S_widest) CQ) : Fn3 P w K mg base (k + 1) "blocks" sp :=
 qy (t3 := (Pv.U4 S_widest)) F qau bd hm (fun cdv A outer s H E hr => (qm (qv (SZ ["high","dealing"] [none,some 0] rfl (JH rfl m_range (qa qd (qa (qD (qx (qb 0) qd) qd) qe)) (h1 := by intro _ _ _ h;simpa [qc,qj] using h)) (fun _ _ _ => (jgn 0)) (fun _ _ _ => j4) (fun _ _ _ => (qg zB hr rfl (qa (qb 1) (qa (qb 0) qe)))) (by kernel_rfl) (by kernel_rfl))))) read
abbrev Q4 : Stmt := top 32
abbrev JD : List Str := ["dealing","walk"]
abbrev DL : List Str := ["dealing","walk"]
theorem M7 : FnScope JD DL (qh Q4) := ⟨rfl,rfl,rfl,by decide +kernel,rfl,by decide +kernel,by decide +kernel⟩
theorem ND {S_is_unlike : Sp3} {S_starts : Sp3} (F : Fun K "is_free" "is_free" Q4 f fd) (bd : qW K fd DL []) (hm : mg "is_free" = some (.ref f)) (qt : Fn3 P w K mg base k "is_unlike" S_is_unlike) (qU : Fn3 P w K mg base k "starts" S_starts) (m_len : mg "len" = none)
  (read : Rd sp 2 (Pv.V6 S_is_unlike S_starts) JD) : Fn3 P w K mg base (k + 1) "is_free" sp :=
 qy (t3 := (Pv.V6 S_is_unlike S_starts)) F M7 bd hm (fun cdv A outer s H E hr => (qm (qv (Q0 (ZY M3 ZZ (qJ zL jJ rfl m_len PySem.boot_len (qa (qg qU hr rfl (qa (qb 0) (qa (qb 1) qe))) qe)) qd (qE _)) (VI (qg qt hr rfl (qa (qb 0) (qa (qb 1) qe)))))))) read
abbrev zU : Stmt := top 33
abbrev UZ : List Str := ["dealing","many","rows","columns"]
abbrev JJ : List Str := ["dealing","many"]
theorem ZO : FnScope UZ JJ (qh zU) := ⟨rfl,rfl,rfl,by decide +kernel,rfl,by decide +kernel,by decide +kernel⟩
theorem XE {S_is_free : Sp3} (F : Fun K "free_steps" "free_steps" zU f fd) (bd : qW K fd JJ []) (hm : mg "free_steps" = some (.ref f)) (zl : Fn3 P w K mg base k "is_free" S_is_free) (m_range : mg "range" = none)
  (read : Rd sp 2 (Pv.QA S_is_free) UZ) : Fn3 P w K mg base (k + 1) "free_steps" sp :=
 qy (t3 := (Pv.QA S_is_free)) F ZO bd hm (fun cdv A outer s H E hr => (qi (jy (qcy (qb 0) (qaV qd) (qaV qd)) (zP rfl (qu (qw (i := 2) (ZO.nd)) (qu (qw (i := 3) (ZO.nd)) zT)))) (qm (qv (qaC ["down","along","columns","dealing","many"] [none,none,some 3,some 0,some 1] rfl (jt rfl m_range (qa (qb 2) qe) (h1 := by intro _ _ _ h;simpa [qc,qj] using h)) (fun _ _ _ => (jgn 0)) (fun _ _ _ => j4) (fun _ _ _ => (JH rfl m_range (qa (DB qd (qb 2)) (qa (qb 2) qe)) (h1 := by intro _ _ _ h;simpa [qc,qj] using h))) (fun _ _ _ => (jgn 1)) (fun _ _ _ => qhP (jpt (qkg (jpt (qcI (za M3 ZZ (qb 0) qd (qE _)) (LP (za M3 ZZ (qb 1) qd (qE _))))) (qgq (V4 (qg zl hr rfl (qa (qb 3) (qa (qH (qa zN (qa (qb 0) (qa (qb 1) (qa (qb 4) qe))))) qe)))))))) (fun _ _ _ => (qH (qa (qb 0) (qa (qb 1) qe)))) (by kernel_rfl) (by kernel_rfl)))))) read
abbrev zM : Stmt := top 35
abbrev jn : List Str := ["dealing","walk","start"]
abbrev JI : List Str := ["dealing","walk","start"]
theorem CP : FnScope jn JI (qh zM) := ⟨rfl,rfl,rfl,by decide +kernel,rfl,by decide +kernel,by decide +kernel⟩
theorem CB {S_words_of : Sp3} {S_bank_in : Sp3} (F : Fun K "banks_from" "banks_from" zM f fd) (bd : qW K fd JI []) (hm : mg "banks_from" = some (.ref f)) (zD : Fn3 P w K mg base k "words_of" S_words_of) (ji : Fn3 P w K mg base k "bank_in" S_bank_in) 
  (read : Rd sp 3 (Bk.j7 S_words_of S_bank_in) jn) : Fn3 P w K mg base (k + 1) "banks_from" sp :=
 qy (t3 := (Bk.j7 S_words_of S_bank_in)) F CP bd hm (fun cdv A outer s H E hr => (qm (qv (SZ ["word","dealing"] [none,some 0] rfl (DC (qg zD hr rfl (qa (qb 0) (qa (qb 1) (qa (qb 2) qe))))) (fun _ _ _ => (jgn 0)) (fun _ _ _ => j4) (fun _ _ _ => (qg ji hr rfl (qa (qb 1) (qa (qb 0) qe)))) (by kernel_rfl) (by kernel_rfl))))) read
abbrev VX : Stmt := top 36
abbrev EH : List Str := ["dealing","walk","start","found"]
abbrev T2 : List Str := ["dealing","walk"]
theorem C1 : FnScope EH T2 (qh VX) := ⟨rfl,rfl,rfl,by decide +kernel,rfl,by decide +kernel,by decide +kernel⟩
theorem qcd {S_starts : Sp3} {S_banks_from : Sp3} {S_first_alike : Sp3} (F : Fun K "clash" "clash" VX f fd) (bd : qW K fd T2 []) (hm : mg "clash" = some (.ref f)) (qU : Fn3 P w K mg base k "starts" S_starts) (qP : Fn3 P w K mg base k "banks_from" S_banks_from) (ql : Fn3 P w K mg base k "first_alike" S_first_alike) 
  (read : Rd sp 2 (Bk.CT S_starts S_banks_from S_first_alike) EH) : Fn3 P w K mg base (k + 1) "clash" sp :=
 qy (t3 := (Bk.CT S_starts S_banks_from S_first_alike)) F C1 bd hm (fun cdv A outer s H E hr => (qi (WS PassesOwn.never rfl (DC (qg qU hr rfl (qa (qb 0) (qa (qb 1) qe)))) (qw (i := 2) (C1.nd)) (qi (zf 3 C1.nd (qg ql hr rfl (qa (qg qP hr rfl (qa (qb 0) (qa (qb 1) (qa (qb 2) qe)))) qe))) (qm (jA (za qaH LC (qb 3) UY (qE _)) (qm (qv (qH (qa (qb 2) (qa (qx (qb 3) qd) (qa (qx (qb 3) qd) qe)))))) zp)))) (qm (qv UY)))) read
abbrev QS : Stmt := top 38
abbrev ED : List Str := ["_law_cell","_law_k","_law_m"]
abbrev EX : List Str := ["_law_cell","_law_k"]
theorem WQ : FnScope ED EX (qh QS) := ⟨rfl,rfl,rfl,by decide +kernel,rfl,by decide +kernel,by decide +kernel⟩
theorem L9 (F : Fun K "_law_mix" "_law_mix" QS f fd) (bd : qW K fd EX []) (hm : mg "_law_mix" = some (.ref f))  
  (read : Rd sp 2 (Bk.VY) ED) : Fn3 P w K mg base (k + 1) "_law_mix" sp :=
 qy (t3 := (Bk.VY)) F WQ bd hm (fun cdv A outer s H E hr => (qi (zf 2 WQ.nd (YJ (zo (qD (qD (YJ (qb 0) qd) (zo (zo (qb 1) (qb 1)) qd)) qd) qd) qd)) (qm (qv (YJ (zo (qb 2) (qb 2)) qd))))) read
abbrev jL : Stmt := top 39
abbrev UK : List Str := ["_law_script","_law_k","_law_cell","_law_own"]
abbrev UD : List Str := ["_law_script","_law_k"]
theorem VC : FnScope UK UD (qh jL) := ⟨rfl,rfl,rfl,by decide +kernel,rfl,by decide +kernel,by decide +kernel⟩
theorem T8 (F : Fun K "_law_left" "_law_left" jL f fd) (bd : qW K fd UD []) (hm : mg "_law_left" = some (.ref f))  (m_len : mg "len" = none) (m_abs : mg "abs" = none)
  (read : Rd sp 2 (Bk.J9) UK) : Fn3 P w K mg base (k + 1) "_law_left" sp :=
 qy (t3 := (Bk.J9)) F VC bd hm (fun cdv A outer s H E hr => (qi (zf 2 VC.nd (qfe (za qfD ZZ (qb 1) (qJ zL jJ rfl m_len PySem.boot_len (qa (qb 0) qe)) (qE _)) (qx (qb 0) (qb 1)) qd)) (qi (zf 3 VC.nd (qfe (za qmX ZZ (qJ XX TU rfl m_abs PyProof.Rows.boot_abs (qa (qb 2) qe)) (qil qd qd) (qE _)) (qJ XX TU rfl m_abs PyProof.Rows.boot_abs (qa (qb 2) qe)) qd)) (qm (qv (QK (qa (qb 3) (qa (qD (qb 2) (zo qd (qb 1))) (qa qd qe))))))))) read
abbrev jU : Stmt := top 40
abbrev UP : List Str := ["_law_left_here","_law_many","_law_digit"]
abbrev UT : List Str := ["_law_left_here","_law_many"]
theorem EZ : FnScope UP UT (qh jU) := ⟨rfl,rfl,rfl,by decide +kernel,rfl,by decide +kernel,by decide +kernel⟩
theorem TL {S_law_mix : Sp3} (F : Fun K "_law_pick" "_law_pick" jU f fd) (bd : qW K fd UT []) (hm : mg "_law_pick" = some (.ref f)) (F_law_mix : Fn3 P w K mg base k "_law_mix" S_law_mix) 
  (read : Rd sp 2 (Bk.YB S_law_mix) UP) : Fn3 P w K mg base (k + 1) "_law_pick" sp :=
 qy (t3 := (Bk.YB S_law_mix)) F EZ bd hm (fun cdv A outer s H E hr => (qi (jy (qD (qx (qb 0) qd) qd) (qeh (qb 0) qd)) (qi (jA (za M3 ZZ (qx (qb 0) qd) qd (qE _)) (qi (zf 2 EZ.nd (YJ (qx (qb 0) qd) (qb 1))) (qi (jy (K0 (qx (qb 0) qd) (qb 1)) (qeh (qb 0) qd)) (qm (qv (qb 2))))) zp) (qm (qv (YJ (K0 (qg F_law_mix hr rfl (qa (qg F_law_mix hr rfl (qa (qx (qb 0) qd) (qa (qx (qb 0) qd) qe))) (qa (qD (qx (qb 0) qd) qd) qe))) qd) (qb 1))))))) read
abbrev jp : Stmt := top 41
abbrev YS : List Str := ["_law_left_here","_law_wide","_law_rows","_law_columns"]
abbrev YU : List Str := ["_law_left_here"]
theorem Z9 : FnScope YS YU (qh jp) := ⟨rfl,rfl,rfl,by decide +kernel,rfl,by decide +kernel,by decide +kernel⟩
theorem SO {S_law_pick : Sp3} (F : Fun K "_law_sides" "_law_sides" jp f fd) (bd : qW K fd YU []) (hm : mg "_law_sides" = some (.ref f)) (F_law_pick : Fn3 P w K mg base k "_law_pick" S_law_pick) 
  (read : Rd sp 1 (Bk.Q7 S_law_pick) YS) : Fn3 P w K mg base (k + 1) "_law_sides" sp :=
 qy (t3 := (Bk.Q7 S_law_pick)) F Z9 bd hm (fun cdv A outer s H E hr => (qi (zf 1 Z9.nd (qx (QK (qa qd (qa qd (qa qd (qa qd qe))))) (qg F_law_pick hr rfl (qa (qb 0) (qa qd qe))))) (qi (RQ (i := 2) (j := 3) rfl Z9.nd rfl rfl (by decide) rfl rfl (qa (qD qd (qg F_law_pick hr rfl (qa (qb 0) (qa (qb 1) qe)))) (qa (qD qd (qg F_law_pick hr rfl (qa (qb 0) (qa (qb 1) qe)))) qe))) (qm (qv (qx (QK (qa (qH (qa (qb 2) (qa (qb 3) qe))) (qa (qH (qa (qb 2) (qa (qb 3) qe))) (qa (qH (qa (qb 2) (qa (qb 3) qe))) (qa (qH (qa (qb 2) (qa (qb 2) qe))) qe))))) (qg F_law_pick hr rfl (qa (qb 0) (qa qd qe))))))))) read
abbrev QP : Stmt := top 42
abbrev DQ : List Str := ["_law_one","_law_other"]
abbrev ER : List Str := ["_law_one","_law_other"]
theorem WN : FnScope DQ ER (qh QP) := ⟨rfl,rfl,rfl,by decide +kernel,rfl,by decide +kernel,by decide +kernel⟩
theorem L7 (F : Fun K "_law_gcd" "_law_gcd" QP f fd) (bd : qW K fd ER []) (hm : mg "_law_gcd" = some (.ref f))  
  (read : Rd sp 2 (Bk.VQ) DQ) : Fn3 P w K mg base (k + 1) "_law_gcd" sp :=
 qy (t3 := (Bk.VQ)) F WN bd hm (fun cdv A outer s H E hr => (qi (XW PassesOwn.never (za M3 ZZ (qb 1) qd (qE _)) (qm (RQ (i := 0) (j := 1) rfl WN.nd rfl rfl (by decide) rfl rfl (qa (qb 1) (qa (YJ (qb 0) (qb 1)) qe))))) (qm (qv (qb 0))))) read
abbrev jM : Stmt := top 43
abbrev QQ : List Str := ["_law_left_here","_law_rows","_law_columns","_law_banks","_law_wide"]
abbrev UR : List Str := ["_law_left_here"]
theorem jX : FnScope QQ UR (qh jM) := ⟨rfl,rfl,rfl,by decide +kernel,rfl,by decide +kernel,by decide +kernel⟩
theorem KN {S_law_sides : Sp3} {S_law_pick : Sp3} (F : Fun K "_law_skew" "_law_skew" jM f fd) (bd : qW K fd UR []) (hm : mg "_law_skew" = some (.ref f)) (F_law_sides : Fn3 P w K mg base k "_law_sides" S_law_sides) (F_law_pick : Fn3 P w K mg base k "_law_pick" S_law_pick) 
  (read : Rd sp 1 (Bk.J7 S_law_sides S_law_pick) QQ) : Fn3 P w K mg base (k + 1) "_law_skew" sp :=
 qy (t3 := (Bk.J7 S_law_sides S_law_pick)) F jX bd hm (fun cdv A outer s H E hr => (qi (jy (qg F_law_sides hr rfl (qa (qb 0) qe)) (zP rfl (qu (qw (i := 1) (jX.nd)) (qu (qw (i := 2) (jX.nd)) zT)))) (qi (zf 3 jX.nd (qD qd (qg F_law_pick hr rfl (qa (qb 0) (qa (qx (QK (qa qd (qa qd (qa qd (qa qd qe))))) (qg F_law_pick hr rfl (qa (qb 0) (qa qd qe)))) qe))))) (qi (zf 4 jX.nd (qx (QK (qa (qb 3) (qa qd (qa qd qe)))) (qg F_law_pick hr rfl (qa (qb 0) (qa qd qe))))) (qm (qv (qH (qa zN (qa (qb 1) (qa (qb 2) (qa (qb 3) (qa (qg F_law_pick hr rfl (qa (qb 0) (qa (qb 4) qe))) (qa (qg F_law_pick hr rfl (qa (qb 0) (qa (qb 4) qe))) qe))))))))))))) read
abbrev js : Stmt := top 44
abbrev YN : List Str := ["_law_left_here","_law_rows","_law_columns","_law_banks","_law_places","_law_turn"]
abbrev YW : List Str := ["_law_left_here"]
theorem zr : FnScope YN YW (qh js) := ⟨rfl,rfl,rfl,by decide +kernel,rfl,by decide +kernel,by decide +kernel⟩
theorem RO {S_law_sides : Sp3} {S_law_pick : Sp3} {S_law_gcd : Sp3} (F : Fun K "_law_rests" "_law_rests" js f fd) (bd : qW K fd YW []) (hm : mg "_law_rests" = some (.ref f)) (F_law_sides : Fn3 P w K mg base k "_law_sides" S_law_sides) (F_law_pick : Fn3 P w K mg base k "_law_pick" S_law_pick) (F_law_gcd : Fn3 P w K mg base k "_law_gcd" S_law_gcd) (m_range : mg "range" = none)
  (read : Rd sp 1 (Bk.ZB S_law_sides S_law_pick S_law_gcd) YN) : Fn3 P w K mg base (k + 1) "_law_rests" sp :=
 qy (t3 := (Bk.ZB S_law_sides S_law_pick S_law_gcd)) F zr bd hm (fun cdv A outer s H E hr => (qi (jy (qg F_law_sides hr rfl (qa (qb 0) qe)) (zP rfl (qu (qw (i := 1) (zr.nd)) (qu (qw (i := 2) (zr.nd)) zT)))) (qi (zf 3 zr.nd (qD qd (qg F_law_pick hr rfl (qa (qb 0) (qa (qx (QK (qa qd (qa qd (qa qd qe)))) (qg F_law_pick hr rfl (qa (qb 0) (qa qd qe)))) qe))))) (qi (zf 4 zr.nd (qD (SR (K0 (zo (SR (qb 1)) (qb 2)) (qb 3))) (qg F_law_pick hr rfl (qa (qb 0) (qa qd qe))))) (qi (WS PassesOwn.never rfl (jt rfl m_range (qa qd qe) (h1 := by intro _ _ _ h;simpa [qc,qj] using h)) (qw (i := 5) (zr.nd)) (qm (jA (za M3 ZZ (qg F_law_gcd hr rfl (qa (qb 3) (qa (qb 4) qe))) qd (qE _)) (qm (zf 4 zr.nd (qD (qb 4) qd))) zp))) (qm (qv (qH (qa zN (qa (qb 1) (qa (qb 2) (qa (qb 3) (qa (qb 4) qe))))))))))))) read
abbrev ju : Stmt := top 45
abbrev jN : List Str := ["_law_left_here"]
abbrev YY : List Str := ["_law_left_here"]
theorem SE : FnScope jN YY (qh ju) := ⟨rfl,rfl,rfl,by decide +kernel,rfl,by decide +kernel,by decide +kernel⟩
def ZC (S_law_pick : Sp3) (S_law_rests : Sp3) (S_law_skew : Sp3) : TS3 := (qZ (if3 (tb3 (o3 (Q6 false) (cb3 S_law_pick (qc (v3 0) (qc (c3 (.int 3)) qj))) (c3 (.int 0)))) (cb3 S_law_rests (qc (v3 0) qj)) (cb3 S_law_skew (qc (v3 0) qj))))
theorem RE {S_law_pick : Sp3} {S_law_rests : Sp3} {S_law_skew : Sp3} (F : Fun K "_law_plain" "_law_plain" ju f fd) (bd : qW K fd YY []) (hm : mg "_law_plain" = some (.ref f)) (F_law_pick : Fn3 P w K mg base k "_law_pick" S_law_pick) (F_law_rests : Fn3 P w K mg base k "_law_rests" S_law_rests) (F_law_skew : Fn3 P w K mg base k "_law_skew" S_law_skew) 
  (read : Rd sp 1 (ZC S_law_pick S_law_rests S_law_skew) jN) : Fn3 P w K mg base (k + 1) "_law_plain" sp :=
 qy (t3 := (ZC S_law_pick S_law_rests S_law_skew)) F SE bd hm (fun cdv A outer s H E hr => (qm (qv (qfe (za (zt hr.units) qQ (qg F_law_pick hr rfl (qa (qb 0) (qa qd qe))) qd (qE _)) (qg F_law_rests hr rfl (qa (qb 0) qe)) (qg F_law_skew hr rfl (qa (qb 0) qe)))))) read
abbrev jo : Stmt := top 46
abbrev jS : List Str := ["_law_left_here","_law_wide","_law_down","_law_along"]
abbrev YV : List Str := ["_law_left_here"]
theorem JO : FnScope jS YV (qh jo) := ⟨rfl,rfl,rfl,by decide +kernel,rfl,by decide +kernel,by decide +kernel⟩
def ZG (S_law_pick : Sp3) : TS3 := (qK (zg (o3 ix3 (UF (qc (c3 (.int 3)) (qc (c3 (.int 3)) (qc (c3 (.int 15)) qj)))) (cb3 S_law_pick (qc (v3 0) (qc (c3 (.int 3)) qj)))) (gn3 1)) (qK (S0 2 3 (qc (o3 (iI (· - ·)) (cb3 S_law_pick (qc (v3 0) (qc (o3 zY (o3 (iC jd (· * ·)) (c3 (.int 2)) (v3 1)) (c3 (.int 1))) qj))) (v3 1)) (qc (o3 (iI (· - ·)) (cb3 S_law_pick (qc (v3 0) (qc (o3 zY (o3 (iC jd (· * ·)) (c3 (.int 2)) (v3 1)) (c3 (.int 1))) qj))) (v3 1)) qj))) (qZ (zJ (qc (v3 2) (qc (o3 zY (v3 3) (cb3 qgR (qc (QX (o3 (Q6 false) (v3 2) (c3 (.int 0))) (o3 (Q6 false) (v3 3) (c3 (.int 0)))) qj))) qj))))))
theorem C7 {S_law_pick : Sp3} (F : Fun K "_law_steps" "_law_steps" jo f fd) (bd : qW K fd YV []) (hm : mg "_law_steps" = some (.ref f)) (F_law_pick : Fn3 P w K mg base k "_law_pick" S_law_pick) (m_int : mg "int" = none)
  (read : Rd sp 1 (ZG S_law_pick) jS) : Fn3 P w K mg base (k + 1) "_law_steps" sp :=
 qy (t3 := (ZG S_law_pick)) F JO bd hm (fun cdv A outer s H E hr => (qi (zf 1 JO.nd (qx (QK (qa qd (qa qd (qa qd qe)))) (qg F_law_pick hr rfl (qa (qb 0) (qa qd qe))))) (qi (RQ (i := 2) (j := 3) rfl JO.nd rfl rfl (by decide) rfl rfl (qa (DB (qg F_law_pick hr rfl (qa (qb 0) (qa (qD (zo qd (qb 1)) qd) qe))) (qb 1)) (qa (DB (qg F_law_pick hr rfl (qa (qb 0) (qa (qD (zo qd (qb 1)) qd) qe))) (qb 1)) qe))) (qm (qv (qH (qa (qb 2) (qa (qD (qb 3) (DI qal qgC rfl m_int PyProof.Rows.boot_int (qa (Q0 (ZY (zt hr.units) qQ (qb 2) qd (qE _)) (VI (ZY (zt hr.units) qQ (qb 3) qd (qE _)))) qe))) qe)))))))) read
abbrev jK : Stmt := top 47
abbrev WR : List Str := ["_law_found","_law_due"]
abbrev UL : List Str := ["_law_found","_law_due"]
theorem S9 : FnScope WR UL (qh jK) := ⟨rfl,rfl,rfl,by decide +kernel,rfl,by decide +kernel,by decide +kernel⟩
theorem jG {S_law_same : Sp3} (F : Fun K "_law_same" "_law_same" jK f fd) (bd : qW K fd UL []) (hm : mg "_law_same" = some (.ref f)) (F_law_same : Fn3 P w K mg base k "_law_same" S_law_same) (m_isinstance : mg "isinstance" = none) (m_list : mg "list" = none) (m_tuple : mg "tuple" = none) (m_zip : mg "zip" = none) (m_all : mg "all" = none) (m_len : mg "len" = none) (m_str : mg "str" = none) (m_bool : mg "bool" = none) (m_int : mg "int" = none)
  (read : Rd sp 2 (Bk.US S_law_same) WR) : Fn3 P w K mg base (k + 1) "_law_same" sp :=
 qy (t3 := (Bk.US S_law_same)) F S9 bd hm (fun cdv A outer s H E hr => (qi (jA (V4 (qbe (qb 1) rfl m_isinstance rfl m_list PyProof.Rows.boot_list rfl m_tuple PyProof.Rows.boot_tuple)) (qi (jA (jpt (qcI (za (qaF hr.units) TR (JP (qb 0) rfl m_isinstance rfl m_list PyProof.Rows.boot_list) (JP (qb 1) rfl m_isinstance rfl m_list PyProof.Rows.boot_list) (qE _)) (LP (za (qaF hr.units) TR (JP (qb 0) rfl m_isinstance rfl m_tuple PyProof.Rows.boot_tuple) (JP (qb 1) rfl m_isinstance rfl m_tuple PyProof.Rows.boot_tuple) (qE _))))) (qm (qv MX)) zp) (qm (qv (Q0 (ZY (zt hr.units) qQ (qJ zL jJ rfl m_len PySem.boot_len (qa (qb 0) qe)) (qJ zL jJ rfl m_len PySem.boot_len (qa (qb 1) qe)) (qE _)) (VI (qJ (YK rfl) NU rfl m_all PyProof.Rows.boot_all (qa (SZ ["_law_one","_law_other"] [none,none] rfl (qjA rfl m_zip (qa (qb 0) (qa (qb 1) qe))) (fun _ _ _ => (zP rfl (qu (jgn 0) (qu (jgn 1) zT)))) (fun _ _ _ => j4) (fun _ _ _ => (qg F_law_same hr rfl (qa (qb 0) (qa (qb 1) qe)))) (by kernel_rfl) (by kernel_rfl)) qe))))))) zp) (qi (jA (jpt (qcI (za KT XJ (qb 1) UY (qE _)) (LP (V4 (qbe (qb 1) rfl m_isinstance rfl m_str PyProof.Rows.boot_str rfl m_bool PyProof.Rows.boot_bool))))) (qm (qv (Q0 (ZY (zt hr.units) qQ (qb 0) (qb 1) (qE _)) (Q0 (ZY (zt hr.units) qQ (JP (qb 0) rfl m_isinstance rfl m_bool PyProof.Rows.boot_bool) (JP (qb 1) rfl m_isinstance rfl m_bool PyProof.Rows.boot_bool) (qE _)) (VI (ZY (zt hr.units) qQ (ZY KT XJ (qb 0) UY (qE _)) (ZY KT XJ (qb 1) UY (qE _)) (qE _))))))) zp) (qm (qv (Q0 (JP (qb 0) rfl m_isinstance rfl m_int PyProof.Rows.boot_int) (Q0 (qdF (JP (qb 0) rfl m_isinstance rfl m_bool PyProof.Rows.boot_bool)) (VI (ZY (zt hr.units) qQ (qb 0) (qb 1) (qE _)))))))))) read
abbrev jR : Stmt := top 48
abbrev QV : List Str := ["_law_high","_law_wide","_law_banks","_law_due"]
abbrev UO : List Str := ["_law_high","_law_wide"]
theorem VD : FnScope QV UO (qh jR) := ⟨rfl,rfl,rfl,by decide +kernel,rfl,by decide +kernel,by decide +kernel⟩
def JX : TS3 := (qK (zg (o3 (iC jd (· * ·)) (v3 0) (v3 1)) (gn3 2)) (qK (zg (o3 zY (o3 zY (UF (qc (v3 2) qj)) (o3 qfX (UF (qc (v3 1) qj)) (o3 (iI (· - ·)) (v3 0) (c3 (.int 1))))) (o3 qfX (UF (qc (c3 (.int 0)) qj)) (o3 (iI (· - ·)) (v3 2) (v3 0)))) (gn3 3)) (qZ (zJ (qc (zJ (qc (c3 (.str "skew")) (qc (v3 0) (qc (v3 1) (qc (v3 2) (qc (v3 1) (qc (c3 (.int 1)) qj))))))) (qc (v3 3) qj))))))
theorem KM (F : Fun K "_law_fold" "_law_fold" jR f fd) (bd : qW K fd UO []) (hm : mg "_law_fold" = some (.ref f))  
  (read : Rd sp 2 (JX) QV) : Fn3 P w K mg base (k + 1) "_law_fold" sp :=
 qy (t3 := (JX)) F VD bd hm (fun cdv A outer s H E hr => (qi (zf 2 VD.nd (zo (qb 0) (qb 1))) (qi (zf 3 VD.nd (qD (qD (QK (qa (qb 2) qe)) (qdu (QK (qa (qb 1) qe)) (DB (qb 0) qd))) (qdu (QK (qa qd qe)) (DB (qb 2) (qb 0))))) (qm (qv (qH (qa (qH (qa zN (qa (qb 0) (qa (qb 1) (qa (qb 2) (qa (qb 1) (qa qd qe))))))) (qa (qb 3) qe)))))))) read
abbrev JQ : Stmt := top 49
abbrev qa4 : List Str := ["_law_script","_law_k","_law_left_here","_law_dealing","_law_banks","_law_one","_law_other","_law_turn","_law_down","_law_along","_law_step","_law_high","_law_wide","_law_due","_law_n","_law_square"]
abbrev qkW : List Str := ["_law_script"]
theorem zX : FnScope qa4 qkW (qh JQ) := ⟨rfl,rfl,rfl,by decide +kernel,rfl,by decide +kernel,by decide +kernel⟩
def qfB (S_law_left : Sp3) (S_law_plain : Sp3) (S_law_steps : Sp3) (S_longest : Sp3) (S_law_gcd : Sp3) (S_law_same : Sp3) (S_law_pick : Sp3) (S_law_fold : Sp3) (S_blocks : Sp3) (S_clash : Sp3) (S_free_steps : Sp3) : TS3 := (qK (LN (j0 (qc (o3 zY (c3 (.int 1)) (cb3 qgc (qc (c3 (.int 30)) (qc (cb3 DS (qc (v3 0) qj)) qj)))) qj)) (gn3 1) (qK (zg (cb3 S_law_left (qc (v3 0) (qc (v3 1) qj))) (gn3 2)) (qK (zg (cb3 S_law_plain (qc (v3 2) qj)) (gn3 3)) (qK (zg (zJ (qc (o3 ix3 (v3 3) (c3 (.int 3))) (qc (o3 ix3 (v3 3) (c3 (.int 2))) (qc (c3 (.int 1)) qj)))) (zu 3 (qo (gn3 4) (qo (gn3 5) (qo (gn3 6) zx))))) (qK (Q5 (tb3 (o3 (Q6 false) (o3 ix3 (v3 3) (c3 (.int 0))) (c3 (.str "skew")))) (S0 5 6 (qc (o3 ix3 (v3 3) (c3 (.int 4))) (qc (o3 ix3 (v3 3) (c3 (.int 5))) qj))) ze) (qK (LN (j0 (qc (c3 (.int 4)) qj)) (gn3 7) (qK (zg (cb3 S_law_steps (qc (v3 2) qj)) (zu 2 (qo (gn3 8) (qo (gn3 9) zx)))) (qK (zg (cb3 qbI (qc (o3 zY (o3 (iC jd (· * ·)) (v3 5) (v3 8)) (o3 (iC jd (· * ·)) (v3 6) (v3 9))) qj)) (gn3 10)) (Q5 (MM (tb3 (cb3 S_law_same (qc (cb3 S_longest (qc (v3 3) (qc (v3 8) (qc (v3 9) qj)))) (qc (o3 (iC qas (· / ·)) (v3 4) (cb3 S_law_gcd (qc (v3 4) (qc (v3 10) qj)))) qj))))) (qZ (c3 (.bl false))) ze)))) (qK (zg (o3 ix3 (UF (qc (zJ (qc (c3 (.int 2)) (qc (c3 (.int 16)) qj))) (qc (zJ (qc (c3 (.int 4)) (qc (c3 (.int 8)) qj))) (qc (zJ (qc (c3 (.int 5)) (qc (c3 (.int 6)) qj))) (qc (zJ (qc (c3 (.int 3)) (qc (c3 (.int 10)) qj))) (qc (zJ (qc (c3 (.int 2)) (qc (c3 (.int 2)) qj))) (qc (zJ (qc (c3 (.int 7)) (qc (c3 (.int 4)) qj))) qj))))))) (cb3 S_law_pick (qc (v3 2) (qc (c3 (.int 6)) qj)))) (zu 2 (qo (gn3 11) (qo (gn3 12) zx)))) (qK (S0 11 12 (qc (o3 zY (c3 (.int 1)) (cb3 S_law_pick (qc (v3 2) (qc (v3 11) qj)))) (qc (o3 zY (c3 (.int 1)) (cb3 S_law_pick (qc (v3 2) (qc (v3 12) qj)))) qj))) (qK (zg (cb3 S_law_fold (qc (v3 11) (qc (v3 12) qj))) (zu 2 (qo (gn3 3) (qo (gn3 13) zx)))) (qK (Q5 (MM (tb3 (cb3 S_law_same (qc (cb3 S_blocks (qc (v3 3) qj)) (qc (v3 13) qj))))) (qZ (c3 (.bl false))) ze) (qK (zg (o3 ix3 (UF (qc (c3 (.int 5)) (qc (c3 (.int 7)) (qc (c3 (.int 11)) (qc (c3 (.int 13)) qj))))) (cb3 S_law_pick (qc (v3 2) (qc (c3 (.int 4)) qj)))) (gn3 14)) (qK (zg (zJ (qc (c3 (.str "skew")) (qc (v3 14) (qc (v3 14) (qc (v3 14) (qc (c3 (.int 2)) (qc (c3 (.int 1)) qj))))))) (gn3 15)) (qK (zg (UF (qc (zJ (qc (c3 (.int 0)) (qc (c3 (.int 1)) qj))) (qc (zJ (qc (c3 (.int 1)) (qc (u3 NA (c3 (.int 1))) qj))) (qc (zJ (qc (c3 (.int 1)) (qc (c3 (.int 0)) qj))) (qc (zJ (qc (c3 (.int 1)) (qc (c3 (.int 1)) qj))) qj))))) (gn3 13)) (Q5 (or3 (MM (tb3 (cb3 S_law_same (qc (cb3 S_free_steps (qc (v3 15) (qc (v3 14) qj))) (qc (v3 13) qj))))) (tb3 (o3 (MR true) (cb3 S_clash (qc (v3 15) (qc (zJ (qc (c3 (.str "back")) (qc (v3 14) qj))) qj))) (c3 .non)))) (qZ (c3 (.bl false))) ze)))))))))))))) (qZ (c3 (.bl true))))
theorem qiP {S_law_left : Sp3} {S_law_plain : Sp3} {S_law_steps : Sp3} {S_longest : Sp3} {S_law_gcd : Sp3} {S_law_same : Sp3} {S_law_pick : Sp3} {S_law_fold : Sp3} {S_blocks : Sp3} {S_clash : Sp3} {S_free_steps : Sp3} (F : Fun K "law" "law" JQ f fd) (F_law_left : Fn3 P w K mg base k "_law_left" S_law_left) (F_law_plain : Fn3 P w K mg base k "_law_plain" S_law_plain) (F_law_steps : Fn3 P w K mg base k "_law_steps" S_law_steps) (jq : Fn3 P w K mg base k "longest" S_longest) (F_law_gcd : Fn3 P w K mg base k "_law_gcd" S_law_gcd) (F_law_same : Fn3 P w K mg base k "_law_same" S_law_same) (F_law_pick : Fn3 P w K mg base k "_law_pick" S_law_pick) (zF : Fn3 P w K mg base k "_law_fold" S_law_fold) (j2 : Fn3 P w K mg base k "blocks" S_blocks) (QI : Fn3 P w K mg base k "clash" S_clash) (zi : Fn3 P w K mg base k "free_steps" S_free_steps) (m_len : mg "len" = none) (m_min : mg "min" = none) (m_range : mg "range" = none) (m_abs : mg "abs" = none)
  (read : Rd sp 1 (qfB S_law_left S_law_plain S_law_steps S_longest S_law_gcd S_law_same S_law_pick S_law_fold S_blocks S_clash S_free_steps) qa4) : FnOk P w K mg base CX0 (k + 1) f fd qkW (lSp K sp) :=
 qcs (t3 := (qfB S_law_left S_law_plain S_law_steps S_longest S_law_gcd S_law_same S_law_pick S_law_fold S_blocks S_clash S_free_steps)) F zX (fun cdv A outer s H E hr => (qi (WS PassesOwn.never rfl (jt rfl m_range (qa (qD qd (qJ (NL rfl) qgm rfl m_min PyProof.Rows.boot_min (qa qd (qa (qJ zL jJ rfl m_len PySem.boot_len (qa (qb 0) qe)) qe)))) qe) (h1 := by intro _ _ _ h;simpa [qc,qj] using h)) (qw (i := 1) (zX.nd)) (qi (zf 2 zX.nd (qg F_law_left hr rfl (qa (qb 0) (qa (qb 1) qe)))) (qi (zf 3 zX.nd (qg F_law_plain hr rfl (qa (qb 2) qe))) (qi (qgE (i := 4) (j := 5) (k := 6) rfl zX.nd rfl rfl rfl (by decide) (by decide) (by decide) rfl rfl rfl (qa (qx (qb 3) qd) (qa (qx (qb 3) qd) (qa qd qe)))) (qi (jA (za (zt hr.units) qQ (qx (qb 3) qd) zN (qE _)) (qm (RQ (i := 5) (j := 6) rfl zX.nd rfl rfl (by decide) rfl rfl (qa (qx (qb 3) qd) (qa (qx (qb 3) qd) qe)))) zp) (qi (WS PassesOwn.never rfl (jt rfl m_range (qa qd qe) (h1 := by intro _ _ _ h;simpa [qc,qj] using h)) (qw (i := 7) (zX.nd)) (qi (jy (qg F_law_steps hr rfl (qa (qb 2) qe)) (zP rfl (qu (qw (i := 8) (zX.nd)) (qu (qw (i := 9) (zX.nd)) zT)))) (qi (zf 10 zX.nd (qJ XX TU rfl m_abs PyProof.Rows.boot_abs (qa (qD (zo (qb 5) (qb 8)) (zo (qb 6) (qb 9))) qe))) (qm (jA (RC (V4 (qg F_law_same hr rfl (qa (qg jq hr rfl (qa (qb 3) (qa (qb 8) (qa (qb 9) qe)))) (qa (K0 (qb 4) (qg F_law_gcd hr rfl (qa (qb 4) (qa (qb 10) qe)))) qe))))) (qm (qv MX)) zp))))) (qi (jy (qx (QK (qa (qH (qa qd (qa qd qe))) (qa (qH (qa qd (qa qd qe))) (qa (qH (qa qd (qa qd qe))) (qa (qH (qa qd (qa qd qe))) (qa (qH (qa qd (qa qd qe))) (qa (qH (qa qd (qa qd qe))) qe))))))) (qg F_law_pick hr rfl (qa (qb 2) (qa qd qe)))) (zP rfl (qu (qw (i := 11) (zX.nd)) (qu (qw (i := 12) (zX.nd)) zT)))) (qi (RQ (i := 11) (j := 12) rfl zX.nd rfl rfl (by decide) rfl rfl (qa (qD qd (qg F_law_pick hr rfl (qa (qb 2) (qa (qb 11) qe)))) (qa (qD qd (qg F_law_pick hr rfl (qa (qb 2) (qa (qb 12) qe)))) qe))) (qi (jy (qg zF hr rfl (qa (qb 11) (qa (qb 12) qe))) (zP rfl (qu (qw (i := 3) (zX.nd)) (qu (qw (i := 13) (zX.nd)) zT)))) (qi (jA (RC (V4 (qg F_law_same hr rfl (qa (qg j2 hr rfl (qa (qb 3) qe)) (qa (qb 13) qe))))) (qm (qv MX)) zp) (qi (zf 14 zX.nd (qx (QK (qa qd (qa qd (qa qd (qa qd qe))))) (qg F_law_pick hr rfl (qa (qb 2) (qa qd qe))))) (qi (zf 15 zX.nd (qH (qa zN (qa (qb 14) (qa (qb 14) (qa (qb 14) (qa qd (qa qd qe)))))))) (qi (zf 13 zX.nd (QK (qa (qH (qa qd (qa qd qe))) (qa (qH (qa qd (qa (SR qd) qe))) (qa (qH (qa qd (qa qd qe))) (qa (qH (qa qd (qa qd qe))) qe)))))) (qm (jA (jpt (qcI (RC (V4 (qg F_law_same hr rfl (qa (qg zi hr rfl (qa (qb 15) (qa (qb 14) qe))) (qa (qb 13) qe))))) (LP (za qaH LC (qg QI hr rfl (qa (qb 15) (qa (qH (qa zN (qa (qb 14) qe))) qe))) UY (qE _))))) (qm (qv MX)) zp))))))))))))))) (qm (qv MX)))) read
end K26
namespace K26
open PySem L2 L3 Pu
def ZP : PuS (Bk.ZI) := (ZX (WC (qlP (fun t => ZJ t "int") (bV 0)) (qhn (qlP (fun t => ZJ t "bool") (bV 0)))))
def qY : List PyData → Option PyData := Pu.run ZP.f 1 1 1000000000 false
theorem RI : Rd (PSp qY false) 1 (Bk.ZI) Q9 := qL ZP Q9 1 1000000000 false
theorem RT {x0 : PyData} : qY [x0] = JR false (ZP.f 1000000000 [.sh x0]) := id rfl
def VV : PuS (Bk.VS (PSp qY false)) := (ZX (WC (qlP (fun t => ZJ t "tuple") (bV 0)) (WC (bO (XB false) (qB qeX (qf (bV 0) qA)) (qz 2)) (WC (qB (qV qY false) (qf (bO zw (bV 0) (qz 0)) qA)) (qB (qV qY false) (qf (bO zw (bV 0) (qz 1)) qA))))))
def zc : List PyData → Option PyData := Pu.run VV.f 1 1 1000000000 false
theorem MF : Rd (PSp zc false) 1 (Bk.VS (PSp qY false)) QY := qL VV QY 1 1000000000 false
theorem L0 {x0 : PyData} : zc [x0] = JR false (VV.f 1000000000 [.sh x0]) := id rfl
def ZN : PuS (Bk.ZV (PSp (Pv.qp 1) false)) := (Z0 (D7 (qB (qV (Pv.qp 1) false) (qf (bV 0) qA)) (D8 3 (qR (gN 2) (qR (gN 3) (qR (gN 4) WJ)))) [true] ⟨rfl⟩) (ZX (bO Z5 (bO (opC jd (· * ·)) (bO zw (bV 1) (qz 0)) (bV 3)) (bO zw (bV 1) (qz 1)))))
def qX : List PyData → Option PyData := Pu.run ZN.f 2 5 1000000000 false
theorem RU : Rd (PSp qX false) 2 (Bk.ZV (PSp (Pv.qp 1) false)) jT := qL ZN jT 2 1000000000 false
theorem SN {x0 x1 : PyData} : qX [x0,x1] = JR false (ZN.f 1000000000 [.sh x0,.sh x1,.un,.un,.un]) := id rfl
def VZ : PuS (Bk.V7 (PSp zc false) (PSp (Pv.qp 1) false)) := (Z0 (sIf (qgU (bTb (qB (qV zc false) (qf (bV 1) qA)))) (ZX (bBl false)) YH) (Z0 (D7 (qB (qV (Pv.qp 1) false) (qf (bV 0) qA)) (D8 3 (qR (gN 2) (qR (gN 3) (qR (gN 4) WJ)))) [true] ⟨rfl⟩) (ZX (WC (bCh (opB fun i j => decide (i ≤ j)) (opB fun i j => decide (i < j)) (qz 0) (bO zw (bV 1) (qz 0)) (bV 2)) (bCh (opB fun i j => decide (i ≤ j)) (opB fun i j => decide (i < j)) (qz 0) (bO zw (bV 1) (qz 1)) (bV 3))))))
def jm : List PyData → Option PyData := Pu.run VZ.f 2 5 1000000000 false
theorem MU : Rd (PSp jm false) 2 (Bk.V7 (PSp zc false) (PSp (Pv.qp 1) false)) JF := qL VZ JF 2 1000000000 false
theorem MA {x0 x1 : PyData} : jm [x0,x1] = JR false (VZ.f 1000000000 [.sh x0,.sh x1,.un,.un,.un]) := id rfl
def JS : PuS (Bk.VM (PSp qX false) (PSp (fun _ => none) false) (PSp (fun _ => none) false)) := (Z0 (NH (bO zw (bV 0) (qz 0)) 2 [true] ⟨rfl⟩) (Z0 (sIf (bTb (bO (XB false) (bV 2) (XD "skew"))) (ZX (bO (opC (fun _ j => 0 < j) (· % ·)) (bO Z5 (bO (opC jd (· * ·)) (bO zw (bV 0) (qz 4)) (bO zw (bV 1) (qz 0))) (bO (opC jd (· * ·)) (bO zw (bV 0) (qz 5)) (bO zw (bV 1) (qz 1)))) (bO zw (bV 0) (qz 3)))) YH) (Z0 (sIf (bTb (bO (XB false) (bV 2) (XD "rests"))) (ZX (bO (opC (fun _ j => 0 < j) (· % ·)) (qB (qV qX false) (qf (bV 0) (qf (bV 1) qA))) (bO zw (bV 0) (qz 3)))) YH) (Z0 (sIf (bTb (bO (XB false) (bV 2) (XD "bits"))) (ZX (qB (qV (fun _ => none) false) (qf (bO zw (bV 0) (qz 3)) (qf (qB (qV qX false) (qf (bV 0) (qf (bV 1) qA))) qA)))) YH) (Z0 (sIf (bTb (bO (XB false) (bV 2) (XD "table"))) (ZX (bO zw (bO zw (bO zw (bV 0) (qz 2)) (bO zw (bV 1) (qz 0))) (bO zw (bV 1) (qz 1)))) YH) (ZX (qB (qV (fun _ => none) false) (qf (bO zw (bV 0) (qz 1)) (qf (bO zw (bV 0) (qz 2)) (qf (bV 1) qA))))))))))
def ji : List PyData → Option PyData := Pu.run JS.f 2 3 1000000000 false
theorem MD : Rd (PSp ji false) 2 (Bk.VM (PSp qX false) (PSp (fun _ => none) false) (PSp (fun _ => none) false)) JA := qL JS JA 2 1000000000 false
theorem M0 {x0 x1 : PyData} : ji [x0,x1] = JR false (JS.f 1000000000 [.sh x0,.sh x1,.un]) := id rfl
def VR : PuS (Bk.VO (PSp Pv.qr true)) := (ZX (bLc (qcb (qB (qV Pv.qr true) (qf (bV 0) qA))) (D8 2 (qR (gN 0) (qR (gN 1) WJ))) bTt (YG (qf (bO Z5 (bO zw (bV 2) (qz 0)) (bV 0)) (qf (bO Z5 (bO zw (bV 2) (qz 1)) (bV 1)) qA)) ⟨rfl⟩) [none,none,some 1] ⟨rfl⟩))
def zd : List PyData → Option PyData := Pu.run VR.f 2 2 1000000000 true
theorem MV : Rd (PSp zd true) 2 (Bk.VO (PSp Pv.qr true)) V1 := qL VR V1 2 1000000000 true
theorem M1 {x0 x1 : PyData} : zd [x0,x1] = JR true (VR.f 1000000000 [.sh x0,.sh x1]) := id rfl
def J2 : PuS (Bk.J4 (PSp zd true) (PSp jm false) (PSp zc false)) := (ZX (WC (qB (qV zc false) (qf (bV 2) qA)) (qB qoq (qf (bLc (qcb (qB (qV zd true) (qf (bV 1) (qf (bV 2) qA)))) (gN 0) bTt (qB (qV jm false) (qf (bV 1) (qf (bV 0) qA))) [none,some 0] ⟨rfl⟩) qA))))
def zG : List PyData → Option PyData := Pu.run J2.f 3 3 1000000000 false
theorem TZ : Rd (PSp zG false) 3 (Bk.J4 (PSp zd true) (PSp jm false) (PSp zc false)) J0 := qL J2 J0 3 1000000000 false
theorem KA {x0 x1 x2 : PyData} : zG [x0,x1,x2] = JR false (J2.f 1000000000 [.sh x0,.sh x1,.sh x2]) := id rfl
def JV : PuS (Bk.J5 (PSp zG false) (PSp zd true)) := (Z0 (sIf (qgU (bTb (qB (qV zG false) (qf (bV 0) (qf (bV 1) (qf (bV 2) qA)))))) qoP YH) (ZX (qB (qV zd true) (qf (bV 1) (qf (bV 2) qA)))))
def zD : List PyData → Option PyData := Pu.run JV.f 3 3 1000000000 true
theorem TM : Rd (PSp zD true) 3 (Bk.J5 (PSp zG false) (PSp zd true)) YA := qL JV YA 3 1000000000 true
theorem TN {x0 x1 x2 : PyData} : zD [x0,x1,x2] = JR true (JV.f 1000000000 [.sh x0,.sh x1,.sh x2]) := id rfl
def QE : PuS (Bk.j7 (PSp zD true) (PSp ji false)) := (ZX (bLc (qcb (qB (qV zD true) (qf (bV 0) (qf (bV 1) (qf (bV 2) qA))))) (gN 0) bTt (qB (qV ji false) (qf (bV 1) (qf (bV 0) qA))) [none,some 0] ⟨rfl⟩))
def qP : List PyData → Option PyData := Pu.run QE.f 3 3 1000000000 true
theorem CA : Rd (PSp qP true) 3 (Bk.j7 (PSp zD true) (PSp ji false)) jn := qL QE jn 3 1000000000 true
theorem CK {x0 x1 x2 : PyData} : qP [x0,x1,x2] = JR true (QE.f 1000000000 [.sh x0,.sh x1,.sh x2]) := id rfl
def X6 : PuS (Bk.CT (PSp (Pv.qU 1) true) (PSp qP true) (PSp Pv.ql false)) := (Z0 (ql8 (qcb (qB (qV (Pv.qU 1) true) (qf (bV 0) (qf (bV 1) qA)))) (gN 2) (Z0 (NH (qB (qV Pv.ql false) (qf (qB (qV qP true) (qf (bV 0) (qf (bV 1) (qf (bV 2) qA)))) qA)) 3 [true,true,true] ⟨rfl⟩) (sIf (bTb (bO (qa5 true) (bV 3) qgD)) (ZX (YG (qf (bV 2) (qf (bO zw (bV 3) (qz 0)) (qf (bO zw (bV 3) (qz 1)) qA))) ⟨rfl⟩)) YH)) [true,true] ⟨rfl⟩) (ZX qgD))
def QI : List PyData → Option PyData := Pu.run X6.f 2 4 1000000000 false
theorem qcL : Rd (PSp QI false) 2 (Bk.CT (PSp (Pv.qU 1) true) (PSp qP true) (PSp Pv.ql false)) EH := qL X6 EH 2 1000000000 false
theorem qch {x0 x1 : PyData} : QI [x0,x1] = JR false (X6.f 1000000000 [.sh x0,.sh x1,.un,.un]) := id rfl
def YD : PwS 0 (Bk.J7 Bk.jk Bk.qG) := (DZ (MQ (eDr qen (aOf qA)) (D8 2 (qR (gN 1) (qR (gN 2) WJ))) [] ⟨rfl⟩ ⟨rfl⟩) (DZ (qcp (eO Z5 (eOf (qz 1)) (eDr V0 (U2 (eO zw (eOf (qbz (qf (qz 8) (qf (qz 8) (qf (qz 17) (qf (qz 32) qA)))) ⟨rfl⟩)) (eDr V0 (aOf (qf (qz 4) qA)))) (aOf qA)))) 3 [] ⟨rfl⟩ ⟨rfl⟩) (DZ (qcp (eO zw (eOf (qbz (qf (bV 3) (qf (qz 10) (qf (qz 100) qA))) ⟨rfl⟩)) (eDr V0 (aOf (qf (qz 3) qA)))) 4 [false,false,false,true] ⟨rfl⟩ ⟨rfl⟩) (qgA (qnm (U2 (eOf (XD "skew")) (U2 (eOf (bV 1)) (U2 (eOf (bV 2)) (U2 (eOf (bV 3)) (U2 (eDr V0 (aOf (qf (bV 4) qA))) (U2 (eDr V0 (aOf (qf (bV 4) qA))) (aOf qA))))))) ⟨rfl⟩)))))
def jF : Wm := qma YD 1 5 false
theorem KL : Rd (DSp jF.W false) 1 (Bk.J7 Bk.jk Bk.qG) QQ := T3 YD QQ 1 false
theorem T0 {n : Nat} {Q : QD} : jF.W [] n Q = (0 + 1 = 1∧YD.w [.un,.un,.un,.un,.un] n (qh9 false Q)) := id rfl
def ZR : PwS 0 (K26.ZC Bk.qG Bk.QC (DSp jF.W false)) := (qgA (eIf (cTb (eO (XB false) (eDr V0 (aOf (qf (qz 3) qA))) (eOf (qz 0)))) (eDr qcP (aOf qA)) (eDr (dSp jF false) (aOf qA))))
def jc : Wm := qma ZR 1 1 false
theorem SI : Rd (DSp jc.W false) 1 (K26.ZC Bk.qG Bk.QC (DSp jF.W false)) jN := T3 ZR jN 1 false
theorem RH {n : Nat} {Q : QD} : jc.W [] n Q = (0 + 1 = 1∧ZR.w [.un] n (qh9 false Q)) := id rfl
def ZT : PwS 0 (K26.ZG Bk.qG) := (DZ (qcp (eO zw (eOf (qbz (qf (qz 3) (qf (qz 3) (qf (qz 15) qA))) ⟨rfl⟩)) (eDr V0 (aOf (qf (qz 3) qA)))) 1 [] ⟨rfl⟩ ⟨rfl⟩) (DZ (qmc (U2 (eO (opI (· - ·)) (eDr V0 (aOf (qf (bO Z5 (bO (opC jd (· * ·)) (qz 2) (bV 1)) (qz 1)) qA))) (eOf (bV 1))) (U2 (eO (opI (· - ·)) (eDr V0 (aOf (qf (bO Z5 (bO (opC jd (· * ·)) (qz 2) (bV 1)) (qz 1)) qA))) (eOf (bV 1))) (aOf qA))) 2 3 [false,true] ⟨rfl⟩ ⟨rfl⟩) (qgA (eOf (YG (qf (bV 2) (qf (bO Z5 (bV 3) (qB qoi (qf (WC (bO (XB false) (bV 2) (qz 0)) (bO (XB false) (bV 3) (qz 0))) qA))) qA)) ⟨rfl⟩)))))
def jb : Wm := qma ZT 1 4 false
theorem SQ : Rd (DSp jb.W false) 1 (K26.ZG Bk.qG) jS := T3 ZT jS 1 false
theorem RV {n : Nat} {Q : QD} : jb.W [] n Q = (0 + 1 = 1∧ZT.w [.un,.un,.un,.un] n (qh9 false Q)) := id rfl
def J1 : PuS (K26.JX) := (Z0 (NH (bO (opC jd (· * ·)) (bV 0) (bV 1)) 2 [true,true] ⟨rfl⟩) (Z0 (NH (bO LH (bO LH (qbz (qf (bV 2) qA) ⟨rfl⟩) (bO qcn (qbz (qf (bV 1) qA) ⟨rfl⟩) (bO (opI (· - ·)) (bV 0) (qz 1)))) (bO qcn (qbz (qf (qz 0) qA) ⟨rfl⟩) (bO (opI (· - ·)) (bV 2) (bV 0)))) 3 [true,true,true] ⟨rfl⟩) (ZX (YG (qf (YG (qf (XD "skew") (qf (bV 0) (qf (bV 1) (qf (bV 2) (qf (bV 1) (qf (qz 1) qA)))))) ⟨rfl⟩) (qf (bV 3) qA)) ⟨rfl⟩))))
def zF : List PyData → Option PyData := Pu.run J1.f 2 4 1000000000 false
theorem TC : Rd (PSp zF false) 2 (K26.JX) QV := qL J1 QV 2 1000000000 false
theorem S8 {x0 x1 : PyData} : zF [x0,x1] = JR false (J1.f 1000000000 [.sh x0,.sh x1,.un,.un]) := id rfl
def qns (S_law_plain : Sp3) (S_law_steps : Sp3) (S_longest : Sp3) (S_law_gcd : Sp3) (S_law_same : Sp3) (S_law_pick : Sp3) (S_law_fold : Sp3) (S_blocks : Sp3) (S_clash : Sp3) (S_free_steps : Sp3) : TS3 := (qK (zg (cb3 S_law_plain (qc (v3 2) qj)) (gn3 3)) (qK (zg (zJ (qc (o3 ix3 (v3 3) (c3 (.int 3))) (qc (o3 ix3 (v3 3) (c3 (.int 2))) (qc (c3 (.int 1)) qj)))) (zu 3 (qo (gn3 4) (qo (gn3 5) (qo (gn3 6) zx))))) (qK (Q5 (tb3 (o3 (Q6 false) (o3 ix3 (v3 3) (c3 (.int 0))) (c3 (.str "skew")))) (S0 5 6 (qc (o3 ix3 (v3 3) (c3 (.int 4))) (qc (o3 ix3 (v3 3) (c3 (.int 5))) qj))) ze) (qK (LN (j0 (qc (c3 (.int 4)) qj)) (gn3 7) (qK (zg (cb3 S_law_steps (qc (v3 2) qj)) (zu 2 (qo (gn3 8) (qo (gn3 9) zx)))) (qK (zg (cb3 qbI (qc (o3 zY (o3 (iC jd (· * ·)) (v3 5) (v3 8)) (o3 (iC jd (· * ·)) (v3 6) (v3 9))) qj)) (gn3 10)) (Q5 (MM (tb3 (cb3 S_law_same (qc (cb3 S_longest (qc (v3 3) (qc (v3 8) (qc (v3 9) qj)))) (qc (o3 (iC qas (· / ·)) (v3 4) (cb3 S_law_gcd (qc (v3 4) (qc (v3 10) qj)))) qj))))) (qZ (c3 (.bl false))) ze)))) (qK (zg (o3 ix3 (UF (qc (zJ (qc (c3 (.int 2)) (qc (c3 (.int 16)) qj))) (qc (zJ (qc (c3 (.int 4)) (qc (c3 (.int 8)) qj))) (qc (zJ (qc (c3 (.int 5)) (qc (c3 (.int 6)) qj))) (qc (zJ (qc (c3 (.int 3)) (qc (c3 (.int 10)) qj))) (qc (zJ (qc (c3 (.int 2)) (qc (c3 (.int 2)) qj))) (qc (zJ (qc (c3 (.int 7)) (qc (c3 (.int 4)) qj))) qj))))))) (cb3 S_law_pick (qc (v3 2) (qc (c3 (.int 6)) qj)))) (zu 2 (qo (gn3 11) (qo (gn3 12) zx)))) (qK (S0 11 12 (qc (o3 zY (c3 (.int 1)) (cb3 S_law_pick (qc (v3 2) (qc (v3 11) qj)))) (qc (o3 zY (c3 (.int 1)) (cb3 S_law_pick (qc (v3 2) (qc (v3 12) qj)))) qj))) (qK (zg (cb3 S_law_fold (qc (v3 11) (qc (v3 12) qj))) (zu 2 (qo (gn3 3) (qo (gn3 13) zx)))) (qK (Q5 (MM (tb3 (cb3 S_law_same (qc (cb3 S_blocks (qc (v3 3) qj)) (qc (v3 13) qj))))) (qZ (c3 (.bl false))) ze) (qK (zg (o3 ix3 (UF (qc (c3 (.int 5)) (qc (c3 (.int 7)) (qc (c3 (.int 11)) (qc (c3 (.int 13)) qj))))) (cb3 S_law_pick (qc (v3 2) (qc (c3 (.int 4)) qj)))) (gn3 14)) (qK (zg (zJ (qc (c3 (.str "skew")) (qc (v3 14) (qc (v3 14) (qc (v3 14) (qc (c3 (.int 2)) (qc (c3 (.int 1)) qj))))))) (gn3 15)) (qK (zg (UF (qc (zJ (qc (c3 (.int 0)) (qc (c3 (.int 1)) qj))) (qc (zJ (qc (c3 (.int 1)) (qc (u3 NA (c3 (.int 1))) qj))) (qc (zJ (qc (c3 (.int 1)) (qc (c3 (.int 0)) qj))) (qc (zJ (qc (c3 (.int 1)) (qc (c3 (.int 1)) qj))) qj))))) (gn3 13)) (Q5 (or3 (MM (tb3 (cb3 S_law_same (qc (cb3 S_free_steps (qc (v3 15) (qc (v3 14) qj))) (qc (v3 13) qj))))) (tb3 (o3 (MR true) (cb3 S_clash (qc (v3 15) (qc (zJ (qc (c3 (.str "back")) (qc (v3 14) qj))) qj))) (c3 .non)))) (qZ (c3 (.bl false))) ze))))))))))))
def XQ := ((DZ (MQ (eDr (dSp jb false) (aOf qA)) (D8 2 (qR (gN 8) (qR (gN 9) WJ))) [] ⟨rfl⟩ ⟨rfl⟩) (DZ (qcp (eOf (qB qnE (qf (bO Z5 (bO (opC jd (· * ·)) (bV 5) (bV 8)) (bO (opC jd (· * ·)) (bV 6) (bV 9))) qA))) 10 [false,false,false,false,false,true,true,false,true,true] ⟨rfl⟩ ⟨rfl⟩) (wIf (cOf (qgU (bTb (qB (qcK 4) (qf (qB (qV Pv.jq false) (qf (bV 3) (qf (bV 8) (qf (bV 9) qA)))) (qf (bO (opC qas (· / ·)) (bV 4) (qB qnf (qf (bV 4) (qf (bV 10) qA)))) qA)))))) (qgA (eOf (bBl false))) qby))) : PwS 2 _)
def qcc : PwS 2 (qns (DSp jc.W false) (DSp jb.W false) (PSp Pv.jq false) Bk.QU (Bk.ja 5) Bk.qG (PSp zF false) (PSp Pv.j2 true) (PSp QI false) (PSp (Pv.zi 1) true)) := (DZ (qcp (eDr (dSp jc false) (aOf qA)) 3 [] ⟨rfl⟩ ⟨rfl⟩) (DZ (MQ (eOf (YG (qf (bO zw (bV 3) (qz 3)) (qf (bO zw (bV 3) (qz 2)) (qf (qz 1) qA))) ⟨rfl⟩)) (D8 3 (qR (gN 4) (qR (gN 5) (qR (gN 6) WJ)))) [false,false,false,true] ⟨rfl⟩ ⟨rfl⟩) (DZ (wIf (cOf (bTb (bO (XB false) (bO zw (bV 3) (qz 0)) (XD "skew")))) (qmc (aOf (qf (bO zw (bV 3) (qz 4)) (qf (bO zw (bV 3) (qz 5)) qA))) 5 6 [false,false,false,true] ⟨rfl⟩ ⟨rfl⟩) qby) (DZ (qou (iOf (MZ (qf (qz 4) qA))) (gN 7) XQ [] ⟨rfl⟩ ⟨rfl⟩) (DZ (MQ (eO zw (eOf (qbz (qf (YG (qf (qz 2) (qf (qz 16) qA)) ⟨rfl⟩) (qf (YG (qf (qz 4) (qf (qz 8) qA)) ⟨rfl⟩) (qf (YG (qf (qz 5) (qf (qz 6) qA)) ⟨rfl⟩) (qf (YG (qf (qz 3) (qf (qz 10) qA)) ⟨rfl⟩) (qf (YG (qf (qz 2) (qf (qz 2) qA)) ⟨rfl⟩) (qf (YG (qf (qz 7) (qf (qz 4) qA)) ⟨rfl⟩) qA)))))) ⟨rfl⟩)) (eDr V0 (aOf (qf (qz 6) qA)))) (D8 2 (qR (gN 11) (qR (gN 12) WJ))) [] ⟨rfl⟩ ⟨rfl⟩) (DZ (qmc (U2 (eO Z5 (eOf (qz 1)) (eDr V0 (aOf (qf (bV 11) qA)))) (U2 (eO Z5 (eOf (qz 1)) (eDr V0 (aOf (qf (bV 12) qA)))) (aOf qA))) 11 12 [false,false,false,false,false,false,false,false,false,false,false,true,true] ⟨rfl⟩ ⟨rfl⟩) (DZ (MQ (eOf (qB (qV zF false) (qf (bV 11) (qf (bV 12) qA)))) (D8 2 (qR (gN 3) (qR (gN 13) WJ))) [false,false,false,false,false,false,false,false,false,false,false,true,true] ⟨rfl⟩ ⟨rfl⟩) (DZ (wIf (cOf (qgU (bTb (qB (qcK 4) (qf (qB (qV Pv.j2 true) (qf (bV 3) qA)) (qf (bV 13) qA)))))) (qgA (eOf (bBl false))) qby) (DZ (qcp (eO zw (eOf (qbz (qf (qz 5) (qf (qz 7) (qf (qz 11) (qf (qz 13) qA)))) ⟨rfl⟩)) (eDr V0 (aOf (qf (qz 4) qA)))) 14 [] ⟨rfl⟩ ⟨rfl⟩) (DZ (qcp (eOf (YG (qf (XD "skew") (qf (bV 14) (qf (bV 14) (qf (bV 14) (qf (qz 2) (qf (qz 1) qA)))))) ⟨rfl⟩)) 15 [false,false,false,false,false,false,false,false,false,false,false,false,false,false,true] ⟨rfl⟩ ⟨rfl⟩) (DZ (qcp (eOf (qbz (qf (YG (qf (qz 0) (qf (qz 1) qA)) ⟨rfl⟩) (qf (YG (qf (qz 1) (qf (qlY (qz 1)) qA)) ⟨rfl⟩) (qf (YG (qf (qz 1) (qf (qz 0) qA)) ⟨rfl⟩) (qf (YG (qf (qz 1) (qf (qz 1) qA)) ⟨rfl⟩) qA)))) ⟨rfl⟩)) 13 [] ⟨rfl⟩ ⟨rfl⟩) (wIf (cOf (bOr (qgU (bTb (qB (qcK 4) (qf (qB (qV (Pv.zi 1) true) (qf (bV 15) (qf (bV 14) qA))) (qf (bV 13) qA))))) (bTb (bO (qa5 true) (qB (qV QI false) (qf (bV 15) (qf (YG (qf (XD "back") (qf (bV 14) qA)) ⟨rfl⟩) qA))) qgD)))) (qgA (eOf (bBl false))) qby))))))))))))
theorem qlq (h : ∀ k : Nat,k ≤ 60 → qcc.w [.un,.sh (.int k),.un,.un,.un,.un,.un,.un,.un,.un,.un,.un,.un,.un,.un,.un] 0 okW) : Rd WW 1 (K26.qfB Bk.ZK (DSp jc.W false) (DSp jb.W false) (PSp Pv.jq false) Bk.QU (Bk.ja 5) Bk.qG (PSp zF false) (PSp Pv.j2 true) (PSp QI false) (PSp (Pv.zi 1) true)) qa4 := qb0 qcc qa4 30 13 ⟨by decide,by decide⟩ rfl h
end K26
namespace K26
open PySem L2 L3 Pu Pv
open Bk (Wk Dl Dr zI zb)
theorem s1 : ZJ "int" "int" = true := rfl
theorem s2 : ZJ "int" "bool" = false := rfl
theorem s3 : ZJ "tuple" "tuple" = true := rfl
theorem t2 : ((1 + 1 : Nat) : Int) = 2 := rfl
theorem qm2 {i : Int} : qY [.int i] = some (.bool true) := by
 rw [RT]
 try simp only [Pu.pwA,ZP,s1,s2]
theorem qhZ {p : Int × Int} : zc [pD p] = some (.bool true) := by
 rw [L0]
 try simp only [Pu.pwA,VV,pD,s3,t2,qm2]
def inT (d : Dl) (p : Int × Int) : Prop := (0 ≤ p.1∧p.1 < d.R)∧(0 ≤ p.2∧p.2 < d.C)
theorem ql2 {d : Dl} (hp : Pl d) : d.dep < 1 := by cases d <;> simp [Pl] at hp <;> simp [Dl.dep]
theorem qmk {d : Dl} {p : Int × Int} (hp : Pl d) (ok : d.Ok) (h : inT d p) : jm [dlD d,pD p] = some (.bool true) := by
 obtain ⟨⟨h1,h2⟩,h3,h4⟩ := h
 have e := qhZ (p := p)
 rw [MA]
 simp only [pD] at e
 try simp only [Pu.pwA,VZ,pD,e,qlb d 1 (ql2 hp) ok,szD,h1,h2,h3,h4]
theorem qpe {d : Dl} {p : Int × Int} (hp : Pl d) (ok : d.Ok) (h : inT d p) : qX [dlD d,pD p] = some (.int (p.1 * d.C + p.2)) := by
 obtain ⟨⟨h1,h2⟩,h3,h4⟩ := h
 have l := Dl.lims ok
 have := l.r1;have := l.r2;have := l.c1;have := l.c2
 rw [SN]
 try simp (disch := omega) only [Pu.pwA,ZN,pD,qlb d 1 (ql2 hp) ok,szD,ZQ]
def bk (d : Dl) (p : Int × Int) : Int := (fA d * p.1 + fB d * p.2) % d.B
theorem qo3 {d : Dl} {p : Int × Int} (hp : Pl d) (ok : d.Ok) (h : inT d p) : ji [dlD d,pD p] = some (.int (bk d p)) := by
 have no := qpe hp ok h
 obtain ⟨⟨h1,h2⟩,h3,h4⟩ := h
 have l := Dl.lims ok
 have := l.r1;have := l.r2;have := l.c1;have := l.c2
 have f := M6 hp ok
 rw [M0]
 cases d with
 | skew r c b x y =>
  simp only [fA,fB,Dl.B,Dl.R,Dl.C,bk] at *
  try simp (disch := omega) only [Pu.pwA,JS,dlD,pD,eq_self,ZQ,R5]
 | rests r c b q =>
  simp only [fA,fB,Dl.B,Dl.R,Dl.C,bk] at *
  simp only [dlD,pD] at no
  try simp (disch := omega) only [Pu.pwA,JS,dlD,pD,eq_self,L3.VH,no,R5]
  rw [Int.one_mul,Int.mul_comm]
 | _ => simp [Pl] at hp
def sh (s : Int × Int) (cs : List (Int × Int)) : List (Int × Int) := cs.map fun p => (s.1 + p.1,s.2 + p.2)
theorem qon {w : Wk} {s : Int × Int} (ok : Big w) : zd [Wk.d w,pD s] = some (.list ((sh s w.pc).map pD)) := by
 have hl := EG ok
 rw [M1]
 try simp only [Pu.pwA,VR,YE ok]
 rw [UW (ds := w.pc.map pD) (fs := (sh s w.pc).map pD)]
 ·try simp only [Pu.pwA]
 ·try simp only [Pu.pwA,YE ok]
 ·rw [sh,List.map_map]
  refine QH fun p hp => ?_
  try simp only [Pu.pwA,UN,pD,Function.comp_def]
 ·simp [sh];omega
theorem qnH {d : Dl} {w : Wk} {s : Int × Int} (hp : Pl d) (okd : d.Ok) (ok : Big w) (h : ∀ q ∈ sh s w.pc,inT d q) : zG [dlD d,Wk.d w,pD s] = some (.bool true) := by
 have hl := EG ok
 rw [KA]
 try simp only [Pu.pwA,J2,qhZ]
 rw [UW (ds := (sh s w.pc).map pD) (fs := ((sh s w.pc).map fun _ => true).map PyData.bool)]
 ·try simp only [Pu.pwA,qaI]
  simp
 ·try simp only [Pu.pwA,qon ok]
 ·rw [List.map_map]
  refine QH fun q hq => ?_
  try simp only [Pu.pwA,UN,qmk hp okd (h q hq),Function.comp_def]
 ·simp [sh];omega
theorem qpq {d : Dl} {w : Wk} {s : Int × Int} (hp : Pl d) (okd : d.Ok) (ok : Big w) (h : ∀ q ∈ sh s w.pc,inT d q) : zD [dlD d,Wk.d w,pD s] = some (.list ((sh s w.pc).map pD)) := by
 rw [TN]
 try simp only [Pu.pwA,JV,qnH hp okd ok h,qon ok]
def bks (d : Dl) (s : Int × Int) (cs : List (Int × Int)) : List Int := (sh s cs).map (bk d)
theorem qpm {d : Dl} {w : Wk} {s : Int × Int} (hp : Pl d) (okd : d.Ok) (ok : Big w) (h : ∀ q ∈ sh s w.pc,inT d q) : qP [dlD d,Wk.d w,pD s] = some (.list ((bks d s w.pc).map PyData.int)) := by
 have hl := EG ok
 rw [CK]
 try simp only [Pu.pwA,QE]
 rw [UW (ds := (sh s w.pc).map pD) (fs := (bks d s w.pc).map PyData.int)]
 ·try simp only [Pu.pwA]
 ·try simp only [Pu.pwA,qpq hp okd ok h]
 ·rw [bks,List.map_map]
  refine QH fun q hq => ?_
  try simp only [Pu.pwA,UN,qo3 hp okd (h q hq),Function.comp_def]
 ·simp [bks,sh];omega
end K26
namespace K26
open PySem L2 L3 Pu Pv
open Bk (Wk Dl Dr zI zb faO Fst Un2 zC zS)
theorem RA {ns ms : List Int} (hl : ns.length = ms.length) (h : ∀ i j,i < ns.length → j < ns.length → (ns[i]? = ns[j]? ↔ ms[i]? = ms[j]?)) {i j : Nat} (F : Fst ns i j) : Fst ms i j := by
 obtain ⟨a,b,c,d,e⟩ := F
 refine ⟨a,by omega,fun x y hx hxy hy => ?_,fun y hy hyj => ?_,?_⟩
 ·rw [← hl] at hy
  exact fun z => c x y hx hxy hy ((h x y (by omega) hy).mpr z)
 ·exact fun z => d y hy hyj ((h i y (by omega) (by omega)).mpr z)
 ·exact (h i j (by omega) b).mp e
theorem NN {ns ms : List Int} (hl : ns.length = ms.length) (h : ∀ i j,i < ns.length → j < ns.length → (ns[i]? = ns[j]? ↔ ms[i]? = ms[j]?)) : faO ns = faO ms := by
 by_cases c : ∃ ij : Nat × Nat,Fst ns ij.1 ij.2
 ·obtain ⟨⟨i,j⟩,F⟩ := c
  rw [zC F,zC (RA hl h F)]
 ·have c' : ¬ ∃ ij : Nat × Nat,Fst ms ij.1 ij.2 := fun ⟨ij,F⟩ => c ⟨ij,RA hl.symm (fun i j hi hj => (h i j (by omega) (by omega)).symm) F⟩
  unfold Bk.faO
  rw [dif_neg c,dif_neg c']
theorem SW {B c x y : Int} (hB : 0 < B) : ((c + x) % B = (c + y) % B) ↔ (x % B = y % B) := by
 constructor
 ·intro h
  have := Int.emod_eq_emod_iff_emod_sub_eq_zero.mp h
  rw [show c + x - (c + y) = x - y by omega] at this
  exact Int.emod_eq_emod_iff_emod_sub_eq_zero.mpr this
 ·intro h
  rw [Int.add_emod,h,← Int.add_emod]
theorem qiO {d : Dl} {s : Int × Int} {cs : List (Int × Int)} (hB : 0 < d.B) : faO (bks d s cs) = faO (rst d.B (fA d) (fB d) cs) := by
 have g : ∀ i (hi : i < cs.length),(bks d s cs)[i]? = some ((fA d * s.1 + fB d * s.2 + (fA d * cs[i].1 + fB d * cs[i].2)) % d.B)∧(rst d.B (fA d) (fB d) cs)[i]? = some ((fA d * cs[i].1 + fB d * cs[i].2) % d.B) := fun i hi => by
  constructor
  ·rw [bks,sh,List.map_map,List.getElem?_map,List.getElem?_eq_getElem hi,Option.map_some]
   simp only [bk,Function.comp_def]
   congr 2
   rw [Int.mul_add,Int.mul_add];omega
  ·rw [rst,List.getElem?_map,List.getElem?_eq_getElem hi,Option.map_some]
 refine NN (by simp [bks,sh,rst]) fun i j hi hj => ?_
 have hi' : i < cs.length := by simpa [bks,sh] using hi
 have hj' : j < cs.length := by simpa [bks,sh] using hj
 rw [(g i hi').1,(g j hj').1,(g i hi').2,(g j hj').2,Option.some.injEq,Option.some.injEq]
 exact SW hB
theorem qnz {R C : Int} {cs : List (Int × Int)} {s : Int × Int} (h : s ∈ stI R C cs) {p : Int × Int} (hp : p ∈ cs) : (0 ≤ s.1 + p.1∧s.1 + p.1 < R)∧(0 ≤ s.2 + p.2∧s.2 + p.2 < C) := by
 obtain ⟨i,hi,h⟩ := List.mem_flatMap.mp h
 obtain ⟨j,hj,rfl⟩ := List.mem_map.mp h
 have a := LO hi
 have b := LO hj
 have m1 := ML (show p.1 ∈ dn cs from List.mem_map.mpr ⟨p,hp,rfl⟩)
 have m2 := qcr (show p.1 ∈ dn cs from List.mem_map.mpr ⟨p,hp,rfl⟩)
 have m3 := ML (show p.2 ∈ al cs from List.mem_map.mpr ⟨p,hp,rfl⟩)
 have m4 := qcr (show p.2 ∈ al cs from List.mem_map.mpr ⟨p,hp,rfl⟩)
 simp only
 omega
theorem qmj {d : Dl} {cs : List (Int × Int)} {s : Int × Int} (h : s ∈ stI d.R d.C cs) : ∀ q ∈ sh s cs,inT d q := fun q hq => by
 obtain ⟨p,hp,rfl⟩ := List.mem_map.mp hq
 exact qnz h hp
theorem qnW {d : Dl} {w : Wk} {s : Int × Int} (hp : Pl d) (okd : d.Ok) (ok : Big w) (h : s ∈ stI d.R d.C w.pc) : (qP [dlD d,Wk.d w,pD s]).bind (fun x => ql [x]) = some (faD (rst d.B (fA d) (fB d) w.pc)) := by
 have hl := EG ok
 rw [qpm hp okd ok (qmj h),Option.bind_some,qlz (by simp [bks,sh];omega)]
 have := qiO (d := d) (s := s) (cs := w.pc) (by have := (Dl.lims okd).b1;omega)
 unfold faD
 rw [this]
def clD (d : Dl) (w : Wk) : PyData := match faO (rst d.B (fA d) (fB d) w.pc),stI d.R d.C w.pc with
 | some (i,j),s :: _ => .tuple [pD s,.int i,.int j]
 | _,_ => .none
theorem qpf {d : Dl} {w : Wk} (hp : Pl d) (okd : d.Ok) (ok : Big w) (hc : Cb w.pc) : QI [dlD d,Wk.d w] = some (clD d w) := by
 have l := Dl.lims okd
 rw [qch]
 try simp only [Pu.pwA,X6,qn2 (ql2 hp) okd ok hc]
 have tn : ∀ s ∈ stI d.R d.C w.pc,∃ bs,qP [dlD d,Wk.d w,pD s] = some bs∧ql [bs] = some (faD (rst d.B (fA d) (fB d) w.pc)) := fun s hs => Option.bind_eq_some_iff.mp (qnW hp okd ok hs)
 cases e : faO (rst d.B (fA d) (fB d) w.pc) with
 | none =>
  have ed : clD d w = .none := by unfold clD;rw [e]
  have ef : faD (rst d.B (fA d) (fB d) w.pc) = .none := by unfold faD;rw [e]
  rw [ed]
  refine qa9 (Q := fun o => JR false o = _) (stI d.R d.C w.pc) (fun _ ρ => ∃ s2 s3,ρ = [.sh (dlD d),.sh (Wk.d w),s2,s3]) ⟨_,_,rfl⟩ ?_ ?_
  ·rintro i s ρ hx ⟨s2,s3,rfl⟩
   obtain ⟨bs,e1,e2⟩ := tn s (List.mem_of_getElem? hx)
   rw [ef] at e2
   try simp only [Pu.pwA,e1,e2]
   exact ⟨_,_,rfl⟩
  ·rintro ρ ⟨s2,s3,rfl⟩
   try simp only [Pu.pwA]
 | some ij =>
  obtain ⟨i,j⟩ := ij
  have ef : faD (rst d.B (fA d) (fB d) w.pc) = .tuple [.int i,.int j] := by unfold faD;rw [e]
  cases est : stI d.R d.C w.pc with
  | nil =>
   have ed : clD d w = .none := by unfold clD;rw [e,est]
   rw [ed]
   try simp only [Pu.pwA,List.map_nil,WO]
  | cons s ss =>
   have ed : clD d w = .tuple [pD s,.int i,.int j] := by unfold clD;rw [e,est]
   rw [ed]
   obtain ⟨bs,e1,e2⟩ := tn s (by rw [est];simp)
   rw [ef] at e2
   try simp only [Pu.pwA,List.map_cons,WO,e1,e2]
end K26
namespace K26
open PySem L2 L3 Pu Pv
open Bk (Wk Dl Dr zI zb VJ lnD lnA faO Fst Un2 zC zS)
theorem CO {t : Nat} {u : Int} (h : t ≤ 16) (hu : -16 ≤ u∧u ≤ 16) : -256 ≤ (t : Int) * u∧(t : Int) * u ≤ 256 := by
 have a : (t : Int) * u ≤ (t : Int) * 16 := Int.mul_le_mul_of_nonneg_left hu.2 (Int.natCast_nonneg _)
 have b : (t : Int) * (-16) ≤ (t : Int) * u := Int.mul_le_mul_of_nonneg_left hu.1 (Int.natCast_nonneg _)
 omega
theorem qnZ {w : Wk} (ok : w.Ok) : Cb w.pc := by
 have h := Bk.qhF ok
 refine ⟨fun e => by rw [e] at h;simp at h,fun p hp => ?_⟩
 cases w with
 | cells ps => have := ok.2.2.2 p hp;omega
 | block h v =>
  obtain ⟨i,hi,hq⟩ := List.mem_flatMap.mp hp
  obtain ⟨j,hj,rfl⟩ := List.mem_map.mp hq
  have := List.mem_range.mp hi
  have := List.mem_range.mp hj
  obtain ⟨_,_,h3,h4,_⟩ := ok
  simp only;omega
 | step u v m =>
  obtain ⟨t,ht,rfl⟩ := List.mem_map.mp hp
  have := List.mem_range.mp ht
  obtain ⟨h1,h2,h3,h4⟩ := ok
  have b1 := CO (t := t) (u := u) (by omega) h1
  have b2 := CO (t := t) (u := v) (by omega) h2
  simp only;omega
 | line k m =>
  obtain ⟨t,ht,rfl⟩ := List.mem_map.mp hp
  have := List.mem_range.mp ht
  obtain ⟨h1,h2,h3⟩ := ok
  have b0 : (-16 ≤ Bk.lnD k∧Bk.lnD k ≤ 16)∧(-16 ≤ Bk.lnA k∧Bk.lnA k ≤ 16) := by
   match k,h1 with
   | 0,_ => decide
   | 1,_ => decide
   | 2,_ => decide
   | 3,_ => decide
  have b1 := CO (t := t) (u := Bk.lnD k) (by omega) b0.1
  have b2 := CO (t := t) (u := Bk.lnA k) (by omega) b0.2
  simp only;omega
theorem qhJ {cs : List (Int × Int)} (h : cs.length ≤ 1000000) : Bk.YI 4 (.list (cs.map pD)) := by
 refine ⟨by simpa using h,fun d hd => ?_⟩
 obtain ⟨p,_,rfl⟩ := List.mem_map.mp hd
 simp [pD,Bk.YI]
theorem qjg {n : Nat} {Q : QD} (hn : n < 900000) (h : ∀ r c b x y : Int,(1 ≤ r∧r ≤ 16) → (1 ≤ c∧c ≤ 16) → (1 ≤ b∧b ≤ 32) → (0 ≤ x∧x ≤ 99) → (0 ≤ y∧y ≤ 99) → Q (dlD (.skew r c b x y)) (n + 9)) : jF.W [] n Q := by
 rw [T0]
 refine ⟨rfl,?_⟩
 unfold YD
 refine VN fun Y1 h1 => ?_
 try simp only [Pu.pwA]
 refine ⟨by omega,fun r c hr hc => ?_⟩
 try simp only [Pu.pwA]
 rw [h1]
 refine VN fun Y2 h2 => ?_
 try simp only [Pu.pwA]
 refine ⟨by omega,by omega,fun d h0 h1 => ?_⟩
 refine XG (ks := [8,8,17,32]) h0 (by simpa using h1) fun k hk => ?_
 have hk2 : 8 ≤ k∧k ≤ 32 := by simp at hk;omega
 try simp only [Pu.pwA]
 refine ⟨by omega,by omega,fun b b0 b1 => ?_⟩
 try simp only [Pu.pwA]
 rw [h2]
 refine VN fun Y3 h3 => ?_
 try simp only [Pu.pwA]
 refine ⟨by omega,by omega,fun e e0 e1 => ?_⟩
 refine XG (ks := [1 + b,10,100]) e0 (by simpa using e1) fun w hw => ?_
 have hw2 : 1 ≤ w∧w ≤ 100 := by simp at hw;omega
 try simp only [Pu.pwA]
 rw [h3]
 try simp only [Pu.pwA]
 refine ⟨by omega,by omega,fun x x0 x1 => ?_⟩
 try simp only [Pu.pwA]
 refine ⟨by omega,by omega,fun y y0 y1 => ?_⟩
 try simp only [Pu.pwA]
 exact ⟨_,by omega,h r c (1 + b) x y hr hc (by omega) (by omega) (by omega)⟩
def P99 : Dl → Prop
 | .skew _ _ _ x y => x ≤ 99∧y ≤ 99
 | .rests .. => True
 | _ => False
theorem p99 {d : Dl} (h : P99 d) : Pl d := by cases d <;> simp [P99] at h <;> trivial
theorem qf5 {n : Nat} {Q : QD} (hn : n < 800000) (h : ∀ d : Dl,P99 d → Dr d 16 16 32 → Q (dlD d) (n + 11)) : jc.W [] n Q := by
 rw [RH]
 refine ⟨rfl,?_⟩
 try simp only [Pu.pwA,ZR]
 refine ⟨by omega,by omega,fun d h0 h1 => ?_⟩
 by_cases e : d = 0
 ·try simp only [Pu.pwA,e]
  exact ⟨by omega,fun r c b p D => ⟨_,by omega,h (.rests r c b p) trivial D⟩⟩
 ·try simp only [Pu.pwA,e]
  refine qjg (by omega) fun r c b x y hr hc hb hx hy => ⟨_,by omega,h (.skew r c b x y) ⟨hx.2,hy.2⟩ ⟨?_,hr.2,hc.2,hb.2⟩⟩
  simp only [Dl.Ok]
  omega
theorem qfp {n : Nat} {Q : QD} (hn : n < 900000) (h : ∀ u v : Int,(-16 ≤ u∧u ≤ 16) → (-16 ≤ v∧v ≤ 16) → Q (pD (u,v)) (n + 3)) : jb.W [] n Q := by
 rw [RV]
 refine ⟨rfl,?_⟩
 try simp only [Pu.pwA,ZT]
 refine ⟨by omega,by omega,fun d h0 h1 => ?_⟩
 refine XG (ks := [3,3,15]) h0 (by simpa using h1) fun k hk => ?_
 have hk2 : 3 ≤ k∧k ≤ 15 := by simp at hk;omega
 try simp (disch := omega) only [Pu.pwA,ZQ]
 refine ⟨by omega,by omega,fun x x0 x1 => ?_⟩
 try simp (disch := omega) only [Pu.pwA,ZQ]
 refine ⟨by omega,by omega,fun y y0 y1 => ?_⟩
 by_cases e1 : x - k = 0
 ·by_cases e2 : y - k = 0
  ·try simp only [Pu.pwA,e1,e2]
   exact ⟨_,by omega,h _ _ (by omega) (by omega)⟩
  ·try simp only [Pu.pwA,e1,e2]
   exact ⟨_,by omega,h _ _ (by omega) (by omega)⟩
 ·try simp only [Pu.pwA,e1]
  exact ⟨_,by omega,h _ _ (by omega) (by omega)⟩
end K26
namespace K26
open PySem L2 L3 Pu Pv
open Bk (Wk Dl Dr zI zb VJ lnD lnA faO Fst Un2 zC zS)
theorem qe8 {B w : Int} {n : Nat} (hB : 1 ≤ B) : (n : Int) * w % B = 0 ↔ B.toNat ∣ n * w.natAbs := by
 rw [← Int.dvd_iff_emod_eq_zero,← Int.natAbs_dvd_natAbs,Int.natAbs_mul,Int.natAbs_natCast]
 have : B.natAbs = B.toNat := by omega
 rw [this]
theorem qkT {B w : Int} (hB : 1 ≤ B) : (lo B w : Int) + 1 = B / (Int.gcd B w : Nat) := by
 have hb : 0 < B.toNat := by omega
 have eg : Int.gcd B w = Nat.gcd B.toNat w.natAbs := by unfold Int.gcd;congr 1;omega
 have gp : 0 < Nat.gcd B.toNat w.natAbs := Nat.gcd_pos_of_pos_left _ hb
 obtain ⟨c,hc⟩ := Nat.gcd_dvd_left B.toNat w.natAbs
 obtain ⟨e,he⟩ := Nat.gcd_dvd_right B.toNat w.natAbs
 generalize hg : Nat.gcd B.toNat w.natAbs = g at *
 have cp : Nat.Coprime c e := by
  have := Nat.gcd_mul_left g c e
  rw [← hc,← he,hg] at this
  exact Nat.eq_of_mul_eq_mul_left gp (by rw [Nat.mul_one];exact this.symm)
 have c1 : 1 ≤ c := by
  rcases Nat.eq_zero_or_pos c with z | z
  ·rw [z,Nat.mul_zero] at hc;omega
  ·exact z
 have key : ∀ n : Nat,(n : Int) * w % B = 0 ↔ c ∣ n := fun n => by
  rw [qe8 hB,hc,he]
  rw [show n * (g * e) = g * (n * e) by rw [Nat.mul_left_comm]]
  rw [Nat.mul_dvd_mul_iff_left gp]
  exact ⟨fun h => cp.dvd_of_dvd_mul_right h,fun h => Nat.dvd_trans h (Nat.dvd_mul_right _ _)⟩
 have el : lo B w = c - 1 := LD (P := fun n => ((n : Int) + 1) * w % B = 0) (by
   have := (key c).mpr (Nat.dvd_refl c)
   have e2 : ((c - 1 : Nat) : Int) + 1 = (c : Int) := by omega
   rw [e2];exact this) fun m hm z => by
  have e2 : (m : Int) + 1 = ((m + 1 : Nat) : Int) := by omega
  rw [e2] at z
  have := Nat.le_of_dvd (by omega) ((key (m + 1)).mp z)
  omega
 rw [el,eg]
 have eB : B = ((g * c : Nat) : Int) := by omega
 rw [eB,← Int.natCast_ediv,Nat.mul_div_cancel_left _ gp]
 omega
theorem VP (w : Nat) : ∀ (h i : Nat),i < h * w → (zb h w)[i]? = some (((i / w : Nat) : Int),((i % w : Nat) : Int))
 | 0,i,hi => by omega
 | h + 1,i,hi => by
  rw [Bk.W5]
  by_cases c : i < h * w
  ·rw [List.getElem?_append_left (by rw [Bk.zq];exact c)];exact VP w h i c
  ·obtain ⟨r,rfl⟩ := Nat.exists_eq_add_of_le (Nat.le_of_not_lt c)
   have hr : r < w := by rw [Nat.succ_mul] at hi;omega
   rw [List.getElem?_append_right (by rw [Bk.zq];omega),Bk.zq,Nat.add_sub_cancel_left,List.getElem?_map,List.getElem?_range hr]
   have e1 : (h * w + r) / w = h := by rw [Nat.mul_comm,Nat.mul_add_div (by omega),Nat.div_eq_of_lt hr];rfl
   have e2 : (h * w + r) % w = r := by rw [Nat.mul_comm,Nat.mul_add_mod,Nat.mod_eq_of_lt hr]
   rw [e1,e2];rfl
theorem qbl {H W h w : Nat} (w1 : w ≤ W) (hh : h ≤ H) : bU ((H * W : Nat) : Int) (W : Int) 1 h w := by
 unfold bU
 rw [XC]
 intro a b _ hab hb e
 rw [DE,Bk.zq] at hb
 have g : ∀ i,i < h * w → (rst ((H * W : Nat) : Int) (W : Int) 1 (zb h w))[i]? = some ((W * (i / w) + i % w : Nat) : Int) := fun i hi => by
  have wp : 0 < w := Nat.pos_of_ne_zero fun z => by rw [z] at hi;omega
  have d1 : i / w < h := Nat.div_lt_of_lt_mul (by rw [Nat.mul_comm];exact hi)
  have m1 : i % w < w := Nat.mod_lt _ wp
  have lt : W * (i / w) + i % w < H * W := by
   have : W * (i / w) + W ≤ H * W := by
    rw [← Nat.mul_succ,Nat.mul_comm]
    exact Nat.mul_le_mul_right _ (by omega)
   omega
  rw [rst,List.getElem?_map,VP w h i hi,Option.map_some]
  congr 1
  simp only [Int.one_mul]
  rw [← Int.natCast_mul,← Int.natCast_add,← Int.natCast_emod,Nat.mod_eq_of_lt lt]
 rw [g a (by omega),g b hb,Option.some.injEq] at e
 have e' : W * (a / w) + a % w = W * (b / w) + b % w := by omega
 have wp : 0 < w := Nat.pos_of_ne_zero fun z => by rw [z] at hb;omega
 have m1 : a % w < W := Nat.lt_of_lt_of_le (Nat.mod_lt _ wp) w1
 have m2 : b % w < W := Nat.lt_of_lt_of_le (Nat.mod_lt _ wp) w1
 have p : a / w = b / w := by
  have x1 := Nat.mul_add_div (show 0 < W by omega) (a / w) (a % w)
  have x2 := Nat.mul_add_div (show 0 < W by omega) (b / w) (b % w)
  rw [Nat.div_eq_of_lt m1] at x1
  rw [Nat.div_eq_of_lt m2] at x2
  rw [e'] at x1
  omega
 have q : a % w = b % w := by rw [p] at e';omega
 have := Nat.div_add_mod a w
 have := Nat.div_add_mod b w
 rw [p,q] at *
 omega
theorem X4 {B a b : Int} {h w i j : Nat} (ij : i < j) (hj : j < h * w) (e : (a * ((i / w : Nat) : Int) + b * ((i % w : Nat) : Int)) % B = (a * ((j / w : Nat) : Int) + b * ((j % w : Nat) : Int)) % B) : ¬ bU B a b h w := fun z => by
 unfold bU at z
 rw [XC] at z
 refine z i j (by rw [DE,Bk.zq];omega) ij (by rw [DE,Bk.zq];exact hj) ?_
 rw [rst,List.getElem?_map,List.getElem?_map,VP w h i (by omega),VP w h j hj,Option.map_some,Option.map_some]
 exact congrArg some e
def fw (H W h : Nat) : Nat := if h = 1 then H * W else if h ≤ H then W else 0
theorem qfc {H W h : Nat} (H1 : 1 ≤ H) (W1 : 1 ≤ W) (h1 : 1 ≤ h) : wd ((H * W : Nat) : Int) (W : Int) 1 h = fw H W h := by
 unfold fw
 have hw : 0 < H * W := Nat.mul_pos H1 W1
 by_cases c1 : h = 1
 ·subst c1
  rw [if_pos rfl]
  refine LD ?_ fun m hm => ?_
  ·refine X4 (i := 0) (j := H * W) hw (by omega) ?_
   rw [Nat.zero_div,Nat.zero_mod,Nat.div_eq_of_lt (by omega),Nat.mod_eq_of_lt (by omega)]
   simp
  ·have := qbl (H := 1) (W := H * W) (h := 1) (w := m + 1) (by omega) (Nat.le_refl _)
   rw [Nat.one_mul] at this
   intro z
   refine z ?_
   unfold bU at this ⊢
   have er : rst ((H * W : Nat) : Int) (W : Int) 1 (zb 1 (m + 1)) = rst ((H * W : Nat) : Int) ((H * W : Nat) : Int) 1 (zb 1 (m + 1)) := by
    unfold rst
    refine List.map_congr_left fun p hp => ?_
    obtain ⟨i,hi,hq⟩ := List.mem_flatMap.mp hp
    obtain ⟨j,_,rfl⟩ := List.mem_map.mp hq
    have := List.mem_range.mp hi
    have : i = 0 := by omega
    subst this
    simp
   rw [er];exact this
 ·rw [if_neg c1]
  by_cases c2 : h ≤ H
  ·rw [if_pos c2]
   refine LD ?_ fun m hm z => z (qbl (by omega) c2)
   refine X4 (i := W) (j := W + 1) (by omega) ?_ ?_
   ·have := Nat.mul_le_mul (show 2 ≤ h by omega) (Nat.le_refl (W + 1));omega
   ·rw [Nat.div_eq_of_lt (by omega),Nat.mod_eq_of_lt (by omega),Nat.div_self (by omega),Nat.mod_self]
    simp
  ·rw [if_neg c2]
   refine LD ?_ fun m hm => by omega
   refine X4 (i := 0) (j := H) (by omega) (by omega) ?_
   rw [Nat.zero_div,Nat.zero_mod,Nat.zero_add,Nat.div_one,Nat.mod_one]
   simp [Int.mul_comm]
theorem qcJ {H W : Nat} (H1 : 1 ≤ H) (W1 : 1 ≤ W) : wds ((H * W : Nat) : Int) (W : Int) 1 = [((H * W : Nat) : Int)] ++ List.replicate (H - 1) (W : Int) ++ List.replicate (H * W - H) 0 := by
 unfold wds
 rw [Int.toNat_natCast]
 have hw : H ≤ H * W := Nat.le_mul_of_pos_right _ W1
 have e : H * W = 1 + (H - 1) + (H * W - H) := by omega
 refine List.ext_getElem? fun i => ?_
 rw [List.getElem?_map]
 by_cases hi : i < H * W
 ·have l : (jZ 1 (H * W))[i]? = some (1 + (i : Int)) := by
   unfold jZ
   rw [List.getElem?_map,List.getElem?_range hi];rfl
  rw [l,Option.map_some,show (1 + (i : Int)).toNat = i + 1 by omega,qfc H1 W1 (by omega)]
  unfold fw
  rcases Nat.eq_zero_or_pos i with z | z
  ·subst z;simp
  ·rw [if_neg (by omega),List.append_assoc,List.getElem?_append_right (by simp;omega)]
   by_cases c : i < H
   ·rw [if_pos (by omega),List.getElem?_append_left (by simp;omega),List.getElem?_replicate,if_pos (by simp;omega)]
   ·rw [if_neg (by omega),List.getElem?_append_right (by simp;omega),List.getElem?_replicate,if_pos (by simp;omega)]
    rfl
 ·rw [List.getElem?_eq_none (by rw [JY];omega),List.getElem?_eq_none (by simp;omega)]
  rfl
def frC (R C B a b : Int) (cs : List (Int × Int)) : Bool := decide (0 < (Pv.stI R C cs).length) && decide (rst B a b cs).Nodup
theorem qnc (R C B a b : Int) (cs : List (Int × Int)) : frB R C B a b cs = frC R C B a b cs := by
 unfold frB frC
 congr 1
 rw [Bool.eq_iff_iff,XC,decide_eq_true_eq]
 refine ⟨R6,fun h x y hx hxy hy e => ?_⟩
 have hx' : x < (rst B a b cs).length := by omega
 rw [List.getElem?_eq_getElem hx',List.getElem?_eq_getElem hy,Option.some.injEq] at e
 exact (List.pairwise_iff_getElem.mp h) x y hx' hy hxy e
def fsC (R C B a b : Int) (m : Nat) : List (Int × Int) := (jZ 0 R.toNat).flatMap fun x => ((jZ (1 - C) (C - (1 - C)).toNat).filter fun y => (decide (0 < x) || decide (0 < y)) && frC R C B a b (zI x y m)).map fun y => (x,y)
theorem qmv (R C B a b : Int) (m : Nat) : fsI R C B a b m = fsC R C B a b m := by
 unfold fsI fsC
 simp only [qnc]
theorem qmZ {n : Nat} (h : n = 5 ∨ n = 7 ∨ n = 11 ∨ n = 13) : fsI n n n 2 1 n = [(0,1),(1,-1),(1,0),(1,1)] := by
 rw [qmv]
 rcases h with rfl | rfl | rfl | rfl
 ·decide +kernel
 ·decide +kernel
 ·decide +kernel
 ·decide +kernel
end K26
namespace K26
open PySem L2 L3 Pu Pv
open Bk (Wk Dl Dr zI zb VJ lnD lnA faO Fst Un2 zC zS)
theorem qfg {n : Nat} {x : Int} : (List.replicate n x).map PyData.int = List.replicate n (.int x) := by simp
theorem qlx {H W : Nat} (h1 : 1 ≤ H) (h2 : H ≤ 100) (w1 : 1 ≤ W) (w2 : W ≤ 100) : zF [.int (H : Int),.int (W : Int)] = some (.tuple [dlD (.skew H W ((H * W : Nat) : Int) W 1),.list ((wds ((H * W : Nat) : Int) (W : Int) 1).map PyData.int)]) := by
 have hw := Nat.mul_le_mul h2 w2
 have mm : cI jd (· * ·) (.int (H : Int)) (.int (W : Int)) = some (.int ((H * W : Nat) : Int)) := by
  rw [qer (by omega)];simp
 have e1 : ((H : Int) - 1).toNat = H - 1 := by omega
 have e2 : (((H * W : Nat) : Int) - (H : Int)).toNat = H * W - H := by omega
 rw [S8,qcJ h1 w1]
 try simp only [Pu.pwA,J1,mm,qfb,qcC,qol (k := (H : Int) - 1) (by omega),qol (k := ((H * W : Nat) : Int) - (H : Int)) (by omega),e1,e2,List.map_append,qfg,dlD]
 rw [qev (by simp;omega),Option.bind_some,qev (by simp;omega)]
 try simp only [Pu.pwA]
 simp
theorem qb1 {n : Nat} {ns : List Int} (h : ns.length ≤ 1000000) : Bk.YI (n + 1) (.list (ns.map PyData.int)) := by
 refine ⟨by simpa using h,fun d hd => ?_⟩
 obtain ⟨i,_,rfl⟩ := List.mem_map.mp hd
 simp [Bk.YI]
theorem qcF {n : Nat} (h : n = 5 ∨ n = 7 ∨ n = 11 ∨ n = 13) : QI [dlD (.skew n n n 2 1),Wk.d (.line 3 n)] = some .none := by
 have ok : (Dl.skew n n n 2 1).Ok := by simp only [Dl.Ok];omega
 have wok : (Wk.line 3 n).Ok := by simp only [Wk.Ok];omega
 rw [qpf (d := .skew n n n 2 1) trivial ok (qjQ wok) (qnZ wok)]
 have e : faO (rst (n : Int) 2 1 (Wk.line 3 n).pc) = none := by
  refine zS (fun x y hx hxy hy z => ?_)
  have nd : (rst (n : Int) 2 1 (Wk.line 3 n).pc).Nodup := by
   rcases h with rfl | rfl | rfl | rfl <;> decide +kernel
  rw [List.getElem?_eq_getElem hx,List.getElem?_eq_getElem hy,Option.some.injEq] at z
  exact (List.pairwise_iff_getElem.mp nd) x y hx hy hxy z
 unfold clD
 simp only [Dl.B,fA,fB]
 rw [e]
theorem ix6 {ds : List PyData} {r : Int} {P : PyData → Prop} (h0 : 0 ≤ r) (h1 : r < 6) (hl : ds.length = 6 := by rfl) (h : ∀ v ∈ ds,P v) : ∃ v,L2.atI ds r = some v∧P v := by
 obtain ⟨j,rfl⟩ := Int.eq_ofNat_of_zero_le h0
 have hj : j < ds.length := by omega
 exact ⟨ds[j],by rw [atN hj,List.getElem?_eq_getElem hj],h _ (List.getElem_mem hj)⟩
theorem qkH : ∀ k : Nat,k ≤ 60 → qcc.w [.un,.sh (.int k),.un,.un,.un,.un,.un,.un,.un,.un,.un,.un,.un,.un,.un,.un] 0 okW := by
 intro k hk
 unfold qcc
 refine VN fun Y1 h1 => ?_
 try simp only [Pu.pwA]
 refine qf5 (by omega) fun d h99 D => ?_
 have hp := p99 h99
 have ok := D.ok
 have hR := D.r2;have hC := D.c2;have hB := D.b2
 have lm := Dl.lims ok
 have fr := M6 hp ok
 try simp only [Pu.pwA]
 rw [h1]
 refine NO (fun ρ m => m = 0 + 11∧ρ = [.un,.sh (.int k),.un,.sh (dlD d),.sh (.int d.B),.sh (.int d.C),.sh (.int 1),.un,.un,.un,.un,.un,.un,.un,.un,.un]) ?_ ?_
 ·cases d <;> simp [Pl] at hp
  ·try simp only [Pu.pwA,dlD,Dl.B,Dl.C,KY]
  ·try simp only [Pu.pwA,dlD,Dl.B,Dl.C,KY]
 rintro _ _ ⟨rfl,rfl⟩
 refine NO (fun ρ m => m = 0 + 11∧ρ = [.un,.sh (.int k),.un,.sh (dlD d),.sh (.int d.B),.sh (.int (fA d)),.sh (.int (fB d)),.un,.un,.un,.un,.un,.un,.un,.un,.un]) ?_ ?_
 ·cases d <;> simp [Pl] at hp
  ·try simp only [Pu.pwA,dlD,Dl.B,Dl.C,fA,fB,KY,eq_self]
  ·try simp only [Pu.pwA,dlD,Dl.B,Dl.C,fA,fB,KY,L3.VH]
 rintro _ _ ⟨rfl,rfl⟩
 refine VN fun Y2 h2 => ?_
 try simp (disch := omega) only [Pu.pwA,qgY]
 refine qca (jZ 0 (4 : Int).toNat) XQ.mn (fun i ρ n => n ≤ 100 + 100 * i∧∃ s7 s8 s9 s10,ρ = [.un,.sh (.int k),.un,.sh (dlD d),.sh (.int d.B),.sh (.int (fA d)),.sh (.int (fB d)),s7,s8,s9,s10,.un,.un,.un,.un,.un]) ⟨by omega,_,_,_,_,rfl⟩ ?_ ?_
 ·rintro i x ρ n hx ⟨hn,s7,s8,s9,s10,rfl⟩
  have hi : i < 4 := (List.getElem?_eq_some_iff.mp hx).1
  refine ⟨_,rfl,?_⟩
  unfold XQ
  refine VN fun Z1 g1 => ?_
  try simp only [Pu.pwA]
  refine qfp (by omega) fun u v hu hv => ?_
  try simp only [Pu.pwA,pD]
  rw [g1]
  refine VN fun Z2 g2 => ?_
  try simp (disch := omega) only [Pu.pwA,ZQ]
  rw [g2]
  generalize hz : fA d * u + fB d * v = z
  have ab : (if z < 0 then -z else z : Int) = (z.natAbs : Int) := by split <;> omega
  have lg := qo6 (u := u) (v := v) hp ok (by omega) (by omega)
  rw [hz,qkT (B := d.B) (w := z) (by omega)] at lg
  have eg : Int.gcd d.B (z.natAbs : Int) = Int.gcd d.B z := by unfold Int.gcd;rw [Int.natAbs_natCast]
  have gp : 0 < Int.gcd d.B z := by
   unfold Int.gcd
   exact Nat.gcd_pos_of_pos_left _ (by omega)
  have gl : Int.gcd d.B z ≤ d.B.natAbs := by unfold Int.gcd;exact Nat.gcd_le_left _ (by omega)
  have dv : cI qas (· / ·) (.int d.B) (.int ((Int.gcd d.B z : Nat) : Int)) = some (.int (d.B / ((Int.gcd d.B z : Nat) : Int))) := qin (by omega)
  try simp only [Pu.pwA,ab,lg,qg4,qf8,qm8 (x := d.B) (y := (z.natAbs : Int)) (by omega),eg,dv,TF (n := 4) (d := .int (d.B / ((Int.gcd d.B z : Nat) : Int))) (by simp [Bk.YI])]
  exact ⟨by omega,_,_,_,_,rfl⟩
 ·rintro ρ n ⟨hn,s7,s8,s9,s10,rfl⟩
  try simp only [Pu.pwA]
  rw [h2]
  refine VN fun Y3 h3 => ?_
  try simp only [Pu.pwA]
  have hn' : n ≤ 1000 := by have := hn;simp [jZ] at this;omega
  refine ⟨by omega,by omega,fun t t0 t1 => ?_⟩
  have hn2 : n ≤ 1000 := by have := hn;simp [jZ] at this;omega
  refine ix6 t0 t1 rfl fun v hv => ?_
  obtain ⟨a,b,rfl,ha,hb,hab⟩ : ∃ a b : Int,v = .tuple [.int a,.int b]∧(1 ≤ a∧a ≤ 7)∧(1 ≤ b∧b ≤ 16)∧a * b ≤ 32 := by
   simp only [List.mem_cons,List.not_mem_nil,or_false] at hv
   rcases hv with rfl | rfl | rfl | rfl | rfl | rfl <;> exact ⟨_,_,rfl,by decide,by decide,by decide⟩
  try simp only [Pu.pwA]
  rw [h3]
  refine VN fun Y4 h4 => ?_
  try simp only [Pu.pwA]
  refine ⟨by omega,by omega,fun p p0 p1 => ⟨by omega,by omega,fun q q0 q1 => ?_⟩⟩
  obtain ⟨H,hH⟩ : ∃ H : Nat,1 + p = (H : Int)∧1 ≤ H∧H ≤ 7 := ⟨(1 + p).toNat,by omega,by omega,by omega⟩
  obtain ⟨W,hW⟩ : ∃ W : Nat,1 + q = (W : Int)∧1 ≤ W∧W ≤ 16 := ⟨(1 + q).toNat,by omega,by omega,by omega⟩
  have hHW : ((H * W : Nat) : Int) ≤ 32 := by
   have x1 : (H : Int) * (W : Int) ≤ a * b := Int.mul_le_mul (by omega) (by omega) (by omega) (by omega)
   rw [Int.natCast_mul];omega
  have hHW1 : 1 ≤ H * W := Nat.mul_pos hH.2.1 hW.2.1
  rw [hH.1,hW.1]
  try simp only [Pu.pwA]
  rw [h4]
  refine VN fun Y5 h5 => ?_
  try simp only [Pu.pwA,qlx hH.2.1 (by omega) hW.2.1 (by omega)]
  rw [h5]
  refine VN fun Y6 h6 => ?_
  have okS : (Dl.skew (H : Int) (W : Int) ((H * W : Nat) : Int) (W : Int) 1).Ok := by simp only [Dl.Ok];omega
  have bl := qo1 (d := .skew (H : Int) (W : Int) ((H * W : Nat) : Int) (W : Int) 1) trivial okS (by simp only [Dl.B];omega)
  simp only [Dl.B,fA,fB] at bl
  have wl : (wds ((H * W : Nat) : Int) (W : Int) 1).length ≤ 1000000 := by
   rw [wds,List.length_map,JY];omega
  try simp only [Pu.pwA,bl,TF (n := 4) (qb1 (n := 3) wl)]
  rw [h6]
  refine VN fun Y7 h7 => ?_
  try simp only [Pu.pwA]
  refine ⟨by omega,by omega,fun t2 t20 t21 => ?_⟩
  refine XG (ks := [5,7,11,13]) t20 (by simpa using t21) fun N hN => ?_
  obtain ⟨n0,rfl,hn0⟩ : ∃ n0 : Nat,N = (n0 : Int)∧(n0 = 5 ∨ n0 = 7 ∨ n0 = 11 ∨ n0 = 13) := by
   refine ⟨N.toNat,?_,?_⟩ <;> (simp at hN;omega)
  try simp only [Pu.pwA]
  rw [h7]
  refine VN fun Y8 h8 => ?_
  try simp only [Pu.pwA]
  rw [h8]
  refine VN fun Y9 h9 => ?_
  try simp only [Pu.pwA]
  rw [h9]
  have okQ : (Dl.skew (n0 : Int) (n0 : Int) (n0 : Int) 2 1).Ok := by simp only [Dl.Ok];omega
  have f1 := qoM (j := 1) (m := n0) (d := .skew (n0 : Int) (n0 : Int) (n0 : Int) 2 1) trivial (ql2 (d := .skew (n0 : Int) (n0 : Int) (n0 : Int) 2 1) trivial) okQ (by omega) (by omega) (by simp only [Dl.R];omega) (by simp only [Dl.C];omega)
  simp only [Dl.R,Dl.C,Dl.B,fA,fB] at f1
  rw [qmZ hn0] at f1
  have c1 : QI [.tuple [.str "skew",.int (n0 : Int),.int (n0 : Int),.int (n0 : Int),.int 2,.int 1],.tuple [.str "back",.int (n0 : Int)]] = some .none := qcF hn0
  simp only [dlD,List.map_cons,List.map_nil,pD] at f1
  have dd : Bk.YI 4 (.list [.tuple [.int 0,.int 1],.tuple [.int 1,.int (-1)],.tuple [.int 1,.int 0],.tuple [.int 1,.int 1]]) := qhJ (cs := [(0,1),(1,-1),(1,0),(1,1)]) (by simp)
  try simp only [Pu.pwA,f1,c1,TF (n := 4) dd]
end K26
namespace K26
open PySem L2 L3 Bk
abbrev qjX : Env := { scope := PySem.Challenge.pw_bankwalk_k26_known_rests.main.scope,locals := mainNs,globals := mainNs,cells := [],code := .ref 13,frame := some 14 }
abbrev qaQ : List Stmt := PySem.W.behindTheImports PySem.Challenge.pw_bankwalk_k26_known_rests
abbrev CW : Code := .body qaQ qjX
abbrev qku : List Frame := [PySem.W.topFrame ⟨0,0,0,0⟩]
def qM : Obj := Hd.oT []
def zW : Obj := ⟨.none,none,.fields #[],#[]⟩
def qlW : Obj := Hd.oC [.str "<module>" 182,.str "<module>" 183,.str "/claim/cut.py" 184,.int (1) 0,.int (0) 0,.int (0) 0,.int (0) 0,.int (0) 0,.ref 11,.bool false,.int (181) 0,.ref 12,.none,.none,.none,.none,.int (185) 0,.int (1) 0,.str "/claim/cut.py" 186]
def qlQ : Obj := ⟨.type "frame",none,.plain,#[some (.ref 13),some (.ref 3),some (.ref 3),none,some (.str "__main__" 164),none,some (.ref 0)]⟩
def qiv (P : Params) : Heap := ⟨Array.mk [PySem.W.boot_o_0 P,PySem.W.boot_o_1 P,PySem.W.boot_o_2 P,PySem.W.boot_o_3 P,PySem.W.boot_o_4 P,PySem.W.boot_o_5 P,PySem.W.boot_o_6 P,PySem.W.boot_o_7 P,PySem.W.boot_o_8 P,PySem.W.boot_o_9 P,PySem.W.boot_o_10 P,qM,zW,qlW,qlQ],{ }⟩
def qjP (P : Params) : PySem.W.BT := (Hd.nd (PySem.W.boot_o_0 P) (Hd.nd (PySem.W.boot_o_1 P) (Hd.nd (PySem.W.boot_o_3 P) (Hd.lf (PySem.W.boot_o_7 P)) (Hd.lf qM)) (Hd.nd (PySem.W.boot_o_5 P) (Hd.lf (PySem.W.boot_o_9 P)) (Hd.lf qlW))) (Hd.nd (PySem.W.boot_o_2 P) (Hd.nd (PySem.W.boot_o_4 P) (Hd.lf (PySem.W.boot_o_8 P)) (Hd.lf zW)) (Hd.nd (PySem.W.boot_o_6 P) (Hd.lf (PySem.W.boot_o_10 P)) (Hd.lf qlQ))))
set_option maxRecDepth 100000 in
set_option maxHeartbeats 0 in
theorem qkJ (w : World) (os : OsState) : PySem.W.topGo treeTable PySem.Challenge.pw_bankwalk_k26_known_rests w 11 (some (Value.ref 6)) 12 ⟨PySem.W.boot_heap w.params,Array.mk [],PySem.W.boot_drawn,PySem.W.boot_toks,os⟩ (PySem.W.topStub PySem.Challenge.pw_bankwalk_k26_known_rests) = some (⟨qiv w.params,#[],{ },187,os⟩,⟨denote treeTable CW,CW,⟨0,0,0,0⟩,qku⟩) := by kernel_rfl
set_option maxRecDepth 100000 in
set_option maxHeartbeats 0 in
theorem qls (w : World) (os : OsState) : PySem.W.segRun treeTable PySem.Challenge.pw_bankwalk_k26_known_rests w 11 (some (Value.ref 6)) 1 1 ⟨qiv w.params,#[],{ },187,os⟩ (PySem.W.blockOf qaQ qjX CW ⟨0,0,0,0⟩ qku) = some (.next,(⟨qjP w.params,15,{ },#[],{ },187,os⟩ : PySem.W.SharedT).abs,CW,⟨0,0,0,0⟩) := by kernel_rfl
def qoZ (P : Params) : Obj := Hd.oD P 24 [(.str "__name__" 165,.str "bankwalk.walks" 336),(.str "__doc__" 166,.none),(.str "__package__" 167,.none),(.str "__loader__" 168,.builtin "__main__.__loader__#opaque"),(.str "__spec__" 169,.none),(.str "__annotations__" 170,.ref 6),(.str "__builtins__" 171,.ref 4),(.str "__file__" 173,.str "/claim/cut.py" 172),(.str "__cached__" 174,.none),(.str "is_number" 195,.ref 21),(.str "is_pair" 202,.ref 28),(.str "first_alike" 211,.ref 35),(.str "BankError" 231,.ref 45),(.str "NoStart" 247,.ref 58),(.str "size_of" 263,.ref 67),(.str "number_of" 274,.ref 74),(.str "is_word" 285,.ref 81),(.str "odd_in_common" 295,.ref 88),(.str "bits_bank" 301,.ref 93),(.str "parted" 312,.ref 100),(.str "joined_bank" 326,.ref 107),(.str "bank_in" 335,.ref 114),(.str "STRIDES" 355,.ref 115),(.str "strung" 361,.ref 124)]
def qoK : Obj := ⟨.none,none,.fields #[.int (2) 0,.int (0) 0,.ref 20,.int (4) 0,.int (0) 0,.ref 27,.int (6) 0,.int (0) 0,.ref 34,.int (13) 0,.int (0) 0,.ref 41,.int (15) 0,.int (0) 0,.ref 54,.int (18) 0,.int (0) 0,.ref 66,.int (29) 0,.int (0) 0,.ref 73,.int (32) 0,.int (0) 0,.ref 80,.int (37) 0,.int (0) 0,.ref 87,.int (44) 0,.int (0) 0,.ref 92,.int (46) 0,.int (0) 0,.ref 99,.int (49) 0,.int (0) 0,.ref 106,.int (53) 0,.int (0) 0,.ref 113,.int (66) 0,.int (0) 0,.ref 123],#[]⟩
def qof : Obj := Hd.oN QY 192
def qn1 : Obj := Hd.oG "is_number" je
def qne : Obj := Hd.oK "is_number" 189 2 1 181 15 16 .none (.ref 17) (.ref 18) 19 193 194
def qe6 : Obj := Hd.oF "is_number" je (.str "bankwalk.basics" 187) (.ref 20)
def qjx : Obj := Hd.oN QY 199
def qhU : Obj := Hd.oG "is_pair" QM
def qfi : Obj := Hd.oK "is_pair" 196 4 1 181 22 23 .none (.ref 24) (.ref 25) 26 200 201
def qfL : Obj := Hd.oF "is_pair" QM (.str "bankwalk.basics" 187) (.ref 27)
def qhr : Obj := Hd.oN ZU 206
def qiC : Obj := Hd.oG "first_alike" zz
def qfT : Obj := Hd.oK "first_alike" 203 6 1 181 29 30 .none (.ref 31) (.ref 32) 33 209 210
def qfM : Obj := Hd.oF "first_alike" zz (.str "bankwalk.basics" 187) (.ref 34)
def qje : Obj := Hd.oT [.type "ValueError"]
def qcB : Obj := ⟨.type "builtin_function_or_method",none,.fields #[.builtin "type.__prepare__",.type "type"],#[]⟩
def qjE (P : Params) : Obj := Hd.oD P 4 [(.str "__module__" 221,.str "bankwalk.errors" 212),(.str "__qualname__" 223,.str "BankError" 222),(.str "__firstlineno__" 225,.int (13) 224),(.str "__static_attributes__" 226,.ref 43)]
def qlu : Obj := Hd.oC [.str "BankError" 216,.str "BankError" 217,.str "/claim/cut.py" 218,.int (13) 0,.int (0) 0,.int (0) 0,.int (0) 0,.int (0) 0,.ref 39,.bool false,.int (181) 0,.ref 40,.none,.none,.none,.none,.int (219) 0,.int (13) 0,.str "/claim/cut.py" 220]
def qjD : Obj := ⟨.type "frame",none,.plain,#[some (.ref 41),some (.ref 3),some (.ref 38),none,some (.str "bankwalk.errors" 212),none,some (.ref 0)]⟩
def qlg (P : Params) : Obj := Hd.oD P 3 [(.str "__module__" 221,.str "bankwalk.errors" 212),(.str "__firstlineno__" 225,.int (13) 224),(.str "__static_attributes__" 226,.ref 43),(.str "__weakref__" 228,.ref 46),(.str "__doc__" 229,.none)]
def qip : Obj := ⟨.type "type",none,.cls ({ name := Str.ofString "BankError",bases := [Value.type "ValueError"],  mro :=     [Value.ref 45,Value.type "ValueError",Value.type "Exception",Value.type "BaseException",Value.type "object"],  ns := 44,qualname := Str.ofString "BankError",subclasses := [Value.ref 58] }),#[some (.ref 36),none,some (.str "BankError" 214),some (.str "BankError" 222),some (.builtin "ValueError.__new__"),some (.bool true)]⟩
def qhg : Obj := ⟨.type "getset_descriptor",none,.fields #[.str "__weakref__" 227,.ref 45,.builtin "ExceptionGroup.__weakref__",.none],#[]⟩
def qjI : Obj := ⟨.type "super",none,.fields #[.ref 45,.ref 45,.ref 45],#[]⟩
def qkV : Obj := ⟨.type "builtin_function_or_method",none,.fields #[.builtin "object.__init_subclass__",.ref 45],#[]⟩
def qkl : Obj := Hd.oT [.ref 45]
def qhG (P : Params) : Obj := Hd.oD P 4 [(.str "__module__" 239,.str "bankwalk.errors" 212),(.str "__qualname__" 241,.str "NoStart" 240),(.str "__firstlineno__" 243,.int (15) 242),(.str "__static_attributes__" 244,.ref 56)]
def qiX : Obj := Hd.oC [.str "NoStart" 234,.str "NoStart" 235,.str "/claim/cut.py" 236,.int (15) 0,.int (0) 0,.int (0) 0,.int (0) 0,.int (0) 0,.ref 52,.bool false,.int (181) 0,.ref 53,.none,.none,.none,.none,.int (237) 0,.int (15) 0,.str "/claim/cut.py" 238]
def qii : Obj := ⟨.type "frame",none,.plain,#[some (.ref 54),some (.ref 3),some (.ref 51),none,some (.str "bankwalk.errors" 212),none,some (.ref 0)]⟩
def qis (P : Params) : Obj := Hd.oD P 2 [(.str "__module__" 239,.str "bankwalk.errors" 212),(.str "__firstlineno__" 243,.int (15) 242),(.str "__static_attributes__" 244,.ref 56),(.str "__doc__" 245,.none)]
def qkz : Obj := ⟨.type "type",none,.cls ({ name := Str.ofString "NoStart",bases := [Value.ref 45],  mro :=     [Value.ref 58,Value.ref 45,Value.type "ValueError",Value.type "Exception",Value.type "BaseException",      Value.type "object"],  ns := 57,qualname := Str.ofString "NoStart" }),#[some (.ref 49),none,some (.str "NoStart" 232),some (.str "NoStart" 240),some (.builtin "ValueError.__new__"),some (.bool true)]⟩
def qjk : Obj := ⟨.type "super",none,.fields #[.ref 58,.ref 58,.ref 58],#[]⟩
def qiE : Obj := ⟨.type "builtin_function_or_method",none,.fields #[.builtin "object.__init_subclass__",.ref 58],#[]⟩
def qjS : Obj := Hd.oN EY 253
def qkm : Obj := Hd.oG "size_of" Q1
def qgd : Obj := Hd.oK "size_of" 250 18 1 181 61 62 .none (.ref 63) (.ref 64) 65 261 262
def qe5 : Obj := Hd.oF "size_of" Q1 (.str "bankwalk.dealings" 248) (.ref 66)
def qhy : Obj := Hd.oN jT 267
def qh8 : Obj := Hd.oG "number_of" jr
def qfE : Obj := Hd.oK "number_of" 264 29 2 181 68 69 .none (.ref 70) (.ref 71) 72 272 273
def qfk : Obj := Hd.oF "number_of" jr (.str "bankwalk.dealings" 248) (.ref 73)
def qiR : Obj := Hd.oN JF 278
def qkh : Obj := Hd.oG "is_word" QW
def qfY : Obj := Hd.oK "is_word" 275 32 2 181 75 76 .none (.ref 77) (.ref 78) 79 283 284
def qfZ : Obj := Hd.oF "is_word" QW (.str "bankwalk.dealings" 248) (.ref 80)
def qk1 : Obj := Hd.oN EJ 289
def qkQ : Obj := Hd.oG "odd_in_common" jx
def qgh : Obj := Hd.oK "odd_in_common" 286 37 2 181 82 83 .none (.ref 84) (.ref 85) 86 293 294
def qft : Obj := Hd.oF "odd_in_common" jx (.str "bankwalk.dealings" 248) (.ref 87)
def qkS : Obj := Hd.oG "bits_bank" JE
def qf0 : Obj := Hd.oK "bits_bank" 296 44 2 181 89 90 .none .none .none 91 299 300
def qfV : Obj := Hd.oF "bits_bank" JE (.str "bankwalk.dealings" 248) (.ref 92)
def qig : Obj := Hd.oN qcm 305
def qkj : Obj := Hd.oG "parted" DO
def qe7 : Obj := Hd.oK "parted" 302 46 3 181 94 95 .none (.ref 96) (.ref 97) 98 310 311
def qgs : Obj := Hd.oF "parted" DO (.str "bankwalk.dealings" 248) (.ref 99)
def qj5 : Obj := Hd.oN W8 316
def qiz : Obj := Hd.oG "joined_bank" QG
def qgo : Obj := Hd.oK "joined_bank" 313 49 3 181 101 102 .none (.ref 103) (.ref 104) 105 324 325
def qe4 : Obj := Hd.oF "joined_bank" QG (.str "bankwalk.dealings" 248) (.ref 106)
def qg6 : Obj := Hd.oN JA 330
def qkw : Obj := Hd.oG "bank_in" QT
def qgJ : Obj := Hd.oK "bank_in" 327 53 2 181 108 109 .none (.ref 110) (.ref 111) 112 333 334
def qfh : Obj := Hd.oF "bank_in" QT (.str "bankwalk.dealings" 248) (.ref 113)
def qgI (P : Params) : Obj := Hd.oD P 4 [(.str "row" 338,.ref 116),(.str "column" 341,.ref 117),(.str "slant" 344,.ref 118),(.str "back" 347,.ref 119)]
def qfy : Obj := Hd.oT [.int (0) 339,.int (1) 340]
def qfq : Obj := Hd.oT [.int (1) 342,.int (0) 343]
def qgk : Obj := Hd.oT [.int (1) 345,.int (1) 346]
def qgy : Obj := Hd.oT [.int (1) 348,.int (-1) 350]
def qi1 : Obj := Hd.oG "strung" JM
def qfP : Obj := Hd.oK "strung" 356 66 3 181 120 121 .none .none .none 122 359 360
def qgO : Obj := Hd.oF "strung" JM (.str "bankwalk.walks" 336) (.ref 123)
def qlm (P : Params) : PySem.W.BT := (Hd.nd (PySem.W.boot_o_0 P) (Hd.nd (PySem.W.boot_o_1 P) (Hd.nd (qoZ P) (Hd.nd (PySem.W.boot_o_7 P) (Hd.nd qM (Hd.nd qhr (Hd.lf qjS) (Hd.lf zW)) (Hd.nd qjI (Hd.lf qkh) (Hd.lf qM))) (Hd.nd zW (Hd.nd qM (Hd.lf qM) (Hd.lf qj5)) (Hd.nd qii (Hd.lf qgh) (Hd.lf qgy)))) (Hd.nd qM (Hd.nd qn1 (Hd.nd qfM (Hd.lf qe5) (Hd.lf qe7)) (Hd.nd (qhG P) (Hd.lf zW) (Hd.lf (qgI P)))) (Hd.nd qfi (Hd.nd qM (Hd.lf qM) (Hd.lf qe4)) (Hd.nd qjk (Hd.lf qkS) (Hd.lf qfP))))) (Hd.nd (PySem.W.boot_o_5 P) (Hd.nd (PySem.W.boot_o_9 P) (Hd.nd qof (Hd.nd qiC (Hd.lf qkm) (Hd.lf qM)) (Hd.nd qkl (Hd.lf qfZ) (Hd.lf qgJ))) (Hd.nd qM (Hd.nd qlu (Hd.lf qfE) (Hd.lf qiz)) (Hd.nd (qis P) (Hd.lf qM) (Hd.lf zW)))) (Hd.nd qlW (Hd.nd qe6 (Hd.nd qcB (Hd.lf zW) (Hd.lf qM)) (Hd.nd zW (Hd.lf qM) (Hd.lf qfq))) (Hd.nd qM (Hd.nd qip (Hd.lf qiR) (Hd.lf zW)) (Hd.nd qM (Hd.lf qfV) .nil))))) (Hd.nd (PySem.W.boot_o_2 P) (Hd.nd (PySem.W.boot_o_4 P) (Hd.nd (PySem.W.boot_o_8 P) (Hd.nd zW (Hd.nd qM (Hd.lf qM) (Hd.lf qig)) (Hd.nd qkV (Hd.lf qfY) (Hd.lf qkw))) (Hd.nd qjx (Hd.nd zW (Hd.lf qh8) (Hd.lf qM)) (Hd.nd qM (Hd.lf qft) (Hd.lf qM)))) (Hd.nd qoK (Hd.nd qne (Hd.nd qje (Hd.lf qM) (Hd.lf qgs)) (Hd.nd qM (Hd.lf qk1) (Hd.lf qfy))) (Hd.nd qfL (Hd.nd (qlg P) (Hd.lf zW) (Hd.lf qM)) (Hd.nd qiE (Hd.lf qf0) (Hd.lf qgO))))) (Hd.nd (PySem.W.boot_o_6 P) (Hd.nd (PySem.W.boot_o_10 P) (Hd.nd qM (Hd.nd qfT (Hd.lf qgd) (Hd.lf qkj)) (Hd.nd qcB (Hd.lf qM) (Hd.lf qfh))) (Hd.nd qhU (Hd.nd qjD (Hd.lf qfk) (Hd.lf qgo)) (Hd.nd qkz (Hd.lf zW) (Hd.lf qi1)))) (Hd.nd qlQ (Hd.nd qM (Hd.nd (qjE P) (Hd.lf qhy) (Hd.lf zW)) (Hd.nd qiX (Hd.lf qkQ) (Hd.lf qgk))) (Hd.nd zW (Hd.nd qhg (Hd.lf qM) (Hd.lf qg6)) (Hd.nd zW (Hd.lf qM) .nil))))))
abbrev qdC : List Stmt := (qaQ.drop 0).take 19
def qeo (os : OsState) (w : World) : Prop := PySem.W.segRunT treeTable PySem.Challenge.pw_bankwalk_k26_known_rests w 11 (some (Value.ref 6)) 1 898 (⟨qjP w.params,15,{ },#[],{ },187,os⟩ : PySem.W.SharedT) (PySem.W.piecesOf qdC qjX CW ⟨0,0,0,0⟩ qku) = some (.next,(⟨qlm w.params,125,{ },#[],{ },362,os⟩ : PySem.W.SharedT),CW,⟨66,0,67,55⟩)
set_option maxRecDepth 100000 in
set_option maxHeartbeats 0 in
theorem qhO (w : World) (os : OsState) : qeo os w :=
 PySem.W.byRow2 "special-get-raises" (P := qeo os) (fun w => show _ = _ by kernel_rfl) (fun w => show _ = _ by kernel_rfl) w
def qlD (P : Params) : Obj := Hd.oD P 52 [(.str "__name__" 165,.str "law_bankwalk_k26_known_rests" 485),(.str "__doc__" 166,.none),(.str "__package__" 167,.none),(.str "__loader__" 168,.builtin "__main__.__loader__#opaque"),(.str "__spec__" 169,.none),(.str "__annotations__" 170,.ref 6),(.str "__builtins__" 171,.ref 4),(.str "__file__" 173,.str "/claim/cut.py" 172),(.str "__cached__" 174,.none),(.str "is_number" 195,.ref 21),(.str "is_pair" 202,.ref 28),(.str "first_alike" 211,.ref 35),(.str "BankError" 231,.ref 45),(.str "NoStart" 247,.ref 58),(.str "size_of" 263,.ref 67),(.str "number_of" 274,.ref 74),(.str "is_word" 285,.ref 81),(.str "odd_in_common" 295,.ref 88),(.str "bits_bank" 301,.ref 93),(.str "parted" 312,.ref 100),(.str "joined_bank" 326,.ref 107),(.str "bank_in" 335,.ref 114),(.str "STRIDES" 355,.ref 115),(.str "strung" 361,.ref 124),(.str "cells_of" 367,.ref 129),(.str "starts" 373,.ref 134),(.str "shifted" 379,.ref 139),(.str "is_start" 385,.ref 144),(.str "words_of" 394,.ref 151),(.str "factors_of" 403,.ref 158),(.str "rests_by" 409,.ref 163),(.str "rests_of" 417,.ref 170),(.str "is_unlike" 425,.ref 177),(.str "longest" 437,.ref 184),(.str "widest" 446,.ref 191),(.str "blocks" 452,.ref 196),(.str "is_free" 460,.ref 203),(.str "free_steps" 466,.ref 208),(.str "banks_from" 474,.ref 213),(.str "clash" 484,.ref 220),(.str "_law_mix" 495,.ref 227),(.str "_law_left" 505,.ref 234),(.str "_law_pick" 514,.ref 241),(.str "_law_sides" 524,.ref 248),(.str "_law_gcd" 532,.ref 255),(.str "_law_skew" 543,.ref 262),(.str "_law_rests" 555,.ref 269),(.str "_law_plain" 562,.ref 276),(.str "_law_steps" 572,.ref 283),(.str "_law_same" 578,.ref 288),(.str "_law_fold" 588,.ref 295),(.str "law" 610,.ref 302)]
def qnq : Obj := ⟨.none,none,.fields #[.int (2) 0,.int (0) 0,.ref 20,.int (4) 0,.int (0) 0,.ref 27,.int (6) 0,.int (0) 0,.ref 34,.int (13) 0,.int (0) 0,.ref 41,.int (15) 0,.int (0) 0,.ref 54,.int (18) 0,.int (0) 0,.ref 66,.int (29) 0,.int (0) 0,.ref 73,.int (32) 0,.int (0) 0,.ref 80,.int (37) 0,.int (0) 0,.ref 87,.int (44) 0,.int (0) 0,.ref 92,.int (46) 0,.int (0) 0,.ref 99,.int (49) 0,.int (0) 0,.ref 106,.int (53) 0,.int (0) 0,.ref 113,.int (66) 0,.int (0) 0,.ref 123,.int (68) 0,.int (0) 0,.ref 128,.int (78) 0,.int (0) 0,.ref 133,.int (84) 0,.int (0) 0,.ref 138,.int (86) 0,.int (0) 0,.ref 143,.int (88) 0,.int (0) 0,.ref 150,.int (93) 0,.int (0) 0,.ref 157,.int (97) 0,.int (0) 0,.ref 162,.int (100) 0,.int (0) 0,.ref 169,.int (102) 0,.int (0) 0,.ref 176,.int (104) 0,.int (0) 0,.ref 183,.int (110) 0,.int (0) 0,.ref 190,.int (115) 0,.int (0) 0,.ref 195,.int (117) 0,.int (0) 0,.ref 202,.int (119) 0,.int (0) 0,.ref 207,.int (123) 0,.int (0) 0,.ref 212,.int (125) 0,.int (0) 0,.ref 219,.int (132) 0,.int (0) 0,.ref 226,.int (135) 0,.int (0) 0,.ref 233,.int (139) 0,.int (0) 0,.ref 240,.int (146) 0,.int (0) 0,.ref 247,.int (150) 0,.int (0) 0,.ref 254,.int (154) 0,.int (0) 0,.ref 261,.int (159) 0,.int (0) 0,.ref 268,.int (167) 0,.int (0) 0,.ref 275,.int (169) 0,.int (0) 0,.ref 282,.int (173) 0,.int (0) 0,.ref 287,.int (181) 0,.int (0) 0,.ref 294,.int (185) 0,.int (0) 0,.ref 301],#[]⟩
def qmS : Obj := Hd.oG "cells_of" jY
def qjY : Obj := Hd.oK "cells_of" 362 68 1 181 125 126 .none .none .none 127 365 366
def qlL : Obj := Hd.oF "cells_of" jY (.str "bankwalk.walks" 336) (.ref 128)
def qmn : Obj := Hd.oG "starts" JG
def qj0 : Obj := Hd.oK "starts" 368 78 2 181 130 131 .none .none .none 132 371 372
def qhB : Obj := Hd.oF "starts" JG (.str "bankwalk.walks" 336) (.ref 133)
def qnN : Obj := Hd.oG "shifted" QL
def qk2 : Obj := Hd.oK "shifted" 374 84 2 181 135 136 .none .none .none 137 377 378
def qjz : Obj := Hd.oF "shifted" QL (.str "bankwalk.walks" 336) (.ref 138)
def qnY : Obj := Hd.oG "is_start" jW
def qlF : Obj := Hd.oK "is_start" 380 86 3 181 140 141 .none .none .none 142 383 384
def qi8 : Obj := Hd.oF "is_start" jW (.str "bankwalk.walks" 336) (.ref 143)
def qm3 : Obj := Hd.oN jn 389
def qm9 : Obj := Hd.oG "words_of" jO
def qkK : Obj := Hd.oK "words_of" 386 88 3 181 145 146 .none (.ref 147) (.ref 148) 149 392 393
def qjW : Obj := Hd.oF "words_of" jO (.str "bankwalk.walks" 336) (.ref 150)
def qnj : Obj := Hd.oN CQ 400
def qm7 : Obj := Hd.oG "factors_of" zR
def qkZ : Obj := Hd.oK "factors_of" 397 93 1 181 152 153 .none (.ref 154) (.ref 155) 156 401 402
def qhj : Obj := Hd.oF "factors_of" zR (.str "bankwalk.rests" 395) (.ref 157)
def qm1 : Obj := Hd.oG "rests_by" jQ
def qi4 : Obj := Hd.oK "rests_by" 404 97 3 181 159 160 .none .none .none 161 407 408
def qem : Obj := Hd.oF "rests_by" jQ (.str "bankwalk.rests" 395) (.ref 162)
def qi3 : Obj := Hd.oN JD 413
def qkP : Obj := Hd.oG "rests_of" jP
def qd6 : Obj := Hd.oK "rests_of" 410 100 2 181 164 165 .none (.ref 166) (.ref 167) 168 415 416
def qdg : Obj := Hd.oF "rests_of" jP (.str "bankwalk.rests" 395) (.ref 169)
def qi9 : Obj := Hd.oN JD 421
def qhX : Obj := Hd.oG "is_unlike" jh
def qdl : Obj := Hd.oK "is_unlike" 418 102 2 181 171 172 .none (.ref 173) (.ref 174) 175 423 424
def qeW : Obj := Hd.oF "is_unlike" jh (.str "bankwalk.rests" 395) (.ref 176)
def qle : Obj := Hd.oN E6 429
def qhi : Obj := Hd.oG "longest" Q2
def qdb : Obj := Hd.oK "longest" 426 104 3 181 178 179 .none (.ref 180) (.ref 181) 182 435 436
def qdq : Obj := Hd.oF "longest" Q2 (.str "bankwalk.rests" 395) (.ref 183)
def qhm : Obj := Hd.oN XS 441
def qlo : Obj := Hd.oG "widest" Z8
def qdE : Obj := Hd.oK "widest" 438 110 2 181 185 186 .none (.ref 187) (.ref 188) 189 444 445
def qdL : Obj := Hd.oF "widest" Z8 (.str "bankwalk.rests" 395) (.ref 190)
def qkB : Obj := Hd.oG "blocks" JC
def qeb : Obj := Hd.oK "blocks" 447 115 1 181 192 193 .none .none .none 194 450 451
def qcR : Obj := Hd.oF "blocks" JC (.str "bankwalk.rests" 395) (.ref 195)
def qhu : Obj := Hd.oN JD 456
def qlp : Obj := Hd.oG "is_free" Q4
def qeT : Obj := Hd.oK "is_free" 453 117 2 181 197 198 .none (.ref 199) (.ref 200) 201 458 459
def qdi : Obj := Hd.oF "is_free" Q4 (.str "bankwalk.rests" 395) (.ref 202)
def qlt : Obj := Hd.oG "free_steps" zU
def qeF : Obj := Hd.oK "free_steps" 461 119 2 181 204 205 .none .none .none 206 464 465
def qeQ : Obj := Hd.oF "free_steps" zU (.str "bankwalk.rests" 395) (.ref 207)
def qkU : Obj := Hd.oG "banks_from" zM
def qcS : Obj := Hd.oK "banks_from" 469 123 3 181 209 210 .none .none .none 211 472 473
def qdn : Obj := Hd.oF "banks_from" zM (.str "bankwalk.clashes" 467) (.ref 212)
def qlv : Obj := Hd.oN EH 478
def qjv : Obj := Hd.oG "clash" VX
def qeU : Obj := Hd.oK "clash" 475 125 2 181 214 215 .none (.ref 216) (.ref 217) 218 482 483
def qeE : Obj := Hd.oF "clash" VX (.str "bankwalk.clashes" 467) (.ref 219)
def qiM : Obj := Hd.oN ED 490
def qhc : Obj := Hd.oG "_law_mix" QS
def qeK : Obj := Hd.oK "_law_mix" 487 132 2 181 221 222 .none (.ref 223) (.ref 224) 225 493 494
def qcY : Obj := Hd.oF "_law_mix" QS (.str "law_bankwalk_k26_known_rests" 485) (.ref 226)
def qiF : Obj := Hd.oN UK 499
def qj1 : Obj := Hd.oG "_law_left" jL
def qdv : Obj := Hd.oK "_law_left" 496 135 2 181 228 229 .none (.ref 230) (.ref 231) 232 503 504
def qe0 : Obj := Hd.oF "_law_left" jL (.str "law_bankwalk_k26_known_rests" 485) (.ref 233)
def qiZ : Obj := Hd.oN UP 509
def qha : Obj := Hd.oG "_law_pick" jU
def qdm : Obj := Hd.oK "_law_pick" 506 139 2 181 235 236 .none (.ref 237) (.ref 238) 239 512 513
def qdQ : Obj := Hd.oF "_law_pick" jU (.str "law_bankwalk_k26_known_rests" 485) (.ref 240)
def qiS : Obj := Hd.oN YS 518
def qhY : Obj := Hd.oG "_law_sides" jp
def qeM : Obj := Hd.oK "_law_sides" 515 146 1 181 242 243 .none (.ref 244) (.ref 245) 246 522 523
def qeg : Obj := Hd.oF "_law_sides" jp (.str "law_bankwalk_k26_known_rests" 485) (.ref 247)
def qjp : Obj := Hd.oN DQ 528
def qib : Obj := Hd.oG "_law_gcd" QP
def qd3 : Obj := Hd.oK "_law_gcd" 525 150 2 181 249 250 .none (.ref 251) (.ref 252) 253 530 531
def qcU : Obj := Hd.oF "_law_gcd" QP (.str "law_bankwalk_k26_known_rests" 485) (.ref 254)
def qia : Obj := Hd.oN QQ 536
def qif : Obj := Hd.oG "_law_skew" jM
def qcV : Obj := Hd.oK "_law_skew" 533 154 1 181 256 257 .none (.ref 258) (.ref 259) 260 541 542
def qeH : Obj := Hd.oF "_law_skew" jM (.str "law_bankwalk_k26_known_rests" 485) (.ref 261)
def qhx : Obj := Hd.oN YN 547
def qhV : Obj := Hd.oG "_law_rests" js
def qd8 : Obj := Hd.oK "_law_rests" 544 159 1 181 263 264 .none (.ref 265) (.ref 266) 267 553 554
def qdI : Obj := Hd.oF "_law_rests" js (.str "law_bankwalk_k26_known_rests" 485) (.ref 268)
def qh3 : Obj := Hd.oN jN 559
def qj9 : Obj := Hd.oG "_law_plain" ju
def qcT : Obj := Hd.oK "_law_plain" 556 167 1 181 270 271 .none (.ref 272) (.ref 273) 274 560 561
def qc0 : Obj := Hd.oF "_law_plain" ju (.str "law_bankwalk_k26_known_rests" 485) (.ref 275)
def qkf : Obj := Hd.oN jS 566
def qh2 : Obj := Hd.oG "_law_steps" jo
def qeu : Obj := Hd.oK "_law_steps" 563 169 1 181 277 278 .none (.ref 279) (.ref 280) 281 570 571
def qdc : Obj := Hd.oF "_law_steps" jo (.str "law_bankwalk_k26_known_rests" 485) (.ref 282)
def qhH : Obj := Hd.oG "_law_same" jK
def qdZ : Obj := Hd.oK "_law_same" 573 173 2 181 284 285 .none .none .none 286 576 577
def qej : Obj := Hd.oF "_law_same" jK (.str "law_bankwalk_k26_known_rests" 485) (.ref 287)
def qiN : Obj := Hd.oN QV 582
def qg8 : Obj := Hd.oG "_law_fold" jR
def qcZ : Obj := Hd.oK "_law_fold" 579 181 2 181 289 290 .none (.ref 291) (.ref 292) 293 586 587
def qdp : Obj := Hd.oF "_law_fold" jR (.str "law_bankwalk_k26_known_rests" 485) (.ref 294)
def qk3 : Obj := Hd.oN qa4 592
def qhp : Obj := Hd.oG "law" JQ
def qc1 : Obj := Hd.oK "law" 589 185 1 181 296 297 .none (.ref 298) (.ref 299) 300 608 609
def qdW : Obj := Hd.oF "law" JQ (.str "law_bankwalk_k26_known_rests" 485) (.ref 301)
def qfQ (P : Params) : PySem.W.BT := (Hd.nd (PySem.W.boot_o_0 P) (Hd.nd (PySem.W.boot_o_1 P) (Hd.nd (qlD P) (Hd.nd (PySem.W.boot_o_7 P) (Hd.nd qM (Hd.nd qhr (Hd.nd qjS (Hd.nd qmS (Hd.lf qcU) .nil) (Hd.lf qdL)) (Hd.nd zW (Hd.nd qM (Hd.lf qdZ) .nil) (Hd.lf qiM))) (Hd.nd qjI (Hd.nd qkh (Hd.nd qlF (Hd.lf zW) .nil) (Hd.lf qeF)) (Hd.nd qM (Hd.lf qhX) (Hd.lf qha)))) (Hd.nd zW (Hd.nd qM (Hd.nd qM (Hd.nd qM (Hd.lf qM) .nil) (Hd.lf qhu)) (Hd.nd qj5 (Hd.nd qM (Hd.lf qdp) .nil) (Hd.lf qM))) (Hd.nd qii (Hd.nd qgh (Hd.nd qjW (Hd.lf qkf) .nil) (Hd.lf zW)) (Hd.nd qgy (Hd.lf qdb) (Hd.lf qeM))))) (Hd.nd qM (Hd.nd qn1 (Hd.nd qfM (Hd.nd qe5 (Hd.nd zW (Hd.lf qM) .nil) (Hd.lf qeb)) (Hd.nd qe7 (Hd.nd qem (Hd.lf qiN) .nil) (Hd.lf qcY))) (Hd.nd (qhG P) (Hd.nd zW (Hd.nd qm3 (Hd.lf qcT) .nil) (Hd.lf qkU)) (Hd.nd (qgI P) (Hd.lf zW) (Hd.lf zW)))) (Hd.nd qfi (Hd.nd qM (Hd.nd qM (Hd.nd qjz (Hd.lf qhV) .nil) (Hd.lf qdi)) (Hd.nd qe4 (Hd.nd qM (Hd.lf qM) .nil) (Hd.lf qM))) (Hd.nd qjk (Hd.nd qkS (Hd.nd qM (Hd.lf qdc) .nil) (Hd.lf qeU)) (Hd.nd qfP (Hd.lf qhm) (Hd.lf qjp)))))) (Hd.nd (PySem.W.boot_o_5 P) (Hd.nd (PySem.W.boot_o_9 P) (Hd.nd qof (Hd.nd qiC (Hd.nd qkm (Hd.nd qlL (Hd.lf zW) .nil) (Hd.lf zW)) (Hd.nd qM (Hd.nd qm1 (Hd.lf qM) .nil) (Hd.lf qhc))) (Hd.nd qkl (Hd.nd qfZ (Hd.nd qM (Hd.lf qM) .nil) (Hd.lf qM)) (Hd.nd qgJ (Hd.lf qeW) (Hd.lf qdQ)))) (Hd.nd qM (Hd.nd qlu (Hd.nd qfE (Hd.nd qnN (Hd.lf qhx) .nil) (Hd.lf qlp)) (Hd.nd qiz (Hd.nd qd6 (Hd.lf zW) .nil) (Hd.lf qdv))) (Hd.nd (qis P) (Hd.nd qM (Hd.nd zW (Hd.lf qh2) .nil) (Hd.lf qM)) (Hd.nd zW (Hd.lf qM) (Hd.lf qM))))) (Hd.nd qlW (Hd.nd qe6 (Hd.nd qcB (Hd.nd zW (Hd.nd qj0 (Hd.lf qcV) .nil) (Hd.lf qM)) (Hd.nd qM (Hd.nd zW (Hd.lf qg8) .nil) (Hd.lf zW))) (Hd.nd zW (Hd.nd qM (Hd.nd qm9 (Hd.lf qM) .nil) (Hd.lf qdn)) (Hd.nd qfq (Hd.lf qM) (Hd.lf qM)))) (Hd.nd qM (Hd.nd qip (Hd.nd qiR (Hd.nd zW (Hd.lf qdI) .nil) (Hd.lf zW)) (Hd.nd zW (Hd.nd qi9 (Hd.lf qc1) .nil) (Hd.lf qiZ))) (Hd.nd qM (Hd.nd qfV (Hd.nd qkZ (Hd.lf zW) .nil) (Hd.lf qM)) (Hd.nd qM (Hd.lf qlo) (Hd.lf qib))))))) (Hd.nd (PySem.W.boot_o_2 P) (Hd.nd (PySem.W.boot_o_4 P) (Hd.nd (PySem.W.boot_o_8 P) (Hd.nd zW (Hd.nd qM (Hd.nd qM (Hd.nd qjY (Hd.lf qM) .nil) (Hd.lf qM)) (Hd.nd qig (Hd.nd zW (Hd.lf qej) .nil) (Hd.lf qM))) (Hd.nd qkV (Hd.nd qfY (Hd.nd qi8 (Hd.lf qh3) .nil) (Hd.lf qeQ)) (Hd.nd qkw (Hd.lf qdl) (Hd.lf qdm)))) (Hd.nd qjx (Hd.nd zW (Hd.nd qh8 (Hd.nd zW (Hd.lf zW) .nil) (Hd.lf qM)) (Hd.nd qM (Hd.nd qkP (Hd.lf qM) .nil) (Hd.lf qj1))) (Hd.nd qM (Hd.nd qft (Hd.nd qM (Hd.lf qM) .nil) (Hd.lf qlv)) (Hd.nd qM (Hd.lf qdq) (Hd.lf qeg))))) (Hd.nd qnq (Hd.nd qne (Hd.nd qje (Hd.nd qM (Hd.nd qmn (Hd.lf qif) .nil) (Hd.lf qcR)) (Hd.nd qgs (Hd.nd qM (Hd.lf qM) .nil) (Hd.lf qM))) (Hd.nd qM (Hd.nd qk1 (Hd.nd qM (Hd.lf qc0) .nil) (Hd.lf qcS)) (Hd.nd qfy (Hd.lf qle) (Hd.lf qiS)))) (Hd.nd qfL (Hd.nd (qlg P) (Hd.nd zW (Hd.nd qM (Hd.lf qd8) .nil) (Hd.lf qM)) (Hd.nd qM (Hd.nd zW (Hd.lf qhp) .nil) (Hd.lf zW))) (Hd.nd qiE (Hd.nd qf0 (Hd.nd qm7 (Hd.lf qM) .nil) (Hd.lf qeE)) (Hd.nd qgO (Hd.lf qM) (Hd.lf qM)))))) (Hd.nd (PySem.W.boot_o_6 P) (Hd.nd (PySem.W.boot_o_10 P) (Hd.nd qM (Hd.nd qfT (Hd.nd qgd (Hd.nd qM (Hd.lf qia) .nil) (Hd.lf qkB)) (Hd.nd qkj (Hd.nd qi4 (Hd.lf zW) .nil) (Hd.lf qeK))) (Hd.nd qcB (Hd.nd qM (Hd.nd zW (Hd.lf qj9) .nil) (Hd.lf zW)) (Hd.nd qfh (Hd.lf qM) (Hd.lf qM)))) (Hd.nd qhU (Hd.nd qjD (Hd.nd qfk (Hd.nd qk2 (Hd.lf qM) .nil) (Hd.lf qeT)) (Hd.nd qgo (Hd.nd qdg (Hd.lf qk3) .nil) (Hd.lf qe0))) (Hd.nd qkz (Hd.nd zW (Hd.nd qnj (Hd.lf qeu) .nil) (Hd.lf qjv)) (Hd.nd qi1 (Hd.lf zW) (Hd.lf zW))))) (Hd.nd qlQ (Hd.nd qM (Hd.nd (qjE P) (Hd.nd qhy (Hd.nd qhB (Hd.lf qeH) .nil) (Hd.lf zW)) (Hd.nd zW (Hd.nd qi3 (Hd.lf qcZ) .nil) (Hd.lf qiF))) (Hd.nd qiX (Hd.nd qkQ (Hd.nd qkK (Hd.lf zW) .nil) (Hd.lf qM)) (Hd.nd qgk (Hd.lf qhi) (Hd.lf qhY)))) (Hd.nd zW (Hd.nd qhg (Hd.nd qM (Hd.nd qnY (Hd.lf qM) .nil) (Hd.lf qlt)) (Hd.nd qg6 (Hd.nd qM (Hd.lf qdW) .nil) (Hd.lf qM))) (Hd.nd zW (Hd.nd qM (Hd.nd qhj (Hd.lf qhH) .nil) (Hd.lf zW)) (Hd.nd zW (Hd.lf qdE) (Hd.lf qd3))))))))
abbrev qdX : List Stmt := (qaQ.drop 19).take 31
set_option maxRecDepth 100000 in
set_option maxHeartbeats 0 in
theorem qi2 (w : World) (os : OsState) : PySem.W.segRunT treeTable PySem.Challenge.pw_bankwalk_k26_known_rests w 11 (some (Value.ref 6)) 1 869 (⟨qlm w.params,125,{ },#[],{ },362,os⟩ : PySem.W.SharedT) (PySem.W.piecesOf qdX qjX CW ⟨66,0,67,55⟩ qku) = some (.next,(⟨qfQ w.params,303,{ },#[],{ },611,os⟩ : PySem.W.SharedT),CW,⟨185,0,207,15⟩) := by kernel_rfl
abbrev qfU (P : Params) : Heap := PySem.W.absHeap (qfQ P) 303 { }
def Kf (P : Params) : PySem.W.Frag := [(3,qlD P),(20,qne),(21,qe6),(27,qfi),(28,qfL),(34,qfT),(35,qfM),(66,qgd),(67,qe5),(73,qfE),(74,qfk),(80,qfY),(81,qfZ),(87,qgh),(88,qft),(92,qf0),(93,qfV),(99,qe7),(100,qgs),(106,qgo),(107,qe4),(113,qgJ),(114,qfh),(115,qgI P),(116,qfy),(117,qfq),(118,qgk),(119,qgy),(123,qfP),(124,qgO),(128,qjY),(129,qlL),(133,qj0),(134,qhB),(138,qk2),(139,qjz),(143,qlF),(144,qi8),(150,qkK),(151,qjW),(157,qkZ),(158,qhj),(162,qi4),(163,qem),(169,qd6),(170,qdg),(176,qdl),(177,qeW),(183,qdb),(184,qdq),(190,qdE),(191,qdL),(195,qeb),(196,qcR),(202,qeT),(203,qdi),(207,qeF),(208,qeQ),(212,qcS),(213,qdn),(219,qeU),(220,qeE),(226,qeK),(227,qcY),(233,qdv),(234,qe0),(240,qdm),(241,qdQ),(247,qeM),(248,qeg),(254,qd3),(255,qcU),(261,qcV),(262,qeH),(268,qd8),(269,qdI),(275,qcT),(276,qc0),(282,qeu),(283,qdc),(287,qdZ),(288,qej),(294,qcZ),(295,qdp),(301,qc1),(302,qdW)]
theorem qhv {l : PySem.W.OpenLaw} {w : World} {h : Heap} {mg : Str → Option Value} {fa : Addr} (X : (Kf w.params).In h) (G : h.Ns mainGlobals mg) (hfa : mg "law" = some (.ref fa)) :
  ∃ fd : FuncData,(∀ (s : Shared) (v : Value),BindsTo s fd ⟨[v],[]⟩ [("_law_script",v)])∧∀ base : Heap,(Kf w.params).In base → base.Ns mainGlobals mg → FnOk l.prog w (Kf w.params) mg base CX0 8 fa fd ["_law_script"] (lSp (Kf w.params) WW) := by
 have e := hfa.symm.trans (Hd.q5 X G "law" (.ref 302) (by kernel_rfl))
 cases e
 have F0 := Hd.zh (K := Kf w.params) "is_number" je 21 (.str "bankwalk.basics" 187) (.ref 20) (by kernel_rfl) (by kernel_rfl) (by kernel_rfl)
 have b0 := F0.binds (ps := YQ) fun _ _ _ _ _ _ us hl => by obtain ⟨_,rfl⟩ := Pu.MJ hl;rfl
 have m0 := Hd.q5 X G "is_number" (.ref 21) (by kernel_rfl)
 have F1 := Hd.zh (K := Kf w.params) "is_pair" QM 28 (.str "bankwalk.basics" 187) (.ref 27) (by kernel_rfl) (by kernel_rfl) (by kernel_rfl)
 have b1 := F1.binds (ps := DK) fun _ _ _ _ _ _ us hl => by obtain ⟨_,rfl⟩ := Pu.MJ hl;rfl
 have m1 := Hd.q5 X G "is_pair" (.ref 28) (by kernel_rfl)
 have F2 := Hd.zh (K := Kf w.params) "first_alike" zz 35 (.str "bankwalk.basics" 187) (.ref 34) (by kernel_rfl) (by kernel_rfl) (by kernel_rfl)
 have b2 := F2.binds (ps := ZH) fun _ _ _ _ _ _ us hl => by obtain ⟨_,rfl⟩ := Pu.MJ hl;rfl
 have m2 := Hd.q5 X G "first_alike" (.ref 35) (by kernel_rfl)
 have F3 := Hd.zh (K := Kf w.params) "size_of" Q1 67 (.str "bankwalk.dealings" 248) (.ref 66) (by kernel_rfl) (by kernel_rfl) (by kernel_rfl)
 have b3 := F3.binds (ps := EV) fun _ _ _ _ _ _ us hl => by obtain ⟨_,rfl⟩ := Pu.MJ hl;rfl
 have m3 := Hd.q5 X G "size_of" (.ref 67) (by kernel_rfl)
 have F4 := Hd.zh (K := Kf w.params) "number_of" jr 74 (.str "bankwalk.dealings" 248) (.ref 73) (by kernel_rfl) (by kernel_rfl) (by kernel_rfl)
 have b4 := F4.binds (ps := YZ) fun _ _ _ _ _ _ us hl => by obtain ⟨_,_,rfl⟩ := Pu.W6 hl;rfl
 have m4 := Hd.q5 X G "number_of" (.ref 74) (by kernel_rfl)
 have F5 := Hd.zh (K := Kf w.params) "is_word" QW 81 (.str "bankwalk.dealings" 248) (.ref 80) (by kernel_rfl) (by kernel_rfl) (by kernel_rfl)
 have b5 := F5.binds (ps := DM) fun _ _ _ _ _ _ us hl => by obtain ⟨_,_,rfl⟩ := Pu.W6 hl;rfl
 have m5 := Hd.q5 X G "is_word" (.ref 81) (by kernel_rfl)
 have F6 := Hd.zh (K := Kf w.params) "odd_in_common" jx 88 (.str "bankwalk.dealings" 248) (.ref 87) (by kernel_rfl) (by kernel_rfl) (by kernel_rfl)
 have b6 := F6.binds (ps := E7) fun _ _ _ _ _ _ us hl => by obtain ⟨_,_,rfl⟩ := Pu.W6 hl;rfl
 have m6 := Hd.q5 X G "odd_in_common" (.ref 88) (by kernel_rfl)
 have F7 := Hd.zh (K := Kf w.params) "bits_bank" JE 93 (.str "bankwalk.dealings" 248) (.ref 92) (by kernel_rfl) (by kernel_rfl) (by kernel_rfl)
 have b7 := F7.binds (ps := TB) fun _ _ _ _ _ _ us hl => by obtain ⟨_,_,rfl⟩ := Pu.W6 hl;rfl
 have m7 := Hd.q5 X G "bits_bank" (.ref 93) (by kernel_rfl)
 have F8 := Hd.zh (K := Kf w.params) "parted" DO 100 (.str "bankwalk.dealings" 248) (.ref 99) (by kernel_rfl) (by kernel_rfl) (by kernel_rfl)
 have b8 := F8.binds (ps := qcf) fun _ _ _ _ _ _ us hl => by obtain ⟨_,_,_,rfl⟩ := Pu.qei hl;rfl
 have m8 := Hd.q5 X G "parted" (.ref 100) (by kernel_rfl)
 have F9 := Hd.zh (K := Kf w.params) "joined_bank" QG 107 (.str "bankwalk.dealings" 248) (.ref 106) (by kernel_rfl) (by kernel_rfl) (by kernel_rfl)
 have b9 := F9.binds (ps := XH) fun _ _ _ _ _ _ us hl => by obtain ⟨_,_,_,rfl⟩ := Pu.qei hl;rfl
 have m9 := Hd.q5 X G "joined_bank" (.ref 107) (by kernel_rfl)
 have F10 := Hd.zh (K := Kf w.params) "bank_in" QT 114 (.str "bankwalk.dealings" 248) (.ref 113) (by kernel_rfl) (by kernel_rfl) (by kernel_rfl)
 have b10 := F10.binds (ps := EU) fun _ _ _ _ _ _ us hl => by obtain ⟨_,_,rfl⟩ := Pu.W6 hl;rfl
 have m10 := Hd.q5 X G "bank_in" (.ref 114) (by kernel_rfl)
 have F11 := Hd.zh (K := Kf w.params) "strung" JM 124 (.str "bankwalk.walks" 336) (.ref 123) (by kernel_rfl) (by kernel_rfl) (by kernel_rfl)
 have b11 := F11.binds (ps := X0) fun _ _ _ _ _ _ us hl => by obtain ⟨_,_,_,rfl⟩ := Pu.qei hl;rfl
 have m11 := Hd.q5 X G "strung" (.ref 124) (by kernel_rfl)
 have F12 := Hd.zh (K := Kf w.params) "cells_of" jY 129 (.str "bankwalk.walks" 336) (.ref 128) (by kernel_rfl) (by kernel_rfl) (by kernel_rfl)
 have b12 := F12.binds (ps := UM) fun _ _ _ _ _ _ us hl => by obtain ⟨_,rfl⟩ := Pu.MJ hl;rfl
 have m12 := Hd.q5 X G "cells_of" (.ref 129) (by kernel_rfl)
 have F13 := Hd.zh (K := Kf w.params) "starts" JG 134 (.str "bankwalk.walks" 336) (.ref 133) (by kernel_rfl) (by kernel_rfl) (by kernel_rfl)
 have b13 := F13.binds (ps := CD) fun _ _ _ _ _ _ us hl => by obtain ⟨_,_,rfl⟩ := Pu.W6 hl;rfl
 have m13 := Hd.q5 X G "starts" (.ref 134) (by kernel_rfl)
 have F14 := Hd.zh (K := Kf w.params) "shifted" QL 139 (.str "bankwalk.walks" 336) (.ref 138) (by kernel_rfl) (by kernel_rfl) (by kernel_rfl)
 have b14 := F14.binds (ps := EQ) fun _ _ _ _ _ _ us hl => by obtain ⟨_,_,rfl⟩ := Pu.W6 hl;rfl
 have m14 := Hd.q5 X G "shifted" (.ref 139) (by kernel_rfl)
 have F15 := Hd.zh (K := Kf w.params) "is_start" jW 144 (.str "bankwalk.walks" 336) (.ref 143) (by kernel_rfl) (by kernel_rfl) (by kernel_rfl)
 have b15 := F15.binds (ps := UJ) fun _ _ _ _ _ _ us hl => by obtain ⟨_,_,_,rfl⟩ := Pu.qei hl;rfl
 have m15 := Hd.q5 X G "is_start" (.ref 144) (by kernel_rfl)
 have F16 := Hd.zh (K := Kf w.params) "words_of" jO 151 (.str "bankwalk.walks" 336) (.ref 150) (by kernel_rfl) (by kernel_rfl) (by kernel_rfl)
 have b16 := F16.binds (ps := UC) fun _ _ _ _ _ _ us hl => by obtain ⟨_,_,_,rfl⟩ := Pu.qei hl;rfl
 have m16 := Hd.q5 X G "words_of" (.ref 151) (by kernel_rfl)
 have F17 := Hd.zh (K := Kf w.params) "factors_of" zR 158 (.str "bankwalk.rests" 395) (.ref 157) (by kernel_rfl) (by kernel_rfl) (by kernel_rfl)
 have b17 := F17.binds (ps := JN) fun _ _ _ _ _ _ us hl => by obtain ⟨_,rfl⟩ := Pu.MJ hl;rfl
 have m17 := Hd.q5 X G "factors_of" (.ref 158) (by kernel_rfl)
 have F18 := Hd.zh (K := Kf w.params) "rests_by" jQ 163 (.str "bankwalk.rests" 395) (.ref 162) (by kernel_rfl) (by kernel_rfl) (by kernel_rfl)
 have b18 := F18.binds (ps := UA) fun _ _ _ _ _ _ us hl => by obtain ⟨_,_,_,rfl⟩ := Pu.qei hl;rfl
 have m18 := Hd.q5 X G "rests_by" (.ref 163) (by kernel_rfl)
 have F19 := Hd.zh (K := Kf w.params) "rests_of" jP 170 (.str "bankwalk.rests" 395) (.ref 169) (by kernel_rfl) (by kernel_rfl) (by kernel_rfl)
 have b19 := F19.binds (ps := UE) fun _ _ _ _ _ _ us hl => by obtain ⟨_,_,rfl⟩ := Pu.W6 hl;rfl
 have m19 := Hd.q5 X G "rests_of" (.ref 170) (by kernel_rfl)
 have F20 := Hd.zh (K := Kf w.params) "is_unlike" jh 177 (.str "bankwalk.rests" 395) (.ref 176) (by kernel_rfl) (by kernel_rfl) (by kernel_rfl)
 have b20 := F20.binds (ps := YT) fun _ _ _ _ _ _ us hl => by obtain ⟨_,_,rfl⟩ := Pu.W6 hl;rfl
 have m20 := Hd.q5 X G "is_unlike" (.ref 177) (by kernel_rfl)
 have F21 := Hd.zh (K := Kf w.params) "longest" Q2 184 (.str "bankwalk.rests" 395) (.ref 183) (by kernel_rfl) (by kernel_rfl) (by kernel_rfl)
 have b21 := F21.binds (ps := EN) fun _ _ _ _ _ _ us hl => by obtain ⟨_,_,_,rfl⟩ := Pu.qei hl;rfl
 have m21 := Hd.q5 X G "longest" (.ref 184) (by kernel_rfl)
 have F22 := Hd.zh (K := Kf w.params) "widest" Z8 191 (.str "bankwalk.rests" 395) (.ref 190) (by kernel_rfl) (by kernel_rfl) (by kernel_rfl)
 have b22 := F22.binds (ps := CH) fun _ _ _ _ _ _ us hl => by obtain ⟨_,_,rfl⟩ := Pu.W6 hl;rfl
 have m22 := Hd.q5 X G "widest" (.ref 191) (by kernel_rfl)
 have F23 := Hd.zh (K := Kf w.params) "blocks" JC 196 (.str "bankwalk.rests" 395) (.ref 195) (by kernel_rfl) (by kernel_rfl) (by kernel_rfl)
 have b23 := F23.binds (ps := W9) fun _ _ _ _ _ _ us hl => by obtain ⟨_,rfl⟩ := Pu.MJ hl;rfl
 have m23 := Hd.q5 X G "blocks" (.ref 196) (by kernel_rfl)
 have F24 := Hd.zh (K := Kf w.params) "is_free" Q4 203 (.str "bankwalk.rests" 395) (.ref 202) (by kernel_rfl) (by kernel_rfl) (by kernel_rfl)
 have b24 := F24.binds (ps := DL) fun _ _ _ _ _ _ us hl => by obtain ⟨_,_,rfl⟩ := Pu.W6 hl;rfl
 have m24 := Hd.q5 X G "is_free" (.ref 203) (by kernel_rfl)
 have F25 := Hd.zh (K := Kf w.params) "free_steps" zU 208 (.str "bankwalk.rests" 395) (.ref 207) (by kernel_rfl) (by kernel_rfl) (by kernel_rfl)
 have b25 := F25.binds (ps := JJ) fun _ _ _ _ _ _ us hl => by obtain ⟨_,_,rfl⟩ := Pu.W6 hl;rfl
 have m25 := Hd.q5 X G "free_steps" (.ref 208) (by kernel_rfl)
 have F26 := Hd.zh (K := Kf w.params) "banks_from" zM 213 (.str "bankwalk.clashes" 467) (.ref 212) (by kernel_rfl) (by kernel_rfl) (by kernel_rfl)
 have b26 := F26.binds (ps := JI) fun _ _ _ _ _ _ us hl => by obtain ⟨_,_,_,rfl⟩ := Pu.qei hl;rfl
 have m26 := Hd.q5 X G "banks_from" (.ref 213) (by kernel_rfl)
 have F27 := Hd.zh (K := Kf w.params) "clash" VX 220 (.str "bankwalk.clashes" 467) (.ref 219) (by kernel_rfl) (by kernel_rfl) (by kernel_rfl)
 have b27 := F27.binds (ps := T2) fun _ _ _ _ _ _ us hl => by obtain ⟨_,_,rfl⟩ := Pu.W6 hl;rfl
 have m27 := Hd.q5 X G "clash" (.ref 220) (by kernel_rfl)
 have F28 := Hd.zh (K := Kf w.params) "_law_mix" QS 227 (.str "law_bankwalk_k26_known_rests" 485) (.ref 226) (by kernel_rfl) (by kernel_rfl) (by kernel_rfl)
 have b28 := F28.binds (ps := EX) fun _ _ _ _ _ _ us hl => by obtain ⟨_,_,rfl⟩ := Pu.W6 hl;rfl
 have m28 := Hd.q5 X G "_law_mix" (.ref 227) (by kernel_rfl)
 have F29 := Hd.zh (K := Kf w.params) "_law_left" jL 234 (.str "law_bankwalk_k26_known_rests" 485) (.ref 233) (by kernel_rfl) (by kernel_rfl) (by kernel_rfl)
 have b29 := F29.binds (ps := UD) fun _ _ _ _ _ _ us hl => by obtain ⟨_,_,rfl⟩ := Pu.W6 hl;rfl
 have m29 := Hd.q5 X G "_law_left" (.ref 234) (by kernel_rfl)
 have F30 := Hd.zh (K := Kf w.params) "_law_pick" jU 241 (.str "law_bankwalk_k26_known_rests" 485) (.ref 240) (by kernel_rfl) (by kernel_rfl) (by kernel_rfl)
 have b30 := F30.binds (ps := UT) fun _ _ _ _ _ _ us hl => by obtain ⟨_,_,rfl⟩ := Pu.W6 hl;rfl
 have m30 := Hd.q5 X G "_law_pick" (.ref 241) (by kernel_rfl)
 have F31 := Hd.zh (K := Kf w.params) "_law_sides" jp 248 (.str "law_bankwalk_k26_known_rests" 485) (.ref 247) (by kernel_rfl) (by kernel_rfl) (by kernel_rfl)
 have b31 := F31.binds (ps := YU) fun _ _ _ _ _ _ us hl => by obtain ⟨_,rfl⟩ := Pu.MJ hl;rfl
 have m31 := Hd.q5 X G "_law_sides" (.ref 248) (by kernel_rfl)
 have F32 := Hd.zh (K := Kf w.params) "_law_gcd" QP 255 (.str "law_bankwalk_k26_known_rests" 485) (.ref 254) (by kernel_rfl) (by kernel_rfl) (by kernel_rfl)
 have b32 := F32.binds (ps := ER) fun _ _ _ _ _ _ us hl => by obtain ⟨_,_,rfl⟩ := Pu.W6 hl;rfl
 have m32 := Hd.q5 X G "_law_gcd" (.ref 255) (by kernel_rfl)
 have F33 := Hd.zh (K := Kf w.params) "_law_skew" jM 262 (.str "law_bankwalk_k26_known_rests" 485) (.ref 261) (by kernel_rfl) (by kernel_rfl) (by kernel_rfl)
 have b33 := F33.binds (ps := UR) fun _ _ _ _ _ _ us hl => by obtain ⟨_,rfl⟩ := Pu.MJ hl;rfl
 have m33 := Hd.q5 X G "_law_skew" (.ref 262) (by kernel_rfl)
 have F34 := Hd.zh (K := Kf w.params) "_law_rests" js 269 (.str "law_bankwalk_k26_known_rests" 485) (.ref 268) (by kernel_rfl) (by kernel_rfl) (by kernel_rfl)
 have b34 := F34.binds (ps := YW) fun _ _ _ _ _ _ us hl => by obtain ⟨_,rfl⟩ := Pu.MJ hl;rfl
 have m34 := Hd.q5 X G "_law_rests" (.ref 269) (by kernel_rfl)
 have F35 := Hd.zh (K := Kf w.params) "_law_plain" ju 276 (.str "law_bankwalk_k26_known_rests" 485) (.ref 275) (by kernel_rfl) (by kernel_rfl) (by kernel_rfl)
 have b35 := F35.binds (ps := YY) fun _ _ _ _ _ _ us hl => by obtain ⟨_,rfl⟩ := Pu.MJ hl;rfl
 have m35 := Hd.q5 X G "_law_plain" (.ref 276) (by kernel_rfl)
 have F36 := Hd.zh (K := Kf w.params) "_law_steps" jo 283 (.str "law_bankwalk_k26_known_rests" 485) (.ref 282) (by kernel_rfl) (by kernel_rfl) (by kernel_rfl)
 have b36 := F36.binds (ps := YV) fun _ _ _ _ _ _ us hl => by obtain ⟨_,rfl⟩ := Pu.MJ hl;rfl
 have m36 := Hd.q5 X G "_law_steps" (.ref 283) (by kernel_rfl)
 have F37 := Hd.zh (K := Kf w.params) "_law_same" jK 288 (.str "law_bankwalk_k26_known_rests" 485) (.ref 287) (by kernel_rfl) (by kernel_rfl) (by kernel_rfl)
 have b37 := F37.binds (ps := UL) fun _ _ _ _ _ _ us hl => by obtain ⟨_,_,rfl⟩ := Pu.W6 hl;rfl
 have m37 := Hd.q5 X G "_law_same" (.ref 288) (by kernel_rfl)
 have F38 := Hd.zh (K := Kf w.params) "_law_fold" jR 295 (.str "law_bankwalk_k26_known_rests" 485) (.ref 294) (by kernel_rfl) (by kernel_rfl) (by kernel_rfl)
 have b38 := F38.binds (ps := UO) fun _ _ _ _ _ _ us hl => by obtain ⟨_,_,rfl⟩ := Pu.W6 hl;rfl
 have m38 := Hd.q5 X G "_law_fold" (.ref 295) (by kernel_rfl)
 have F39 := Hd.zh (K := Kf w.params) "law" JQ 302 (.str "law_bankwalk_k26_known_rests" 485) (.ref 301) (by kernel_rfl) (by kernel_rfl) (by kernel_rfl)
 have g_isinstance := Hd.YR X G "isinstance" (by kernel_rfl)
 have g_bool := Hd.YR X G "bool" (by kernel_rfl)
 have g_int := Hd.YR X G "int" (by kernel_rfl)
 have g_len := Hd.YR X G "len" (by kernel_rfl)
 have g_tuple := Hd.YR X G "tuple" (by kernel_rfl)
 have g_range := Hd.YR X G "range" (by kernel_rfl)
 have g_enumerate := Hd.YR X G "enumerate" (by kernel_rfl)
 have g_sum := Hd.YR X G "sum" (by kernel_rfl)
 have g_list := Hd.YR X G "list" (by kernel_rfl)
 have g_STRIDES : Tb (Kf w.params) mg w "STRIDES" VL := ⟨115,_,4,Hd.q5 X G "STRIDES" (.ref 115) (by kernel_rfl),(show (Kf w.params).lookup 115 = some ⟨.type "dict",none,.dict #[⟨PyData.keyHash w.params "row",.str "row" 338,.ref 116⟩,⟨PyData.keyHash w.params "column",.str "column" 341,.ref 117⟩,⟨PyData.keyHash w.params "slant",.str "slant" 344,.ref 118⟩,⟨PyData.keyHash w.params "back",.str "back" 347,.ref 119⟩] 4,#[]⟩ by kernel_rfl),rfl,(.cons (v := .ref 116) rfl (K9 (show (Kf w.params).lookup 116 = some ⟨.type "tuple",none,.seq #[.int (0) 339,.int (1) 340] 0,#[]⟩ by kernel_rfl)) (.cons (v := .ref 117) rfl (K9 (show (Kf w.params).lookup 117 = some ⟨.type "tuple",none,.seq #[.int (1) 342,.int (0) 343] 0,#[]⟩ by kernel_rfl)) (.cons (v := .ref 118) rfl (K9 (show (Kf w.params).lookup 118 = some ⟨.type "tuple",none,.seq #[.int (1) 345,.int (1) 346] 0,#[]⟩ by kernel_rfl)) (.cons (v := .ref 119) rfl (K9 (show (Kf w.params).lookup 119 = some ⟨.type "tuple",none,.seq #[.int (1) 348,.int (-1) 350] 0,#[]⟩ by kernel_rfl)) .nil))))⟩
 have g_min := Hd.YR X G "min" (by kernel_rfl)
 have g_max := Hd.YR X G "max" (by kernel_rfl)
 have g_all := Hd.YR X G "all" (by kernel_rfl)
 have g_abs := Hd.YR X G "abs" (by kernel_rfl)
 have g_zip := Hd.YR X G "zip" (by kernel_rfl)
 have g_str := Hd.YR X G "str" (by kernel_rfl)
 refine ⟨PySem.W.fnOf "law" "law" (Q8 JQ) (zV JQ) (qh JQ) .none .none .none (.str "law_bankwalk_k26_known_rests" 485) none (.ref 301) .none,fun s v => .of_eq rfl,fun base _ _ => ?_⟩
 have O_is_number := RW (P := l.prog) (w := w) (base := base) (k := 0) F0 b0 m0  g_isinstance g_bool g_int RI
 have O_is_pair := MG (P := l.prog) (w := w) (base := base) (k := 1) F1 b1 m1 O_is_number g_len g_isinstance g_tuple MF
 have O_first_alike := DX (P := l.prog) (w := w) (base := base) (k := 0) F2 b2 m2  g_len g_range Pv.WG
 have O_odd_in_common := JZ (P := l.prog) (w := w) (base := base) F6 b6 m6
 have O_bits_bank := Pu.Fn3.pz (JZ (P := l.prog) (w := w) (base := base) F7 b7 m7) false
 have O_parted := JZ (P := l.prog) (w := w) (base := base) F8 b8 m8
 have O_strung := qbk (P := l.prog) (w := w) (base := base) (k := 0) F11 b11 m11  g_range Pv.qaW
 have O_cells_of := T5 (P := l.prog) (w := w) (base := base) (k := 1) F12 b12 m12 O_strung g_list g_range g_STRIDES Pv.KH
 have O_shifted := MN (P := l.prog) (w := w) (base := base) (k := 2) F14 b14 m14 O_cells_of  MV
 have O_factors_of := CU (P := l.prog) (w := w) (base := base) (k := 0) F17 b17 m17   Pv.CS
 have O_rests_by := TX (P := l.prog) (w := w) (base := base) (k := 2) F18 b18 m18 O_cells_of g_tuple Pv.TK
 have O_rests_of := KO (P := l.prog) (w := w) (base := base) (k := 3) F19 b19 m19 (O_factors_of.mono (by decide)) O_rests_by  Pv.T6
 have O_is_unlike := C8 (P := l.prog) (w := w) (base := base) (k := 4) F20 b20 m20 O_rests_of (O_first_alike.mono (by decide))  Pv.RG
 have O_longest := M8 (P := l.prog) (w := w) (base := base) (k := 1) F21 b21 m21 O_factors_of  Pv.LW
 have O_widest := qbi (P := l.prog) (w := w) (base := base) (k := 5) F22 b22 m22 O_is_unlike  Pv.NW
 have O_blocks := qan (P := l.prog) (w := w) (base := base) (k := 6) F23 b23 m23 O_widest g_range Pv.qbx
 have O_law_mix := L9 (P := l.prog) (w := w) (base := base) (k := 0) F28 b28 m28   Bk.LY
 have O_law_left := T8 (P := l.prog) (w := w) (base := base) (k := 0) F29 b29 m29  g_len g_abs Bk.KJ
 have O_law_pick := TL (P := l.prog) (w := w) (base := base) (k := 1) F30 b30 m30 O_law_mix  Bk.T1
 have O_law_sides := SO (P := l.prog) (w := w) (base := base) (k := 2) F31 b31 m31 O_law_pick  Bk.SD
 have O_law_gcd := L7 (P := l.prog) (w := w) (base := base) (k := 0) F32 b32 m32   Bk.NB
 have O_law_skew := KN (P := l.prog) (w := w) (base := base) (k := 3) F33 b33 m33 O_law_sides (O_law_pick.mono (by decide))  KL
 have O_law_rests := RO (P := l.prog) (w := w) (base := base) (k := 3) F34 b34 m34 O_law_sides (O_law_pick.mono (by decide)) (O_law_gcd.mono (by decide)) g_range Bk.SY
 have O_law_plain := RE (P := l.prog) (w := w) (base := base) (k := 4) F35 b35 m35 (O_law_pick.mono (by decide)) O_law_rests O_law_skew  SI
 have O_law_steps := C7 (P := l.prog) (w := w) (base := base) (k := 2) F36 b36 m36 O_law_pick g_int SQ
 have O_law_fold := KM (P := l.prog) (w := w) (base := base) (k := 0) F38 b38 m38   TC
 have O_joined_bank := Pu.Fn3.pz (JZ (P := l.prog) (w := w) (base := base) F9 b9 m9) false
 have O_size_of_0 := Pu.Fn3.pz (JZ (P := l.prog) (w := w) (base := base) F3 b3 m3) false
 have O_size_of_1 := MP (P := l.prog) (w := w) (base := base) (k := 0) F3 b3 m3 O_size_of_0 g_len (Pv.M5 0)
 have O_number_of := RR (P := l.prog) (w := w) (base := base) (k := 1) F4 b4 m4 O_size_of_1  RU
 have O_is_word := LZ (P := l.prog) (w := w) (base := base) (k := 2) F5 b5 m5 O_is_pair (O_size_of_1.mono (by decide))  MU
 have O_bank_in := NE (P := l.prog) (w := w) (base := base) (k := 2) F10 b10 m10 O_number_of (O_bits_bank.mono (by decide)) (O_joined_bank.mono (by decide))  MD
 have O_starts := qaz (P := l.prog) (w := w) (base := base) (k := 2) F13 b13 m13 (O_size_of_1.mono (by decide)) O_cells_of g_min g_max g_range (Pv.qaT 1)
 have O_is_start := KD (P := l.prog) (w := w) (base := base) (k := 3) F15 b15 m15 O_shifted O_is_word (O_is_pair.mono (by decide)) g_all TZ
 have O_words_of := TH (P := l.prog) (w := w) (base := base) (k := 4) F16 b16 m16 O_is_start (O_shifted.mono (by decide))  TM
 have O_is_free := ND (P := l.prog) (w := w) (base := base) (k := 5) F24 b24 m24 O_is_unlike (O_starts.mono (by decide)) g_len (Pv.M9 1)
 have O_free_steps := XE (P := l.prog) (w := w) (base := base) (k := 6) F25 b25 m25 O_is_free g_range (Pv.C5 1)
 have O_banks_from := CB (P := l.prog) (w := w) (base := base) (k := 5) F26 b26 m26 O_words_of (O_bank_in.mono (by decide))  CA
 have O_clash := qcd (P := l.prog) (w := w) (base := base) (k := 6) F27 b27 m27 (O_starts.mono (by decide)) O_banks_from (O_first_alike.mono (by decide))  qcL
 have O_law_same_0 := JZ (P := l.prog) (w := w) (base := base) F37 b37 m37
 have O_law_same_1 := jG (P := l.prog) (w := w) (base := base) (k := 0) F37 b37 m37 O_law_same_0 g_isinstance g_list g_tuple g_zip g_all g_len g_str g_bool g_int (Bk.jI 0)
 have O_law_same_2 := jG (P := l.prog) (w := w) (base := base) (k := 1) F37 b37 m37 O_law_same_1 g_isinstance g_list g_tuple g_zip g_all g_len g_str g_bool g_int (Bk.jI 1)
 have O_law_same_3 := jG (P := l.prog) (w := w) (base := base) (k := 2) F37 b37 m37 O_law_same_2 g_isinstance g_list g_tuple g_zip g_all g_len g_str g_bool g_int (Bk.jI 2)
 have O_law_same_4 := jG (P := l.prog) (w := w) (base := base) (k := 3) F37 b37 m37 O_law_same_3 g_isinstance g_list g_tuple g_zip g_all g_len g_str g_bool g_int (Bk.jI 3)
 have O_law_same_5 := jG (P := l.prog) (w := w) (base := base) (k := 4) F37 b37 m37 O_law_same_4 g_isinstance g_list g_tuple g_zip g_all g_len g_str g_bool g_int (Bk.jI 4)
 exact qiP (k := 7) F39 (O_law_left.mono (by decide)) (O_law_plain.mono (by decide)) (O_law_steps.mono (by decide)) (O_longest.mono (by decide)) (O_law_gcd.mono (by decide)) (O_law_same_5.mono (by decide)) (O_law_pick.mono (by decide)) (O_law_fold.mono (by decide)) O_blocks O_clash O_free_steps g_len g_min g_range g_abs (qlq qkH)
set_option maxRecDepth 100000 in
set_option maxHeartbeats 0 in
theorem qj6 (w : World) (os : OsState) : PySem.W.topRun treeTable PySem.Challenge.pw_bankwalk_k26_known_rests w 11 (some (Value.ref 6)) 2 (⟨qfQ w.params,303,{ },#[],{ },611,os⟩ : PySem.W.SharedT).abs (PySem.W.restOf [] qjX CW ⟨185,0,207,15⟩ qku) = some ⟨qfU w.params,#[],{ },611,os⟩ := by kernel_rfl
theorem qnt : (qdC ++ (qdX ++ [])) = qaQ := by kernel_rfl
set_option maxRecDepth 100000 in
set_option maxHeartbeats 0 in
theorem qgL (w : World) (os : OsState) : PySem.W.topRun treeTable PySem.Challenge.pw_bankwalk_k26_known_rests w 11 (some (Value.ref 6)) (12 + (1 + (898 + (869 + 2)))) ⟨PySem.W.boot_heap w.params,Array.mk [],PySem.W.boot_drawn,PySem.W.boot_toks,os⟩ (PySem.W.topStub PySem.Challenge.pw_bankwalk_k26_known_rests) = some ⟨qfU w.params,#[],{ },611,os⟩ := by
 have h := (PySem.W.piece_app (PySem.W.segRun_of (qhO w os)) (PySem.W.piece_app (PySem.W.segRun_of (qi2 w os)) (qj6 w os)))
 rw [qnt] at h
 exact PySem.W.go_top (qkJ w os) (PySem.W.piece_block (qls w os) h)
abbrev Q : Program := PySem.W.view PySem.Challenge.pw_bankwalk_k26_known_rests [1,2,3,5,6,8,9,10,11,12,13,14,15,17,18,19,20,21,22,23,25,26,27,28,29,30,31,32,33,35,36,38,39,40,41,42,43,44,45,46,47,48,49]
set_option maxRecDepth 100000 in
set_option maxHeartbeats 0 in
theorem left : PySem.W.LeftO PySem.Challenge.pw_bankwalk_k26_known_rests Q ["STRIDES"] (fun s => PySem.W.xlAt Q [] s && PySem.W.recOk [] s) (fun s => ([3,20,21,27,28,34,35,66,67,73,74,80,81,87,88,92,93,99,100,106,107,113,114,115,116,117,118,119,123,124,128,129,133,134,138,139,143,144,150,151,157,158,162,163,169,170,176,177,183,184,190,191,195,196,202,203,207,208,212,213,219,220,226,227,233,234,240,241,247,248,254,255,261,262,268,269,275,276,282,283,287,288,294,295,301,302] : List Addr).map s.heap.get?) (fun w => (Kf w.params).map fun p => some p.2) 3656 :=
 PySem.W.LeftO.of_pieces (H₀ := PySem.W.boot_heap) (H₁ := qfU) (gs₀ := Array.mk []) (gs₁ := #[]) (d₀ := PySem.W.boot_drawn) (d₁ := { }) (k₀ := PySem.W.boot_toks) (k₁ := 611) (m₀ := 11) (ann := some (Value.ref 6)) (M := (12 + (1 + (898 + (869 + 2)))))
  (PySem.W.boot_open (by kernel_rfl) (by kernel_rfl) (fun s => by kernel_rfl)) (fun w => by kernel_rfl) qgL (by kernel_rfl) (fun w => by kernel_rfl)
end K26
open PySem PySem.W PyProof.Rows
set_option maxRecDepth 100000 in
set_option maxHeartbeats 0 in
theorem PySem.Challenge.cw_bankwalk_k26_known_rests_holds : PySem.Challenge.rw_bankwalk_k26_known_rests.Holds :=
 Hd.head (l := PySem.Challenge.rw_bankwalk_k26_known_rests) (q := K26.Q) (loose := ["STRIDES"]) (K := K26.Kf) (as := [3,20,21,27,28,34,35,66,67,73,74,80,81,87,88,92,93,99,100,106,107,113,114,115,116,117,118,119,123,124,128,129,133,134,138,139,143,144,150,151,157,158,162,163,169,170,176,177,183,184,190,191,195,196,202,203,207,208,212,213,219,220,226,227,233,234,240,241,247,248,254,255,261,262,268,269,275,276,282,283,287,288,294,295,301,302]) (N := 3656) (k := 8) (x := "_law_script")
  (d := ⟨"law",L2.Q8 K26.JQ,L2.zV K26.JQ,L2.qh K26.JQ,⟨185,0,207,15⟩⟩) (fun _ => by kernel_rfl) (by kernel_rfl) K26.left (by kernel_rfl) (by kernel_rfl) (by kernel_rfl) (by kernel_rfl) (by kernel_rfl)
  ⟨rfl,rfl,rfl,rfl,rfl,by decide +kernel⟩ (by w_witness2) rfl (by kernel_rfl) ⟨rfl,by decide,by decide,rfl⟩ (fun w => by kernel_rfl) fun w mg fa h KX G hmg => K26.qhv KX G hmg
