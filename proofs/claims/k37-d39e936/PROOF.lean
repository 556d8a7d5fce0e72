import PyProof.Rows.All
import Wide.All
import OpenK.AllK
import Wide.FinOn
import Lean
import PyProof.EqAt
import PyProof.EqKinds
import PyProof.TupleCall
import PyProof.NeKinds
import KE.KRevSl
import PyProof.FactsAll.bool_2
import PyProof.Rows.EqBoolInt
import PyProof.Rows.IntBool
import PySem.Challenge.RW_bankwalk_k37_bars_spoilt_anywhere
-- CHANGE: your row's module here,as the last of these VO
set_option Elab.async false
set_option genSizeOf false
set_option genInjectivity false
set_option linter.all false
set_option maxRecDepth 100000
namespace L2
open PySem PySem.Spec PyProof.Rows
noncomputable abbrev Key := Sum Int Str
noncomputable def qbj : Key → Value → Bool
 | .inl k,v => Value.isInt k v
 | .inr x,v => Value.isStrOf x v
noncomputable def qho (w : World) : Key → Int
 | .inl k => hashInt k
 | .inr x => hashStr w x
theorem zh : ∀ {k : Key} {v : Value},qbj k v = true → (∃ i t,k = Sum.inl i∧v = Value.int i t) ∨ (∃ x t,k = Sum.inr x∧v = Value.str x t)
 | .inl i,v,h => by
  obtain ⟨t,e⟩ := Value.isInt_shape (k := i) (v := v) h
  exact .inl ⟨i,t,rfl,e⟩
 | .inr x,v,h => by
  obtain ⟨t,e⟩ := Value.isStrOf_shape (x := x) (v := v) h
  exact .inr ⟨x,t,rfl,e⟩
theorem qb2 (a b : Int) : decide ((Sum.inl a : Key) = Sum.inl b) = (a == b) := by
 by_cases e : a = b
 ·subst e;simp
 ·have h : ¬ (Sum.inl a : Key) = Sum.inl b := fun q => e (Sum.inl.inj q)
  rw [decide_eq_false h]
  exact (beq_eq_false_iff_ne.mpr e).symm
theorem NA (a b : Str) : decide ((Sum.inr a : Key) = Sum.inr b) = decide (a = b) := by
 by_cases e : a = b
 ·subst e;simp
 ·have h : ¬ (Sum.inr a : Key) = Sum.inr b := fun q => e (Sum.inr.inj q)
  rw [decide_eq_false h,decide_eq_false e]
theorem qbk (a : Int) (b : Str) : decide ((Sum.inl a : Key) = Sum.inr b) = false := decide_eq_false (fun q => nomatch q)
theorem qc0 (a : Str) (b : Int) : decide ((Sum.inr a : Key) = Sum.inl b) = false := decide_eq_false (fun q => nomatch q)
noncomputable def WM (prog : Program) (w : World) : PySem.KeyKind prog w Key where
 is := qbj
 hash := qho w
 inj := fun v a b ha hb => by
  rcases zh ha with ⟨i,t,rfl,rfl⟩ | ⟨x,t,rfl,rfl⟩
  ·rcases zh hb with ⟨j,u,rfl,e⟩ | ⟨y,u,rfl,e⟩
   ·injection e with e1 _;rw [e1]
   ·exact nomatch e
  ·rcases zh hb with ⟨j,u,rfl,e⟩ | ⟨y,u,rfl,e⟩
   ·exact nomatch e
   ·injection e with e1 _;rw [e1]
 byValue := fun k v h => by
  rcases zh h with ⟨i,t,rfl,rfl⟩ | ⟨x,t,rfl,rfl⟩ <;> rfl
 pyHash := fun hv h => by
  rcases zh hv with ⟨i,t,rfl,rfl⟩ | ⟨x,t,rfl,rfl⟩
  ·exact wpAny_pyHash_int h
  ·exact wpAny_pyHash_str h
 eqBool := fun hu hv h => by
  rcases zh hu with ⟨i,t,rfl,rfl⟩ | ⟨x,t,rfl,rfl⟩
  ·rcases zh hv with ⟨j,u,rfl,rfl⟩ | ⟨y,u,rfl,rfl⟩
   ·rw [qb2] at h;exact wpAny_eqBool_int h
   ·rw [qbk] at h;exact SeqAt.EqAt.int_str i t y u _ _ _ _ h
  ·rcases zh hv with ⟨j,u,rfl,rfl⟩ | ⟨y,u,rfl,rfl⟩
   ·rw [qc0] at h;exact SeqAt.EqAt.str_int x t j u _ _ _ _ h
   ·rw [NA] at h;exact wpAny_eqBool_str h
 «strs» := fun k x t v h => by
  rcases zh h with ⟨i,u,rfl,e⟩ | ⟨y,u,rfl,e⟩
  ·exact nomatch e
  ·injection e with e1 _
   subst e1
   cases v <;> rfl
end L2
namespace L2
open PySem PySem.Spec PyProof.Rows
set_option genInjectivity true in
inductive V where
 | non | bl (b : Bool) | int (i : Int) | str (x : Str) | byt (b : Array UInt8) | flt (b : UInt64) | ref (a : Addr) | ty (n : String)
 deriving DecidableEq
noncomputable def jo : V → Value → Prop
 | .non,u => u = Value.none
 | .bl b,u => u = Value.bool b
 | .int i,u => ∃ t,u = Value.int i t
 | .str x,u => ∃ t,u = Value.str x t
 | .byt b,u => ∃ t,u = Value.bytes b t
 | .flt b,u => ∃ t,u = Value.float b t
 | .ref a,u => u = Value.ref a
 | .ty n,u => u = Value.type n
noncomputable abbrev zI : List V → List Value → Prop := Paired jo
theorem zI.length {xs : List V} {us : List Value} (r : zI xs us) : xs.length = us.length := Paired.length r
theorem zI.get : ∀ {xs : List V} {us : List Value} {i : Nat} {x : V},zI xs us → xs[i]? = some x → ∃ u,us[i]? = some u∧jo x u
 | _,_,_,_,.nil,e => by simp at e
 | _,_,0,_,.cons r _,e => by simp at e;subst e;exact ⟨_,rfl,r⟩
 | _,_,i + 1,x,.cons _ t,e => by
  obtain ⟨u,h1,h2⟩ := zI.get (i := i) (x := x) t (by simpa using e)
  exact ⟨u,by simpa using h1,h2⟩
theorem zI.set {x : V} {u : Value} (r : jo x u) : ∀ {xs : List V} {us : List Value} (i : Nat),zI xs us → zI (xs.set i x) (us.set i u)
 | _,_,_,.nil => .nil
 | _,_,0,.cons _ t => .cons r t
 | _,_,i + 1,.cons q t => .cons q (zI.set r i t)
theorem zI.append : ∀ {xs ys : List V} {us ws : List Value},zI xs us → zI ys ws → zI (xs ++ ys) (us ++ ws)
 | _,_,_,_,.nil,s => s
 | _,_,_,_,.cons r t,s => .cons r (zI.append t s)
theorem zI.take : ∀ {xs : List V} {us : List Value} (n : Nat),zI xs us → zI (xs.take n) (us.take n)
 | _,_,0,_ => .nil
 | _,_,_ + 1,.nil => .nil
 | _,_,n + 1,.cons r t => .cons r (zI.take n t)
theorem zI.drop : ∀ {xs : List V} {us : List Value} (n : Nat),zI xs us → zI (xs.drop n) (us.drop n)
 | _,_,0,r => r
 | _,_,_ + 1,.nil => .nil
 | _,_,n + 1,.cons _ t => zI.drop n t
noncomputable def qgp : Option V → Option Value → Prop
 | some v,some u => jo v u
 | none,none => True
 | _,_ => False
noncomputable def KV {κ : Type} : List (κ × V) → List (κ × Value) → Prop := Paired fun (p : κ × V) (q : κ × Value) => p.1 = q.1∧jo p.2 q.2
noncomputable def kV : Key → V
 | .inl i => .int i
 | .inr x => .str x
inductive HO where
 /-- a list -/
 | lst (xs : List V)
 /-- a tuple (never changes) -/
 | tup (xs : List V)
 /-- a dict whose keys are ints and texts;one whose keys are tuples of ints and texts (the empty one is both) -/
 | dK (kvs : List (Key × V)) | dT (kvs : List (List Key × V))
 /-- a set of ints: its members,its size -/
 | set (S : Int → Bool) (n : Nat)
 /-- an instance of the class at C,its dict at dx,its attributes -/
 | ins (C dx : Addr) (fs : List (Str × V))
 /-- the dict of the instance at x -/
 | own (x : Addr)
 /-- the dict of an exception -/
 | xd (fs : List (Str × V))
 /-- a bound method,f of x -/
 | met (f x : Addr)
 /-- a range object lo,lo + 1,.. below hi -/
 | rng (lo hi : Int)
 /-- a thing that is known to the object (the script;a dict while a loop walks it): read,never written while it is so -/
 | frz (o : Obj) (u : HO)
 /-- a code object's table -/
 | tbl (ps : Array Value)
 /-- any other thing,by what is true of its one object (a def of one's own: SetO a S n := HO.ext fun h => ..) -/
 | ext (φ : Heap → Prop)
noncomputable abbrev Hp := Addr → Option HO
noncomputable def upd (H : Hp) (a : Addr) (o : HO) : Hp := fun b => if b = a then some o else H b
theorem qW {H : Hp} {a : Addr} {o : HO} : upd H a o a = some o := by unfold upd;rw [if_pos rfl]
theorem qu {H : Hp} {a b : Addr} {o : HO} (h : b ≠ a) : upd H a o b = H b := by unfold upd;rw [if_neg h]
theorem qp {H : Hp} {a b : Addr} {o : HO} (h : H a = some o) (h' : H b = none) : a ≠ b := by
 intro e;subst e;rw [h] at h';cases h'
section
variable (P : Program) (w : World)
noncomputable def JA (H : Hp) (h : Heap) (a : Addr) : HO → Prop
 | .lst xs => xs.length ≤ sizeLine∧∃ (its : List Value) (n : Nat),zI xs its∧h.get? a = some { cls := .type "list",data := .seq its.toArray n }
 | .tup xs => xs.length ≤ sizeLine∧∃ its : List Value,zI xs its∧IsTup h a its.toArray
 | .dK kvs => kvs.length ≤ sizeLine∧(a == sysModules) = false∧∃ vs,KV kvs vs∧h.DictOf (WM P w) a vs
 | .dT kvs => kvs.length ≤ sizeLine∧(a == sysModules) = false∧∃ xs : List (List Key × Addr × Value),
   Paired (fun (p : List Key × V) (q : List Key × Addr × Value) => p.1 = q.1∧H q.2.1 = some (.tup (p.1.map kV))∧jo p.2 q.2.2) kvs xs ∧
   ∃ o es ep,h.get? a = some o∧o.ExactDict∧o.data = .dict es ep∧es.toList = xs.map (entryOfKey (tupleKind (WM P w)))∧(xs.map (·.1)).Nodup
 | .set S n => h.SetOf (intKind P w) a S n
 | .ins C dx fs => H dx = some (.own a)∧fs.length ≤ 1000∧dx ≠ a∧h.get? a = some (PySem.W.instObj C dx) ∧
   ∃ mA,h.Ns1 dx mA∧(∀ f,qgp (fs.lookup f) (mA f))∧PySem.Within mA (fs.map (·.1))
 | .own _ => ∃ o,h.get? a = some o
 | .xd fs => ∃ mA,h.Ns1 a mA∧∀ f,qgp (fs.lookup f) (mA f)
 | .rng lo hi => ∃ t u v,h.get? a = some { cls := .type "range",data := .fields #[.int lo t,.int hi u,.int 1 v] }
 | .frz o u => h.get? a = some o∧JA H h a u
 | .tbl ps => h.get? a = some { cls := .none,data := .fields ps }
 | .met f x => h.get? a = some (PySem.W.methodObj (.ref f) (.ref x))
 | .ext φ => φ h∧(∃ o,h.get? a = some o)∧∀ h1 h2 : Heap,φ h1 → (∀ o,h1.get? a = some o → h2.get? a = some o) → φ h2
def HOk (H : Hp) (h : Heap) : Prop := ∀ a o,H a = some o → JA P w H h a o
end
section
variable {P : Program} {w : World} {H H' : Hp} {h h' : Heap} {a : Addr} {o : HO}
theorem JA.lt (x : JA P w H h a o) : a < h.objs.size := by
 cases o with
 | lst xs => obtain ⟨_,_,_,_,e⟩ := x;exact Heap.lt_size e
 | tup xs => obtain ⟨_,_,_,p⟩ := x;exact p.lt
 | dK kvs => obtain ⟨_,_,_,_,o,_,_,e,_⟩ := x;exact Heap.lt_size e
 | dT kvs => obtain ⟨_,_,_,_,o,_,_,e,_⟩ := x;exact Heap.lt_size e
 | set S n => obtain ⟨o,_,_,_,e,_⟩ := x;exact Heap.lt_size e
 | ins C dx fs => obtain ⟨_,_,_,e,_⟩ := x;exact Heap.lt_size e
 | own y => obtain ⟨_,e⟩ := x;exact Heap.lt_size e
 | xd fs => obtain ⟨_,⟨_,_,_,e,_⟩,_⟩ := x;exact Heap.lt_size e
 | rng lo hi => obtain ⟨_,_,_,e⟩ := x;exact Heap.lt_size e
 | frz ob u => obtain ⟨e,_⟩ := x;exact Heap.lt_size e
 | tbl ps => exact Heap.lt_size (show h.get? a = some _ from x)
 | met f y => exact Heap.lt_size (show h.get? a = some _ from x)
 | ext φ => obtain ⟨_,⟨_,e⟩,_⟩ := x;exact Heap.lt_size e
theorem Paired.mapP {α β : Type} {F G : α → β → Prop} : ∀ {l₁ : List α} {l₂ : List β},Paired F l₁ l₂ → (∀ a b,F a b → G a b) → Paired G l₁ l₂
 | _,_,.nil,_ => .nil
 | _,_,.cons r t,f => .cons (f _ _ r) (Paired.mapP t f)
theorem JA.stay (x : JA P w H h a o) (k : ∀ b u,(b = a ∨ H b = some (.own a)) → h.get? b = some u → h'.get? b = some u)
  (ho : ∀ b,H b = some (.own a) → H' b = some (.own a)) (ht : ∀ b xs,H b = some (.tup xs) → H' b = some (.tup xs)) : JA P w H' h' a o := by
 induction o with
 | lst xs => obtain ⟨z,its,n,r,e⟩ := x;exact ⟨z,its,n,r,k _ _ (.inl rfl) e⟩
 | tup xs => obtain ⟨z,its,r,ob,e,c⟩ := x;exact ⟨z,its,r,ob,k _ _ (.inl rfl) e,c⟩
 | dK kvs => obtain ⟨z,y,vs,r,ob,es,ep,e,c⟩ := x;exact ⟨z,y,vs,r,ob,es,ep,k _ _ (.inl rfl) e,c⟩
 | dT kvs =>
  obtain ⟨z,y,xs,r,ob,es,ep,e,c⟩ := x
  exact ⟨z,y,xs,Paired.mapP r fun p q z => ⟨z.1,ht _ _ z.2.1,z.2.2⟩,ob,es,ep,k _ _ (.inl rfl) e,c⟩
 | set S n => obtain ⟨ob,es,ep,t,e,c⟩ := x;exact ⟨ob,es,ep,t,k _ _ (.inl rfl) e,c⟩
 | ins C dx fs =>
  obtain ⟨d,z,ne,e,mA,⟨od,es,ep,e2,c⟩,r⟩ := x
  exact ⟨ho _ d,z,ne,k _ _ (.inl rfl) e,mA,⟨od,es,ep,k _ _ (.inr d) e2,c⟩,r⟩
 | own y => obtain ⟨ob,e⟩ := x;exact ⟨ob,k _ _ (.inl rfl) e⟩
 | xd fs => obtain ⟨mA,⟨od,es,ep,e,c⟩,r⟩ := x;exact ⟨mA,⟨od,es,ep,k _ _ (.inl rfl) e,c⟩,r⟩
 | rng lo hi => obtain ⟨t,u,v,e⟩ := x;exact ⟨t,u,v,k _ _ (.inl rfl) e⟩
 | frz ob u ih => obtain ⟨e,q⟩ := x;exact ⟨k _ _ (.inl rfl) e,ih q⟩
 | tbl ps =>
  have e : h.get? a = some { cls := .none,data := .fields ps } := x
  show h'.get? a = some { cls := .none,data := .fields ps }
  exact k a _ (.inl rfl) e
 | met f y =>
  have e : h.get? a = some (PySem.W.methodObj (.ref f) (.ref y)) := x
  show h'.get? a = some (PySem.W.methodObj (.ref f) (.ref y))
  exact k a _ (.inl rfl) e
 | ext φ => obtain ⟨p,⟨o,e⟩,st⟩ := x;exact ⟨st _ _ p fun o q => k _ _ (.inl rfl) q,⟨o,k _ _ (.inl rfl) e⟩,st⟩
theorem HOk.lt (x : HOk P w H h) (e : H a = some o) : a < h.objs.size := (x a o e).lt
theorem HOk.fresh (x : HOk P w H h) (e : h.objs.size ≤ a) : H a = none := by
 cases q : H a with
 | none => rfl
 | some u => exact absurd (Nat.lt_of_lt_of_le (x.lt q) e) (Nat.lt_irrefl _)
theorem HOk.kept (x : HOk P w H h) (k : ∀ b u,h.get? b = some u → h'.get? b = some u) : HOk P w H h' := fun a o e =>
 (x a o e).stay (fun b u _ q => k b u q) (fun _ q => q) fun _ _ q => q
theorem HOk.laid (x : HOk P w H h) (k : ∀ b u,h.get? b = some u → h'.get? b = some u) (hp : h.objs.size ≤ a) (new : JA P w (upd H a o) h' a o) : HOk P w (upd H a o) h' := fun b u e => by
 have hn := x.fresh hp
 by_cases hb : b = a
 ·subst hb;rw [qW] at e;cases e;exact new
 ·rw [qu hb] at e
  exact (x b u e).stay (fun c v _ q => k c v q) (fun c q => by rw [qu (qp q hn)];exact q) fun c xs q => by rw [qu (qp q hn)];exact q
end
def Rd (H : Hp) (a : Addr) (u : HO) : Prop := H a = some u ∨ ∃ o,H a = some (.frz o u)
theorem Rd.ok {P : Program} {w : World} {H : Hp} {h : Heap} {a : Addr} {u : HO} (r : Rd H a u) (x : HOk P w H h) : JA P w H h a u := by
 rcases r with r | ⟨o,r⟩
 ·exact x a u r
 ·obtain ⟨_,q⟩ := x a _ r
  exact q
noncomputable def Mut : Option HO → Prop
 | some (.lst _) => True
 | some (.dK _) => True
 | some (.dT _) => True
 | some (.set _ _) => True
 | some (.ins _ _ _) => True
 | some (.ext _) => True
 | _ => False
section
variable {P : Program} {w : World} {H : Hp} {h h' : Heap} {x e : Addr} {o' : HO}
theorem HOk.write (ok : HOk P w H h) (mu : Mut (H x)) (he : e = x ∨ H e = some (.own x)) (k : ∀ b u,b ≠ e → h.get? b = some u → h'.get? b = some u) (heo : ∃ u,h'.get? e = some u)
  (new : JA P w (upd H x o') h' x o') : HOk P w (upd H x o') h' := fun b u q => by
 have nown : ∀ c y,H c = some (.own y) → c ≠ x := fun c y r z => by subst z;rw [r] at mu;exact mu
 have ntup : ∀ c xs,H c = some (.tup xs) → c ≠ x := fun c xs r z => by subst z;rw [r] at mu;exact mu
 by_cases hb : b = x
 ·subst hb;rw [qW] at q;cases q;exact new
 ·rw [qu hb] at q
  by_cases hbe : b = e
  ·have q' : H b = some (.own x) := by
    rcases he with z | z
    ·exact absurd (hbe.trans z) hb
    ·rw [hbe];exact z
   rw [q] at q';cases q'
   obtain ⟨v,hv⟩ := heo
   exact ⟨v,by rw [hbe];exact hv⟩
  ·refine (ok b u q).stay (fun c v hc r => k c v ?_ r) (fun c r => by rw [qu (nown c b r)];exact r) fun c xs r => by rw [qu (ntup c xs r)];exact r
   rcases hc with rfl | hc
   ·exact hbe
   ·rintro rfl
    rcases he with z | z
    ·exact nown c b hc z
    ·rw [hc] at z;cases z;exact hb rfl
end
structure Un (fs ex : List Addr) (H H' : Hp) (h h' : Heap) : Prop where
 keep : ∀ b o,h.get? b = some o → H b = none → b ∉ fs → b ∉ ex → h'.get? b = some o
 slot : ∀ b o,h.get? b = some o → H b = none → b ∈ fs → b ∉ ex → ∃ sl,h'.get? b = some { o with slots := sl }
 free : ∀ b o,h.get? b = some o → H b = none → b ∉ ex → H' b = none
 there : ∀ b o,h.get? b = some o → b ∉ ex → ∃ o',h'.get? b = some o'
 tups : ∀ b xs,H b = some (.tup xs) → H' b = some (.tup xs)
 frzs : ∀ b o u,H b = some (.frz o u) → H' b = some (.frz o u)
 tbls : ∀ b ps,H b = some (.tbl ps) → ∃ more,H' b = some (.tbl (ps ++ more))
section
variable {fs fs' ex ex' : List Addr} {H H1 H2 : Hp} {h h1 h2 h' : Heap} {a x e : Addr} {o : HO}
theorem Un.any (u : Un fs ex H H1 h h1) {b : Addr} {ob : Obj} (q : h.get? b = some ob) (n : H b = none) (hx : b ∉ ex) : ∃ sl,h1.get? b = some { ob with slots := sl } := by
 by_cases hb : b ∈ fs
 ·exact u.slot b ob q n hb hx
 ·exact ⟨ob.slots,u.keep b ob q n hb hx⟩
theorem Un.kept (k : ∀ b u,h.get? b = some u → h'.get? b = some u) : Un fs ex H H h h' :=
 ⟨fun b ob q _ _ _ => k b ob q,fun b ob q _ _ _ => ⟨ob.slots,k b ob q⟩,fun _ _ _ n _ => n,fun b ob q _ => ⟨ob,k b ob q⟩,fun _ _ q => q,fun _ _ _ q => q,fun _ ps q => ⟨#[],by rw [q];simp⟩⟩
theorem Un.refl : Un fs ex H H h h := Un.kept fun _ _ q => q
theorem Un.laid (k : ∀ b u,h.get? b = some u → h'.get? b = some u) (hp : h.objs.size ≤ a) (hn : H a = none) : Un fs ex H (upd H a o) h h' where
 keep := fun b u q _ _ _ => k b u q
 slot := fun b u q _ _ _ => ⟨u.slots,k b u q⟩
 free := fun b u q n _ => by rw [qu (Nat.ne_of_lt (Nat.lt_of_lt_of_le (Heap.lt_size q) hp))];exact n
 there := fun b u q _ => ⟨u,k b u q⟩
 tups := fun b xs q => by rw [qu (qp q hn)];exact q
 frzs := fun b u xs q => by rw [qu (qp q hn)];exact q
 tbls := fun b ps q => ⟨#[],by rw [qu (qp q hn),q];simp⟩
theorem Un.write (mu : Mut (H x)) (he : e = x ∨ H e = some (.own x)) (k : ∀ b u,b ≠ e → h.get? b = some u → h'.get? b = some u) (heo : ∃ u,h'.get? e = some u) : Un fs ex H (upd H x o) h h' := by
 have hx : ∀ b,H b = none → b ≠ x := fun b n z => by subst z;rw [n] at mu;exact mu
 have hb : ∀ b,H b = none → b ≠ e := fun b n z => by
  subst z
  rcases he with r | r
  ·exact hx b n r
  ·rw [n] at r;cases r
 have hm : ∀ b u,H b = some u → ¬ Mut (some u) → b ≠ x := fun b u q nm z => by subst z;rw [q] at mu;exact nm mu
 refine ⟨fun b u q n _ _ => k b u (hb b n) q,fun b u q n _ _ => ⟨u.slots,k b u (hb b n) q⟩,fun b u q n _ => by rw [qu (hx b n)];exact n,fun b u q _ => ?_,
  fun b xs q => by rw [qu (hm b _ q fun z => z)];exact q,fun b u xs q => by rw [qu (hm b _ q fun z => z)];exact q,fun b ps q => ⟨#[],by rw [qu (hm b _ q fun z => z),q];simp⟩⟩
 by_cases hbe : b = e
 ·subst hbe;exact heo
 ·exact ⟨u,k b u hbe q⟩
end
noncomputable def trk (h : Heap) (H : Hp) : List Addr := (List.range h.objs.size).filter fun a => (H a).isSome
noncomputable def R7 (h : Heap) (H : Hp) : Heap := PySem.W.hideAll h (trk h H)
theorem Xe (h : Heap) (H : Hp) : (R7 h H).objs.size = h.objs.size := PySem.W.hideAll_size _ _
theorem CT {h : Heap} {H : Hp} {b : Addr} {o : Obj} (e : h.get? b = some o) (n : H b = none) : (R7 h H).get? b = some o :=
 PySem.W.hideAll_get _ e fun hm => by
  have q : (H b).isSome = true := (List.mem_filter.mp hm).2
  rw [n] at q;simp at q
theorem KG {h : Heap} {H : Hp} {b : Addr} {o : Obj} (e : (R7 h H).get? b = some o) : h.get? b = some o∧H b = none := by
 have e' : h.get? b = some o := PySem.W.of_hideAll (trk h H) e
 refine ⟨e',?_⟩
 cases q : H b with
 | none => rfl
 | some x =>
  have hm : b ∈ trk h H := List.mem_filter.mpr ⟨List.mem_range.mpr (Heap.lt_size e'),by simp [q]⟩
  have z : (R7 h H).get? b = none := PySem.W.hideAll_none (trk h H) hm
  rw [z] at e;cases e
noncomputable def Lj (g h : Heap) (L : Addr) : List (Addr × Obj) := (List.range h.objs.size).filterMap fun a => if a = L ∨ (g.get? a).isSome = true then none else (h.get? a).map fun o => (a,o)
noncomputable def ZI (g h : Heap) (L d : Addr) : List (Addr × Obj) := (Lj g h L).filter fun p => decide (p.1 ≠ d)
end L2
namespace L2
open PySem PySem.Spec PyProof.Rows
structure Mod (K : PySem.W.Frag) (mg : Str → Option Value) (base : Heap) : Prop where
 kin : K.In base
 glob : base.Ns mainGlobals mg
 blt : ∃ mb,base.Ns builtinsNs mb∧∀ x : Str,x ≠ "__name__" → mb x = bootBuiltins x
 nolimit : base.NoLimit
structure Cx where
 prog : Program
 w : World
 K : PySem.W.Frag
 mg : Str → Option Value
 base : Heap
 A : Around
 N : List Str
 s₀ : Shared
 H₀ : Hp
 env : Env
 outer : List Env
 stack : List Env
 ex : List Addr
 fn : Str → Bool
 calm : Bool
 pn : List (Addr × Obj)
 xe : Value → Shared → Prop
noncomputable def frs (l : List Env) : List Addr := l.filterMap (·.frame)
noncomputable abbrev Cx.fs (X : Cx) : List Addr := frs X.outer
def Vis (sc : Scope) (x : Str) : Prop := sc.names.lookup x = some .local ∨ sc.names.lookup x = some .cell ∨ sc.names.lookup x = some .free
def Loc (sc : Scope) (x : Str) : Prop := sc.names.lookup x = some .local ∨ sc.names.lookup x = some .cell
def qhm (env : Env) (h : Heap) (m : Str → Option Value) (x : Str) (u : Value) : Prop :=
 (env.kindOf x = some .local∧m x = some u) ∨ ((env.kindOf x = some .cell ∨ env.kindOf x = some .free)∧∃ c,env.cells.lookup x = some c∧h.IsCell c (some u))
structure Cx.Ok (X : Cx) : Prop where
 mod : Mod X.K X.mg X.base
 kind : X.env.scope.kind = .function
 glob : X.env.globals = mainGlobals
 blt : X.env.builtins = builtinsNs
 above : X.s₀.heap.objs.size ≤ X.env.locals
 inj : ∀ x y c,X.env.cells.lookup x = some c → X.env.cells.lookup y = some c → x = y
 has : ∀ x,(X.env.kindOf x = some .cell ∨ X.env.kindOf x = some .free) → ∃ c,X.env.cells.lookup x = some c
 cab : ∀ x c,X.fn x = true → X.env.cells.lookup x = some c → X.s₀.heap.objs.size ≤ c
 hd : X.calm = true → X.A.handled = none
 frames : X.A.frames = some X.stack
 stk : X.stack = X.outer ∨ (X.stack = X.env :: X.outer∧X.env.frame = some X.env.locals)
 exf : ∀ b ∈ X.ex,b ≠ X.env.locals∧∀ x c,X.env.cells.lookup x = some c → c ≠ b
 bs : ∀ b o,X.base.get? b = some o → X.s₀.heap.get? b = some o∧X.H₀ b = none
 bsz : X.base.objs.size ≤ X.s₀.heap.objs.size
 noex : ∀ b o,X.base.get? b = some o → b ∉ X.ex
 exfs : ∀ b ∈ X.ex,b ∉ X.fs
 funs : X.s₀.heap.FunFrames X.base X.outer
 frf : ∀ b ∈ X.fs,X.H₀ b = none
structure Inv (X : Cx) (pins : List (Addr × Obj)) (σ : List (Option V)) (H : Hp) (s : Shared) : Prop where
 ok : X.Ok
 os : s.os = X.s₀.os
 bare : AllBare s.gens
 base : Un X.fs X.ex X.H₀ H X.s₀.heap s.heap
 loc : ∃ m,s.heap.Ns X.env.locals m∧∀ (i : Nat) (x : Str) (v : V),X.N[i]? = some x → σ[i]? = some (some v) → Vis X.env.scope x → ∃ u,jo v u∧qhm X.env s.heap m x u
 cell : ∀ x c,X.env.cells.lookup x = some c → ∃ v,s.heap.IsCell c v
 free : H X.env.locals = none
 freeC : ∀ x c,X.env.cells.lookup x = some c → H c = none
 pin : ∀ p ∈ X.pn ++ pins,s.heap.get? p.1 = some p.2∧H p.1 = none∧p.1 ≠ X.env.locals∧p.1 ∉ X.fs∧∀ v,p.2.data ≠ .cell v
 hok : HOk X.prog X.w H s.heap
 len : σ.length = X.N.length
section
variable {X : Cx} {pins : List (Addr × Obj)} {σ : List (Option V)} {H H' : Hp} {s : Shared} {h' : Heap}
theorem Cx.Ok.nofr (ok : X.Ok) {b : Addr} {o : Obj} (e : X.base.get? b = some o) : b ∉ X.fs := fun hb => by
 have := (ok.funs.mem hb).1
 rw [e] at this;cases this
theorem Inv.bs (I : Inv X pins σ H s) : ∀ b o,X.base.get? b = some o → s.heap.get? b = some o∧H b = none := fun b o e =>
 ⟨I.base.keep b o (I.ok.bs b o e).1 (I.ok.bs b o e).2 (I.ok.nofr e) (I.ok.noex b o e),I.base.free b o (I.ok.bs b o e).1 (I.ok.bs b o e).2 (I.ok.noex b o e)⟩
theorem Inv.bk (I : Inv X pins σ H s) : ∀ b o,X.base.get? b = some o → s.heap.get? b = some o := fun b o e => (I.bs b o e).1
theorem Inv.mod (I : Inv X pins σ H s) : Mod X.K X.mg X.base := I.ok.mod
theorem Inv.kIn (I : Inv X pins σ H s) : X.K.In s.heap := I.ok.mod.kin.keeps I.bk
theorem Inv.nolimit (I : Inv X pins σ H s) : s.heap.NoLimit := I.ok.mod.nolimit.keeps I.bk
theorem Inv.fr (I : Inv X pins σ H s) : ∃ m,Fr X.base X.env.locals s.heap m :=
 let ⟨m,hn,_⟩ := I.loc
 ⟨m,hn,I.bk,Nat.le_trans I.ok.bsz I.ok.above⟩
theorem Inv.lt (I : Inv X pins σ H s) : X.env.locals < s.heap.objs.size := let ⟨_,hn,_⟩ := I.loc;hn.lt
theorem Inv.sz (I : Inv X pins σ H s) : X.s₀.heap.objs.size ≤ s.heap.objs.size := Nat.le_trans I.ok.above (Nat.le_of_lt I.lt)
theorem Inv.nofs (I : Inv X pins σ H s) {a : Addr} (h : s.heap.objs.size ≤ a) : a ∉ X.fs := fun hb => by
 obtain ⟨_,o,ho,_⟩ := I.ok.funs.mem hb
 exact absurd (Nat.lt_of_lt_of_le (Heap.lt_size ho) (Nat.le_trans I.sz h)) (Nat.lt_irrefl _)
theorem Inv.cne (I : Inv X pins σ H s) : ∀ x c,X.env.cells.lookup x = some c → c ≠ X.env.locals := fun x c e z => by
 obtain ⟨v,o,ho,hd⟩ := I.cell x c e
 obtain ⟨m,⟨o',es,ep,ho',hd',_⟩,_⟩ := I.loc
 rw [z,ho'] at ho;cases ho;rw [hd'] at hd;cases hd
theorem Inv.funs (I : Inv X pins σ H s) : s.heap.FunFrames X.base X.outer := by
 have all : ∀ (l : List Env),(∀ b ∈ frs l,b ∈ X.fs) → X.s₀.heap.FunFrames X.base l → s.heap.FunFrames X.base l := by
  intro l
  induction l with
  | nil => intro _ _;trivial
  | cons env r ih =>
   intro hs hl
   obtain ⟨hk,⟨L,o,hf,hn,ho,hd⟩,hr⟩ := hl
   have hL : L ∈ X.fs := hs L (by unfold frs;rw [List.filterMap_cons,hf];exact List.mem_cons_self)
   obtain ⟨sl,e⟩ := I.base.slot L o ho (I.ok.frf L hL) hL fun z => I.ok.exfs L z hL
   exact ⟨hk,⟨L,_,hf,hn,e,hd⟩,ih (fun b hb => hs b (by unfold frs;rw [List.filterMap_cons,hf];exact List.mem_cons_of_mem _ hb)) hr⟩
 exact all X.outer (fun _ hb => hb) I.ok.funs
theorem Inv.stack (I : Inv X pins σ H s) : s.heap.FunFrames X.base X.stack := by
 rcases I.ok.stk with e | ⟨e,hf⟩
 ·rw [e];exact I.funs
 ·rw [e]
  obtain ⟨m,hn,_⟩ := I.loc
  refine .cons (by rw [I.ok.kind];decide) hf hn ?_ I.funs
  exact Heap.get?_none_of_le (Nat.le_trans I.ok.bsz I.ok.above)
theorem Inv.stkSub (I : Inv X pins σ H s) : ∀ b ∈ frs X.stack,b ∈ X.env.locals :: X.fs := fun b hb => by
 rcases I.ok.stk with e | ⟨e,hf⟩
 ·rw [e] at hb;exact List.mem_cons_of_mem _ hb
 ·rw [e] at hb
  unfold frs at hb
  rw [List.filterMap_cons,hf] at hb
  exact hb
theorem Inv.stkFree (I : Inv X pins σ H s) : ∀ b ∈ frs X.stack,H b = none := fun b hb => by
 rcases List.mem_cons.mp (I.stkSub b hb) with e | hb
 ·rw [e];exact I.free
 ·obtain ⟨_,o,ho,_⟩ := I.ok.funs.mem hb
  exact I.base.free b o ho (I.ok.frf b hb) fun z => I.ok.exfs b z hb
theorem Inv.step {g' : Array GenState} {t' : Nat} {d' : Drawn} {ch : List Addr} (I : Inv X pins σ H s)
  (hch : ∀ b ∈ ch,(b ∈ X.ex ∨ X.s₀.heap.objs.size ≤ b)∧b ≠ X.env.locals∧(∀ x c,X.env.cells.lookup x = some c → c ≠ b)∧∀ p ∈ X.pn ++ pins,p.1 ≠ b)
  (keep : ∀ b o,b ≠ X.env.locals → b ∉ X.fs → b ∉ ch → s.heap.get? b = some o → H b = none → h'.get? b = some o)
  (slot : ∀ b o,b ≠ X.env.locals → b ∈ X.fs → b ∉ ch → s.heap.get? b = some o → H b = none → ∃ sl,h'.get? b = some { o with slots := sl }) (free : ∀ b o,b ∉ ch → s.heap.get? b = some o → H b = none → H' b = none)
  (there : ∀ b o,b ∉ ch → s.heap.get? b = some o → ∃ o',h'.get? b = some o')
  (tups : ∀ b xs,H b = some (.tup xs) → H' b = some (.tup xs)) (frzs : ∀ b o u,H b = some (.frz o u) → H' b = some (.frz o u)) (tbls : ∀ b ps,H b = some (.tbl ps) → ∃ more,H' b = some (.tbl (ps ++ more)))
  (ns : ∀ m,s.heap.Ns X.env.locals m → h'.Ns X.env.locals m) (hok : HOk X.prog X.w H' h') (hg : AllBare g') :
  Inv X pins σ H' { s with heap := h',gens := g',drawn := d',toks := t' } := by
 have neL : ∀ b o,X.s₀.heap.get? b = some o → b ≠ X.env.locals := fun b o e => Nat.ne_of_lt (Nat.lt_of_lt_of_le (Heap.lt_size e) I.ok.above)
 have neC : ∀ b o,X.s₀.heap.get? b = some o → b ∉ X.ex → b ∉ ch := fun b o e hx hb => by
  rcases (hch b hb).1 with z | z
  ·exact hx z
  ·exact absurd (Nat.lt_of_lt_of_le (Heap.lt_size e) z) (Nat.lt_irrefl _)
 have cellK : ∀ x c,X.env.cells.lookup x = some c → ∀ v,s.heap.IsCell c v → h'.IsCell c v := fun x c e v ⟨o,ho,hd⟩ => by
  have nch : c ∉ ch := fun z => (hch c z).2.2.1 x c e rfl
  by_cases hc : c ∈ X.fs
  ·obtain ⟨sl,q⟩ := slot c o (I.cne x c e) hc nch ho (I.freeC x c e)
   exact ⟨_,q,hd⟩
  ·exact ⟨o,keep c o (I.cne x c e) hc nch ho (I.freeC x c e),hd⟩
 refine ⟨I.ok,I.os,hg,⟨fun b o e n hb hx => ?_,fun b o e n hb hx => ?_,fun b o e n hx => ?_,fun b o e hx => ?_,fun b xs e => tups b xs (I.base.tups b xs e),fun b o xs e => frzs b o xs (I.base.frzs b o xs e),fun b ps e => ?_⟩,?_,fun x c e => ?_,?_,fun x c e => ?_,fun p hp => ?_,hok,I.len⟩
 ·exact keep b o (neL b o e) hb (neC b o e hx) (I.base.keep b o e n hb hx) (I.base.free b o e n hx)
 ·obtain ⟨sl,e1⟩ := I.base.slot b o e n hb hx
  obtain ⟨sl',e2⟩ := slot b _ (neL b o e) hb (neC b o e hx) e1 (I.base.free b o e n hx)
  exact ⟨sl',e2⟩
 ·obtain ⟨o',e1⟩ := I.base.there b o e hx
  exact free b o' (neC b o e hx) e1 (I.base.free b o e n hx)
 ·obtain ⟨o',e1⟩ := I.base.there b o e hx
  exact there b o' (neC b o e hx) e1
 ·obtain ⟨m1,e1⟩ := I.base.tbls b ps e
  obtain ⟨m2,e2⟩ := tbls b _ e1
  exact ⟨m1 ++ m2,by rw [e2,Array.append_assoc]⟩
 ·obtain ⟨m,hn,hl⟩ := I.loc
  refine ⟨m,ns m hn,fun i x v e1 e2 e3 => ?_⟩
  obtain ⟨u,r,l⟩ := hl i x v e1 e2 e3
  refine ⟨u,r,?_⟩
  rcases l with l | ⟨k,c,e,z⟩
  ·exact .inl l
  ·exact .inr ⟨k,c,e,cellK x c e _ z⟩
 ·obtain ⟨v,z⟩ := I.cell x c e
  exact ⟨v,cellK x c e v z⟩
 ·obtain ⟨m,⟨o,_,_,ho,_⟩,_⟩ := I.loc
  exact free _ o (fun z => (hch _ z).2.1 rfl) ho I.free
 ·obtain ⟨v,o,ho,hd⟩ := I.cell x c e
  exact free c o (fun z => (hch c z).2.2.1 x c e rfl) ho (I.freeC x c e)
 ·obtain ⟨e,n,ne,nf,d⟩ := I.pin p hp
  have nch : p.1 ∉ ch := fun z => (hch p.1 z).2.2.2 p hp rfl
  exact ⟨keep p.1 p.2 ne nf nch e n,free p.1 p.2 nch e n,ne,nf,d⟩
theorem Inv.un {t' : Nat} (I : Inv X pins σ H s) (u : Un X.fs [] H H' s.heap h') (hok : HOk X.prog X.w H' h') : Inv X pins σ H' { s with heap := h',toks := t' } := by
 obtain ⟨m,⟨o,es,ep,ho,r⟩,_⟩ := id I.loc
 obtain ⟨sl,hL⟩ := u.any ho I.free (by simp)
 exact I.step (g' := s.gens) (d' := s.drawn) (ch := []) (fun _ z => nomatch z) (fun b o _ hb _ e n => u.keep b o e n hb (by simp)) (fun b o _ hb _ e n => u.slot b o e n hb (by simp)) (fun b o _ e n => u.free b o e n (by simp)) (fun b o _ e => u.there b o e (by simp)) u.tups u.frzs u.tbls (fun m' hm => by
  obtain ⟨o',es',ep',ho',r'⟩ := hm
  rw [ho] at ho';cases ho'
  exact ⟨_,es',ep',hL,r'⟩) hok I.bare
theorem Inv.call {g' : Array GenState} {t' : Nat} {d' : Drawn} {ch : List Addr} (I : Inv X pins σ H s) (u : Un (frs X.stack) ch H H' s.heap h') (hok : HOk X.prog X.w H' h') (hg : AllBare g')
  (hch : ∀ b ∈ ch,(b ∈ X.ex ∨ X.s₀.heap.objs.size ≤ b)∧b ≠ X.env.locals∧(∀ x c,X.env.cells.lookup x = some c → c ≠ b)∧∀ p ∈ X.pn ++ pins,p.1 ≠ b) :
  Inv X pins σ H' { s with heap := h',gens := g',drawn := d',toks := t' } := by
 obtain ⟨m,⟨o,es,ep,ho,r⟩,_⟩ := id I.loc
 obtain ⟨sl,hL⟩ := u.any ho I.free fun z => (hch _ z).2.1 rfl
 exact I.step (ch := ch) hch (fun b o hL hb hc e n => u.keep b o e n (fun z => (List.mem_cons.mp (I.stkSub b z)).elim hL hb) hc) (fun b o _ _ hc e n => u.any e n hc) (fun b o hc e n => u.free b o e n hc) (fun b o hc e => u.there b o e hc) u.tups u.frzs u.tbls (fun m' hm => by
  obtain ⟨o',es',ep',ho',r'⟩ := hm
  rw [ho] at ho';cases ho'
  exact ⟨_,es',ep',hL,r'⟩) hok hg
theorem Inv.turned {t' : Nat} {it : Addr} (I : Inv X pins σ H s) (k : ∀ b o,b ≠ it → s.heap.get? b = some o → h'.get? b = some o) (hn : H it = none) (hL : it ≠ X.env.locals)
  (h1 : it ∈ X.ex ∨ X.s₀.heap.objs.size ≤ it) (h2 : ∀ x c,X.env.cells.lookup x = some c → c ≠ it) (h3 : ∀ p ∈ X.pn ++ pins,p.1 ≠ it) : Inv X pins σ H { s with heap := h',toks := t' } := by
 have nit : ∀ b u,H b = some u → b ≠ it := fun b u e z => by rw [z,hn] at e;cases e
 refine I.step (g' := s.gens) (d' := s.drawn) (ch := [it]) (fun b hb => ?_) (fun b o _ _ hc e _ => k b o (fun z => hc (by simp [z])) e) (fun b o _ _ hc e _ => ⟨o.slots,k b o (fun z => hc (by simp [z])) e⟩) (fun _ _ _ _ n => n)
  (fun b o hc e => ⟨o,k b o (fun z => hc (by simp [z])) e⟩) (fun _ _ e => e) (fun _ _ _ e => e) (fun b ps e => ⟨#[],by rw [e];simp⟩) (fun m hm => ?_) (fun b u e => ?_) I.bare
 ·have e : b = it := by simpa using hb
  subst e
  exact ⟨h1,hL,h2,h3⟩
 ·obtain ⟨o,es,ep,ho,r⟩ := hm
  exact ⟨o,es,ep,k _ o (Ne.symm hL) ho,r⟩
 ·refine (I.hok b u e).stay (fun c v hc q => k c v ?_ q) (fun _ q => q) fun _ _ q => q
  rcases hc with z | z
  ·rw [z];exact nit b u e
  ·exact nit c _ z
theorem Inv.tok (I : Inv X pins σ H s) (t : Nat) : Inv X pins σ H { s with toks := t } := I.un (h' := s.heap) (t' := t) Un.refl I.hok
theorem Inv.kept {t' : Nat} (I : Inv X pins σ H s) (k : ∀ b u,s.heap.get? b = some u → h'.get? b = some u) : Inv X pins σ H { s with heap := h',toks := t' } := I.un (Un.kept k) (I.hok.kept k)
theorem Inv.laid {a : Addr} {o : HO} {t' : Nat} (I : Inv X pins σ H s) (k : ∀ b u,s.heap.get? b = some u → h'.get? b = some u) (hp : s.heap.objs.size ≤ a) (new : JA X.prog X.w (upd H a o) h' a o) :
  Inv X pins σ (upd H a o) { s with heap := h',toks := t' } := I.un (Un.laid k hp (I.hok.fresh hp)) (I.hok.laid k hp new)
theorem Inv.write {x e : Addr} {o : HO} {t' : Nat} (I : Inv X pins σ H s) (mu : Mut (H x)) (he : e = x ∨ H e = some (.own x)) (k : ∀ b u,b ≠ e → s.heap.get? b = some u → h'.get? b = some u) (heo : ∃ u,h'.get? e = some u)
  (new : JA X.prog X.w (upd H x o) h' x o) : Inv X pins σ (upd H x o) { s with heap := h',toks := t' } := I.un (Un.write mu he k heo) (I.hok.write mu he k heo new)
theorem Inv.pins_of {pins' : List (Addr × Obj)} (I : Inv X pins σ H s) (h : ∀ p ∈ pins',s.heap.get? p.1 = some p.2∧H p.1 = none∧p.1 ≠ X.env.locals∧p.1 ∉ X.fs∧∀ v,p.2.data ≠ .cell v) : Inv X pins' σ H s :=
 ⟨I.ok,I.os,I.bare,I.base,I.loc,I.cell,I.free,I.freeC,fun p hp => (List.mem_append.mp hp).elim (fun z => I.pin p (List.mem_append_left _ z)) (h p),I.hok,I.len⟩
theorem DW {N : List Str} (hN : N.Nodup) {i j : Nat} {x : Str} (a : N[i]? = some x) (b : N[j]? = some x) : i = j := by
 obtain ⟨h1,e1⟩ := List.getElem?_eq_some_iff.mp a
 obtain ⟨h2,e2⟩ := List.getElem?_eq_some_iff.mp b
 exact (List.getElem_inj hN).mp (e1.trans e2.symm)
theorem Ei {M : Model} {A : Around} {E : Value → Shared → Prop} {i : Nat} {x : Str} {v : V} {u : Value} {Q : Unit → Shared → Prop} (I : Inv X pins σ H s) (hN : X.N.Nodup) (hi : X.N[i]? = some x) (hx : Loc X.env.scope x) (r : jo v u)
  (h : ∀ s',Inv X pins (σ.set i (some v)) H s' → (∃ a,Heap.SameBut a s.heap s'.heap∧(a = X.env.locals ∨ X.env.cells.lookup x = some a)) → Q () s') (hf : X.fn x = true ∨ X.env.scope.names.lookup x = some .local := by first | exact .inl rfl | exact .inr rfl | assumption) : wpAny M A (storeName X.env x u) Q E s := by
 obtain ⟨m,hn,hl⟩ := id I.loc
 have hcls : (X.env.scope.kind == .class || (X.env.scope.kind == .module && X.env.locals != X.env.globals)) = false := by rw [I.ok.kind];rfl
 have hiσ : i < σ.length := by rw [I.len];exact (List.getElem?_eq_some_iff.mp hi).1
 have cne := I.cne
 have tracked : ∀ {a : Addr} {h' : Heap},(∃ o,s.heap.get? a = some o∧H a = none) → Heap.SameBut a s.heap h' → HOk X.prog X.w H h' := fun {a h'} ha hs b ob e => by
  obtain ⟨_,_,hfree⟩ := ha
  refine (I.hok b ob e).stay (fun c w' hc q => (hs.2 c ?_).trans q) (fun _ q => q) fun _ _ q => q
  rintro rfl
  rcases hc with rfl | hc
  ·rw [hfree] at e;cases e
  ·rw [hfree] at hc;cases hc
 rcases hx with hk | hk
 ·refine wpAny_storeName_local hk hn (fun h' hn' hs => ?_) hcls
  obtain ⟨oL,_,_,hoL,_⟩ := id hn
  refine h _ ⟨I.ok,I.os,I.bare,⟨fun b o e n hb hx => ?_,fun b o e n hb hx => ?_,I.base.free,fun b o e hx => ?_,I.base.tups,I.base.frzs,I.base.tbls⟩,⟨_,hn',fun j y v' e1 e2 e3 => ?_⟩,fun y c e => ?_,I.free,I.freeC,fun p hp => ?_,tracked ⟨oL,hoL,I.free⟩ hs,by simpa using I.len⟩ ⟨_,hs,.inl rfl⟩
  ·exact (hs.2 b (Nat.ne_of_lt (Nat.lt_of_lt_of_le (Heap.lt_size e) I.ok.above))).trans (I.base.keep b o e n hb hx)
  ·obtain ⟨sl,e1⟩ := I.base.slot b o e n hb hx
   exact ⟨sl,(hs.2 b (Nat.ne_of_lt (Nat.lt_of_lt_of_le (Heap.lt_size e) I.ok.above))).trans e1⟩
  ·obtain ⟨o',e1⟩ := I.base.there b o e hx
   exact ⟨o',(hs.2 b (Nat.ne_of_lt (Nat.lt_of_lt_of_le (Heap.lt_size e) I.ok.above))).trans e1⟩
  ·by_cases hj : j = i
   ·subst hj
    rw [hi] at e1;cases e1
    rw [List.getElem?_set_self hiσ] at e2
    cases e2
    exact ⟨u,r,.inl ⟨hk,by simp⟩⟩
   ·rw [List.getElem?_set_ne (Ne.symm hj)] at e2
    obtain ⟨u',r',q⟩ := hl j y v' e1 e2 e3
    refine ⟨u',r',?_⟩
    rcases q with ⟨k,e⟩ | ⟨k,c,e,z⟩
    ·refine .inl ⟨k,?_⟩
     have : y ≠ x := fun e => hj (DW hN e1 (e ▸ hi))
     simp [this,e]
    ·exact .inr ⟨k,c,e,z.sameBut hs (cne y c e)⟩
  ·obtain ⟨w',z⟩ := I.cell y c e
   exact ⟨w',z.sameBut hs (cne y c e)⟩
  ·obtain ⟨e,n,ne,nf,d⟩ := I.pin p hp
   exact ⟨(hs.2 p.1 ne).trans e,n,ne,nf,d⟩
 ·have hfn : X.fn x = true := by
   rcases hf with z | z
   ·exact z
   ·rw [z] at hk;cases hk
  obtain ⟨c,hc⟩ := I.ok.has x (.inl hk)
  obtain ⟨w',z⟩ := I.cell x c hc
  refine wpAny_storeName_cell I.ok.kind hk hc z (fun h' hc' hs => ?_)
  obtain ⟨oc,hoc,hocd⟩ := id z
  refine h { s with heap := h' } ⟨I.ok,I.os,I.bare,⟨fun b o e n hb hx => ?_,fun b o e n hb hx => ?_,I.base.free,fun b o e hx => ?_,I.base.tups,I.base.frzs,I.base.tbls⟩,⟨m,hn.sameBut hs (Ne.symm (cne x c hc)),fun j y v' e1 e2 e3 => ?_⟩,fun y c' e => ?_,I.free,I.freeC,fun p hp => ?_,tracked ⟨oc,hoc,I.freeC x c hc⟩ hs,by simpa using I.len⟩ ⟨c,hs,.inr hc⟩
  ·exact (hs.2 b (Nat.ne_of_lt (Nat.lt_of_lt_of_le (Heap.lt_size e) (I.ok.cab x c hfn hc)))).trans (I.base.keep b o e n hb hx)
  ·obtain ⟨sl,e1⟩ := I.base.slot b o e n hb hx
   exact ⟨sl,(hs.2 b (Nat.ne_of_lt (Nat.lt_of_lt_of_le (Heap.lt_size e) (I.ok.cab x c hfn hc)))).trans e1⟩
  ·obtain ⟨o',e1⟩ := I.base.there b o e hx
   exact ⟨o',(hs.2 b (Nat.ne_of_lt (Nat.lt_of_lt_of_le (Heap.lt_size e) (I.ok.cab x c hfn hc)))).trans e1⟩
  ·by_cases hj : j = i
   ·subst hj
    rw [hi] at e1;cases e1
    rw [List.getElem?_set_self hiσ] at e2
    cases e2
    exact ⟨u,r,.inr ⟨.inl hk,c,hc,hc'⟩⟩
   ·rw [List.getElem?_set_ne (Ne.symm hj)] at e2
    obtain ⟨u',r',q⟩ := hl j y v' e1 e2 e3
    refine ⟨u',r',?_⟩
    rcases q with q | ⟨k,c',e,z'⟩
    ·exact .inl q
    ·refine .inr ⟨k,c',e,z'.sameBut hs ?_⟩
     rintro rfl
     exact hj (DW hN e1 (I.ok.inj _ _ _ e hc ▸ hi))
  ·by_cases hcc : c' = c
   ·subst hcc;exact ⟨_,hc'⟩
   ·obtain ⟨w2,z2⟩ := I.cell y c' e
    exact ⟨w2,z2.sameBut hs hcc⟩
  ·obtain ⟨e,n,ne,nf,d⟩ := I.pin p hp
   refine ⟨(hs.2 p.1 ?_).trans e,n,ne,nf,d⟩
   intro q
   rw [q,hoc] at e
   have q' : oc = p.2 := Option.some.inj e
   exact d w' (by rw [← q'];exact hocd)
theorem YA {M : Model} {A : Around} {E : Value → Shared → Prop} {i : Nat} {x : Str} {v : V} {u : Value} {Q : Unit → Shared → Prop} (I : Inv X pins σ H s) (hN : X.N.Nodup) (hi : X.N[i]? = some x) (hx : Loc X.env.scope x) (r : jo v u)
  (h : ∀ s',Inv X pins (σ.set i (some v)) H s' → Q () s') (hf : X.fn x = true ∨ X.env.scope.names.lookup x = some .local := by first | exact .inl rfl | exact .inr rfl | assumption) : wpAny M A (storeName X.env x u) Q E s :=
 Ei I hN hi hx r (fun s' I' _ => h s' I') hf
theorem Inv.call' {s' : Shared} {ch : List Addr} (I : Inv X pins σ H s) (ho : s'.os = s.os) (u : Un (frs X.stack) ch H H' s.heap s'.heap) (hok : HOk X.prog X.w H' s'.heap) (hg : AllBare s'.gens)
  (hch : ∀ b ∈ ch,(b ∈ X.ex ∨ X.s₀.heap.objs.size ≤ b)∧b ≠ X.env.locals∧(∀ x c,X.env.cells.lookup x = some c → c ≠ b)∧∀ p ∈ X.pn ++ pins,p.1 ≠ b) : Inv X pins σ H' s' := by
 obtain ⟨h',g',d',t',o'⟩ := s'
 have e : o' = s.os := ho
 subst e
 exact I.call (g' := g') (t' := t') (d' := d') u hok hg hch
end
noncomputable abbrev XK := Value → Option Addr → Hp → Prop
noncomputable abbrev St := List (Option V)
noncomputable abbrev VK := V → Hp → Prop
noncomputable abbrev TE := St → Hp → VK → Prop
noncomputable abbrev TT := St → Hp → (Bool → Hp → Prop) → Prop
noncomputable abbrev TA := St → Hp → (List V → Hp → Prop) → Prop
structure Ends where
 nx : St → Hp → Prop
 rt : VK
 bk : St → Hp → Prop := fun _ _ => False
 ct : St → Hp → Prop := fun _ _ => False
noncomputable abbrev TS := Ends → St → Hp → Prop
def EP (X : Cx) (pins : List (Addr × Obj)) (σ : St) (Q : VK) (u : Value) (s' : Shared) : Prop := ∃ v H',Inv X pins σ H' s'∧jo v u∧Q v H'
def TP (X : Cx) (pins : List (Addr × Obj)) (σ : St) (Q : Bool → Hp → Prop) (b : Bool) (s' : Shared) : Prop := ∃ H',Inv X pins σ H' s'∧Q b H'
def AP (X : Cx) (pins : List (Addr × Obj)) (σ : St) (Q : List V → Hp → Prop) (us : List Value) (s' : Shared) : Prop := ∃ vs H',Inv X pins σ H' s'∧zI vs us∧Q vs H'
def SP (X : Cx) (pins : List (Addr × Obj)) (D : Ends) (f : Flow) (s' : Shared) : Prop :=
 match f with
 | .next => ∃ σ' H',Inv X pins σ' H' s'∧D.nx σ' H'
 | .brk => ∃ σ' H',Inv X pins σ' H' s'∧D.bk σ' H'
 | .cont => ∃ σ' H',Inv X pins σ' H' s'∧D.ct σ' H'
 | .ret u => ∃ v σ' H',Inv X pins σ' H' s'∧jo v u∧D.rt v H'
def PE (X : Cx) (e : Expr) (t : TE) : Prop :=
 ∀ (pins : List (Addr × Obj)) (s : Shared) (σ : St) (H : Hp) (Q : VK),Inv X pins σ H s → t σ H Q → wpAny (model X.prog X.w) X.A (eval e X.env) (EP X pins σ Q) X.xe s
def PT (X : Cx) (e : Expr) (t : TT) : Prop :=
 ∀ (pins : List (Addr × Obj)) (s : Shared) (σ : St) (H : Hp) (Q : Bool → Hp → Prop),Inv X pins σ H s → t σ H Q → wpAny (model X.prog X.w) X.A (isTrue e X.env (eval e X.env)) (TP X pins σ Q) X.xe s
def PW (X : Cx) (e : Expr) (t : TT) : Prop :=
 ∀ (whole : Sem Value) (pins : List (Addr × Obj)) (s : Shared) (σ : St) (H : Hp) (Q : Bool → Hp → Prop),Inv X pins σ H s → t σ H Q → wpAny (model X.prog X.w) X.A (isTrue e X.env whole) (TP X pins σ Q) X.xe s
theorem PW.pt {X : Cx} {e : Expr} {t : TT} (h : PW X e t) : PT X e t := h _
def PA (X : Cx) (es : List Expr) (t : TA) : Prop :=
 ∀ (pos : Pos) (pins : List (Addr × Obj)) (s : Shared) (σ : St) (H : Hp) (Q : List V → Hp → Prop),Inv X pins σ H s → t σ H Q → wpAny (model X.prog X.w) X.A (spliced (backTo pos (starEach es X.env))) (AP X pins σ Q) X.xe s
def PS (X : Cx) (st : Stmt) (t : TS) : Prop :=
 ∀ (pins : List (Addr × Obj)) (s : Shared) (σ : St) (H : Hp) (D : Ends),Inv X pins σ H s → t D σ H → wpAny (model X.prog X.w) X.A (exec st X.env) (SP X pins D) X.xe s
def PSs (X : Cx) (st : List Stmt) (t : TS) : Prop :=
 ∀ (pins : List (Addr × Obj)) (s : Shared) (σ : St) (H : Hp) (D : Ends),Inv X pins σ H s → t D σ H → wpAny (model X.prog X.w) X.A (execs st X.env) (SP X pins D) X.xe s
theorem thn {α : Type} {t : Sem α} {Q Q' : α → Shared → Prop} {M : Model} {A : Around} {E : Value → Shared → Prop} {s : Shared} (h : wpAny M A t Q E s) (hQ : ∀ a s,Q a s → Q' a s) : wpAny M A t Q' E s := wpAny_mono h hQ fun _ _ x => x
end L2
namespace L2
open PySem PySem.Spec PyProof.Rows
section
variable {X : Cx}
noncomputable def qht (i : Nat) : TE := fun σ H Q => ∃ v,σ[i]? = some (some v)∧Q v H
noncomputable def tC (v : V) : TE := fun _ H Q => Q v H
theorem MS {i : Nat} {x : Str} {pos : Pos} (hN : X.N[i]? = some x) (hv : Vis X.env.scope x) (hd : (x == ("__debug__" : Str)) = false := by decide) (hcd : (x == ("__classdict__" : Str)) = false := by decide) : PE X (.Name x pos) (qht i) := by
 intro pins s σ H Q I h
 obtain ⟨v,e,h⟩ := h
 obtain ⟨m,hn,hl⟩ := I.loc
 obtain ⟨u,r,l⟩ := hl i x v hN e hv
 have fin : EP X pins σ Q u s := ⟨v,H,I,r,h⟩
 rcases l with ⟨hk,hm⟩ | ⟨hk,c,hc,hcell⟩
 ·exact wpAny_Name (wpAny_loadName_local I.ok.kind hk hn hm fin) hd
 ·rcases hk with hk | hk
  ·exact wpAny_Name (wpAny_loadName_cell I.ok.kind hk hc hcell fin) hd
  ·exact wpAny_Name (wpAny_loadName_free I.ok.kind hk hc hcell fin hcd) hd
theorem NL {i j pos} : PE X (.Constant (.int i) j pos) (tC (.int i)) := fun _ _ _ H _ I h => wpAny_Constant_int ⟨.int i,H,I.tok _,⟨_,rfl⟩,h⟩
theorem qfw {b j pos} : PE X (.Constant (.bool b) j pos) (tC (.bl b)) := fun _ _ _ H _ I h => Constant_bool ⟨.bl b,H,I,rfl,h⟩
theorem MN {j pos} : PE X (.Constant .none j pos) (tC .non) := fun _ _ _ H _ I h => Constant_none ⟨.non,H,I,rfl,h⟩
theorem Tf {x j pos} : PE X (.Constant (.str x) j pos) (tC (.str x)) := fun _ _ _ H _ I h => Calls.Constant_str ⟨.str x,H,I.tok _,⟨_,rfl⟩,h⟩
def Gl (X : Cx) (x : Str) : Prop := X.env.kindOf x = some .globalImplicit
theorem X9 {E : Value → Shared → Prop} {pins : List (Addr × Obj)} {s : Shared} {σ : St} {H : Hp} {x : Str} {u : Value} {pos : Pos} {Q : Value → Shared → Prop} (I : Inv X pins σ H s) (hg : Gl X x) (hm : X.mg x = some u) (h : Q u s)
  (hd : (x == ("__debug__" : Str)) = false := by decide) : wpAny (model X.prog X.w) X.A (eval (.Name x pos) X.env) Q E s :=
 Calls.Name_function_global I.ok.kind hg (Calls.loadGlobal_global (by rw [I.ok.glob];exact I.mod.glob.keeps I.bk) hm h) hd
theorem Vc {E : Value → Shared → Prop} {pins : List (Addr × Obj)} {s : Shared} {σ : St} {H : Hp} {x : Str} {u : Value} {pos : Pos} {Q : Value → Shared → Prop} (I : Inv X pins σ H s) (hg : Gl X x) (hm : X.mg x = none) (hv : bootBuiltins x = some u) (h : Q u s)
  (hn : x ≠ "__name__" := by decide) (hd : (x == ("__debug__" : Str)) = false := by decide) : wpAny (model X.prog X.w) X.A (eval (.Name x pos) X.env) Q E s := by
 obtain ⟨mb,h1,h2⟩ := I.mod.blt
 exact Calls.Name_function_global I.ok.kind hg (Calls.loadGlobal_builtin (by rw [I.ok.glob];exact I.mod.glob.keeps I.bk) hm (by rw [I.ok.blt];exact h1.keeps I.bk) ((h2 x hn).trans hv) h) hd
theorem LQ {x : Str} {v : V} {u : Value} {pos : Pos} (hg : Gl X x) (hm : X.mg x = some u) (r : jo v u) (hd : (x == ("__debug__" : Str)) = false := by decide) : PE X (.Name x pos) (tC v) :=
 fun _ _ _ H _ I h => X9 I hg hm ⟨v,H,I,r,h⟩ hd
theorem Kv {x : Str} {v : V} {u : Value} {pos : Pos} (hg : Gl X x) (hm : X.mg x = none) (hv : bootBuiltins x = some u) (r : jo v u) (hn : x ≠ "__name__" := by decide) (hd : (x == ("__debug__" : Str)) = false := by decide) : PE X (.Name x pos) (tC v) :=
 fun _ _ _ H _ I h => Vc I hg hm hv ⟨v,H,I,r,h⟩ hn hd
variable {a b : Expr} {ta tb : TE} {pos : Pos}
noncomputable def tB (t : TE) : TT := fun σ H Q => t σ H fun x H1 => ∃ c,x = .bl c∧Q c H1
theorem MA {e : Expr} {t : TE} (h : PE X e t) (he : ∀ whole,isTrue e X.env whole = (do let v ← whole;standAt e.pos;holding [v] (truthy v)) := by intro _;rfl) : PT X e (tB t) := by
 intro pins s σ H Q I hw
 refine isTrue_plain (thn (h pins s σ H _ I hw) fun v s1 ⟨x,H1,I1,r1,q1⟩ => ?_) (he _)
 obtain ⟨d,rfl,q⟩ := q1
 cases r1
 exact wpAny_truthy_bool ⟨H1,I1,q⟩
variable {tA tB' : TT} {ZI : List Expr}
noncomputable def tOr (t u : TT) : TT := fun σ H Q => t σ H fun c H1 => if c = true then Q true H1 else u σ H1 Q
noncomputable def qij (t : TT) : TT := fun σ H Q => t σ H fun c H1 => Q (!c) H1
theorem qcj (ha : PT X a tA) : PW X (.BoolOp .Or [a] pos) tA := by
 intro wh pins s σ H Q I h
 refine isTrue_or (thn (ha pins s σ H Q I h) fun c s1 e => ?_)
 cases c with
 | false => exact isTrue_or_nil e
 | true => exact e
theorem qfu (ha : PT X a tA) (hb : PW X (.BoolOp .Or (b :: ZI) pos) tB') : PW X (.BoolOp .Or (a :: b :: ZI) pos) (tOr tA tB') := by
 intro wh pins s σ H Q I h
 refine isTrue_or (thn (ha pins s σ H _ I h) fun c s1 ⟨H1,I1,q1⟩ => ?_)
 cases c with
 | true => exact ⟨H1,I1,q1⟩
 | false => exact hb wh pins s1 σ H1 Q I1 q1
theorem qbr (ha : PT X a tA) : PT X (.UnaryOp .Not a pos) (qij tA) := by
 intro pins s σ H Q I h
 exact isTrue_not (ha pins s σ H (fun c H1 => Q (!c) H1) I h)
noncomputable def qfz (ta tb : TE) : TE := fun σ H Q => ta σ H fun x H1 => ∃ c,x = .bl c∧if c = true then tb σ H1 Q else Q (.bl false) H1
noncomputable def qft (ta : TE) : TE := fun σ H Q => ta σ H fun x H1 => ∃ c,x = .bl c∧Q (.bl (!c)) H1
theorem qb1 {op} {t : TE} (h : PE X a t) : PE X (.BoolOp op [a] pos) t := fun pins s σ H Q I hw => BoolOp_one (h pins s σ H Q I hw)
theorem qas (ha : PE X a ta) (hb : PE X (.BoolOp .And (b :: ZI) pos) tb) : PE X (.BoolOp .And (a :: b :: ZI) pos) (qfz ta tb) := by
 intro pins s σ H Q I h
 refine BoolOp_and (thn (ha pins s σ H _ I h) fun v s1 ⟨x,H1,I1,r1,q1⟩ => ?_)
 obtain ⟨c,rfl,q1⟩ := q1
 cases r1
 refine wpAny_truthy_bool ?_
 cases c with
 | true => exact hb pins s1 σ H1 Q I1 q1
 | false => exact ⟨.bl false,H1,I1,rfl,q1⟩
theorem qcc (ha : PE X a ta) : PE X (.UnaryOp .Not a pos) (qft ta) := by
 intro pins s σ H Q I h
 refine UnaryOp_ (thn (ha pins s σ H _ I h) fun v s1 ⟨x,H1,I1,r1,q1⟩ => ?_)
 obtain ⟨c,rfl,q1⟩ := q1
 cases r1
 exact not_of (wpAny_truthy_bool ⟨.bl (!c),H1,I1,rfl,q1⟩)
noncomputable def tIf (t : TT) (ta tb : TE) : TE := fun σ H Q => t σ H fun c H1 => if c = true then ta σ H1 Q else tb σ H1 Q
theorem Rn {c : Expr} (hc : PT X c tA) (ha : PE X a ta) (hb : PE X b tb) : PE X (.IfExp c a b pos) (tIf tA ta tb) := by
 intro pins s σ H Q I h
 refine wpAny_IfExp (thn (hc pins s σ H _ I h) fun d s1 ⟨H1,I1,q1⟩ => ?_)
 cases d with
 | true => exact ha pins s1 σ H1 Q I1 q1
 | false => exact hb pins s1 σ H1 Q I1 q1
end
end L2
namespace L2
open PySem PySem.Spec PyProof.Rows
def SqL (K : PySem.W.Frag) (H : Hp) (a : Addr) (xs : List V) : Prop :=
 Rd H a (.lst xs) ∨
  ∃ (o : Obj) (its : Array Value) (n : Nat),K.lookup a = some o∧o.cls = .type "list"∧o.dict = none∧o.data = .seq its n∧its.size ≤ sizeLine∧zI xs its.toList
def SqT (K : PySem.W.Frag) (H : Hp) (a : Addr) (xs : List V) : Prop :=
 Rd H a (.tup xs) ∨
  ∃ (o : Obj) (its : Array Value) (n : Nat),K.lookup a = some o∧o.cls = .type "tuple"∧o.data = .seq its n∧its.size ≤ sizeLine∧zI xs its.toList
noncomputable def qhh : Value → Option V
 | .none => some .non
 | .bool b => some (.bl b)
 | .int i _ => some (.int i)
 | .str x _ => some (.str x)
 | .bytes b _ => some (.byt b)
 | .float b _ => some (.flt b)
 | .ref a => some (.ref a)
 | .type n => some (.ty n)
 | _ => none
theorem jo.abs {x : V} {u : Value} (r : jo x u) : qhh u = some x := by
 cases x with
 | non => cases r;rfl
 | bl _ => cases r;rfl
 | int _ => obtain ⟨t,rfl⟩ := r;rfl
 | str _ => obtain ⟨t,rfl⟩ := r;rfl
 | byt _ => obtain ⟨t,rfl⟩ := r;rfl
 | flt _ => obtain ⟨t,rfl⟩ := r;rfl
 | ref _ => cases r;rfl
 | ty _ => cases r;rfl
theorem jo.inj {x y : V} {u : Value} (r : jo x u) (q : jo y u) : x = y := Option.some.inj (r.abs.symm.trans q.abs)
theorem zI.inj : ∀ {xs ys : List V} {us : List Value},zI xs us → zI ys us → xs = ys
 | _,_,_,.nil,.nil => rfl
 | _,_,_,.cons r t,.cons r' t' => by rw [r.inj r',zI.inj t t']
section
variable {X : Cx} {pins : List (Addr × Obj)} {σ : St} {H : Hp} {s : Shared} {a : Addr} {xs ys : List V}
theorem SqL.of {K : PySem.W.Frag} (h : H a = some (.lst xs)) : SqL K H a xs := .inl (.inl h)
theorem SqT.of {K : PySem.W.Frag} (h : H a = some (.tup xs)) : SqT K H a xs := .inl (.inl h)
theorem Inv.list (I : Inv X pins σ H s) (h : SqL X.K H a xs) : ∃ its : List Value,zI xs its∧PlainL s.heap a its.toArray∧xs.length ≤ sizeLine := by
 rcases h with h | ⟨o,its,n,hk,hc,hd,hs,hz,r⟩
 ·obtain ⟨z,its,n,r,e⟩ := h.ok I.hok
  exact ⟨its,r,⟨_,n,e,rfl,rfl,rfl⟩,z⟩
 ·refine ⟨its.toList,r,⟨o,n,I.kIn a o hk,hc,hd,by simpa using hs⟩,?_⟩
  have e := r.length
  simp only [Array.length_toList] at e
  omega
theorem Inv.tuple (I : Inv X pins σ H s) (h : SqT X.K H a xs) : ∃ its : List Value,zI xs its∧IsTup s.heap a its.toArray∧xs.length ≤ sizeLine := by
 rcases h with h | ⟨o,its,n,hk,hc,hs,hz,r⟩
 ·obtain ⟨z,its,r,p⟩ := h.ok I.hok
  exact ⟨its,r,p,z⟩
 ·refine ⟨its.toList,r,⟨o,I.kIn a o hk,hc,n,by simpa using hs⟩,?_⟩
  have e := r.length
  simp only [Array.length_toList] at e
  omega
theorem Inv.list_inj (I : Inv X pins σ H s) (h : SqL X.K H a xs) (h' : SqL X.K H a ys) : xs = ys := by
 obtain ⟨its,r,⟨o,n,e,_,_,d⟩,_⟩ := I.list h
 obtain ⟨its',r',⟨o',n',e',_,_,d'⟩,_⟩ := I.list h'
 rw [e] at e';cases e'
 rw [d] at d'
 injection d' with d1 _
 have : its = its' := by simpa using congrArg Array.toList d1
 subst this
 exact r.inj r'
theorem Inv.tuple_inj (I : Inv X pins σ H s) (h : SqT X.K H a xs) (h' : SqT X.K H a ys) : xs = ys := by
 obtain ⟨its,r,⟨o,e,_,n,d⟩,_⟩ := I.tuple h
 obtain ⟨its',r',⟨o',e',_,n',d'⟩,_⟩ := I.tuple h'
 rw [e] at e';cases e'
 rw [d] at d'
 injection d' with d1 _
 have : its = its' := by simpa using congrArg Array.toList d1
 subst this
 exact r.inj r'
end
noncomputable abbrev Cx.wish (X : Cx) (E : Value → Shared → Prop) : Cx := { X with xe := E }
noncomputable abbrev Cx.nox (X : Cx) : Cx := X.wish fun _ _ => False
theorem Cx.Ok.wish {X : Cx} (ok : X.Ok) (E : Value → Shared → Prop) : (X.wish E).Ok :=
 ⟨ok.mod,ok.kind,ok.glob,ok.blt,ok.above,ok.inj,ok.has,ok.cab,ok.hd,ok.frames,ok.stk,ok.exf,ok.bs,ok.bsz,ok.noex,ok.exfs,ok.funs,ok.frf⟩
theorem Cx.Ok.unwish {X : Cx} {E : Value → Shared → Prop} (ok : (X.wish E).Ok) : X.Ok :=
 ⟨ok.mod,ok.kind,ok.glob,ok.blt,ok.above,ok.inj,ok.has,ok.cab,ok.hd,ok.frames,ok.stk,ok.exf,ok.bs,ok.bsz,ok.noex,ok.exfs,ok.funs,ok.frf⟩
section
variable {X : Cx} {pins : List (Addr × Obj)} {σ : St} {H : Hp} {s : Shared} {E : Value → Shared → Prop}
theorem Inv.wish (I : Inv X pins σ H s) (E : Value → Shared → Prop) : Inv (X.wish E) pins σ H s := ⟨I.ok.wish E,I.os,I.bare,I.base,I.loc,I.cell,I.free,I.freeC,I.pin,I.hok,I.len⟩
theorem Inv.unwish (I : Inv (X.wish E) pins σ H s) : Inv X pins σ H s := ⟨I.ok.unwish,I.os,I.bare,I.base,I.loc,I.cell,I.free,I.freeC,I.pin,I.hok,I.len⟩
theorem SP.unwish {D : Ends} {f : Flow} {s' : Shared} (h : SP (X.wish E) pins D f s') : SP X pins D f s' := by
 cases f with
 | next => obtain ⟨σ',H',I,q⟩ := h;exact ⟨σ',H',I.unwish,q⟩
 | brk => obtain ⟨σ',H',I,q⟩ := h;exact ⟨σ',H',I.unwish,q⟩
 | cont => obtain ⟨σ',H',I,q⟩ := h;exact ⟨σ',H',I.unwish,q⟩
 | ret u => obtain ⟨v,σ',H',I,r,q⟩ := h;exact ⟨v,σ',H',I.unwish,r,q⟩
theorem PSs.nox {st : List Stmt} {t : TS} (h : PSs X.nox st t) : PSs X st t := fun pins s σ H D I hw =>
 wpAny_mono (h pins s σ H D (I.wish _) hw) (fun _ _ q => q.unwish) fun _ _ z => False.elim z
end
section
variable {X : Cx} {st : Stmt} {ZI : List Stmt} {t u : TS} {e : Expr} {te : TE} {pos : Pos}
noncomputable def qe1 : TS := fun D σ H => D.nx σ H
noncomputable def qhl (t u : TS) : TS := fun D σ H => t { D with nx := u D } σ H
theorem LF : PSs X [] qe1 := fun _ _ σ H _ I h => wpAny_execs_nil ⟨σ,H,I,h⟩
theorem RR (h1 : PS X st t) (h2 : PSs X ZI u) : PSs X (st :: ZI) (qhl t u) := by
 intro pins s σ H D I h
 refine wpAny_execs_cons (thn (h1 pins s σ H { D with nx := u D } I h) fun f s1 q => ?_)
 cases f with
 | next =>
  obtain ⟨σ',H',I',q⟩ := q
  exact h2 pins s1 σ' H' D I' q
 | ret v => exact q
 | brk => exact q
 | cont => exact q
theorem Lv (h1 : PS X st t) : PSs X [st] t := by
 intro pins s σ H D I h
 refine wpAny_execs_cons (thn (h1 pins s σ H D I h) fun f s1 q => ?_)
 cases f with
 | next => exact wpAny_execs_nil q
 | ret v => exact q
 | brk => exact q
 | cont => exact q
theorem Inv.quiet {pins : List (Addr × Obj)} {σ : St} {H : Hp} {s : Shared} (I : Inv X pins σ H s) : interactive X.env = false := by simp [interactive,I.ok.kind]
noncomputable def qfv (te : TE) : TS := fun D σ H => te σ H fun _ H1 => D.nx σ H1
theorem Lo (he : PE X e te) (hs : swapsWith e none pos.line X.env = pure false := by rfl) : PS X (.Expr e pos) (qfv te) := by
 intro pins s σ H D I h
 exact wpAny_Expr_any (thn (he pins s σ H _ I h) fun v s1 ⟨x,H1,I1,r1,q1⟩ => ⟨σ,H1,I1,q1⟩) I.quiet hs
noncomputable def qh8 (te : TE) : TS := fun D σ H => te σ H D.rt
theorem MH (he : PE X e te) : PS X (.Return (some e) pos) (qh8 te) := by
 intro pins s σ H D I h
 exact wpAny_Return_some (thn (he pins s σ H _ I h) fun v s1 ⟨x,H1,I1,r1,q1⟩ => ⟨x,σ,H1,I1,r1,q1⟩)
noncomputable def qik (c : TT) (t u : TS) : TS := fun D σ H => c σ H fun b H1 => if b = true then t D σ H1 else u D σ H1
theorem qdq {c : Expr} {a b : List Stmt} {tc : TT} (hc : PT X c tc) (ha : PSs X a t) (hb : PSs X b u) : PS X (.If c a b pos) (qik tc t u) := by
 intro pins s σ H D I h
 refine wpAny_If (thn (hc pins s σ H _ I h) fun d s1 ⟨H1,I1,q1⟩ => ?_)
 cases d with
 | true => exact ha pins s1 σ H1 D I1 q1
 | false => exact hb pins s1 σ H1 D I1 q1
end
noncomputable abbrev TG := V → St → Hp → (St → Hp → Prop) → Prop
noncomputable abbrev TGs := List V → St → Hp → (St → Hp → Prop) → Prop
def PG (X : Cx) (target : Expr) (t : TG) : Prop :=
 ∀ (pins : List (Addr × Obj)) (s : Shared) (σ : St) (H : Hp) (v : V) (u : Value) (Q : St → Hp → Prop),Inv X pins σ H s → jo v u → t v σ H Q →
  wpAny (model X.prog X.w) X.A (assign target X.env u) (fun _ s' => ∃ σ' H',Inv X pins σ' H' s'∧Q σ' H') X.xe s
def PGs (X : Cx) (ts : List Expr) (t : TGs) : Prop :=
 ∀ (pins : List (Addr × Obj)) (s : Shared) (σ : St) (H : Hp) (vs : List V) (us : List Value) (Q : St → Hp → Prop),Inv X pins σ H s → zI vs us → t vs σ H Q →
  wpAny (model X.prog X.w) X.A (assignInOrder ((assignEach ts X.env).map (·.2)) us) (fun _ s' => ∃ σ' H',Inv X pins σ' H' s'∧Q σ' H') X.xe s
noncomputable abbrev qfn := V → V → V → Hp → (Hp → Prop) → Prop
def qgx (X : Cx) (t : qfn) : Prop :=
 ∀ (pins : List (Addr × Obj)) (s : Shared) (σ : St) (H : Hp) (o i v : V) (ov iv u : Value) (Q : Hp → Prop),Inv X pins σ H s → jo o ov → jo i iv → jo v u → t o i v H Q →
  wpAny (model X.prog X.w) X.A (setItem ov iv u) (fun _ s' => ∃ H',Inv X pins σ H' s'∧Q H') X.xe s
section
variable {X : Cx} {pos : Pos}
noncomputable def Kt (i : Nat) : TG := fun v σ H Q => Q (σ.set i (some v)) H
theorem LI {i : Nat} {x : Str} (hN : X.N.Nodup) (hi : X.N[i]? = some x) (hx : Loc X.env.scope x) (hf : X.fn x = true ∨ X.env.scope.names.lookup x = some .local := by first | exact .inl rfl | exact .inr rfl | assumption) : PG X (.Name x pos) (Kt i) := by
 intro pins s σ H v u Q I r h
 exact wpAny_assign_Name (YA I hN hi hx r (fun s' I' => ⟨_,H,I',h⟩) hf)
noncomputable def DJ : TGs := fun vs σ H Q => vs = []∧Q σ H
noncomputable def jr (t : TG) (u : TGs) : TGs := fun vs σ H Q => ∃ v r,vs = v :: r∧t v σ H fun σ' H' => u r σ' H' Q
theorem Ly : PGs X [] DJ := by
 intro pins s σ H vs us Q I r h
 obtain ⟨e,h⟩ := h
 subst e
 cases r
 exact assignInOrder_nil ⟨σ,H,I,h⟩
theorem Rr {e : Expr} {es : List Expr} {t : TG} {u : TGs} (h1 : PG X e t) (h2 : PGs X es u)
  (hs : (assignEach (e :: es) X.env).map (·.2) = assign e X.env :: (assignEach es X.env).map (·.2) := by rfl) : PGs X (e :: es) (jr t u) := by
 intro pins s σ H vs us Q I r h
 obtain ⟨v,vr,e1,h⟩ := h
 subst e1
 cases r with
 | cons r rr =>
  rw [hs]
  refine assignInOrder_cons (thn (h1 pins s σ H _ _ _ I r h) fun _ s1 ⟨σ1,H1,I1,q1⟩ => ?_)
  exact h2 pins s1 σ1 H1 _ _ Q I1 rr q1
noncomputable def DG (K : PySem.W.Frag) (n : Nat) (t : TGs) : TG := fun v σ H Q => ∃ a xs,v = .ref a∧SqT K H a xs∧xs.length = n∧t xs σ H Q
theorem MR {es : List Expr} {k : Nat} {t : TGs} {n : Nat} (hc : X.calm = true) (h : PGs X es t)
  (hn : (assignEach es X.env).length = n := by rfl) (hst : (assignEach es X.env).findIdx? (·.1) = none := by rfl) : PG X (.Tuple es k pos) (DG X.K n t) := by
 intro pins s σ H v u Q I r hw
 obtain ⟨a,xs,e1,hq,hl,hw⟩ := hw
 subst e1
 cases r
 obtain ⟨its,rv,ht,hz⟩ := I.tuple hq
 refine assign_Tuple_tuple (I.ok.hd hc) ht (by simp [hn,← hl,rv.length]) hst fun h' hx => ?_
 have I1 : Inv X pins σ H { s with heap := h' } := I.kept (t' := s.toks) fun b o e => hx b o (Nat.ne_of_lt (Heap.lt_size e)) e
 exact h pins _ σ H xs _ Q I1 (by simpa using rv) hw
noncomputable def qib (to ti : TE) (t : qfn) : TG := fun v σ H Q => to σ H fun o H1 => ti σ H1 fun i H2 => t o i v H2 fun H3 => Q σ H3
theorem qb4 {o i : Expr} {to ti : TE} {t : qfn} (ho : PE X o to) (hi : PE X i ti) (hs : qgx X t)
  (ha : ∀ v,assign (.Subscript o i pos) X.env v = (do
   let ov ← holding [v] (eval o X.env)
   let iv ← holding [v,ov] (eval i X.env)
   standAt pos
   holding [v,ov,iv] (setItem ov iv v)
   release [v,ov,iv] []) := by intro _;rfl) : PG X (.Subscript o i pos) (qib to ti t) := by
 intro pins s σ H v u Q I r h
 rw [ha]
 refine wpAny_bind (wpAny_holding (thn (ho pins s σ H _ I h) fun ov s1 ⟨x,H1,I1,r1,q1⟩ => ?_))
 refine wpAny_bind (wpAny_holding (thn (hi pins s1 σ H1 _ I1 q1) fun iv s2 ⟨y,H2,I2,r2,q2⟩ => ?_))
 refine wpAny_bind (wpAny_standAt (wpAny_bind (wpAny_holding (thn (hs pins s2 σ H2 x y v ov iv u _ I2 r1 r2 r q2) fun _ s3 ⟨H3,I3,q3⟩ => ?_))))
 exact wpAny_release ⟨σ,H3,I3,q3⟩
noncomputable def qex (te : TE) (g : TG) : TS := fun D σ H => te σ H fun x H1 => g x σ H1 D.nx
theorem Nq {tg e : Expr} {te : TE} {g : TG} (he : PE X e te) (hg : PG X tg g) (hs : swapsWithSole [tg] e pos.line X.env = pure false := by rfl) (hw : swappedStores [tg] e X.env = pure none := by rfl)
  (h1 : (assignEach [tg] X.env).map (·.2) = [assign tg X.env] := by rfl) : PS X (.Assign [tg] e pos) (qex te g) := by
 intro pins s σ H D I h
 refine wpAny_Assign_stores (thn (he pins s σ H _ I h) fun v s1 ⟨x,H1,I1,r1,q1⟩ => ?_) hs hw
 rw [h1]
 exact thn (hg pins s1 σ H1 x v _ I1 r1 q1) fun _ s2 q => q
theorem Mk {i : Nat} {x : Str} {e : Expr} {te : TE} {pos' : Pos} (hN : X.N.Nodup) (hi : X.N[i]? = some x) (hx : Loc X.env.scope x) (he : PE X e te) (hs : swapsWith e (some (.Name x pos')) pos.line X.env = pure false := by rfl) (hf : X.fn x = true ∨ X.env.scope.names.lookup x = some .local := by first | exact .inl rfl | exact .inr rfl | assumption) :
  PS X (.Assign [.Name x pos'] e pos) (qex te (Kt i)) := by
 intro pins s σ H D I h
 refine wpAny_Assign_Name (thn (he pins s σ H _ I h) fun v s1 ⟨y,H1,I1,r1,q1⟩ => ?_) hs
 exact YA I1 hN hi hx r1 (fun s2 I2 => ⟨_,H1,I2,q1⟩) hf
noncomputable def qh4 (i j : Nat) (ta : TA) : TS := fun D σ H => ta σ H fun vs H1 => ∃ v w,vs = [v,w]∧D.nx ((σ.set i (some v)).set j (some w)) H1
theorem qcg {i j : Nat} {x y : Str} {a b : Expr} {ta : TA} {px py pt : Pos} {kt k2 pt2} (hc : X.calm = true) (hN : X.N.Nodup) (hi : X.N[i]? = some x) (hj : X.N[j]? = some y) (hij : i ≠ j)
  (hx : X.env.scope.names.lookup x = some .local) (hy : X.env.scope.names.lookup y = some .local) (ha : PA X [a,b] ta)
  (hw : swappedStores [.Tuple [.Name x px,.Name y py] kt pt] (.Tuple [a,b] k2 pt2) X.env = pure (some [x,y]))
  (hs : swapsWithSole [.Tuple [.Name x px,.Name y py] kt pt] (.Tuple [a,b] k2 pt2) pos.line X.env = pure false := by rfl) :
  PS X (.Assign [.Tuple [.Name x px,.Name y py] kt pt] (.Tuple [a,b] k2 pt2) pos) (qh4 i j ta) := by
 intro pins s σ H D I h
 rw [exec_Assign_arm]
 refine wpAny_bind (wpAny_standAt ?_)
 rw [hs]
 refine wpAny_bind (wpAny_pure ?_)
 rw [if_neg (by decide)]
 refine wpAny_bind (Tuple_ (thn (ha _ pins s σ H _ I h) fun us s1 ⟨vs,H1,I1,r1,q1⟩ => ?_))
 obtain ⟨v,w,e1,q1⟩ := q1
 subst e1
 obtain ⟨u1,u2,rfl,rv,rw'⟩ : ∃ u1 u2,us = [u1,u2]∧jo v u1∧jo w u2 := by
  cases r1 with
  | cons p q =>
   cases q with
   | cons p' q' =>
    cases q'
    exact ⟨_,_,rfl,p,p'⟩
 refine wpAny_newObj_type ?_ (by show 2 ≤ sizeLine;decide)
 have I2 : Inv X pins σ H1 { s1 with heap := s1.heap.push { cls := .type "tuple",data := .seq [u1,u2].toArray } } := I1.kept (t' := s1.toks) fun b o e => Heap.get?_push_of_some _ e
 rw [hw]
 refine wpAny_bind (wpAny_pure ?_)
 show wpAny (model X.prog X.w) X.A (do rule "assign.swapped-stores";let items ← unpackItems (.ref s1.heap.objs.size) 2 none;assignInOrder [fun v => bindName X.env y v,fun v => bindName X.env x v] items.reverse;pure Flow.next) _ _ _
 refine wpAny_bind (wpAny_rule (wpAny_bind (unpackItems_tuple (items := #[u1,u2]) (I.ok.hd hc) (IsTup.new s1.heap _) fun h' hx' => ?_)))
 have I3 := I2.kept (h' := h') (t' := s1.toks) fun b o e => hx' b o (Nat.ne_of_lt (Heap.lt_size e)) e
 show wpAny _ _ (assignInOrder [fun v => bindName X.env y v,fun v => bindName X.env x v] [u2,u1] >>= fun _ => pure Flow.next) _ _ _
 refine wpAny_bind (assignInOrder_cons (wpAny_bindName (YA I3 hN hj (.inl hy) rw' (fun s2 I4 => ?_) (.inr hy))))
 refine assignInOrder_cons (wpAny_bindName (YA I4 hN hi (.inl hx) rv (fun s3 I5 => assignInOrder_nil (wpAny_pure ?_)) (.inr hx)))
 rw [List.set_comm _ _ (Ne.symm hij)] at I5
 exact ⟨_,H1,I5,q1⟩
end
section
variable {X : Cx} {pos : Pos}
end
structure It where
 go : Nat → Hp → Prop
 yld : Nat → Hp → V → Hp → Prop
 stop : Nat → Hp → Prop
def E8 (X : Cx) (pins : List (Addr × Obj)) (H : Hp) (b : Addr) : Prop :=
 H b = none∧b ≠ X.env.locals∧b ∉ X.fs∧(b ∈ X.ex ∨ X.s₀.heap.objs.size ≤ b)∧(∀ x c,X.env.cells.lookup x = some c → c ≠ b)∧∀ p ∈ X.pn ++ pins,p.1 ≠ b
theorem Inv.fpOk {X : Cx} {pins : List (Addr × Obj)} {σ : St} {H H' : Hp} {s : Shared} {b : Addr} (I : Inv X pins σ H s) (hb : s.heap.objs.size ≤ b) (hn : H' b = none) : E8 X pins H' b := by
 refine ⟨hn,Nat.ne_of_gt (Nat.lt_of_lt_of_le I.lt hb),I.nofs hb,.inr (Nat.le_trans I.sz hb),fun x c e z => ?_,fun p hp z => ?_⟩
 ·obtain ⟨v,q⟩ := I.cell x c e
  exact absurd (Nat.lt_of_lt_of_le q.lt (by rw [z];exact hb)) (Nat.lt_irrefl _)
 ·exact absurd (Nat.lt_of_lt_of_le (Heap.lt_size (I.pin p hp).1) (by rw [z];exact hb)) (Nat.lt_irrefl _)
structure Turn (P : Program) (w : World) (K : PySem.W.Frag) (tg : Expr) (J : It) (fp : List Addr) (it : Addr) (tn : Nat → Heap → Prop) : Prop where
 mem : it ∈ fp
 obj : ∀ i h,tn i h → ∀ b ∈ fp,∃ o,h.get? b = some o∧∀ v,o.data ≠ .cell v
 keep : ∀ i h h',tn i h → (∀ b ∈ fp,∀ o,h.get? b = some o → h'.get? b = some o) → tn i h'
 item : ∀ (X : Cx),X.prog = P → X.w = w → X.K = K → X.calm = true → ∀ (i : Nat) (pins : List (Addr × Obj)) (s : Shared) (σ : St) (H : Hp) (E : Value → Shared → Prop),Inv X pins σ H s → (∀ b ∈ fp,E8 X pins H b) → tn i s.heap → J.go i H →
  wpAny (model P w) X.A (pyNext (.ref it)) (fun r s1 => ∃ u,r = some u ∧
   wpAny (model P w) X.A (letOwnedTupleGo tg (.ref it) u) (fun _ s2 => ∃ x H',Inv X pins σ H' s2∧jo x u∧J.yld i H x H'∧tn (i + 1) s2.heap∧∀ b ∈ fp,H' b = none) E s1) E s
 done : ∀ (X : Cx),X.prog = P → X.w = w → X.K = K → X.calm = true → ∀ (i : Nat) (pins : List (Addr × Obj)) (s : Shared) (σ : St) (H : Hp) (E : Value → Shared → Prop),Inv X pins σ H s → (∀ b ∈ fp,E8 X pins H b) → tn i s.heap → J.stop i H →
  wpAny (model P w) X.A (pyNext (.ref it)) (fun r s1 => r = none∧Inv X pins σ H s1) E s
 self : ∀ (A : Around) (i : Nat) (s : Shared) (Q : Value → Shared → Prop) (E : Value → Shared → Prop),tn i s.heap → Q (.ref it) s → wpAny (model P w) A (pyIter (.ref it)) Q E s
noncomputable abbrev TI := St → Hp → (It → Hp → Prop) → Prop
def PIE (X : Cx) (pins : List (Addr × Obj)) (σ : St) (tg : Expr) (R : It → Hp → Prop) (itv : Value) (s2 : Shared) : Prop :=
 ∃ (it : Addr) (fp : List Addr) (tn : Nat → Heap → Prop) (J : It) (H' : Hp),itv = .ref it∧Inv X pins σ H' s2∧Turn X.prog X.w X.K tg J fp it tn∧tn 0 s2.heap∧(∀ b ∈ fp,E8 X pins H' b)∧R J H'
def PI (X : Cx) (tg iter : Expr) (wi : TI) : Prop :=
 ∀ (pins : List (Addr × Obj)) (s : Shared) (σ : St) (H : Hp) (R : It → Hp → Prop),Inv X pins σ H s → wi σ H R →
  wpAny (model X.prog X.w) X.A (eval iter X.env) (fun v s1 => wpAny (model X.prog X.w) X.A (pyIter v) (PIE X pins σ tg R) X.xe s1) X.xe s
theorem Kn {M : Model} {A : Around} {E : Value → Shared → Prop} {s : Shared} {tg : Expr} {it : Addr} {u : Value} {o : Obj} {n : String} {vs : Array Value} {Q : Unit → Shared → Prop} (ho : s.heap.get? it = some o) (hc : o.cls = .type n) (hd : o.data = .fields vs)
    (hn : ["enumerate","zip","dict_itemiterator","dict_reverseitemiterator","odict_iterator","itertools.zip_longest","itertools.pairwise"].contains n = false) (hQ : Q () s) : wpAny M A (letOwnedTupleGo tg (.ref it) u) Q E s := by
  unfold letOwnedTupleGo
  cases tg <;> first
    | exact wpAny_pure hQ
    | (cases u <;> first
        | exact wpAny_pure hQ
        | (refine wpAny_bind (wpAny_load ho ?_)
           rw [hc,hd]
           show wpAny M A (if (["enumerate","zip","dict_itemiterator","dict_reverseitemiterator","odict_iterator","itertools.zip_longest","itertools.pairwise"].contains n && vs[0]? == some (rawInt _)) = true then _ else _) Q E s
           rw [if_neg (by intro h;rw [hn,Bool.false_and] at h;cases h)]
           exact wpAny_pure hQ))
noncomputable def Itl (K : PySem.W.Frag) (a : Addr) : It :=
 ⟨fun i H => ∃ xs x,SqL K H a xs∧xs[i]? = some x,fun i H x H' => H' = H∧∀ xs,SqL K H a xs → xs[i]? = some x,fun i H => ∃ xs,SqL K H a xs∧xs.length ≤ i⟩
noncomputable def Itt (K : PySem.W.Frag) (a : Addr) : It :=
 ⟨fun i H => ∃ xs x,SqT K H a xs∧xs[i]? = some x,fun i H x H' => H' = H∧∀ xs,SqT K H a xs → xs[i]? = some x,fun i H => ∃ xs,SqT K H a xs∧xs.length ≤ i⟩
noncomputable def Itr (lo : Int) (n : Nat) : It := ⟨fun i _ => i < n,fun i H x H' => H' = H∧x = .int (lo + i),fun i _ => n ≤ i⟩
theorem Cn {P : Program} {w : World} {K : PySem.W.Frag} {tg : Expr} (a it : Addr) : Turn P w K tg (Itl K a) [it] it (fun i h => h.IsListIter it a i) where
 mem := by simp
 obj := fun i h st b hb => by
  have e : b = it := by simpa using hb
  subst e
  obtain ⟨o,e,c,d⟩ := st
  exact ⟨o,e,fun v z => by rw [d] at z;cases z⟩
 keep := fun i h h' st k => st.at fun o e => k it (by simp) o e
 item := by
  intro X hP hw hK hc i pins s σ H E I hf st hg
  subst hP hw hK
  obtain ⟨xs,x,hq,hx⟩ := hg
  obtain ⟨its,rv,p,hz⟩ := I.list hq
  obtain ⟨u,hu,ru⟩ := rv.get hx
  obtain ⟨f0,f1,f2,f3,f4,f5⟩ := hf it (by simp)
  refine wpAny_pyNext_list_item st p.isList (x := u) (by simpa using hu) fun h' st' sb => ?_
  have I1 : Inv X pins σ H { s with heap := h' } := I.turned (t' := s.toks) (fun b o hb e => (sb.2 b hb).trans e) f0 f1 f3 f4 f5
  obtain ⟨o,e,c,d⟩ := id st'
  exact ⟨u,rfl,Kn (s := { s with heap := h' }) e c d (by decide) ⟨x,H,I1,ru,⟨rfl,fun ys hy => by rw [I.list_inj hy hq];exact hx⟩,st',fun b hb => (hf b hb).1⟩⟩
 done := by
  intro X hP hw hK hc i pins s σ H E I hf st hg
  subst hP hw hK
  obtain ⟨xs,hq,hx⟩ := hg
  obtain ⟨its,rv,p,hz⟩ := I.list hq
  obtain ⟨f0,f1,f2,f3,f4,f5⟩ := hf it (by simp)
  have hl := rv.length
  exact wpAny_pyNext_list_end (I.ok.hd hc) st p.isList (by simp;omega) fun h' eb => ⟨rfl,I.turned (t' := s.toks) (fun b o hb e => eb b o hb e) f0 f1 f3 f4 f5⟩
 self := fun _ _ _ _ _ st h => wpAny_pyIter_listiter st h
theorem W0 {P : Program} {w : World} {K : PySem.W.Frag} {tg : Expr} (a it : Addr) : Turn P w K tg (Itt K a) [it] it (fun i h => h.IsTupleIter it a i) where
 mem := by simp
 obj := fun i h st b hb => by
  have e : b = it := by simpa using hb
  subst e
  obtain ⟨o,e,c,d⟩ := st
  exact ⟨o,e,fun v z => by rw [d] at z;cases z⟩
 keep := fun i h h' st k => st.at fun o e => k it (by simp) o e
 item := by
  intro X hP hw hK hc i pins s σ H E I hf st hg
  subst hP hw hK
  obtain ⟨xs,x,hq,hx⟩ := hg
  obtain ⟨its,rv,p,hz⟩ := I.tuple hq
  obtain ⟨u,hu,ru⟩ := rv.get hx
  obtain ⟨f0,f1,f2,f3,f4,f5⟩ := hf it (by simp)
  refine wpAny_pyNext_tuple_item st (show s.heap.IsTuple a its.toArray from p) (x := u) (by simpa using hu) fun h' st' sb => ?_
  have I1 : Inv X pins σ H { s with heap := h' } := I.turned (t' := s.toks) (fun b o hb e => (sb.2 b hb).trans e) f0 f1 f3 f4 f5
  obtain ⟨o,e,c,d⟩ := id st'
  exact ⟨u,rfl,Kn (s := { s with heap := h' }) e c d (by decide) ⟨x,H,I1,ru,⟨rfl,fun ys hy => by rw [I.tuple_inj hy hq];exact hx⟩,st',fun b hb => (hf b hb).1⟩⟩
 done := by
  intro X hP hw hK hc i pins s σ H E I hf st hg
  subst hP hw hK
  obtain ⟨xs,hq,hx⟩ := hg
  obtain ⟨its,rv,p,hz⟩ := I.tuple hq
  obtain ⟨f0,f1,f2,f3,f4,f5⟩ := hf it (by simp)
  have hl := rv.length
  exact wpAny_pyNext_tuple_end (I.ok.hd hc) st (show s.heap.IsTuple a its.toArray from p) (by simp;omega) fun h' eb => ⟨rfl,I.turned (t' := s.toks) (fun b o hb e => eb b o hb e) f0 f1 f3 f4 f5⟩
 self := fun _ _ _ _ _ st h => wpAny_pyIter_tupleiter st h
theorem Wl {P : Program} {w : World} {K : PySem.W.Frag} {tg : Expr} (it : Addr) (lo : Int) (n : Nat) : Turn P w K tg (Itr lo n) [it] it (fun i h => IsRangeIter h it (lo + (i : Nat) * 1) ((n : Int) - (i : Nat)) 1) where
 mem := by simp
 obj := fun i h st b hb => by
  have e : b = it := by simpa using hb
  subst e
  exact ⟨_,st,fun v z => by
   have z' : Data.fields _ = Data.cell v := z
   cases z'⟩
 keep := fun i h h' st k => k it (by simp) _ st
 item := by
  intro X hP hw hK hc i pins s σ H E I hf st hg
  subst hP hw hK
  obtain ⟨f0,f1,f2,f3,f4,f5⟩ := hf it (by simp)
  have W := Walks.range (prog := X.prog) (w := X.w) (I.ok.hd hc) it lo 1 n
  refine W.item i s _ _ hg st fun v h' tk hv st' kk => ?_
  obtain ⟨t,rfl⟩ := hv
  have I1 : Inv X pins σ H { s with heap := h',toks := tk } := I.turned (fun b o hb e => kk b o (by simpa using hb) e) f0 f1 f3 f4 f5
  refine ⟨_,rfl,Kn (s := { s with heap := h',toks := tk }) (n := "range_iterator") st' rfl rfl (by decide) ⟨.int (lo + i),H,I1,⟨t,?_⟩,⟨rfl,rfl⟩,st',fun b hb => (hf b hb).1⟩⟩
  rw [Int.mul_one]
 done := by
  intro X hP hw hK hc i pins s σ H E I hf st hg
  subst hP hw hK
  obtain ⟨f0,f1,f2,f3,f4,f5⟩ := hf it (by simp)
  exact wpAny_pyNext_range_end (I.ok.hd hc) st (by have : n ≤ i := hg;omega) fun h' eb => ⟨rfl,I.turned (t' := s.toks) (fun b o hb e => eb b o hb e) f0 f1 f3 f4 f5⟩
 self := fun _ _ _ _ _ st h => wpAny_pyIter_rangeiter st h
end L2
namespace L2
open PySem PySem.Spec PyProof.Rows
section
variable {X : Cx} {tg : Expr}
theorem DN {pins : List (Addr × Obj)} {σ : St} {H : Hp} {s : Shared} {R : It → Hp → Prop} {E : Value → Shared → Prop} {lo hi : Int} {t u v : Tok} {tk : Nat} (I : Inv X pins σ H s) (h1 : -(2 ^ 62) ≤ lo) (h2 : lo < 2 ^ 62) (h3 : -(2 ^ 62) ≤ hi) (h4 : hi < 2 ^ 62)
  (q : R (Itr lo (hi - lo).toNat) H) : wpAny (model X.prog X.w) X.A (pyIter (.ref s.heap.objs.size)) (PIE X pins σ tg R) E { s with heap := s.heap.push { cls := .type "range",data := .fields #[.int lo t,.int hi u,.int 1 v] },toks := tk } := by
 refine wpAny_pyIter_range (IsRange.new ..) (small_one h1 h2 h3 h4) ?_
 have I1 : Inv X pins σ H { s with heap := s.heap.push { cls := .type "range",data := .fields #[.int lo t,.int hi u,.int 1 v] },toks := tk } := I.kept fun b o e => Heap.get?_push_of_some _ e
 refine ⟨(s.heap.push { cls := .type "range",data := .fields #[.int lo t,.int hi u,.int 1 v] }).objs.size,[(s.heap.push { cls := .type "range",data := .fields #[.int lo t,.int hi u,.int 1 v] }).objs.size],_,_,H,rfl,
  I1.kept (t' := tk) fun b o e => Heap.get?_push_of_some _ e,Wl _ lo (hi - lo).toNat,?_,fun b hb => ?_,q⟩
 ·have e1 : lo + ((0 : Nat) : Int) * 1 = lo := by simp
  have e2 : (((hi - lo).toNat : Nat) : Int) - ((0 : Nat) : Int) = Builtin.Range.rangeSize lo hi 1 := by rw [rangeSize_one];split <;> omega
  show IsRangeIter _ _ (lo + ((0 : Nat) : Int) * 1) ((((hi - lo).toNat : Nat) : Int) - ((0 : Nat) : Int)) 1
  rw [e1,e2]
  exact Heap.get?_push_size _ rfl
 ·have e : b = (s.heap.push { cls := .type "range",data := .fields #[.int lo t,.int hi u,.int 1 v] }).objs.size := by simpa using hb
  subst e
  exact I1.fpOk (Nat.le_refl _) (I1.hok.fresh (Nat.le_refl _))
noncomputable def qfb (ta : TA) : TI := fun σ H R => ta σ H fun vs H1 => ∃ j : Int,vs = [.int j]∧-(2 ^ 62) ≤ j∧j < 2 ^ 62∧R (Itr 0 j.toNat) H1
noncomputable def qeo (ta : TA) : TI := fun σ H R => ta σ H fun vs H1 => ∃ i j : Int,vs = [.int i,.int j]∧(-(2 ^ 62) ≤ i∧i < 2 ^ 62∧-(2 ^ 62) ≤ j∧j < 2 ^ 62)∧R (Itr i (j - i).toNat) H1
theorem XZ {a : Expr} {ta : TA} {p pos : Pos} (hg : Gl X "range") (hm : X.mg "range" = none) (ha : PA X [a] ta) (hs : starEach [a] X.env = [(false,eval a X.env)] := by rfl) : PI X tg (.Call (.Name "range" p) [a] [] pos) (qfb ta) := by
 intro pins s σ H R I h
 refine Call_ (Vc I hg hm boot_range (PyProof.Rows.callWith_type1 (thn (ha pos pins s σ H _ I h) fun us s1 ⟨vs,H1,I1,r1,q1⟩ => ?_) hs rfl))
 obtain ⟨j,e,q1,q2,q⟩ := q1
 subst e
 cases r1 with
 | cons r rr =>
  cases rr
  obtain ⟨t,rfl⟩ := r
  exact call_range_1 (DN I1 (by omega) (by omega) q1 q2 (by simpa using q))
theorem WS {a b : Expr} {ta : TA} {p pos : Pos} (hg : Gl X "range") (hm : X.mg "range" = none) (ha : PA X [a,b] ta) (hs : starEach [a,b] X.env = [(false,eval a X.env),(false,eval b X.env)] := by rfl) (hs2 : starEach [b] X.env = [(false,eval b X.env)] := by rfl) :
  PI X tg (.Call (.Name "range" p) [a,b] [] pos) (qeo ta) := by
 intro pins s σ H R I h
 refine Call_ (Vc I hg hm boot_range (PyProof.Rows.callWith_type1 (thn (ha pos pins s σ H _ I h) fun us s1 ⟨vs,H1,I1,r1,q1⟩ => ?_) (by rw [hs,hs2]) (by rw [hs2];rfl)))
 obtain ⟨i,j,e,⟨q1,q2,q3,q4⟩,q⟩ := q1
 subst e
 cases r1 with
 | cons r rr =>
  cases rr with
  | cons r' rr =>
   cases rr
   obtain ⟨t,rfl⟩ := r
   obtain ⟨t',rfl⟩ := r'
   exact call_range_2 (DN I1 q1 q2 q3 q4 q)
noncomputable def qhy (wi : TI) (g : TG) (tb : TS) : TS := fun D σ H => wi σ H fun J H1 => ∃ W : Nat → Nat → St → Hp → Prop,(∃ m,W 0 m σ H1)∧∀ i m σ H,W i m σ H →
 (J.stop i H∧D.nx σ H) ∨ (J.go i H∧∃ N : St → Hp → Prop,(∀ σ' H',N σ' H' → ∃ m',m' < m∧W (i + 1) m' σ' H')∧∀ x H',J.yld i H x H' → g x σ H' fun σ2 H2 => tb { D with nx := N,ct := N,bk := D.nx } σ2 H2)
noncomputable def Yl (fp : List Addr) (h : Heap) : List (Addr × Obj) := fp.filterMap fun b => (h.get? b).map fun o => (b,o)
theorem zj {fp : List Addr} {h : Heap} {b : Addr} {o : Obj} (hb : b ∈ fp) (e : h.get? b = some o) : (b,o) ∈ Yl fp h := List.mem_filterMap.mpr ⟨b,hb,by rw [e];rfl⟩
theorem Xu {fp : List Addr} {h : Heap} {p : Addr × Obj} (hp : p ∈ Yl fp h) : p.1 ∈ fp∧h.get? p.1 = some p.2 := by
 obtain ⟨b,hb,e⟩ := List.mem_filterMap.mp hp
 cases q : h.get? b with
 | none => rw [q] at e;cases e
 | some o =>
  rw [q] at e
  have e' : (b,o) = p := Option.some.inj e
  subst e'
  exact ⟨hb,q⟩
theorem Inv.pinned {pins : List (Addr × Obj)} {σ : St} {H : Hp} {s : Shared} {fp : List Addr} (I : Inv X pins σ H s) (hf : ∀ b ∈ fp,E8 X pins H b) (ho : ∀ b ∈ fp,∃ o,s.heap.get? b = some o∧∀ v,o.data ≠ .cell v) : Inv X (pins ++ Yl fp s.heap) σ H s :=
 I.pins_of fun p hp => (List.mem_append.mp hp).elim (fun z => I.pin p (List.mem_append_right _ z)) fun z => by
  obtain ⟨hb,e⟩ := Xu z
  obtain ⟨f0,f1,f2,_⟩ := hf p.1 hb
  obtain ⟨o,e',d⟩ := ho p.1 hb
  rw [e] at e';cases e'
  exact ⟨e,f0,f1,f2,d⟩
theorem Inv.unpinned {pins pl : List (Addr × Obj)} {σ : St} {H : Hp} {s : Shared} (I : Inv X (pins ++ pl) σ H s) : Inv X pins σ H s := I.pins_of fun p hp => I.pin p (List.mem_append_right _ (List.mem_append_left _ hp))
theorem qap {iter : Expr} {body : List Stmt} {wi : TI} {g : TG} {tb : TS} {pos : Pos} (hp : PassesOwn (model X.prog X.w) X.A X.env X.xe) (hc : X.calm = true) (hi : PI X tg iter wi) (hg : PG X tg g) (hb : PSs X body tb)
  (hs : ∀ x,foldedSetIterable iter X.env x = pure x := by intro _;rfl) : PS X (.For tg iter body [] pos) (qhy wi g tb) := by
 intro pins s σ H D I h
 refine wpAny_For (thn (hi pins s σ H _ I h) fun v s1 h1 => thn h1 fun itv s2 h2 => ?_) hs
 obtain ⟨it,fp,tn,J,H2,e,I2,T,st2,f2,W,⟨m0,w0⟩,turn⟩ := h2
 subst e
 -- what stays true of the iterator's objects through the loop
 have stat : ∀ {H' : Hp},(∀ b ∈ fp,H' b = none) → ∀ b ∈ fp,E8 X pins H' b := fun hn b hb => ⟨hn b hb,(f2 b hb).2⟩
 refine codeAny_forLoop_any (fun n s' => ∃ i σ' H',Inv X pins σ' H' s'∧tn i s'.heap∧(∀ b ∈ fp,H' b = none)∧W i n σ' H') ?_ m0 ⟨0,σ,H2,I2,st2,fun b hb => (f2 b hb).1,w0⟩
 rintro n s3 ⟨i,σ3,H3,I3,st3,fr3,w3⟩
 rcases turn i n σ3 H3 w3 with ⟨stop,qn⟩ | ⟨go,N,hN,step⟩
 ·refine wpAny_passesOwn hp (thn (T.done X rfl rfl rfl hc i pins s3 σ3 H3 X.xe I3 (stat fr3) st3 stop) fun r s4 ⟨hr,I4⟩ => ?_)
  subst hr
  exact wpAny_execs_nil ⟨σ3,H3,I4,qn⟩
 ·refine wpAny_passesOwn hp (thn (T.item X rfl rfl rfl hc i pins s3 σ3 H3 X.xe I3 (stat fr3) st3 go) fun r s4 ⟨u,hr,h4⟩ => ?_)
  subst hr
  refine wpAny_passesOwn hp (thn h4 fun _ s5 ⟨x,H5,I5,r5,y5,st5,fr5⟩ => ?_)
  have I5' := I5.pinned (stat fr5) (T.obj _ _ st5)
  refine wpAny_passesOwn hp (thn (hg _ s5 σ3 H5 x u _ I5' r5 (step x H5 y5)) fun _ s6 ⟨σ6,H6,I6,q6⟩ => ?_)
  refine wpAny_passesOwn hp (thn (hb _ s6 σ6 H6 _ I6 q6) fun f s7 q7 => ?_)
  have again : ∀ {σ7 : St} {H7 : Hp},Inv X (pins ++ Yl fp s5.heap) σ7 H7 s7 → N σ7 H7 → ∃ m,m < n∧∃ i σ' H',Inv X pins σ' H' s7∧tn i s7.heap∧(∀ b ∈ fp,H' b = none)∧W i m σ' H' := fun {σ7 H7} I7 n7 => by
   obtain ⟨m',hm,w7⟩ := hN σ7 H7 n7
   refine ⟨m',hm,i + 1,σ7,H7,I7.unpinned,T.keep _ _ _ st5 fun b hb o e => (I7.pin (b,o) (List.mem_append_right _ (List.mem_append_right _ (zj hb e)))).1,fun b hb => ?_,w7⟩
   obtain ⟨o,e,d⟩ := T.obj _ _ st5 b hb
   exact (I7.pin (b,o) (List.mem_append_right _ (List.mem_append_right _ (zj hb e)))).2.1
  cases f with
  | next => obtain ⟨σ7,H7,I7,n7⟩ := q7;exact again I7 n7
  | cont => obtain ⟨σ7,H7,I7,n7⟩ := q7;exact again I7 n7
  | brk => obtain ⟨σ7,H7,I7,q7⟩ := q7;exact ⟨σ7,H7,I7.unpinned,q7⟩
  | ret v => obtain ⟨x7,σ7,H7,I7,r7,q7⟩ := q7;exact ⟨x7,σ7,H7,I7.unpinned,r7,q7⟩
end
end L2
namespace L2
open PySem PySem.Spec PyProof.Rows
noncomputable abbrev R2 := V → V → Hp → VK → Prop
def OpR (X : Cx) (f : Value → Value → Sem Value) (r : R2) : Prop :=
 ∀ (pins : List (Addr × Obj)) (s : Shared) (σ : St) (H : Hp) (x y : V) (v u : Value) (Q : VK),Inv X pins σ H s → jo x v → jo y u → r x y H Q →
  wpAny (model X.prog X.w) X.A (f v u) (EP X pins σ Q) X.xe s
def UnR (X : Cx) (f : Value → Sem Value) (r : V → Hp → VK → Prop) : Prop :=
 ∀ (pins : List (Addr × Obj)) (s : Shared) (σ : St) (H : Hp) (x : V) (v : Value) (Q : VK),Inv X pins σ H s → jo x v → r x H Q →
  wpAny (model X.prog X.w) X.A (f v) (EP X pins σ Q) X.xe s
def ZN (X : Cx) (f : Value) (r : List V → Hp → VK → Prop) : Prop :=
 ∀ (pins : List (Addr × Obj)) (s : Shared) (σ : St) (H : Hp) (xs : List V) (us : List Value) (Q : VK),Inv X pins σ H s → zI xs us → r xs H Q →
  wpAny (model X.prog X.w) X.A (call f us) (EP X pins σ Q) X.xe s
noncomputable def tOp (r : R2) (ta tb : TE) : TE := fun σ H Q => ta σ H fun x H1 => tb σ H1 fun y H2 => r x y H2 Q
noncomputable def tUn (r : V → Hp → VK → Prop) (ta : TE) : TE := fun σ H Q => ta σ H fun x H1 => r x H1 Q
noncomputable def rI (C : Int → Int → Prop) (g : Int → Int → V) : R2 := fun x y H Q => ∃ i j,x = .int i∧y = .int j∧C i j∧Q (g i j) H
noncomputable def rI0 (g : Int → Int → V) : R2 := fun x y H Q => ∃ i j,x = .int i∧y = .int j∧Q (g i j) H
noncomputable def rU (g : Int → V) : V → Hp → VK → Prop := fun x H Q => ∃ i,x = .int i∧Q (g i) H
section
variable {X : Cx} {a b c : Expr} {ta tb tc : TE} {pos : Pos}
theorem qek (ha : PE X a ta) (hb : PE X b tb) {pins : List (Addr × Obj)} {s : Shared} {σ : St} {H : Hp} {R : V → V → Hp → Prop} (I : Inv X pins σ H s)
  (h : ta σ H fun x H1 => tb σ H1 fun y H2 => R x y H2) {Q : Value → Shared → Prop} {f : Value → Value → Sem Value}
  (hf : ∀ v u s2 x y H2,Inv X pins σ H2 s2 → jo x v → jo y u → R x y H2 → wpAny (model X.prog X.w) X.A (f v u) Q X.xe s2) :
  wpAny (model X.prog X.w) X.A (eval a X.env) (fun v s₁ => wpAny (model X.prog X.w) X.A (eval b X.env) (fun u s₂ => wpAny (model X.prog X.w) X.A (f v u) Q X.xe s₂) X.xe s₁) X.xe s := by
 refine thn (ha pins s σ H _ I h) fun v s1 ⟨x,H1,I1,r1,q1⟩ => ?_
 refine thn (hb pins s1 σ H1 _ I1 q1) fun u s2 ⟨y,H2,I2,r2,q2⟩ => ?_
 exact hf v u s2 x y H2 I2 r1 r2 q2
theorem qe6 {op : Operator} {r : R2} (ho : OpR X (binaryOp op) r) (ha : PE X a ta) (hb : PE X b tb) : PE X (.BinOp a op b pos) (tOp r ta tb) := by
 intro pins s σ H Q I h
 exact wpAny_BinOp (qek ha hb I h fun v u s2 x y H2 I2 rx ry q => ho pins s2 σ H2 x y v u Q I2 rx ry q)
theorem qds {op : UnaryOp} {r : V → Hp → VK → Prop} (ho : UnR X (unaryOp op) r) (ha : PE X a ta) : PE X (.UnaryOp op a pos) (tUn r ta) := by
 intro pins s σ H Q I h
 exact UnaryOp_ (thn (ha pins s σ H _ I h) fun v s1 ⟨x,H1,I1,r1,q1⟩ => ho pins s1 σ H1 x v Q I1 r1 q1)
theorem opI {f : Value → Value → Sem Value} {C : Int → Int → Prop} {g : Int → Int → Int}
  (rule : ∀ (i j : Int) (t u : Tok) (s : Shared) (Q : Value → Shared → Prop) (E : Value → Shared → Prop),C i j → Q (.int (g i j) s.toks) { s with toks := s.toks + 1 } → wpAny (model X.prog X.w) X.A (f (.int i t) (.int j u)) Q E s) :
  OpR X f (rI C fun i j => .int (g i j)) := by
 intro pins s σ H x y v u Q I rx ry h
 obtain ⟨i,j,rfl,rfl,hc,q⟩ := h
 obtain ⟨t,rfl⟩ := rx
 obtain ⟨t',rfl⟩ := ry
 exact rule i j t t' s _ _ hc ⟨.int (g i j),H,I.tok _,⟨_,rfl⟩,q⟩
theorem qgy {f : Value → Value → Sem Value} {g : Int → Int → Int}
  (rule : ∀ (i j : Int) (t u : Tok) (s : Shared) (Q : Value → Shared → Prop) (E : Value → Shared → Prop),Q (.int (g i j) s.toks) { s with toks := s.toks + 1 } → wpAny (model X.prog X.w) X.A (f (.int i t) (.int j u)) Q E s) :
  OpR X f (rI0 fun i j => .int (g i j)) := by
 intro pins s σ H x y v u Q I rx ry h
 obtain ⟨i,j,rfl,rfl,q⟩ := h
 obtain ⟨t,rfl⟩ := rx
 obtain ⟨t',rfl⟩ := ry
 exact rule i j t t' s _ _ ⟨.int (g i j),H,I.tok _,⟨_,rfl⟩,q⟩
theorem qdh {f : Value → Value → Sem Value} {g : Int → Int → Bool}
  (rule : ∀ (i j : Int) (t u : Tok) (s : Shared) (Q : Value → Shared → Prop) (E : Value → Shared → Prop),Q (.bool (g i j)) s → wpAny (model X.prog X.w) X.A (f (.int i t) (.int j u)) Q E s) :
  OpR X f (rI0 fun i j => .bl (g i j)) := by
 intro pins s σ H x y v u Q I rx ry h
 obtain ⟨i,j,rfl,rfl,q⟩ := h
 obtain ⟨t,rfl⟩ := rx
 obtain ⟨t',rfl⟩ := ry
 exact rule i j t t' s _ _ ⟨.bl (g i j),H,I,rfl,q⟩
def W5 (i j : Int) : Prop := 0 < j∧j < 1073741824
def Mt (i j : Int) : Prop := 0 ≤ j∧j ≤ 1000000∧i.natAbs < 2 ^ 64
def Qm (i j : Int) : Prop := (-(2 ^ 64) < i∧i < 2 ^ 64) ∨ (-(2 ^ 64) < j∧j < 2 ^ 64)
theorem Qm.ok {i j : Int} (h : Qm i j) : IntMulOk i j := by
 rcases h with ⟨h1,h2⟩ | ⟨h1,h2⟩
 ·exact .of_left (intBits_le_64 h1 h2)
 ·exact .of_right (intBits_le_64 h1 h2)
theorem TH : OpR X (binaryOp .Add) (rI0 fun i j => .int (i + j)) := qgy fun _ _ _ _ _ _ _ q => add_int q
theorem N7 : OpR X (binaryOp .Sub) (rI0 fun i j => .int (i - j)) := qgy fun _ _ _ _ _ _ _ q => sub_int q
theorem qac : OpR X (binaryOp .Mult) (rI Qm fun i j => .int (i * j)) := opI fun _ _ _ _ _ _ _ hc q => mul_int q hc.ok
theorem Lu : OpR X (binaryOp .FloorDiv) (rI W5 fun i j => .int (i / j)) := opI fun i j _ _ _ _ _ hc q => by
 have h1 : (0 : Int) < j := hc.1
 have h2 : j < 1073741824 := hc.2
 exact floordiv_int (by omega) (by rw [Int.fdiv_eq_ediv_of_nonneg i (by omega)];exact q) (.inl (PyProof.noPylong_small (by omega)))
theorem qad : OpR X (binaryOp .Mod) (rI (fun _ j => 0 < j) fun i j => .int (i % j)) := opI fun i j _ _ _ _ _ hc q => by
 have h1 : (0 : Int) < j := hc
 exact mod_int' (by omega) (by rw [Int.fmod_eq_emod_of_nonneg i (by omega)];exact q)
theorem Ng : OpR X (binaryOp .Pow) (rI Mt fun i j => .int (i ^ j.toNat)) := opI fun _ _ _ _ _ _ _ hc q => pow_int_small hc.1 hc.2.1 hc.2.2 q
theorem unI {f : Value → Sem Value} {g : Int → Int}
  (rule : ∀ (i : Int) (t : Tok) (s : Shared) (Q : Value → Shared → Prop) (E : Value → Shared → Prop),Q (.int (g i) s.toks) { s with toks := s.toks + 1 } → wpAny (model X.prog X.w) X.A (f (.int i t)) Q E s) :
  UnR X f (rU fun i => .int (g i)) := by
 intro pins s σ H x v Q I rx h
 obtain ⟨i,rfl,q⟩ := h
 obtain ⟨t,rfl⟩ := rx
 exact rule i t s _ _ ⟨.int (g i),H,I.tok _,⟨_,rfl⟩,q⟩
theorem qbg : UnR X (unaryOp .USub) (rU fun i => .int (-i)) := unI fun _ _ _ _ _ q => neg_int q
end
noncomputable def qfy : V → V → Bool
 | .non,.non => true | .non,.int _ => true | .int _,.non => true | .non,.bl _ => true | .bl _,.non => true | .non,.str _ => true | .str _,.non => true
 | .int _,.int _ => true | .bl _,.bl _ => true | .str _,.str _ => true | .byt _,.byt _ => true
 | .int _,.str _ => true | .str _,.int _ => true | .bl _,.str _ => true | .str _,.bl _ => true
 | _,_ => false
noncomputable def rEq : R2 := fun x y H Q => qfy x y = true∧Q (.bl (decide (x = y))) H
noncomputable def rNe : R2 := fun x y H Q => qfy x y = true∧Q (.bl (!decide (x = y))) H
theorem Cj {i j : Int} : decide (V.int i = V.int j) = (i == j) := by
 rw [Bool.eq_iff_iff]
 simp
theorem T0 {i j : Bool} : decide (V.bl i = V.bl j) = (i == j) := by
 rw [Bool.eq_iff_iff]
 simp
theorem CH {i j : Str} : decide (V.str i = V.str j) = (i == j) := by
 rw [Bool.eq_iff_iff]
 simp
theorem WV {i j : Array UInt8} : decide (V.byt i = V.byt j) = (i.toList == j.toList) := by
 rw [Bool.eq_iff_iff]
 cases i
 cases j
 simp
section
variable {X : Cx} {a b c : Expr} {ta tb tc : TE} {pos : Pos}
theorem qI {pins : List (Addr × Obj)} {σ : St} {H : Hp} {s : Shared} {Q : VK} {k k' : Bool} (I : Inv X pins σ H s) (q : Q (.bl k) H) (e : k = k') : EP X pins σ Q (.bool k') s := by
 subst e
 exact ⟨.bl k,H,I,rfl,q⟩
theorem qe2 : OpR X (compareOp .Eq) rEq := by
 intro pins s σ H x y v u Q I rx ry h
 obtain ⟨hs,q⟩ := h
 cases x with
 | non =>
  cases rx
  cases y with
  | non => cases ry;exact PySem.EqNone.eq_none_none (qI I q (by simp))
  | bl j => cases ry;exact PySem.EqNone.eq_none_bool (qI I q (by simp))
  | int j => obtain ⟨t',rfl⟩ := ry;exact PySem.EqNone.eq_none_int (qI I q (by simp))
  | str j => obtain ⟨t',rfl⟩ := ry;exact PySem.EqNone.eq_none_str (qI I q (by simp))
  | _ => exact absurd (show false = true from hs) Bool.false_ne_true
 | bl i =>
  cases rx
  cases y with
  | non => cases ry;exact PySem.EqNone.eq_bool_none (qI I q (by simp))
  | bl j => cases ry;exact eq_bool (qI I q T0)
  | str j => obtain ⟨t',rfl⟩ := ry;exact PySem.EqMixed.eq_bool_str (qI I q (by simp))
  | _ => exact absurd (show false = true from hs) Bool.false_ne_true
 | int i =>
  obtain ⟨t,rfl⟩ := rx
  cases y with
  | non => cases ry;exact PySem.EqNone.eq_int_none (qI I q (by simp))
  | int j => obtain ⟨t',rfl⟩ := ry;exact eq_int (qI I q Cj)
  | str j => obtain ⟨t',rfl⟩ := ry;exact PySem.EqMixed.eq_int_str (qI I q (by simp))
  | _ => exact absurd (show false = true from hs) Bool.false_ne_true
 | str i =>
  obtain ⟨t,rfl⟩ := rx
  cases y with
  | non => cases ry;exact PySem.EqNone.eq_str_none (qI I q (by simp))
  | bl j => cases ry;exact PySem.EqMixed.eq_str_bool (qI I q (by simp))
  | int j => obtain ⟨t',rfl⟩ := ry;exact PySem.EqMixed.eq_str_int (qI I q (by simp))
  | str j => obtain ⟨t',rfl⟩ := ry;exact eq_str (qI I q CH)
  | _ => exact absurd (show false = true from hs) Bool.false_ne_true
 | byt i =>
  obtain ⟨t,rfl⟩ := rx
  cases y with
  | byt j => obtain ⟨t',rfl⟩ := ry;exact PySem.W.eq_bytes (qI I q WV)
  | _ => exact absurd (show false = true from hs) Bool.false_ne_true
 | _ => cases y <;> exact absurd (show false = true from hs) Bool.false_ne_true
theorem qe9 : OpR X (compareOp .NotEq) rNe := by
 intro pins s σ H x y v u Q I rx ry h
 obtain ⟨hs,q⟩ := h
 cases x with
 | non =>
  cases rx
  cases y with
  | non => cases ry;exact PySem.EqNone.ne_none_none (qI I q (by simp))
  | bl j => cases ry;exact PySem.EqNone.ne_none_bool (qI I q (by simp))
  | int j => obtain ⟨t',rfl⟩ := ry;exact PySem.EqNone.ne_none_int (qI I q (by simp))
  | str j => obtain ⟨t',rfl⟩ := ry;exact PySem.EqNone.ne_none_str (qI I q (by simp))
  | _ => exact absurd (show false = true from hs) Bool.false_ne_true
 | bl i =>
  cases rx
  cases y with
  | non => cases ry;exact PySem.EqNone.ne_bool_none (qI I q (by simp))
  | bl j => cases ry;exact ne_bool (qI I q (congrArg not T0))
  | str j => obtain ⟨t',rfl⟩ := ry;exact PySem.EqMixed.ne_bool_str (qI I q (by simp))
  | _ => exact absurd (show false = true from hs) Bool.false_ne_true
 | int i =>
  obtain ⟨t,rfl⟩ := rx
  cases y with
  | non => cases ry;exact PySem.EqNone.ne_int_none (qI I q (by simp))
  | int j => obtain ⟨t',rfl⟩ := ry;exact ne_int (qI I q (congrArg not Cj))
  | str j => obtain ⟨t',rfl⟩ := ry;exact PySem.EqMixed.ne_int_str (qI I q (by simp))
  | _ => exact absurd (show false = true from hs) Bool.false_ne_true
 | str i =>
  obtain ⟨t,rfl⟩ := rx
  cases y with
  | non => cases ry;exact PySem.EqNone.ne_str_none (qI I q (by simp))
  | bl j => cases ry;exact PySem.EqMixed.ne_str_bool (qI I q (by simp))
  | int j => obtain ⟨t',rfl⟩ := ry;exact PySem.EqMixed.ne_str_int (qI I q (by simp))
  | str j => obtain ⟨t',rfl⟩ := ry;exact ne_str (qI I q (congrArg not CH))
  | _ => exact absurd (show false = true from hs) Bool.false_ne_true
 | byt i =>
  obtain ⟨t,rfl⟩ := rx
  cases y with
  | byt j => obtain ⟨t',rfl⟩ := ry;exact PySem.W.ne_bytes (qI I q (congrArg not WV))
  | _ => exact absurd (show false = true from hs) Bool.false_ne_true
 | _ => cases y <;> exact absurd (show false = true from hs) Bool.false_ne_true
theorem Uv : OpR X (compareOp .Lt) (rI0 fun i j => .bl (decide (i < j))) := qdh fun _ _ _ _ _ _ _ q => lt_int q
theorem qfj : OpR X (compareOp .LtE) (rI0 fun i j => .bl (decide (i ≤ j))) := qdh fun _ _ _ _ _ _ _ q => le_int q
theorem qcp : OpR X (compareOp .Gt) (rI0 fun i j => .bl (decide (j < i))) := qdh fun _ _ _ _ _ _ _ q => gt_int q
theorem CU : OpR X (compareOp .GtE) (rI0 fun i j => .bl (decide (j ≤ i))) := qdh fun _ _ _ _ _ _ _ q => ge_int q
theorem qck : OpR X (compareOp .Is) (fun x y H Q => y = .non∧Q (.bl (decide (x = .non))) H) := by
 intro pins s σ H x y v u Q I rx ry h
 obtain ⟨rfl,q⟩ := h
 cases ry
 refine is_none_gen (qI I q ?_)
 cases x <;> first
  | (cases rx;rfl)
  | (obtain ⟨t,rfl⟩ := rx;rfl)
theorem K5 : OpR X (compareOp .IsNot) (fun x y H Q => y = .non∧Q (.bl (!decide (x = .non))) H) := by
 intro pins s σ H x y v u Q I rx ry h
 obtain ⟨rfl,q⟩ := h
 cases ry
 refine isnot_none_gen (qI I q ?_)
 cases x <;> first
  | (cases rx;rfl)
  | (obtain ⟨t,rfl⟩ := rx;rfl)
theorem OpR.or {f : Value → Value → Sem Value} {r r' : R2} (h : OpR X f r) (h' : OpR X f r') : OpR X f (fun x y H Q => r x y H Q ∨ r' x y H Q) := by
 intro pins s σ H x y v u Q I rx ry q
 rcases q with q | q
 ·exact h pins s σ H x y v u Q I rx ry q
 ·exact h' pins s σ H x y v u Q I rx ry q
theorem qr (b : Expr) {op : CmpOp} (h : op ≠ .In := by decide) (h2 : op ≠ .NotIn := by decide) : behindInMarks op b = false := by
 have e1 : (op == CmpOp.In) = false := by cases op <;> first | rfl | exact absurd rfl h
 have e2 : (op == CmpOp.NotIn) = false := by cases op <;> first | rfl | exact absurd rfl h2
 cases b <;> simp [behindInMarks,e1,e2]
theorem Lr {op : CmpOp} {r : R2} (ho : OpR X (compareOp op) r) (ha : PE X a ta) (hb : PE X b tb) (hm : behindInMarks op b = false) : PE X (.Compare a [op] [b] pos) (tOp r ta tb) := by
 intro pins s σ H Q I h
 exact wpAny_Compare1 (qek ha hb I h fun v u s2 x y H2 I2 rx ry q => ho pins s2 σ H2 x y v u Q I2 rx ry q) hm
noncomputable def qbm (t : TE) : TT := fun σ H Q => t σ H fun x H' => ∃ k,x = .bl k∧Q k H'
theorem Ls {op : CmpOp} {r : R2} (ho : OpR X (compareOp op) r) (ha : PE X a ta) (hb : PE X b tb) (hm : behindInMarks op b = false) : PT X (.Compare a [op] [b] pos) (qbm (tOp r ta tb)) := by
 intro pins s σ H Q I h
 refine wpAny_isTrue_Compare1 (thn (ha pins s σ H _ I h) fun v s1 ⟨x,H1,I1,r1,q1⟩ => thn (hb pins s1 σ H1 _ I1 q1) fun u s2 ⟨y,H2,I2,r2,q2⟩ =>
  thn (ho pins s2 σ H2 x y v u _ I2 r1 r2 q2) fun c s3 ⟨z,H3,I3,r3,k,e,q3⟩ => ?_) hm
 subst e
 cases r3
 exact wpAny_truthy_bool ⟨H3,I3,q3⟩
noncomputable def SZ (r r' : R2) (ta tb tc : TE) : TE := fun σ H Q => ta σ H fun x H1 => tb σ H1 fun y H2 => r x y H2 fun z H3 => ∃ k,z = .bl k ∧
 (if k = true then tc σ H3 fun w' H4 => r' y w' H4 Q else Q (.bl false) H3)
theorem CV {op op' : CmpOp} {r r' : R2} (ho : OpR X (compareOp op) r) (ho' : OpR X (compareOp op') r') (ha : PE X a ta) (hb : PE X b tb) (hc : PE X c tc)
  (hm : lastMarks [op,op'] [b,c] = false := by with_unfolding_all rfl) : PE X (.Compare a [op,op'] [b,c] pos) (SZ r r' ta tb tc) := by
 intro pins s σ H Q I h
 refine Compare_chain (thn (ha pins s σ H _ I h) fun v s1 ⟨x,H1,I1,r1,q1⟩ => chain_link (thn (hb pins s1 σ H1 _ I1 q1) fun u s2 ⟨y,H2,I2,r2,q2⟩ =>
  thn (ho pins s2 σ H2 x y v u _ I2 r1 r2 q2) fun d s3 ⟨z,H3,I3,r3,k,e,q3⟩ => ?_)) hm
 subst e
 cases r3
 refine wpAny_truthy_bool ?_
 cases k with
 | false => exact ite_ff ⟨.bl false,H3,I3,rfl,q3⟩
 | true => exact ite_tt (chain_last (thn (hc pins s3 σ H3 _ I3 q3) fun w' s4 ⟨z',H4,I4,r4,q4⟩ => ho' pins s4 σ H4 y z' u w' Q I4 r2 r4 q4))
theorem Ea : (sizeLine : Nat) < 2 ^ 63 := by rw [sizeLine_eq];decide
theorem Vx {x : V} {us : List Value} (r : zI [x] us) : ∃ u,us = [u]∧jo x u := by
 cases r with
 | cons r1 r2 => cases r2;exact ⟨_,rfl,r1⟩
theorem KF {x y : V} {us : List Value} (r : zI [x,y] us) : ∃ u w',us = [u,w']∧jo x u∧jo y w' := by
 cases r with
 | cons r1 r2 =>
  cases r2 with
  | cons r3 r4 => cases r4;exact ⟨_,_,rfl,r1,r3⟩
theorem D8 : ZN X (.builtin "abs") (fun xs H Q => ∃ i,xs = [.int i]∧Q (.int (if i < 0 then -i else i)) H) := by
 intro pins s σ H xs us Q I r h
 obtain ⟨i,rfl,q⟩ := h
 obtain ⟨u,rfl,t,rfl⟩ := Vx r
 exact call_abs_int fun u tk => ⟨.int (if i < 0 then -i else i),H,I.tok _,⟨_,rfl⟩,q⟩
theorem Xk (hc : X.calm = true) : ZN X (.builtin "min") (fun xs H Q => ∃ i j,xs = [.int i,.int j]∧Q (.int (if j < i then j else i)) H) := by
 intro pins s σ H xs us Q I r h
 obtain ⟨i,j,rfl,q⟩ := h
 obtain ⟨u,w',rfl,⟨t,rfl⟩,⟨t',rfl⟩⟩ := KF r
 refine min_two_ints (I.ok.hd hc) fun h' tk k => ⟨_,H,I.kept k,?_,q⟩
 by_cases hj : j < i
 ·rw [if_pos hj,if_pos hj];exact ⟨_,rfl⟩
 ·rw [if_neg hj,if_neg hj];exact ⟨_,rfl⟩
theorem Jt : ZN X (.type "int") (fun xs H Q => (∃ i,xs = [.int i]∧Q (.int i) H) ∨ ∃ k,xs = [.bl k]∧Q (.int (if k then 1 else 0)) H) := by
 intro pins s σ H xs us Q I r h
 rcases h with ⟨i,rfl,q⟩ | ⟨k,rfl,q⟩
 ·obtain ⟨u,rfl,t,rfl⟩ := Vx r
  exact call_int_int ⟨.int i,H,I,⟨_,rfl⟩,q⟩
 ·obtain ⟨u,rfl,r1⟩ := Vx r
  cases r1
  exact call_int_bool ⟨.int (if k then 1 else 0),H,I.tok _,⟨_,rfl⟩,q⟩
def qgi (K : PySem.W.Frag) (x : V) (H : Hp) (n : Nat) : Prop :=
 match x with
 | .str y => y.length ≤ sizeLine∧n = y.length
 | .byt y => y.size ≤ sizeLine∧n = y.size
 | .ref p => (∃ xs,SqL K H p xs∧n = xs.length) ∨ ∃ xs,SqT K H p xs∧n = xs.length
 | _ => False
theorem qX : ZN X (.builtin "len") (fun xs H Q => ∃ x n,xs = [x]∧qgi X.K x H n∧Q (.int n) H) := by
 intro pins s σ H xs us Q I r h
 obtain ⟨x,n,rfl,e,q⟩ := h
 obtain ⟨u,rfl,rx⟩ := Vx r
 have hl := Ea
 have hs : sizeLine = 16777216 := sizeLine_eq
 cases x with
 | str y =>
  obtain ⟨t,rfl⟩ := rx
  obtain ⟨hy,e'⟩ : y.length ≤ sizeLine∧n = y.length := e
  subst e'
  exact len_str (by omega) ⟨.int _,H,I.tok _,⟨_,rfl⟩,q⟩
 | byt y =>
  obtain ⟨t,rfl⟩ := rx
  obtain ⟨hy,e'⟩ : y.size ≤ sizeLine∧n = y.size := e
  subst e'
  exact PySem.W.len_bytes (by omega) ⟨.int _,H,I.tok _,⟨_,rfl⟩,q⟩
 | ref p =>
  cases rx
  have e' : (∃ xs,SqL X.K H p xs∧n = xs.length) ∨ ∃ xs,SqT X.K H p xs∧n = xs.length := e
  rcases e' with ⟨xs,hx,e'⟩ | ⟨xs,hx,e'⟩
  ·subst e'
   obtain ⟨its,r',pl,hz⟩ := I.list hx
   have hlen := r'.length
   exact Calls.call_len_list pl.isList (by simp only [List.size_toArray];omega) ⟨.int xs.length,H,I.tok _,⟨_,by simp only [List.size_toArray];rw [hlen]⟩,q⟩
  ·subst e'
   obtain ⟨its,r',pl,hz⟩ := I.tuple hx
   have hlen := r'.length
   exact len_tuple pl (by simp only [List.size_toArray];omega) ⟨.int xs.length,H,I.tok _,⟨_,by simp only [List.size_toArray];rw [hlen]⟩,q⟩
 | _ => exact (show False from e).elim
end
end L2
namespace L2
open PySem PySem.Spec PyProof.Rows
section
variable {prog : Program} {w : World} {A : Around} {E : Value → Shared → Prop} {s : Shared} {K : PySem.W.Frag} {x dx C f : Addr} {mA : Str → Option Value} {name : Str} {v : Value}
end
section
variable {P : Program} {w : World} {H H' : Hp} {h h' : Heap} {a C dx : Addr} {fs fs' : List (Str × V)}
end
section
variable {X : Cx} {pins : List (Addr × Obj)} {σ : St} {H : Hp} {s : Shared} {a C dx : Addr} {fs : List (Str × V)} {f : Str} {v : V} {A : Around} {E : Value → Shared → Prop}
end
section
variable {X : Cx} {o e value : Expr} {f : Str} {pos pos' tpos : Pos} {ta tv : TE}
end
section
variable {X : Cx} {pins : List (Addr × Obj)} {σ : St} {H : Hp} {s : Shared} {A : Around} {E : Value → Shared → Prop} {Q : Value → Shared → Prop} {c : Value} {b : Bool}
end
end L2
namespace L2
open PySem PySem.Spec PyProof.Rows
structure Room (k : Nat) (A : Around) : Prop where
 hd : A.handled = none
 dp : A.depth + 3 * k + 5 < recursionLimit
 un : A.units + 16 * k + 200 < cLine
 gd : A.guards = some []
theorem Room.mono {j k : Nat} {A : Around} (r : Room k A) (h : j ≤ k) : Room j A := ⟨r.hd,by have := r.dp;omega,by have := r.un;omega,r.gd⟩
theorem Room.deeper {k : Nat} {A : Around} (r : Room (k + 1) A) (env : Env) : Room k (A.deeper env) :=
 ⟨r.hd,by have := r.dp;show A.depth + 1 + 3 * k + 5 < _;omega,by have := r.un;show A.units + 3 + 16 * k + 200 < _;omega,r.gd⟩
theorem Room.in1 {k : Nat} {A : Around} (r : Room (k + 1) A) : Room k A.in1 :=
 ⟨r.hd,by have := r.dp;show A.depth + 3 * k + 5 < _;omega,by have := r.un;show A.units + 1 + 16 * k + 200 < _;omega,r.gd⟩
theorem Room.depth {k : Nat} {A : Around} (r : Room k A) : A.depth < recursionLimit := by have := r.dp;omega
theorem Room.units {k : Nat} {A : Around} (r : Room k A) : A.units + 64 < cLine := by have := r.un;omega
noncomputable def qhf : TA := fun _ H Q => Q [] H
noncomputable def qec (ta : TE) (tr : TA) : TA := fun σ H Q => ta σ H fun x H1 => tr σ H1 fun xs H2 => Q (x :: xs) H2
section
variable {X : Cx} {e : Expr} {es : List Expr} {te : TE} {t : TA} {pos : Pos}
theorem Sq : PA X [] qhf := fun _ _ _ _ H Q I h => Calls.spliced_nil ⟨[],H,I,.nil,h⟩
theorem Dj (ha : PE X e te) (hr : PA X es t) (hs : starEach (e :: es) X.env = (false,eval e X.env) :: starEach es X.env := by rfl) : PA X (e :: es) (qec te t) := by
 intro pos pins s σ H Q I h
 rw [hs]
 show wpAny _ _ (spliced ((false,eval e X.env) :: backTo pos (starEach es X.env))) _ _ s
 refine Calls.spliced_cons (thn (ha pins s σ H _ I h) fun u s1 ⟨x,H1,I1,r1,q1⟩ => ?_)
 exact thn (hr pos pins s1 σ H1 _ I1 q1) fun us s2 ⟨xs,H2,I2,r2,q2⟩ => ⟨x :: xs,H2,I2,.cons r1 r2,q2⟩
noncomputable def qia (t : TA) : TE := fun σ H Q => t σ H fun xs H1 => xs.length ≤ sizeLine∧∀ p,H1 p = none → Q (.ref p) (upd H1 p (.tup xs))
noncomputable def qhz (t : TA) : TE := fun σ H Q => t σ H fun xs H1 => xs.length ≤ sizeLine∧∀ p,H1 p = none → Q (.ref p) (upd H1 p (.lst xs))
theorem Ml {x1} (h : PA X es t) : PE X (.Tuple es x1 pos) (qia t) := by
 intro pins s σ H Q I hq
 refine wpAny_Tuple_spliced (thn (h pos pins s σ H _ I hq) fun us s1 ⟨xs,H1,I1,r,z,q⟩ => ⟨by rw [← r.length];exact z,?_⟩)
 have hf : H1 s1.heap.objs.size = none := I1.hok.fresh (Nat.le_refl _)
 refine ⟨.ref s1.heap.objs.size,upd H1 s1.heap.objs.size (.tup xs),I1.laid (t' := s1.toks) (fun b u e => Heap.get?_push_of_some _ e) (Nat.le_refl _) ?_,rfl,q _ hf⟩
 exact ⟨z,us,r,⟨_,Heap.get?_push_size _ rfl,rfl,_,rfl⟩⟩
theorem NS (h : PA X es t) : PE X (.List es pos) (qhz t) := by
 intro pins s σ H Q I hq
 refine wpAny_List_spliced (thn (h pos pins s σ H _ I hq) fun us s1 ⟨xs,H1,I1,r,z,q⟩ => ⟨by rw [← r.length];exact z,?_⟩)
 have hf : H1 s1.heap.objs.size = none := I1.hok.fresh (Nat.le_refl _)
 refine ⟨.ref s1.heap.objs.size,upd H1 s1.heap.objs.size (.lst xs),I1.laid (t' := s1.toks) (fun b u e => Heap.get?_push_of_some _ e) (Nat.le_refl _) ?_,rfl,q _ hf⟩
 exact ⟨z,us,0,r,Heap.get?_push_size _ rfl⟩
end
noncomputable abbrev Sp := List V → Hp → VK → XK → Prop
noncomputable abbrev CXT := List Env → Hp → Shared → XK → Value → Shared → Prop
structure Env0 (P : Program) (w : World) (K : PySem.W.Frag) (mg : Str → Option Value) (base : Heap) (A : Around) (outer : List Env) (s : Shared) (H : Hp) : Prop where
 frames : A.frames = some outer
 mod : Mod K mg base
 bs : ∀ b o,base.get? b = some o → s.heap.get? b = some o∧H b = none
 bsz : base.objs.size ≤ s.heap.objs.size
 funs : s.heap.FunFrames base outer
 frf : ∀ b ∈ frs outer,H b = none
 hok : HOk P w H s.heap
 bare : AllBare s.gens
def CE (outer : List Env) (P : Program) (w : World) (H : Hp) (s : Shared) (Q : VK) (u : Value) (s' : Shared) : Prop :=
 ∃ v H',s'.os = s.os∧AllBare s'.gens∧Un (frs outer) [] H H' s.heap s'.heap∧HOk P w H' s'.heap∧jo v u∧Q v H'
def CR (CX : CXT) (outer : List Env) (P : Program) (w : World) (H : Hp) (s : Shared) (Q : VK) (E : XK) (r : Result) (s' : Shared) : Prop :=
 match r with
 | .ok (.ret u) => CE outer P w H s Q u s'
 | .ok _ => False
 | .error e => CX outer H s E e s'
structure FnOk (P : Program) (w : World) (K : PySem.W.Frag) (mg : Str → Option Value) (base : Heap) (CX : CXT) (k : Nat) (f : Addr) (fd : FuncData) (ps : List Str) (sp : Sp) : Prop where
 len : ∀ vs H Q E,sp vs H Q E → vs.length = ps.length
 run : ∀ (A : Around) (outer : List Env) (s : Shared) (H : Hp) (args : Args) (us : List Value) (vs : List V) (Q : VK) (E : XK),Room k A → Env0 P w K mg base A outer s H → BindsTo s fd args (ps.zip us) → zI vs us → sp vs H Q E →
  codeAny (model P w) A (.call (.ref f) args) (CR CX outer P w H s Q E) s
theorem FnOk.mono {P : Program} {w : World} {K : PySem.W.Frag} {mg : Str → Option Value} {base : Heap} {CX : CXT} {j k : Nat} {f : Addr} {fd : FuncData} {ps : List Str} {sp : Sp} (F : FnOk P w K mg base CX j f fd ps sp) (h : j ≤ k) :
  FnOk P w K mg base CX k f fd ps sp := ⟨F.len,fun A outer s H args us vs Q E hr => F.run A outer s H args us vs Q E (hr.mono h)⟩
theorem Env0.in1 {P : Program} {w : World} {K : PySem.W.Frag} {mg : Str → Option Value} {base : Heap} {A : Around} {outer : List Env} {s : Shared} {H : Hp} (e : Env0 P w K mg base A outer s H) :
  Env0 P w K mg base A.in1 outer s H := ⟨e.frames,e.mod,e.bs,e.bsz,e.funs,e.frf,e.hok,e.bare⟩
section
variable {X : Cx} {pins : List (Addr × Obj)} {σ : St} {H : Hp} {s s' : Shared}
theorem Inv.env0 (I : Inv X pins σ H s) : Env0 X.prog X.w X.K X.mg X.base X.A X.stack s H :=
 ⟨I.ok.frames,I.ok.mod,I.bs,Nat.le_trans I.ok.bsz I.sz,I.stack,I.stkFree,I.hok,I.bare⟩
theorem Inv.after {Q : VK} {u : Value} (I : Inv X pins σ H s) (h : CE X.stack X.prog X.w H s Q u s') : EP X pins σ Q u s' := by
 obtain ⟨v,H',os,bare,un,hok,r,q⟩ := h
 obtain ⟨hh,g,d,t,os'⟩ := s'
 obtain rfl : os' = s.os := os
 exact ⟨v,H',I.call (h' := hh) (g' := g) (d' := d) (t' := t) (ch := []) un hok bare (fun b z => absurd z (by simp)),r,q⟩
end
noncomputable def qe4 (sp : Sp) (dvs : List V) (E : XK) (t : TA) : TE := fun σ H Q => t σ H fun vs H1 => sp (vs ++ dvs) H1 Q E
def zD (K : PySem.W.Frag) (fd : FuncData) (ps : List Str) (ds : List Value) : Prop :=
 ∀ (s : Shared) (us : List Value),K.In s.heap → (us ++ ds).length = ps.length → BindsTo s fd ⟨us,[]⟩ (ps.zip (us ++ ds))
theorem zD.all {K : PySem.W.Frag} {fd : FuncData} {ps : List Str} (h : ∀ us : List Value,us.length = ps.length → bindArgs fd ⟨us,[]⟩ = pure (ps.zip us)) : zD K fd ps [] := fun s us _ hl => by
 rw [List.append_nil] at hl ⊢
 exact .of_eq (h us hl)
def WT (CX : CXT) (X : Cx) (E : XK) : Prop := ∀ (pins : List (Addr × Obj)) (σ : St) (H : Hp) (s : Shared) (e : Value) (s' : Shared),Inv X pins σ H s → CX X.stack H s E e s' → X.xe e s'
section
variable {X : Cx} {CX : CXT} {k : Nat} {f C : Addr} {fd : FuncData} {ps : List Str} {sp : Sp} {dvs : List V} {ds : List Value} {E : XK} {x m : Str} {p pos apos : Pos} {e o : Expr} {es : List Expr} {ta : TE} {t : TA}
theorem Ms {pins : List (Addr × Obj)} {σ : St} {H : Hp} {s : Shared} {Q : VK} {us : List Value} {vs : List V} (F : FnOk X.prog X.w X.K X.mg X.base CX k f fd ps sp) (hr : Room k X.A) (hb : zD X.K fd ps ds) (hd : zI dvs ds) (hx : WT CX X E)
  (I : Inv X pins σ H s) (r : zI vs us) (h : sp (vs ++ dvs) H Q E) : wpAny (model X.prog X.w) X.A (call (.ref f) us) (EP X pins σ Q) X.xe s := by
 have r2 : zI (vs ++ dvs) (us ++ ds) := r.append hd
 have hl : (us ++ ds).length = ps.length := by rw [← r2.length];exact F.len _ _ _ _ h
 refine wpAny_call (codeAny_mono (F.run X.A X.stack s H ⟨us,[]⟩ (us ++ ds) (vs ++ dvs) Q E hr I.env0 (hb s us I.kIn hl) r2 h) fun r s' hq => ?_)
 cases r with
 | error e => exact hx pins σ H s e s' I hq
 | ok fl =>
  cases fl with
  | ret u => exact I.after hq
  | next => exact False.elim hq
  | brk => exact False.elim hq
  | cont => exact False.elim hq
theorem LM (F : FnOk X.prog X.w X.K X.mg X.base CX k f fd ps sp) (hr : Room k X.A) (hg : Gl X x) (hm : X.mg x = some (.ref f)) (hk : PySem.W.keepIn X.K (.ref f) = true) (hb : zD X.K fd ps ds) (hd : zI dvs ds) (hx : WT CX X E)
  (ha : PA X (e :: es) t) (hdb : (x == ("__debug__" : Str)) = false := by decide) (he : starEach (e :: es) X.env = (false,eval e X.env) :: starEach es X.env := by rfl) (hpl : (backTo pos (starEach es X.env)).any (·.1) = false := by rfl) :
  PE X (.Call (.Name x p) (e :: es) [] pos) (qe4 sp dvs E t) := by
 intro pins s σ H Q I h
 refine wpAny_Call_Name_kw (X9 I hg hm ?_ hdb)
 refine PySem.W.callWith_K (h₀ := X.base) I.ok.mod.kin hk (thn (ha pos pins s σ H _ I h) fun us s1 ⟨vs,H1,I1,r,q⟩ => ⟨I1.kIn,?_⟩) he hpl
 exact Ms F hr hb hd hx I1 r q
end
section
variable {X : Cx} {CX : CXT} {k : Nat} {f C : Addr} {fd : FuncData} {ps ks : List Str} {sp : Sp} {E : XK} {x m : Str} {p pos apos kpos : Pos} {e o : Expr} {es : List Expr} {kws : List Keyword} {te ta : TE} {t tk : TA} {nm : Option Str}
variable {g : List Value → List Value → List Value} {gV : List V → List V → List V}
end
structure FnScope (N P : List Str) (sc : Scope) : Prop where
 kind : sc.kind = .function
 co : sc.isCoroutine = false
 gen : sc.isGenerator = false
 nd : N.Nodup
 pre : N.take P.length = P
 par : ∀ x ∈ P,sc.names.lookup x = some .local ∨ sc.names.lookup x = some .cell
 nofree : ∀ y ∈ sc.names,y.2 ≠ .free
theorem UN {kindOf : Str → Option NameKind} {x : Str} : ∀ {binds : List (Str × Value)} {m : Str → Option Value},(∀ v,(x,v) ∉ binds) → bindL kindOf binds m x = m x
 | [],_,_ => rfl
 | (n,v) :: r,m,h => by
  unfold bindL
  rw [UN fun w hw => h w (List.mem_cons_of_mem _ hw)]
  split
  ·have : x ≠ n := by rintro rfl;exact h v List.mem_cons_self
   simp [this]
  ·rfl
theorem UM {kindOf : Str → Option NameKind} {x : Str} : ∀ {binds : List (Str × Value)} {m : Str → Option Value},(∀ v,(x,v) ∉ binds) → bindC kindOf binds m x = m x
 | [],_,_ => rfl
 | (n,v) :: r,m,h => by
  unfold bindC
  rw [UM fun w hw => h w (List.mem_cons_of_mem _ hw)]
  split
  ·rfl
  ·have : x ≠ n := by rintro rfl;exact h v List.mem_cons_self
   simp [this]
theorem E9 {kindOf : Str → Option NameKind} {x : Str} {v : Value} : ∀ {P : List Str} {vs : List Value} {i : Nat} {m : Str → Option Value},P.Nodup → P[i]? = some x → vs[i]? = some v → kindOf x = some .local →
  bindL kindOf (P.zip vs) m x = some v
 | [],_,_,_,_,h,_,_ => by simp at h
 | _ :: _,[],_,_,_,_,h,_ => by simp at h
 | p :: P,w :: vs,0,m,nd,h1,h2,hk => by
  simp at h1 h2;subst h1;subst h2
  show bindL kindOf ((p,w) :: P.zip vs) m p = _
  unfold bindL
  rw [UN fun v hv => (List.nodup_cons.mp nd).1 (List.of_mem_zip hv).1,if_pos hk]
  simp
 | p :: P,w :: vs,i + 1,m,nd,h1,h2,hk => by
  show bindL kindOf ((p,w) :: P.zip vs) m x = _
  unfold bindL
  exact E9 (i := i) (List.nodup_cons.mp nd).2 (by simpa using h1) (by simpa using h2) hk
theorem Ew {kindOf : Str → Option NameKind} {x : Str} {v : Value} : ∀ {P : List Str} {vs : List Value} {i : Nat} {m : Str → Option Value},P.Nodup → P[i]? = some x → vs[i]? = some v → kindOf x ≠ some .local →
  bindC kindOf (P.zip vs) m x = some v
 | [],_,_,_,_,h,_,_ => by simp at h
 | _ :: _,[],_,_,_,_,h,_ => by simp at h
 | p :: P,w :: vs,0,m,nd,h1,h2,hk => by
  simp at h1 h2;subst h1;subst h2
  show bindC kindOf ((p,w) :: P.zip vs) m p = _
  unfold bindC
  rw [UM fun v hv => (List.nodup_cons.mp nd).1 (List.of_mem_zip hv).1,if_neg hk]
  simp
 | p :: P,w :: vs,i + 1,m,nd,h1,h2,hk => by
  show bindC kindOf ((p,w) :: P.zip vs) m x = _
  unfold bindC
  exact Ew (i := i) (List.nodup_cons.mp nd).2 (by simpa using h1) (by simpa using h2) hk
noncomputable def YJ (N : List Str) (vs : List V) : St := vs.map some ++ List.replicate (N.length - vs.length) none
noncomputable def CP (CX : CXT) (P : Program) (w : World) (K : PySem.W.Frag) (mg : Str → Option Value) (base : Heap) (N : List Str) (qual : Str) (scope : Scope) (f : Addr) (cd : Value) (A : Around) (outer : List Env) (s : Shared) (H : Hp) (E : XK) : Cx where
 prog := P
 w := w
 K := K
 mg := mg
 base := base
 A := A.deeper (envOfC qual scope s.heap.objs.size f cd)
 N := N
 s₀ := s
 H₀ := H
 env := envOfC qual scope s.heap.objs.size f cd
 outer := outer
 stack := envOfC qual scope s.heap.objs.size f cd :: outer
 ex := []
 calm := true
 fn := fun _ => true
 pn := []
 xe := fun e s' => wpAny (model P w) (A.deeper (envOfC qual scope s.heap.objs.size f cd)) (leaving (envOfC qual scope s.heap.objs.size f cd) e) (fun _ s'' => CX outer H s E e s'') (fun e' s'' => CX outer H s E e' s'') s'
theorem Wh {sc : Scope} {n : Nat} {x : Str} (h : sc.names.lookup x = some .cell) : ∃ c,(cellsFrom n sc.names []).lookup x = some c := by
 have q := PySem.W.cellsFrom_some sc.names n [] (.inl h)
 exact Option.isSome_iff_exists.mp q
theorem C0 {CX : CXT} {P : Program} {w : World} {K : PySem.W.Frag} {mg : Str → Option Value} {base : Heap} {N ps : List Str} {qual : Str} {scope : Scope} {f : Addr} {cd : Value} {A : Around} {outer : List Env} {s s1 : Shared} {H : Hp} {E : XK} {us : List Value} {vs : List V}
  (S : FnScope N ps scope) (hd : A.handled = none) (e0 : Env0 P w K mg base A outer s H) (hl : vs.length = ps.length) (r : zI vs us)
  (x : InCallC s s.heap.objs.size (bindL (envOfC qual scope s.heap.objs.size f cd).kindOf (ps.zip us) fun _ => none) (cellsFrom (s.heap.objs.size + 1) scope.names []) (bindC (envOfC qual scope s.heap.objs.size f cd).kindOf (ps.zip us) fun _ => none) s1) :
  Inv (CP CX P w K mg base N qual scope f cd A outer s H E) [] (YJ N vs) H s1 := by
 have hpl : ps.length ≤ N.length := by have := congrArg List.length S.pre;rw [List.length_take] at this;omega
 obtain ⟨h1,tk,rfl,hk⟩ := x.done
 have noA : ∀ b : Addr,b ∉ (CP CX P w K mg base N qual scope f cd A outer s H E).ex := fun b z => absurd (show b ∈ ([] : List Addr) from z) (by simp)
 refine ⟨⟨e0.mod,S.kind,rfl,rfl,Nat.le_refl _,fun y z c h1 h2 => ?_,fun y hy => ?_,fun y c _ h => ?_,fun _ => hd,Around.frames_deeper e0.frames,.inr ⟨rfl,rfl⟩,fun b z => absurd z (noA b),e0.bs,e0.bsz,fun b _ _ => noA b,fun b z => absurd z (noA b),e0.funs,e0.frf⟩,
  rfl,e0.bare,Un.kept hk,⟨_,x.toInCall.ns,fun i y v h1 h2 h3 => ?_⟩,fun y c h => ⟨_,x.cell y c h⟩,e0.hok.fresh (Nat.le_refl _),fun y c h => ?_,fun p hp => absurd (show p ∈ ([] : List (Addr × Obj)) from hp) (by simp),e0.hok.kept hk,?_⟩
 ·exact name_of_addr x.apart (PySem.mem_of_lookup h1) (PySem.mem_of_lookup h2)
 ·have hy : scope.names.lookup y = some .cell ∨ scope.names.lookup y = some .free := hy
  rcases hy with hy | hy
  ·exact Wh hy
  ·exact absurd rfl (S.nofree _ (PySem.mem_of_lookup hy))
 ·exact Nat.le_of_lt (x.above y c (PySem.mem_of_lookup h))
 ·have hi : i < vs.length := by
   unfold YJ at h2
   by_cases hi : i < vs.length
   ·exact hi
   ·rw [List.getElem?_append_right (by simpa using hi)] at h2
    rw [List.getElem?_replicate] at h2
    split at h2 <;> cases h2
  have ha : vs[i]? = some v := by
   unfold YJ at h2
   rw [List.getElem?_append_left (by simpa using hi),List.getElem?_map] at h2
   cases e : vs[i]? with
   | none => rw [e] at h2;cases h2
   | some a => rw [e] at h2;cases h2;rfl
  obtain ⟨u,hu,rv⟩ := r.get ha
  have hp : ps[i]? = some y := by
   rw [← S.pre,List.getElem?_take_of_lt (by omega)];exact h1
  have ndP : ps.Nodup := by rw [← S.pre];exact S.nd.sublist (List.take_sublist _ _)
  refine ⟨u,rv,?_⟩
  rcases S.par y (List.mem_of_getElem? hp) with k | k
  ·exact .inl ⟨k,E9 ndP hp hu k⟩
  ·obtain ⟨c,e⟩ := Wh (n := s.heap.objs.size + 1) k
   refine .inr ⟨.inl k,c,e,?_⟩
   have q := x.cell y c e
   rw [Ew ndP hp hu (by show scope.names.lookup y ≠ _;rw [k];decide)] at q
   exact q
 ·exact e0.hok.fresh (Nat.le_of_lt (x.above y c (PySem.mem_of_lookup h)))
 ·unfold YJ
  show _ = N.length
  rw [List.length_append,List.length_map,List.length_replicate]
  omega
theorem qej {CX : CXT} {P : Program} {w : World} {K : PySem.W.Frag} {mg : Str → Option Value} {base : Heap} {k : Nat} {f : Addr} {name qual : Str} {params : Arguments} {body : List Stmt} {scope : Scope} {dV kV doc pm cdv ct oc : Value} {an od : Option Addr}
  {osl : Array (Option Value)} {N ps : List Str} {sp : Sp} (lk : K.lookup f = some ⟨oc,od,.func (PySem.W.fnOf name qual params body scope dV kV doc pm an cdv ct),osl⟩) (hcd : PySem.W.codeIn K cdv qual = true) (S : FnScope N ps scope)
  (len : ∀ vs H Q E,sp vs H Q E → vs.length = ps.length)
  (hbody : ∀ (A : Around) (outer : List Env) (s : Shared) (H : Hp) (vs : List V) (Q : VK) (E : XK),Room k (A.deeper (envOfC qual scope s.heap.objs.size f cdv)) → sp vs H Q E →
   ∃ t,PSs (CP CX P w K mg base N qual scope f cdv A outer s H E) body t∧t { nx := fun _ H' => Q .non H',rt := Q } (YJ N vs) H) :
  FnOk P w K mg base CX (k + 1) f (PySem.W.fnOf name qual params body scope dV kV doc pm an cdv ct) ps sp := by
 refine ⟨len,fun A outer s H args us vs Q E hr e0 hb r hsp => ?_⟩
 have hl := len _ _ _ _ hsp
 have KX : K.In s.heap := e0.mod.kin.keeps fun b o e => (e0.bs b o e).1
 have lim : s.heap.NoLimit := e0.mod.nolimit.keeps fun b o e => (e0.bs b o e).1
 have hkind : ∀ y ∈ ps.zip us,scope.names.lookup y.1 = some .local ∨ (scope.names.lookup y.1 = some .cell∧((cellsFrom (s.heap.objs.size + 1) scope.names []).lookup y.1).isSome = true) := fun ⟨n,v⟩ hy => by
  rcases S.par n (List.of_mem_zip hy).1 with q | q
  ·exact .inl q
  ·exact .inr ⟨q,PySem.W.cellsFrom_some _ _ _ (.inl q)⟩
 refine codeAny_call_function hr.depth (KX _ _ lk) rfl S.co S.gen rfl (PySem.W.codeRec_of KX hcd) (hb _ _ _ _ ?_)
 refine wpAny_newFunctionEnv_cells S.kind hkind fun env he s1 x => ?_
 subst he
 refine ⟨lim.keeps x.toInCall.keep,codeAny_func ?_⟩
 obtain ⟨t,ht,hq⟩ := hbody A outer s H vs Q E (hr.deeper _) hsp
 have I : Inv (CP CX P w K mg base N qual scope f cdv A outer s H E) [] (YJ N vs) H s1 := C0 S hr.hd e0 hl r x
 refine wpAny_mono (ht [] s1 (YJ N vs) H _ I hq) (fun fl s' hs => ?_) fun e s' hs => hs
 have fin : ∀ {σ' : St} {H' : Hp} {v : V} {u : Value},Inv (CP CX P w K mg base N qual scope f cdv A outer s H E) [] σ' H' s' → jo v u → Q v H' → CE outer P w H s Q u s' :=
  fun {σ' H' v u} J rv q => ⟨v,H',J.os,J.bare,J.base,J.hok,rv,q⟩
 cases fl with
 | ret u =>
  obtain ⟨v,σ',H',J,rv,q⟩ := hs
  exact fin J rv q
 | next =>
  obtain ⟨σ',H',J,q⟩ := hs
  exact fin (v := V.non) (u := Value.none) J rfl q
 | brk =>
  obtain ⟨_,_,_,q⟩ := hs
  exact False.elim q
 | cont =>
  obtain ⟨_,_,_,q⟩ := hs
  exact False.elim q
end L2
namespace L2
open PySem PySem.Spec PyProof.Rows
section
variable {X : Cx} {x : Str} {p pos : Pos} {e : Expr} {es : List Expr} {t : TA} {id T : String} {r : List V → Hp → VK → Prop}
noncomputable def tCB (r : List V → Hp → VK → Prop) (t : TA) : TE := fun σ H Q => t σ H fun vs H1 => r vs H1 Q
theorem DH (hc : ZN X (.builtin id) r) (hg : Gl X x) (hm : X.mg x = none) (hv : bootBuiltins x = some (.builtin id)) (ha : PA X (e :: es) t) (hn : x ≠ "__name__" := by decide) (hdb : (x == ("__debug__" : Str)) = false := by decide)
  (he : starEach (e :: es) X.env = (false,eval e X.env) :: starEach es X.env := by rfl) (hpl : (backTo pos (starEach es X.env)).any (·.1) = false := by rfl) : PE X (.Call (.Name x p) (e :: es) [] pos) (tCB r t) := by
 intro pins s σ H Q I h
 refine wpAny_Call_Name_kw (Vc I hg hm hv ?_ hn hdb)
 exact PyProof.Rows.callWith_builtin1 (thn (ha pos pins s σ H _ I h) fun us s1 ⟨vs,H1,I1,r1,q1⟩ => hc pins s1 σ H1 vs us Q I1 r1 q1) he hpl
theorem WY (hc : ZN X (.type T) r) (hg : Gl X x) (hm : X.mg x = none) (hv : bootBuiltins x = some (.type T)) (ha : PA X (e :: es) t) (hn : x ≠ "__name__" := by decide) (hdb : (x == ("__debug__" : Str)) = false := by decide)
  (he : starEach (e :: es) X.env = (false,eval e X.env) :: starEach es X.env := by rfl) (hpl : (backTo pos (starEach es X.env)).any (·.1) = false := by rfl) : PE X (.Call (.Name x p) (e :: es) [] pos) (tCB r t) := by
 intro pins s σ H Q I h
 refine wpAny_Call_Name_kw (Vc I hg hm hv ?_ hn hdb)
 exact PyProof.Rows.callWith_type1 (thn (ha pos pins s σ H _ I h) fun us s1 ⟨vs,H1,I1,r1,q1⟩ => hc pins s1 σ H1 vs us Q I1 r1 q1) he hpl
end
end L2
namespace HT
open PySem PyProof.Rows
section
open PySem.SeqAt
open PySem.MeetsSeq PySem.MeetsSeq2 PySem.MeetsSeq3
end
section
variable {prog : Program} {w : World} {A : Around} {E : Value → Shared → Prop} {s : Shared}
theorem L7 {t b : Addr} {vs ws : List Value} {Q : Value → Shared → Prop} (ht : IsTup s.heap t vs.toArray) (hb : IsTup s.heap b ws.toArray) (hv : vs ≠ [])
  (h1 : ws = [] → Q (.ref t) s) (h2 : ws ≠ [] → Q (.ref s.heap.objs.size) { s with heap := s.heap.push { cls := .type "tuple",data := .seq (vs ++ ws).toArray } })
  (hsz : vs.length + ws.length ≤ sizeLine) : wpAny (model prog w) A (binaryOp .Add (.ref t) (.ref b)) Q E s := by
 obtain ⟨⟨cls,dd,data,sl⟩,ho,hc,n,hd⟩ := id ht
 obtain ⟨⟨cls2,dd2,data2,sl2⟩,ho2,hc2,n2,hd2⟩ := id hb
 simp only at hc hd hc2 hd2
 subst hc hd hc2 hd2
 have e : vs.toArray ++ ws.toArray = (vs ++ ws).toArray := by simp
 by_cases hw : ws = []
 ·exact concat_meets ⟨_,ho,rfl⟩ ⟨_,ho2,rfl⟩ noFill_tuple_add seq_tuple_add PySem.F.slot_tuple_add PySem.F.entry_tuple_add (PySem.F.args_tuple_add_2 _ _)
   (tuple_addW1 t b vs.toArray ws.toArray n n2 dd dd2 sl sl2 (by simpa using hv) (by simp [hw])) ⟨ho,ho2,h1 hw⟩
 ·refine concat_meets ⟨_,ho,rfl⟩ ⟨_,ho2,rfl⟩ noFill_tuple_add seq_tuple_add PySem.F.slot_tuple_add PySem.F.entry_tuple_add (PySem.F.args_tuple_add_2 _ _)
   (tuple_addW2 t b vs.toArray ws.toArray n n2 dd dd2 sl sl2 (by simpa using hv) (by simpa using hw) (by rw [List.size_toArray,List.size_toArray];exact hsz)) ⟨ho,ho2,?_⟩
  rw [e]
  exact h2 hw
noncomputable def sIx (n d : Nat) : Option Int → Nat
 | none => d
 | some v => if v < 0 then (v + (n : Int)).toNat else min v.toNat n
theorem Ry (n d : Nat) : sIx n d none = d := rfl
theorem K1 (n d k : Nat) : sIx n d (some (k : Int)) = min k n := by
 show (if (k : Int) < 0 then ((k : Int) + (n : Int)).toNat else min (k : Int).toNat n) = min k n
 rw [if_neg (by omega),Int.toNat_natCast]
theorem qbb (n d : Nat) (hd : d ≤ n) (o : Option Int) : sIx n d o ≤ n := by
 cases o with
 | none => exact hd
 | some v =>
  show (if v < 0 then (v + (n : Int)).toNat else min v.toNat n) ≤ n
  by_cases hv : v < 0
  ·rw [if_pos hv];omega
  ·rw [if_neg hv];exact Nat.min_le_right _ _
theorem WR (v : Int) (n d : Nat) : (if v < 0 then max (v + (n : Int)) 0 else min v (n : Int)) = ((sIx n d (some v) : Nat) : Int) := by
 show (if v < 0 then max (v + (n : Int)) 0 else min v (n : Int)) = (((if v < 0 then (v + (n : Int)).toNat else min v.toNat n) : Nat) : Int)
 by_cases hv : v < 0
 ·simp only [if_pos hv];omega
 ·simp only [if_neg hv];omega
theorem Wq (lo hi : Option Int) (n : Nat) : Builtin.Slice.sliceAdjust lo hi 1 (n : Int) = (((sIx n 0 lo : Nat) : Int),((sIx n n hi : Nat) : Int)) := by
 have h1 : ¬ ((1 : Int) < 0) := by omega
 unfold Builtin.Slice.sliceAdjust
 simp only [h1,if_false]
 refine Prod.ext ?_ ?_
 ·cases lo with
  | none => rfl
  | some v => exact WR v n 0
 ·cases hi with
  | none => rfl
  | some v => exact WR v n n
theorem W9 (i j : Nat) : Builtin.Slice.slicePlaces (i : Int) (j : Int) 1 = j - i := by
 unfold Builtin.Slice.slicePlaces
 have h1 : (1 : Int) > 0 := by omega
 simp only [h1,if_true,Int.ediv_one]
 split <;> omega
theorem JJ {v : Value} {o : Option Int} {Q : Option Int → Shared → Prop} (p : IsPart v o) (h : Q o s) : wpAny (model prog w) A (Builtin.Slice.slicePartIndex v) Q E s := by
 cases p with
 | none => exact slicePart_none h
 | int i t => exact slicePart_int h
theorem Zi {sl : Addr} {vl vu : Value} {lo hi : Option Int} {n : Nat} {Q : Int × Int × Nat → Shared → Prop} (hs : s.heap.IsSliceOf sl vl vu .none) (pl : IsPart vl lo) (pu : IsPart vu hi)
  (h : Q (((sIx n 0 lo : Nat) : Int),1,sIx n n hi - sIx n 0 lo) s) : wpAny (model prog w) A (Builtin.Slice.sliceApplied (.ref sl) (pure (n : Int))) Q E s := by
 obtain ⟨os,hos,hcs,hds⟩ := id hs
 unfold Builtin.Slice.sliceApplied Builtin.Slice.sliceFields
 refine wpAny_bind (wpAny_bind (wpAny_field hos hds (x := vl) rfl (wpAny_bind (wpAny_field hos hds (x := vu) rfl (wpAny_bind (wpAny_field hos hds (x := .none) rfl (wpAny_pure ?_)))))))
 refine wpAny_bind (slicePart_none ?_)
 show wpAny _ _ (if ((1 : Int) == 0) = true then _ else _) _ _ s
 rw [if_neg (by decide)]
 refine wpAny_bind (JJ pl (wpAny_bind (JJ pu (wpAny_bind (wpAny_pure ?_)))))
 show wpAny _ _ (match Builtin.Slice.sliceAdjust lo hi 1 (n : Int) with | (lo,hi) => pure (lo,(1 : Int),Builtin.Slice.slicePlaces lo hi 1)) _ _ s
 rw [Wq lo hi n]
 show wpAny _ _ (pure (((sIx n 0 lo : Nat) : Int),(1 : Int),Builtin.Slice.slicePlaces ((sIx n 0 lo : Nat) : Int) ((sIx n n hi : Nat) : Int) 1)) _ _ s
 rw [W9]
 exact wpAny_pure h
theorem RD (xs : Array Value) (i k : Nat) : ((List.range k).filterMap fun (m : Nat) => xs[((i : Int) + (m : Int) * 1).toNat]?).toArray = ((xs.toList.drop i).take k).toArray := by
 have e : (fun (m : Nat) => xs[((i : Int) + (m : Int) * 1).toNat]?) = fun m => xs[i + m]? := by
  funext m
  have : ((i : Int) + (m : Int) * 1).toNat = i + m := by omega
  rw [this]
 rw [e]
 have := pick_run xs i k
 rw [List.filterMap_map] at this
 have e2 : ((fun x => xs[x]?) ∘ fun x => i + x) = fun m => xs[i + m]? := rfl
 rw [e2] at this
 rw [this]
theorem JF {t sl : Addr} {items : Array Value} {vl vu : Value} {lo hi : Option Int} {Q : Value → Shared → Prop} (ht : IsTup s.heap t items) (hs : s.heap.IsSliceOf sl vl vu .none) (pl : IsPart vl lo) (pu : IsPart vu hi)
  (hw : ¬ (sIx items.size 0 lo = 0∧sIx items.size items.size hi = items.size))
  (h : Q (.ref s.heap.objs.size) { s with heap := s.heap.push { cls := .type "tuple",data := .seq ((items.toList.drop (sIx items.size 0 lo)).take (sIx items.size items.size hi - sIx items.size 0 lo)).toArray } })
  (hsz : items.size ≤ sizeLine) : wpAny (model prog w) A (getItem (.ref t) (.ref sl)) Q E s := by
 have htake : sizeOk (.seq ((items.toList.drop (sIx items.size 0 lo)).take (sIx items.size items.size hi - sIx items.size 0 lo)).toArray) := by
  show ((items.toList.drop (sIx items.size 0 lo)).take (sIx items.size items.size hi - sIx items.size 0 lo)).toArray.size ≤ sizeLine
  rw [List.size_toArray,List.length_take,List.length_drop,Array.length_toList]
  omega
 have hj : sIx items.size items.size hi ≤ items.size := qbb _ _ (Nat.le_refl _) hi
 obtain ⟨os,hos,hcs,hds⟩ := id hs
 have hTs : s.TypeIs (.ref sl) "slice" := ⟨os,hos,hcs⟩
 unfold getItem
 try with_reducible refine wpAny_holding ?_
 first | refine wpAny_bind (wpAny_pure ?_) | skip
 refine wpAny_bind (wpAny_sequenceKey ht.typeIs (by decide) ?_)
 refine wpAny_bind (wpAny_callSpecial?_slot (name := Str.ofString "__getitem__") ht.typeIs PyProof.Rows.slot_tuple_getitem
  (wpAny_call_entry PyProof.Rows.slot_tuple_getitem ht.typeIs entry_tuple_getitem ?_ (args_tuple_getitem _ _)))
 show wpAny _ _ (Builtin.Tuple.tupleItemsOf (.ref t) >>= _) _ _ s
 refine wpAny_bind (tupleItemsOf_ ht ?_)
 refine wpAny_bind (wpAny_typeOf hTs ?_)
 rw [if_pos (by decide)]
 refine wpAny_bind (Zi hs pl pu ?_)
 have hno : ¬ ((((sIx items.size 0 lo : Nat) : Int) == 0 && (1 : Int) == 1 && (sIx items.size items.size hi - sIx items.size 0 lo) == items.size) = true) := by
  intro q
  rw [Bool.and_eq_true,Bool.and_eq_true] at q
  have q1 : ((sIx items.size 0 lo : Nat) : Int) = 0 := eq_of_beq q.1.1
  have q2 : sIx items.size items.size hi - sIx items.size 0 lo = items.size := eq_of_beq q.2
  exact hw ⟨by omega,by omega⟩
 show wpAny _ _ (if (((sIx items.size 0 lo : Nat) : Int) == 0 && (1 : Int) == 1 && (sIx items.size items.size hi - sIx items.size 0 lo) == items.size) = true then _ else _) _ _ s
 rw [if_neg hno,RD]
 first
  | exact wpAny_bind (m := Builtin.Tuple.tupleExact _) (wpAny_newObj_type (wpAny_pure ⟨_,rfl,wpAny_pure h⟩) htake)
  | exact wpAny_bind (m := Builtin.Tuple.tupleExact _) (wpAny_newObj_type (wpAny_bind (wpAny_pure (wpAny_pure ⟨_,rfl,wpAny_pure h⟩))) htake)
  | exact wpAny_bind (wpAny_bind (m := Builtin.Tuple.tupleExact _) (wpAny_newObj_type (wpAny_pure (wpAny_pure ⟨_,rfl,wpAny_pure h⟩)) htake))
  | exact wpAny_bind (wpAny_bind (m := Builtin.Tuple.tupleExact _) (wpAny_newObj_type (wpAny_pure ⟨_,rfl,wpAny_pure h⟩) htake))
end
end HT
namespace L2
open PySem PySem.Spec PyProof.Rows
noncomputable abbrev TO := St → Hp → (Option Int → Hp → Prop) → Prop
def PO (X : Cx) (e : Option Expr) (t : TO) : Prop :=
 ∀ (pins : List (Addr × Obj)) (s : Shared) (σ : St) (H : Hp) (Q : Option Int → Hp → Prop),Inv X pins σ H s → t σ H Q →
  wpAny (model X.prog X.w) X.A (evalPart e X.env) (fun u s' => ∃ o H',Inv X pins σ H' s'∧IsPart u o∧Q o H') X.xe s
noncomputable def L8 : TO := fun _ H Q => Q none H
noncomputable def qd8 (t : TE) : TO := fun σ H Q => t σ H fun x H1 => ∃ i,x = .int i∧Q (some i) H1
section
variable {X : Cx} {e : Expr} {te : TE} {lo hi : Option Expr} {tl th : TO} {pos p2 : Pos}
theorem LB : PO X none L8 := by
 intro pins s σ H Q I h
 rw [evalPart_none]
 exact wpAny_pure ⟨none,H,I,.none,h⟩
theorem LL (h : PE X e te) : PO X (some e) (qd8 te) := by
 intro pins s σ H Q I hw
 rw [evalPart_some]
 refine thn (h pins s σ H _ I hw) fun u s1 ⟨x,H1,I1,r1,q1⟩ => ?_
 obtain ⟨i,rfl,q⟩ := q1
 obtain ⟨t,rfl⟩ := r1
 exact ⟨some i,H1,I1,.int i t,q⟩
def SlR (X : Cx) (r : V → Option Int → Option Int → Hp → VK → Prop) : Prop :=
 ∀ (pins : List (Addr × Obj)) (s : Shared) (σ : St) (H : Hp) (x : V) (v vl vu : Value) (lo hi : Option Int) (sl : Addr) (Q : VK),Inv X pins σ H s → jo x v → s.heap.IsSliceOf sl vl vu .none → IsPart vl lo → IsPart vu hi → r x lo hi H Q →
  ∃ T id,typeLookup (.type T) "__getitem__" = pure (some (.builtin id))∧s.TypeIs v T∧wpAny (model X.prog X.w) X.A (getItem v (.ref sl)) (EP X pins σ Q) X.xe s
theorem SlR.or {r r' : V → Option Int → Option Int → Hp → VK → Prop} (h : SlR X r) (h' : SlR X r') : SlR X (fun x lo hi H Q => r x lo hi H Q ∨ r' x lo hi H Q) := by
 intro pins s σ H x v vl vu lo hi sl Q I rx hs pl pu q
 rcases q with q | q
 ·exact h pins s σ H x v vl vu lo hi sl Q I rx hs pl pu q
 ·exact h' pins s σ H x v vl vu lo hi sl Q I rx hs pl pu q
noncomputable def tSl (r : V → Option Int → Option Int → Hp → VK → Prop) (te : TE) (tl th : TO) : TE := fun σ H Q => te σ H fun x H1 => tl σ H1 fun l H2 => th σ H2 fun u H3 => r x l u H3 Q
theorem DQ {r : V → Option Int → Option Int → Hp → VK → Prop} (hr : SlR X r) (he : PE X e te) (hl : PO X lo tl) (hu : PO X hi th) : PE X (.Subscript e (.Slice lo hi none p2) pos) (tSl r te tl th) := by
 intro pins s σ H Q I h
 refine Subscript_ (thn (he pins s σ H _ I h) fun v s1 ⟨x,H1,I1,r1,q1⟩ => ?_)
 refine wpAny_Slice (thn (hl pins s1 σ H1 _ I1 q1) fun vl s2 ⟨l,H2,I2,pl,q2⟩ => thn (hu pins s2 σ H2 _ I2 q2) fun vu s3 ⟨u,H3,I3,pu,q3⟩ => ?_)
 rw [evalPart_none]
 refine wpAny_pure ?_
 have I4 : Inv X pins σ H3 { s3 with heap := s3.heap.push { cls := .type "slice",data := .fields #[vl,vu,.none] } } := I3.kept (t' := s3.toks) fun b ob q => Heap.get?_push_of_some _ q
 obtain ⟨T,id,hT,ht,hg⟩ := hr pins { s3 with heap := s3.heap.push { cls := .type "slice",data := .fields #[vl,vu,.none] } } σ H3 x v vl vu l u s3.heap.objs.size Q I4 r1 (Heap.IsSliceOf.new ..) pl pu q3
 show wpAny (model X.prog X.w) X.A (subscriptTail e (.Slice lo hi none p2) v (.ref s3.heap.objs.size)) (EP X pins σ Q) X.xe { s3 with heap := s3.heap.push { cls := .type "slice",data := .fields #[vl,vu,.none] } }
 exact tail_any (ops := [.ref s3.heap.objs.size,v]) ht hT hg (by with_unfolding_all rfl)
noncomputable def Sx (xs : List V) (lo hi : Option Int) : List V := (xs.drop (HT.sIx xs.length 0 lo)).take (HT.sIx xs.length xs.length hi - HT.sIx xs.length 0 lo)
theorem Vb (xs : List V) (lo hi : Option Int) : (Sx xs lo hi).length ≤ xs.length := by
 unfold Sx
 rw [List.length_take,List.length_drop]
 omega
noncomputable def qhw (K : PySem.W.Frag) : V → Option Int → Option Int → Hp → VK → Prop := fun x lo hi H Q => ∃ a xs,x = .ref a∧SqT K H a xs ∧
 ¬ (HT.sIx xs.length 0 lo = 0∧HT.sIx xs.length xs.length hi = xs.length)∧∀ p,H p = none → Q (.ref p) (upd H p (.tup (Sx xs lo hi)))
theorem TF : SlR X (qhw X.K) := by
 intro pins s σ H x v vl vu lo hi sl Q I rx hs pl pu h
 obtain ⟨a,xs,rfl,hx,hw,q⟩ := h
 cases rx
 obtain ⟨its,r,ht,hz⟩ := I.tuple hx
 have hlen : its.toArray.size = xs.length := by rw [List.size_toArray];exact r.length.symm
 refine ⟨"tuple",_,PyProof.Rows.slot_tuple_getitem.lookup,ht.typeIs,?_⟩
 refine HT.JF ht hs pl pu (by rw [hlen];exact hw) ?_ (by rw [hlen];exact hz)
 rw [hlen]
 refine ⟨.ref s.heap.objs.size,_,I.laid (t' := s.toks) (o := .tup (Sx xs lo hi)) (fun b ob q => Heap.get?_push_of_some _ q) (Nat.le_refl _) ?_,rfl,q _ (I.hok.fresh (Nat.le_refl _))⟩
 exact ⟨Nat.le_trans (Vb xs lo hi) hz,_,(r.drop (HT.sIx xs.length 0 lo)).take (HT.sIx xs.length xs.length hi - HT.sIx xs.length 0 lo),IsTup.new _ _⟩
noncomputable def LD (K : PySem.W.Frag) : R2 := fun x y H Q => ∃ a b xs ys,x = .ref a∧y = .ref b∧SqT K H a xs∧SqT K H b ys∧xs ≠ []∧xs.length + ys.length ≤ sizeLine ∧
 (ys = [] → Q (.ref a) H)∧(ys ≠ [] → ∀ p,H p = none → Q (.ref p) (upd H p (.tup (xs ++ ys))))
theorem zI.nil_iff {xs : List V} {us : List Value} (r : zI xs us) : us = [] ↔ xs = [] := by
 cases r with
 | nil => simp
 | cons _ _ => simp
theorem X3 : OpR X (binaryOp .Add) (LD X.K) := by
 intro pins s σ H x y v u Q I rx ry h
 obtain ⟨a,b,xs,ys,rfl,rfl,ha,hb,hx,hz,q1,q2⟩ := h
 cases rx
 cases ry
 obtain ⟨its,r1,p1,_⟩ := I.tuple ha
 obtain ⟨its2,r2,p2,_⟩ := I.tuple hb
 refine HT.L7 p1 p2 (fun z => hx (r1.nil_iff.mp z)) (fun z => ⟨.ref a,H,I,rfl,q1 (r2.nil_iff.mp z)⟩) (fun z => ?_) (by rw [← r1.length,← r2.length];exact hz)
 refine ⟨.ref s.heap.objs.size,_,I.laid (t' := s.toks) (o := .tup (xs ++ ys)) (fun b ob q => Heap.get?_push_of_some _ q) (Nat.le_refl _) ?_,rfl,q2 (fun w => z (r2.nil_iff.mpr w)) _ (I.hok.fresh (Nat.le_refl _))⟩
 exact ⟨by rw [List.length_append];exact hz,_,r1.append r2,IsTup.new _ _⟩
end
end L2
namespace L2
open PySem PySem.Spec PyProof.Rows
noncomputable def ixN (n : Nat) (i : Int) : Option Nat := if 0 ≤ i then (if i < n then some i.toNat else none) else if -(n : Int) ≤ i then some (i + n).toNat else none
noncomputable def atI {α : Type} (xs : List α) (i : Int) : Option α := (ixN xs.length i).bind fun j => xs[j]?
theorem Co {n : Nat} {i : Int} {j : Nat} (h : ixN n i = some j) : seqIndex? i n = some j∧j < n∧-(n : Int) ≤ i∧i < n := by
 unfold ixN at h
 by_cases h0 : 0 ≤ i
 ·rw [if_pos h0] at h
  by_cases h1 : i < n
  ·rw [if_pos h1] at h
   have e : i.toNat = j := Option.some.inj h
   exact ⟨by rw [seqIndex_of h0 h1,e],by omega,by omega,h1⟩
  ·rw [if_neg h1] at h;cases h
 ·rw [if_neg h0] at h
  by_cases h1 : -(n : Int) ≤ i
  ·rw [if_pos h1] at h
   have e : (i + n).toNat = j := Option.some.inj h
   exact ⟨by rw [seqIndex_neg (by omega) h1,e],by omega,h1,by omega⟩
  ·rw [if_neg h1] at h;cases h
theorem ES {α : Type} {xs : List α} {i : Int} {v : α} (h : atI xs i = some v) : ∃ j,seqIndex? i xs.length = some j∧xs[j]? = some v∧j < xs.length∧-(xs.length : Int) ≤ i∧i < xs.length := by
 unfold atI at h
 cases e : ixN xs.length i with
 | none => rw [e] at h;cases h
 | some j =>
  rw [e] at h
  obtain ⟨h1,h2,h3,h4⟩ := Co e
  exact ⟨j,h1,h,h2,h3,h4⟩
def JT (b : Expr) : Prop := ∀ o i,subscripted b false o i = operate [o,i] (getItem o i)
def IxR (X : Cx) (r : R2) : Prop :=
 ∀ (value slice : Expr) (pins : List (Addr × Obj)) (s : Shared) (σ : St) (H : Hp) (x y : V) (v u : Value) (Q : VK),Inv X pins σ H s → jo x v → jo y u → r x y H Q →
  subscripted slice false v u = operate [v,u] (getItem v u) → wpAny (model X.prog X.w) X.A (subscriptTail value slice v u) (EP X pins σ Q) X.xe s
def MtR (X : Cx) (id : String) (r : V → List V → Hp → VK → Prop) : Prop :=
 ∀ (pins : List (Addr × Obj)) (s : Shared) (σ : St) (H : Hp) (x : V) (xs : List V) (v : Value) (us : List Value) (Q : VK),Inv X pins σ H s → jo x v → zI xs us → r x xs H Q →
  wpAny (model X.prog X.w) X.A (call (.builtin id) (v :: us)) (EP X pins σ Q) X.xe s
section
variable {X : Cx} {a b : Expr} {ta tb : TE} {pos : Pos}
theorem IxR.or {r r' : R2} (h : IxR X r) (h' : IxR X r') : IxR X (fun x y H Q => r x y H Q ∨ r' x y H Q) := by
 intro value slice pins s σ H x y v u Q I rx ry q hs
 rcases q with q | q
 ·exact h value slice pins s σ H x y v u Q I rx ry q hs
 ·exact h' value slice pins s σ H x y v u Q I rx ry q hs
theorem NN {r : R2} (hr : IxR X r) (ha : PE X a ta) (hb : PE X b tb) (hs : JT b) : PE X (.Subscript a b pos) (tOp r ta tb) := by
 intro pins s σ H Q I h
 exact Subscript_ (qek ha hb I h fun v u s2 x y H2 I2 rx ry q => hr a b pins s2 σ H2 x y v u Q I2 rx ry q (hs _ _))
noncomputable def qg9 (K : PySem.W.Frag) : R2 := fun x y H Q => ∃ p xs i v,x = .ref p∧y = .int i∧SqL K H p xs∧atI xs i = some v∧Q v H
noncomputable def qg0 (K : PySem.W.Frag) : R2 := fun x y H Q => ∃ p xs i v,x = .ref p∧y = .int i∧SqT K H p xs∧atI xs i = some v∧Q v H
noncomputable def qg1 : R2 := fun x y H Q => ∃ z i c,x = .str z∧y = .int i∧z.length ≤ sizeLine∧atI z.cps.toList i = some c∧Q (.str ⟨#[c]⟩) H
theorem Ko : IxR X (qg9 X.K) := by
 intro value slice pins s σ H x y v u Q I rx ry h hs
 obtain ⟨p,xs,i,z,rfl,rfl,hq,he,q⟩ := h
 cases rx
 obtain ⟨t,rfl⟩ := ry
 obtain ⟨its,r,pl,hz⟩ := I.list hq
 obtain ⟨j,h1,h2,h3,h4,h5⟩ := ES he
 obtain ⟨w,ew,rw'⟩ := r.get h2
 have hl := r.length
 have hn := Ea
 have fin : EP X pins σ Q w s := ⟨z,H,I,rw',q⟩
 by_cases h0 : 0 ≤ i
 ·have hj : i.toNat = j := by
   rw [seqIndex_of h0 h5] at h1
   exact Option.some.inj h1
  exact item_listR pl.isList h0 (by omega) (by rw [hj];simpa using ew) fin hs
 ·have hj : (i + (its.toArray.size : Int)).toNat = j := by
   rw [seqIndex_neg (by omega) h4] at h1
   rw [List.size_toArray,← hl]
   exact Option.some.inj h1
  exact subscriptTail_builtinR (x := w) pl.isList.typeIs slot_list_getitem.lookup
   (wpAny_getItem_list_neg (Q := fun r s' => r = w∧EP X pins σ Q r s') pl.isList (by omega) (by rw [List.size_toArray] <;> omega) (by omega) (by rw [hj];simpa using ew) ⟨rfl,fin⟩) hs
theorem ME : IxR X (qg0 X.K) := by
 intro value slice pins s σ H x y v u Q I rx ry h hs
 obtain ⟨p,xs,i,z,rfl,rfl,hq,he,q⟩ := h
 cases rx
 obtain ⟨t,rfl⟩ := ry
 obtain ⟨its,r,pl,hz⟩ := I.tuple hq
 obtain ⟨j,h1,h2,h3,h4,h5⟩ := ES he
 obtain ⟨w,ew,rw'⟩ := r.get h2
 have hl := r.length
 have hn := Ea
 have fin : EP X pins σ Q w s := ⟨z,H,I,rw',q⟩
 exact subscriptTail_builtinR (x := w) pl.typeIs slot_tuple_getitem.lookup
  (getItem_tuple (j := j) (Q := fun r s' => r = w∧EP X pins σ Q r s') pl (by omega) (by omega) (by rw [List.size_toArray,← hl];exact h1) (by simpa using ew) ⟨rfl,fin⟩) hs
theorem qcn : IxR X qg1 := by
 intro value slice pins s σ H x y v u Q I rx ry h hs
 obtain ⟨z,i,c,rfl,rfl,hz,he,q⟩ := h
 obtain ⟨t,rfl⟩ := rx
 obtain ⟨t',rfl⟩ := ry
 obtain ⟨j,h1,h2,h3,h4,h5⟩ := ES he
 have hl : z.cps.toList.length = z.length := by simp [Str.length]
 rw [hl] at h1 h4 h5
 have hn := Ea
 exact tail_any (typeIs_str s z t) slot_str_getitem.lookup (getItem_str (c := c) (by
  have e1 : decide (i < -(2 ^ 63 : Int)) = false := decide_eq_false (by omega)
  have e2 : decide (i ≥ 2 ^ 63) = false := decide_eq_false (by omega)
  rw [e1,e2,Bool.or_false]) (by rw [h1];simpa using h2) ⟨.str ⟨#[c]⟩,H,I.tok _,⟨_,rfl⟩,q⟩) hs
noncomputable def rIx (K : PySem.W.Frag) : R2 := fun x y H Q => qg9 K x y H Q ∨ qg0 K x y H Q ∨ qg1 x y H Q
theorem qct : IxR X (rIx X.K) := Ko.or (ME.or qcn)
theorem W7 (its : List Value) (n j : Nat) (u : Value) : Obj.mapSeq (·.setIfInBounds j u) { cls := .type "list",data := .seq its.toArray n } = { cls := .type "list",data := .seq (its.set j u).toArray n } := by
 simp [Obj.mapSeq]
theorem Inv.lst {pins : List (Addr × Obj)} {σ : St} {H : Hp} {s : Shared} {p : Addr} {xs : List V} (I : Inv X pins σ H s) (h : H p = some (.lst xs)) :
  ∃ (its : List Value) (n : Nat),zI xs its∧s.heap.get? p = some { cls := .type "list",data := .seq its.toArray n }∧xs.length ≤ sizeLine := by
 obtain ⟨z,its,n,r,e⟩ := I.hok p _ h
 exact ⟨its,n,r,e,z⟩
theorem Inv.lstUpd {pins : List (Addr × Obj)} {σ : St} {H : Hp} {s : Shared} {p : Addr} {xs ys : List V} {its its' : List Value} {n n' : Nat} {f : Obj → Obj} (I : Inv X pins σ H s) (h : H p = some (.lst xs))
  (ho : s.heap.get? p = some { cls := .type "list",data := .seq its.toArray n }) (hf : f { cls := .type "list",data := .seq its.toArray n } = { cls := .type "list",data := .seq its'.toArray n' }) (r : zI ys its') (hz : ys.length ≤ sizeLine) (t : Nat) :
  Inv X pins σ (upd H p (.lst ys)) { s with heap := s.heap.update p f,toks := t } := by
 have e : (s.heap.update p f).get? p = some { cls := .type "list",data := .seq its'.toArray n' } := by
  rw [Heap.get?_update_self f ho (by rw [hf] <;> rfl),hf]
 refine I.write (x := p) (e := p) (by rw [h];trivial) (.inl rfl) (fun b u hb q => (Heap.get?_update_other _ _ (Ne.symm hb)).trans q) ⟨_,e⟩ ?_
 exact ⟨hz,its',n',r,e⟩
noncomputable def qd7 : V → V → V → Hp → (Hp → Prop) → Prop := fun o i v H Q => ∃ p xs k j,o = .ref p∧i = .int k∧H p = some (.lst xs)∧ixN xs.length k = some j∧Q (upd H p (.lst (xs.set j v)))
theorem Rl : qgx X qd7 := by
 intro pins s σ H o i v ov iv u Q I ro ri rv h
 obtain ⟨p,xs,k,j,rfl,rfl,hp,hj,q⟩ := h
 cases ro
 obtain ⟨t,rfl⟩ := ri
 obtain ⟨its,n,r,ho,hz⟩ := I.lst hp
 obtain ⟨h1,h2,h3,h4⟩ := Co hj
 have hl := r.length
 have hn := Ea
 have I' : Inv X pins σ (upd H p (.lst (xs.set j v))) { s with heap := s.heap.update p (Obj.mapSeq (·.setIfInBounds j u)) } :=
  I.lstUpd hp ho (W7 its n j u) (r.set rv j) (by rw [List.length_set];exact hz) s.toks
 by_cases h0 : 0 ≤ k
 ·have hk : k.toNat = j := by
   rw [seqIndex_of h0 h4] at h1
   exact Option.some.inj h1
  exact PySem.W.ki_setAt ho h0 (by omega) (by rw [List.size_toArray,← hl];exact h4) (by rw [hk];exact ⟨_,I',q⟩)
 ·have hk : (k + (its.toArray.size : Int)).toNat = j := by
   rw [seqIndex_neg (by omega) h3] at h1
   rw [List.size_toArray,← hl]
   exact Option.some.inj h1
  exact PySem.W.ki_setBack ho (by omega) (by rw [List.size_toArray,← hl];exact h3) (by omega) (by rw [hk];exact ⟨_,I',q⟩)
theorem UX (lo hi : Option Int) (n : Nat) : (sliceBounds lo hi none n).1 = ((HT.sIx n 0 lo : Nat) : Int)∧(sliceBounds lo hi none n).2.1 = ((HT.sIx n n hi : Nat) : Int)∧(sliceBounds lo hi none n).2.2 = 1 := by
 refine ⟨?_,?_,rfl⟩
 ·cases lo with
  | none => simp [sliceBounds,HT.sIx]
  | some i =>
   simp only [sliceBounds,HT.sIx,Option.getD_none,show (1 : Int) > 0 by decide,if_true]
   by_cases h : i < 0
   ·simp only [h,if_true] <;> omega
   ·simp only [h,if_false] <;> omega
 ·cases hi with
  | none => simp [sliceBounds,HT.sIx]
  | some i =>
   simp only [sliceBounds,HT.sIx,Option.getD_none,show (1 : Int) > 0 by decide,if_true]
   by_cases h : i < 0
   ·simp only [h,if_true] <;> omega
   ·simp only [h,if_false] <;> omega
theorem U7 (its : List Value) (lo hi : Option Int) : slicePick its.toArray lo hi none = ((its.drop (HT.sIx its.length 0 lo)).take (HT.sIx its.length its.length hi - HT.sIx its.length 0 lo)).toArray := by
 obtain ⟨h1,h2,h3⟩ := UX lo hi its.toArray.size
 unfold slicePick
 rw [h1,h2,h3]
 simp only [sliceRange_one,pick_run,List.size_toArray] <;> rfl
noncomputable def qig (K : PySem.W.Frag) : V → Option Int → Option Int → Hp → VK → Prop := fun x lo hi H Q => ∃ a xs,x = .ref a∧SqL K H a xs∧∀ p,H p = none → Q (.ref p) (upd H p (.lst (Sx xs lo hi)))
theorem Cc : SlR X (qig X.K) := by
 intro pins s σ H x v vl vu lo hi sl Q I rx hs pl pu h
 obtain ⟨a,xs,rfl,hx,q⟩ := h
 cases rx
 obtain ⟨its,r,ht,hz⟩ := I.list hx
 have hlen := r.length
 refine ⟨"list",_,slot_list_getitem.lookup,ht.isList.typeIs,?_⟩
 refine wpAny_getItem_list_slice ht.isList hs pl pu .none (by simp) ?_ (by rw [List.size_toArray] <;> omega)
 rw [U7,← hlen]
 refine ⟨.ref s.heap.objs.size,_,I.laid (t' := s.toks) (o := .lst (Sx xs lo hi)) (fun b ob q => Heap.get?_push_of_some _ q) (Nat.le_refl _) ?_,rfl,q _ (I.hok.fresh (Nat.le_refl _))⟩
 exact ⟨Nat.le_trans (Vb xs lo hi) hz,_,0,(r.drop (HT.sIx xs.length 0 lo)).take (HT.sIx xs.length xs.length hi - HT.sIx xs.length 0 lo),Heap.get?_push_size _ rfl⟩
theorem Qs : ZN X (.type "list") (fun xs H Q => ∃ p ys,xs = [.ref p]∧(SqL X.K H p ys ∨ SqT X.K H p ys)∧∀ l,H l = none → Q (.ref l) (upd H l (.lst ys))) := by
 intro pins s σ H xs us Q I r h
 obtain ⟨p,ys,rfl,hq,q⟩ := h
 obtain ⟨u,rfl,rx⟩ := Vx r
 cases rx
 have fin : ∀ (its : List Value),zI ys its → ys.length ≤ sizeLine → ∀ (h' : Heap) (c' : Nat),(∀ b o',s.heap.get? b = some o' → h'.get? b = some o') →
   h'.get? s.heap.objs.size = some { cls := .type "list",dict := none,data := .seq its.toArray c',slots := #[] } → EP X pins σ Q (.ref s.heap.objs.size) { s with heap := h' } := fun its r' hz h' c' kp e =>
  ⟨.ref s.heap.objs.size,_,I.laid (t' := s.toks) kp (Nat.le_refl _) (show JA X.prog X.w _ h' _ (.lst ys) from ⟨hz,its,c',r',e⟩),rfl,q _ (I.hok.fresh (Nat.le_refl _))⟩
 rcases hq with hq | hq
 ·obtain ⟨its,r',pl,hz⟩ := I.list hq
  have hlen := r'.length
  obtain ⟨o,ho,hc,n,hd⟩ := pl.isList
  exact call_list_seq p (.inl rfl) ho hc hd (fun h' c' kp e => fin its r' hz h' c' kp e) (by simp only [List.size_toArray] <;> omega)
 ·obtain ⟨its,r',pl,hz⟩ := I.tuple hq
  have hlen := r'.length
  obtain ⟨o,ho,hc,n,hd⟩ := pl
  exact call_list_seq p (.inr rfl) ho hc hd (fun h' c' kp e => fin its r' hz h' c' kp e) (by simp only [List.size_toArray] <;> omega)
theorem Zc : ZN X (.type "tuple") (fun xs H Q => ∃ p ys,xs = [.ref p]∧((SqL X.K H p ys∧∀ l,H l = none → Q (.ref l) (upd H l (.tup ys))) ∨ (SqT X.K H p ys∧Q (.ref p) H))) := by
 intro pins s σ H xs us Q I r h
 obtain ⟨p,ys,rfl,h⟩ := h
 obtain ⟨u,rfl,rx⟩ := Vx r
 cases rx
 rcases h with ⟨hq,q⟩ | ⟨hq,q⟩
 ·obtain ⟨its,r',pl,hz⟩ := I.list hq
  have hlen := r'.length
  refine call_tuple_list pl.isList (fun h' kp => ?_) (by simp only [List.size_toArray] <;> omega)
  have I1 : Inv X pins σ H { s with heap := h' } := I.kept (t' := s.toks) kp
  have I2 : Inv X pins σ (upd H h'.objs.size (.tup ys)) { s with heap := h'.push { cls := .type "tuple",data := .seq its.toArray } } :=
   I1.laid (t' := s.toks) (fun b o e => Heap.get?_push_of_some _ e) (Nat.le_refl _) (show JA X.prog X.w _ _ _ (.tup ys) from ⟨hz,its,r',IsTup.new _ _⟩)
  exact ⟨.ref h'.objs.size,_,I2,rfl,q _ (I1.hok.fresh (Nat.le_refl _))⟩
 ·obtain ⟨its,r',pl,hz⟩ := I.tuple hq
  exact call_tuple_same pl ⟨.ref p,H,I,rfl,q⟩
def tyV (K : PySem.W.Frag) (T : String) (x : V) (H : Hp) : Prop := match x with
 | .str _ => T = "str"
 | .int _ => T = "int"
 | .ref p => (T = "list"∧∃ xs,SqL K H p xs) ∨ (T = "tuple"∧∃ o,K.lookup p = some o∧o.cls = .type "tuple"∧o.dict = none) ∨
   (T = "dict"∧((∃ kvs,H p = some (.dK kvs)) ∨ ∃ kvs,H p = some (.dT kvs))) ∨ (T = "set"∧∃ S n,H p = some (.set S n))
 | _ => False
theorem qat {pins : List (Addr × Obj)} {σ : St} {H : Hp} {s : Shared} {T : String} {x : V} {v : Value} (I : Inv X pins σ H s) (r : jo x v) (ty : tyV X.K T x H) :
  s.TypeIs v T∧∀ a,v = .ref a → ∃ ob,s.heap.get? a = some ob∧ob.dict = none := by
 cases x with
 | str z =>
  obtain ⟨t,rfl⟩ := r
  cases (show T = "str" from ty)
  exact ⟨typeIs_str s z t,fun _ e => nomatch e⟩
 | int i =>
  obtain ⟨t,rfl⟩ := r
  cases (show T = "int" from ty)
  exact ⟨typeIs_int s i t,fun _ e => nomatch e⟩
 | ref p =>
  cases r
  rcases ty with ⟨rfl,xs,hq⟩ | ⟨rfl,o,hk,hc,hd⟩ | ⟨rfl,hk⟩ | ⟨rfl,S,n,hk⟩
  ·obtain ⟨its,_,pl,_⟩ := I.list hq
   refine ⟨pl.isList.typeIs,fun a e => ?_⟩
   cases e
   obtain ⟨o,n,e,c,hd,_⟩ := pl
   exact ⟨o,e,hd⟩
  ·refine ⟨⟨o,I.kIn p o hk,hc⟩,fun a e => ?_⟩
   cases e
   exact ⟨o,I.kIn _ o hk,hd⟩
  ·have z : ∃ o,s.heap.get? p = some o∧o.ExactDict := by
    rcases hk with ⟨kvs,hk⟩ | ⟨kvs,hk⟩
    ·obtain ⟨_,_,_,_,o,_,_,e,ex,_⟩ := I.hok p _ hk
     exact ⟨o,e,ex⟩
    ·obtain ⟨_,_,_,_,o,_,_,e,ex,_⟩ := I.hok p _ hk
     exact ⟨o,e,ex⟩
   obtain ⟨o,e,ex⟩ := z
   refine ⟨⟨o,e,ex.1⟩,fun a e2 => ?_⟩
   cases e2
   exact ⟨o,e,ex.2.1⟩
  ·obtain ⟨o,_,_,_,e,ex,_⟩ := I.hok p _ hk
   refine ⟨⟨o,e,ex.1⟩,fun a e2 => ?_⟩
   cases e2
   exact ⟨o,e,ex.2.1⟩
 | _ => exact False.elim ty
noncomputable def tBM (K : PySem.W.Frag) (T : String) (r : V → List V → Hp → VK → Prop) (to : TE) (t : TA) : TE := fun σ H Q => to σ H fun x H1 => tyV K T x H1∧t σ H1 fun xs H2 => r x xs H2 Q
variable {o e : Expr} {es : List Expr} {to : TE} {t : TA} {name : Str} {apos cpos : Pos} {T id : String} {r : V → List V → Hp → VK → Prop}
theorem qem (pa : PlainAttrs T) (slot : Slot T name id) (hty : typeOf (.builtin id) = pure (.type "method_descriptor")) (hm : MtR X id r) (ho : PE X o to) (ha : PA X (e :: es) t)
  (hbase : attributeBase o name X.env (eval o X.env) = eval o X.env := by rfl)
  (hfew : ((backTo cpos (starEach (e :: es) X.env)).all (fun x => !x.1) && (backToKw cpos (keywordEach [] X.env)).all (fun x => x.1.isSome)
   && decide ((e :: es).length + ([] : List Keyword).length + (if ([] : List Keyword).isEmpty then 0 else 1) < 30)) = true := by rfl)
  (hline : (apos.endLine == cpos.line) = true := by rfl) (hs : starEach (e :: es) X.env = (false,eval e X.env) :: starEach es X.env := by rfl) (hplain : (backTo cpos (starEach es X.env)).any (·.1) = false := by rfl) :
  PE X (.Call (.Attribute o name apos) (e :: es) [] cpos) (tBM X.K T r to t) := by
 intro pins s σ H Q I h
 refine wpAny_Call_method_late hbase hfew hline rfl (thn (ho pins s σ H _ I h) fun v s1 ⟨x,H1,I1,r1,ty,q1⟩ => ?_)
 obtain ⟨h1,h2⟩ := qat I1 r1 ty
 refine ⟨T,id,pa,slot,hty,h1,h2,?_⟩
 have hA := ha cpos pins s1 σ H1 _ I1 q1
 rw [hs] at hA ⊢
 refine Calls.callWith_builtin (by show (false || (backTo cpos (starEach es X.env)).any (·.1)) = false;rw [hplain] <;> rfl) (Calls.evalArgs_plain ?_)
 exact thn hA fun us s2 ⟨vs,H2,I2,r2,q2⟩ => hm pins s2 σ H2 x vs v us Q I2 r1 r2 q2
end
end L2
namespace L2
open PySem PySem.Spec PyProof.Rows
def MtM (X : Cx) (id : String) (r : V → List V → Hp → VK → Prop) : Prop :=
 ∀ (pins : List (Addr × Obj)) (s : Shared) (σ : St) (H : Hp) (x : V) (xs : List V) (v : Value) (us : List Value) (Q : VK),Inv X pins σ H s → jo x v → zI xs us → r x xs H Q →
  wpAny (model X.prog X.w) X.A (call (.builtin id) (v :: us)) (EP X pins σ Q) X.xe s
theorem zI.one : ∀ {x : V} {us : List Value},zI [x] us → ∃ u,us = [u]∧jo x u
 | _,_,.cons r .nil => ⟨_,rfl,r⟩
theorem zI.reverse {xs : List V} {us : List Value} (h : zI xs us) : zI xs.reverse us.reverse := by
 induction h with
 | nil => exact .nil
 | cons r t ih => rw [List.reverse_cons,List.reverse_cons];exact zI.append ih (.cons r .nil)
section
variable {X : Cx} {pins : List (Addr × Obj)} {σ : St} {H : Hp} {s : Shared} {l b : Addr} {xs ys zs : List V}
theorem Inv.lset {its its' : List Value} {n : Nat} {f : Array Value → Array Value} {t' : Nat} (I : Inv X pins σ H s) (hH : H l = some (.lst xs))
  (e : s.heap.get? l = some { cls := .type "list",data := .seq its.toArray n }) (hf : f its.toArray = its'.toArray) (hv : zI ys its') (hz : ys.length ≤ sizeLine) :
  Inv X pins σ (upd H l (.lst ys)) { s with heap := s.heap.update l (Obj.mapSeq f),toks := t' } := by
 have q := PySem.IsL.update e f
 rw [hf] at q
 refine I.write (x := l) (e := l) (by rw [hH];exact trivial) (.inl rfl) (fun b' u hb hu => (Heap.get?_update_other s.heap (Obj.mapSeq f) (Ne.symm hb)).trans hu) ⟨_,q⟩ ?_
 exact ⟨hz,its',_,hv,q⟩
theorem Inv.lnew {its : List Value} {t' : Nat} (I : Inv X pins σ H s) (hv : zI ys its) (hz : ys.length ≤ sizeLine) :
  Inv X pins σ (upd H s.heap.objs.size (.lst ys)) { s with heap := s.heap.push { cls := .type "list",data := .seq its.toArray },toks := t' } :=
 I.laid (fun _ _ q => Heap.get?_push_of_some _ q) (Nat.le_refl _) ⟨hz,its,0,hv,Heap.get?_push_size _ rfl⟩
theorem Inv.fresh (I : Inv X pins σ H s) : H s.heap.objs.size = none := I.hok.fresh (Nat.le_refl _)
theorem Inv.lstM (I : Inv X pins σ H s) (hH : H l = some (.lst xs)) : xs.length ≤ sizeLine∧∃ (its : List Value) (n : Nat),zI xs its∧xs.length = its.length∧s.heap.get? l = some { cls := .type "list",data := .seq its.toArray n } := by
 obtain ⟨z,its,n,r,e⟩ := I.hok l _ hH
 exact ⟨z,its,n,r,r.length,e⟩
theorem Rg {n : Nat} (h : n ≤ sizeLine) : Builtin.List.listTooLong n = false := by
 unfold Builtin.List.listTooLong
 exact decide_eq_false (by omega)
end
section
variable {X : Cx}
noncomputable def XJ : V → List V → Hp → VK → Prop := fun x vs H Q => ∃ l xs y,x = .ref l∧vs = [y]∧H l = some (.lst xs)∧xs.length < sizeLine∧Q .non (upd H l (.lst (xs ++ [y])))
theorem Js : MtM X "list.append" XJ := by
 intro pins s σ H x vs v us Q I rx rv h
 obtain ⟨l,xs,y,rfl,rfl,hH,hz,q⟩ := h
 cases rx
 obtain ⟨u,rfl,ru⟩ := rv.one
 obtain ⟨z,its,n,r,hl,e⟩ := I.lstM hH
 refine call_meets F.slot_list_append ⟨_,e,rfl⟩ F.entry_list_append (F.args_list_append_2 _ _) (PySem.list_append l its.toArray n u (by rw [List.size_toArray];omega)) ⟨e,?_⟩
 refine ⟨.non,_,I.lset (its' := its ++ [u]) hH e (by simp) (r.append (.cons ru .nil)) ?_,rfl,q⟩
 rw [List.length_append,List.length_singleton]
 omega
noncomputable def Xd : V → List V → Hp → VK → Prop := fun x vs H Q => ∃ l b xs zs,x = .ref l∧vs = [.ref b]∧H l = some (.lst xs)∧H b = some (.lst zs)∧xs.length + zs.length ≤ sizeLine∧Q .non (upd H l (.lst (xs ++ zs)))
theorem Xg : MtM X "list.extend" Xd := by
 intro pins s σ H x vs v us Q I rx rv h
 obtain ⟨l,b,xs,zs,rfl,rfl,hH,hB,hz,q⟩ := h
 cases rx
 obtain ⟨u,rfl,ru⟩ := rv.one
 cases ru
 obtain ⟨z,its,n,r,hl,e⟩ := I.lstM hH
 obtain ⟨z2,its2,n2,r2,hl2,e2⟩ := I.lstM hB
 have hsz : its.toArray.size + its2.toArray.size ≤ sizeLine := by rw [List.size_toArray,List.size_toArray];omega
 have hlong : ¬ (!its.toArray.isEmpty && Builtin.List.listTooLong (its.toArray.size + its2.toArray.size)) = true := by
  rw [Rg hsz,Bool.and_false]
  exact Bool.false_ne_true
 refine call_meets F.slot_list_extend ⟨_,e,rfl⟩ F.entry_list_extend (F.args_list_extend_2 _ _)
  (AutoSeq1.list_extend_list_list_0 l its.toArray n b its2.toArray n2 hlong (by rw [List.size_toArray];omega) (by omega)) ⟨e,e2,?_⟩
 refine ⟨.non,_,I.lset (its' := its ++ its2) hH e (by simp) (r.append r2) ?_,rfl,q⟩
 rw [List.length_append]
 omega
noncomputable def qfm : R2 := fun x y H Q => ∃ l b xs zs,x = .ref l∧y = .ref b∧H l = some (.lst xs)∧H b = some (.lst zs)∧xs.length + zs.length ≤ sizeLine∧∀ p,H p = none → Q (.ref p) (upd H p (.lst (xs ++ zs)))
theorem T1 : OpR X (binaryOp .Add) qfm := by
 intro pins s σ H x y v u Q I rx ry h
 obtain ⟨l,b,xs,zs,rfl,rfl,hH,hB,hz,q⟩ := h
 cases rx
 cases ry
 obtain ⟨z,its,n,r,hl,e⟩ := I.lstM hH
 obtain ⟨z2,its2,n2,r2,hl2,e2⟩ := I.lstM hB
 refine PySem.P.add_list e e2 ?_ (by rw [List.size_toArray,List.size_toArray];omega)
 have ea : its.toArray ++ its2.toArray = (its ++ its2).toArray := by simp
 rw [ea]
 exact ⟨.ref _,_,I.lnew (t' := s.toks) (r.append r2) (by rw [List.length_append];omega),rfl,q _ I.fresh⟩
end
section
variable {prog : Program} {w : World} {A : Around} {E : Value → Shared → Prop} {s : Shared}
end
section
variable {X : Cx}
end
end L2
namespace Att
open PySem PySem.W PySem.Calls PyProof.Rows
theorem Vk {P : Params} {h : Heap} : ∀ (ns : List Int) (vs : List Value),WellAll P h vs (ns.map WData.int) → IntsAre vs ns := by
 intro ns
 induction ns with
 | nil =>
  intro vs w
  rw [List.map_nil] at w
  cases w
  exact .nil
 | cons n ns ih =>
  intro vs w
  rw [List.map_cons] at w
  cases w with
  | cons a b =>
   cases a
   exact .cons _ _ (ih _ b)
theorem Ct {l : OpenLaw} {n : Nat} (hn : l.most = some n) {P : Params} {h : Heap} {args : List WData} {vals : List Value}
  (hpre : l.row.toRowW.claim.pre args = true) (hwl : WellAll P h vals args) :
  ∃ a vs ns,vals = [Value.ref a]∧args = [WData.list (ns.map WData.int)]∧h.get? a = some { cls := .type "list",data := .seq vs.toArray }∧IntsAre vs ns∧ns.length ≤ n := by
 have hsh : WShape.hasAll [] args [.list .int] = true := (pre_splitW hpre).1
 have hc : l.pre.holds [] { args := args } = true := (pre_splitW hpre).2
 obtain ⟨d,r,rfl,h1,h2⟩ := hasAllW_cons hsh
 obtain rfl := hasAllW_nil h2
 obtain ⟨xs,rfl,h3⟩ := hasW_list h1
 obtain ⟨ns,rfl⟩ := items_int h3
 have hlen : ns.length ≤ n := by
  unfold OpenLaw.pre at hc
  have h4 : (WTm.not (.lt (.lit (.int (n : Int))) (.len (.arg 0)))).holds [] { args := [.list (ns.map .int)] } = true := by
   have h4 := (holds_andW hc).1
   rw [hn] at h4
   exact h4
  have h5 := condW_of h4 (w_not (w_lt w_lit (w_len_list (w_arg rfl))))
  rw [List.length_map] at h5
  refine Nat.le_of_not_lt fun q => ?_
  have q' : (n : Int) < ((ns.length : Nat) : Int) := by omega
  first
   | (rw [decide_eq_true q'] at h5;exact absurd h5 (by decide))
   | (simp at h5;omega)
 cases hwl with
 | cons w1 w2 =>
  cases w2
  cases w1 with
  | list ho hall => exact ⟨_,_,ns,rfl,rfl,ho,Vk ns _ hall,hlen⟩
theorem C2 (l : OpenLaw) (args : List WData) : l.row.toRowW.claim.post args (.bool true) args = true :=
 postW_of (r := l.row.toRowW) (X := (true == true))
  (show WShape.has [] (.bool true) .bool = true by first | rfl | decide | simp [WShape.has,WShape.arms,WShape.armsAll])
  (show (WTm.eq .res (.lit (.bool true))).value [] { args := args,res := some (.bool true),after := args } = some (.bool (true == true)) from w_eq_bool (w_res rfl) w_lit) rfl
theorem De {l : OpenLaw} {n : Nat} {q : Program} {loose : List Str} {XP : (Str → Option Value) → Heap → Prop} {YP : World → Heap → Prop} {d : DefRec}
  (hn : l.most = some n) (hdf : d.params.defaults = [])
  (call : ∀ (w : World) (s₀ s₁ : Shared) (mg mb : Str → Option Value) (fa : Addr) (o : Obj) (pm cd doc : Value) (a : Addr) (vs : List Value) (ns : List Int),
   Ground q loose [] XP w s₀ mg mb s₁.heap → YP w s₁.heap →
   s₁.heap.get? fa = some o → o.data = .func (docDef d.name d.params d.body d.scope pm cd doc) → s₁.heap.CodeRec cd d.name → mg d.name = some (.ref fa) →
   s₁.heap.get? a = some { cls := .type "list",data := .seq vs.toArray } → IntsAre vs ns → ns.length ≤ n → s₁.gens = #[] →
   codeAny (model l.prog w) callerA (.call (.ref fa) ⟨[.ref a],[]⟩) (fun r s' => r = .ok (.ret (.bool true))∧OldK s₁.heap s'.heap∧s'.os = s₁.os∧AllBare s'.gens) s₁) :
  WalkO q loose XP YP l.row.toRowW d [] (fun f vs => PySem.call f vs) := by
 intro w s₀ s₁ mg mb G Y fa o pm cd doc dV kV ho hd hcd hD hmg hg args vals as hpre hlay hrd hwl hlo
 obtain rfl : dV = .none := Dflts.none hD hdf
 obtain rfl : kV = .none := Dflts.noKw hD
 obtain ⟨a,vs,ns,rfl,rfl,hobj,hints,hlen⟩ := Ct hn hpre hwl
 refine enter_call (codeAny_mono (call w s₀ s₁ mg mb fa o pm cd doc a vs ns G Y ho (fd_plain hd) hcd hmg hobj hints hlen hg) fun r s' hq => ?_)
 obtain ⟨rfl,h2,h3,h4⟩ := hq
 exact ⟨.inl ⟨.bool true,.bool true,[],rfl,fun _ => rfl,.bool true,C2 l _,fun _ => ⟨List.Pairwise.nil,fun _ hm => (nomatch hm)⟩⟩,h2,h3,h4⟩
section
variable {prog : Program} {w : World} {A : Around} {E : Value → Shared → Prop} {s : Shared} {K : Frag}
end
end Att
namespace L2
open PySem PySem.Spec PyProof.Rows
theorem UQ : ∀ {vs : List Value} {ns : List Int},IntsAre vs ns → zI (ns.map V.int) vs
 | _,_,.nil => .nil
 | _,_,.cons n t h => .cons ⟨t,rfl⟩ (UQ h)
def qc6 (H : Hp) : Prop := ∀ b,H b = none ∨ ∃ o xs,H b = some (.frz o (.lst xs))
theorem RB {P : Program} {w : World} {K : PySem.W.Frag} {mg mb : Str → Option Value} {CX : CXT} {k : Nat} {fa a : Addr} {fd : FuncData} {x : Str} {sp : Sp} {s₁ : Shared} {vs : List Value} {ns : List Int}
  (KX : K.In s₁.heap) (hns : s₁.heap.Ns mainGlobals mg) (hb : s₁.heap.Ns builtinsNs mb) (hbb : ∀ x : Str,x ≠ "__name__" → mb x = bootBuiltins x) (hlim : s₁.heap.NoLimit) (hg : s₁.gens = #[])
  (ha : s₁.heap.get? a = some { cls := .type "list",data := .seq vs.toArray }) (hi : IntsAre vs ns) (hl : ns.length ≤ sizeLine) (hr : Room k callerA)
  (F : ∀ base : Heap,K.In base → base.Ns mainGlobals mg → FnOk P w K mg base CX k fa fd [x] sp) (hbind : ∀ (s : Shared) (u : Value),BindsTo s fd ⟨[u],[]⟩ [(x,u)])
  (hsp : ∀ H : Hp,qc6 H → SqL K H a (ns.map V.int) → sp [.ref a] H (fun v _ => v = .bl true) fun _ _ _ => False)
  (hCX : ∀ H e s',CX [] H s₁ (fun _ _ _ => False) e s' → False) :
  codeAny (model P w) callerA (.call (.ref fa) ⟨[.ref a],[]⟩) (fun r s' => r = .ok (.ret (.bool true))∧OldK s₁.heap s'.heap∧s'.os = s₁.os∧AllBare s'.gens) s₁ := by
 have rv := UQ hi
 have lenV := hi.length
 -- from an abstract heap in which nothing but the script may be tracked
 have core : ∀ H : Hp,qc6 H → SqL K H a (ns.map V.int) → HOk P w H s₁.heap → (∀ b,H b ≠ none → b = a) → (H a ≠ none → K.lookup a = none) →
   codeAny (model P w) callerA (.call (.ref fa) ⟨[.ref a],[]⟩) (fun r s' => r = .ok (.ret (.bool true))∧OldK s₁.heap s'.heap∧s'.os = s₁.os∧AllBare s'.gens) s₁ := by
  intro H hO hS hok hA hK
  have base_of : ∀ {b : Addr} {o : Obj},s₁.heap.get? b = some o → H b = none → (R7 s₁.heap H).get? b = some o := fun e n => CT e n
  have noA : ∀ {b : Addr} {o : Obj} {es : Array DictEntry} {ep : Nat},s₁.heap.get? b = some o → o.data = .dict es ep → H b = none := fun {b o es ep} e d => by
   cases q : H b with
   | none => rfl
   | some u =>
    have e' : b = a := hA b (by rw [q];simp)
    subst e'
    rw [ha] at e;cases e
    have d' : Data.seq vs.toArray _ = Data.dict es ep := d
    cases d'
  have nsK : ∀ {b : Addr} {m : Str → Option Value},s₁.heap.Ns b m → (R7 s₁.heap H).Ns b m := fun {b m} ⟨o,es,ep,e,d,r⟩ => ⟨o,es,ep,base_of e (noA e d),d,r⟩
  have hKb : K.In (R7 s₁.heap H) := fun b o e => base_of (KX b o e) (by
   cases q : H b with
   | none => rfl
   | some u =>
    have e' : b = a := hA b (by rw [q];simp)
    subst e'
    rw [hK (by rw [q];simp)] at e;cases e)
  have hM : Mod K mg (R7 s₁.heap H) := ⟨hKb,nsK hns,⟨mb,nsK hb,hbb⟩,let ⟨mc,h1,h2⟩ := hlim;⟨mc,nsK h1,h2⟩⟩
  have e0 : Env0 P w K mg (R7 s₁.heap H) callerA [] s₁ H := ⟨rfl,hM,fun b o e => KG e,Nat.le_of_eq (Xe _ _),trivial,fun b hb => absurd (show b ∈ ([] : List Addr) from hb) (by simp),hok,.of_eq hg⟩
  refine codeAny_mono ((F _ hKb (nsK hns)).run callerA [] s₁ H ⟨[.ref a],[]⟩ [.ref a] [.ref a] _ _ hr e0 (hbind s₁ (.ref a)) (.cons rfl .nil) (hsp H hO hS)) fun r s' h => ?_
  cases r with
  | error e => exact (hCX H e s' h).elim
  | ok fl =>
   cases fl with
   | next => exact False.elim h
   | brk => exact False.elim h
   | cont => exact False.elim h
   | ret u =>
    obtain ⟨v,H',os,bare,un,hok',r',q⟩ := h
    have q' : v = .bl true := q
    subst q'
    obtain rfl : u = Value.bool true := r'
    refine ⟨rfl,OldK.of_keep fun b o e => ?_,os,bare⟩
    cases q : H b with
    | none => exact un.keep b o e q (by intro z;exact absurd (show b ∈ ([] : List Addr) from z) (by simp)) (by simp)
    | some u =>
     rcases hO b with z | ⟨ob,xs,z⟩
     ·rw [q] at z;cases z
     ·have z2 := un.frzs b ob _ z
      obtain ⟨e1,_⟩ := hok b _ z
      obtain ⟨e2,_⟩ := hok' b _ z2
      rw [e] at e1;cases e1
      exact e2
 cases hk : K.lookup a with
 | some o =>
  -- the script is one of the module's own objects
  have e := KX a o hk
  rw [ha] at e
  cases e
  refine core (fun _ => none) (fun _ => .inl rfl) (.inr ⟨_,vs.toArray,_,hk,rfl,rfl,rfl,by rw [List.size_toArray,lenV];exact hl,by simpa using rv⟩) (fun b u z => by have z' : (none : Option HO) = some u := z;cases z') (fun b z => absurd rfl z) fun z => absurd rfl z
 | none =>
  refine core (fun b => if b = a then some (.frz { cls := .type "list",data := .seq vs.toArray } (.lst (ns.map V.int))) else none) (fun b => ?_) (.inl (.inr ⟨{ cls := .type "list",data := .seq vs.toArray },if_pos rfl⟩)) (fun b u z => ?_) (fun b z => ?_) fun _ => hk
  ·by_cases hb : b = a
   ·exact .inr ⟨_,_,if_pos hb⟩
   ·exact .inl (if_neg hb)
  ·by_cases hb : b = a
   ·have z' := (if_pos hb).symm.trans z
    cases z'
    subst hb
    exact ⟨ha,by rw [List.length_map];exact hl,vs,_,rv,ha⟩
   ·have z' := (if_neg hb).symm.trans z
    cases z'
  ·by_cases hb : b = a
   ·exact hb
   ·exact absurd (if_neg hb) z
end L2
namespace L2
open PySem PySem.Spec PyProof.Rows
theorem LA {l : PySem.W.OpenLaw} {n k : Nat} {q : Program} {loose : List Str} {XP : (Str → Option Value) → Heap → Prop} {YP : World → Heap → Prop} {d : DefRec} {K : Params → PySem.W.Frag} {CX : World → CXT} {sp : World → Sp} {x : Str}
  (hn : l.most = some n) (hn2 : n ≤ sizeLine) (hdf : d.params.defaults = []) (hr : Room k callerA)
  (hY : ∀ (w : World) (h : Heap),YP w h → (K w.params).In h)
  (F : ∀ (w : World) (mg : Str → Option Value) (fa : Addr) (h : Heap),(K w.params).In h → h.Ns mainGlobals mg → mg d.name = some (.ref fa) →
   ∃ fd : FuncData,(∀ (s : Shared) (u : Value),BindsTo s fd ⟨[u],[]⟩ [(x,u)]) ∧
    ∀ base : Heap,(K w.params).In base → base.Ns mainGlobals mg → FnOk l.prog w (K w.params) mg base (CX w) k fa fd [x] (sp w))
  (hsp : ∀ (w : World) (H : Hp) (a : Addr) (ns : List Int),ns.length ≤ n → qc6 H → SqL (K w.params) H a (ns.map V.int) → sp w [.ref a] H (fun v _ => v = .bl true) fun _ _ _ => False)
  (hCX : ∀ (w : World) (H : Hp) (s : Shared) (e : Value) (s' : Shared),CX w [] H s (fun _ _ _ => False) e s' → False) :
  PySem.W.WalkO q loose XP YP l.row.toRowW d [] (fun f vs => PySem.call f vs) := by
 refine Att.De hn hdf fun w s₀ s₁ mg mb fa o pm cd doc a vs ns G Y ho hd hcd hmg hobj hints hlen hg => ?_
 have KX := hY w _ Y
 obtain ⟨fd,hb,hF⟩ := F w mg fa _ KX G.T.g hmg
 exact RB KX G.T.g G.T.b G.T.builtins G.T.nolimit hg hobj hints (Nat.le_trans hlen hn2) hr hF hb (fun H hO hS => hsp w H a ns hlen hO hS) fun H e s' => hCX w H s₁ e s'
end L2
namespace L2
open PySem PySem.Spec PyProof.Rows
noncomputable def Zw (s : Stmt) : Arguments := match s with
 | .FunctionDef _ a _ _ _ _ _ _ _ _ => a
 | _ => { posonlyargs := [],args := [],vararg := none,kwonlyargs := [],kw_defaults := [],kwarg := none,defaults := [] }
noncomputable def jm (s : Stmt) : List Stmt := match s with
 | .FunctionDef _ _ b _ _ _ _ _ _ _ => b
 | _ => []
noncomputable def qi (s : Stmt) : Scope := match s with
 | .FunctionDef _ _ _ _ _ _ sc _ _ _ => sc
 | _ => { kind := .function,names := [],isGenerator := false,isCoroutine := false }
noncomputable abbrev CX0 : CXT := fun _ _ _ _ _ _ => False
noncomputable abbrev E0 : XK := fun _ _ _ => False
theorem qeh {X : Cx} : WT CX0 X E0 := fun _ _ _ _ _ _ _ h => h.elim
structure Fun (K : PySem.W.Frag) (x qual : Str) (st : Stmt) (f : Addr) (fd : FuncData) : Prop where
 ex : ∃ (oc : Value) (od : Option Addr) (kV doc pm : Value) (an : Option Addr) (cdv ct : Value) (osl : Array (Option Value)),
  fd = PySem.W.fnOf x qual (Zw st) (jm st) (qi st) .none kV doc pm an cdv ct∧K.lookup f = some ⟨oc,od,.func fd,osl⟩∧PySem.W.codeIn K cdv qual = true
 kp : PySem.W.keepIn K (.ref f) = true
section
variable {P : Program} {w : World} {K : PySem.W.Frag} {mg : Str → Option Value} {base : Heap}
theorem Fun.ok {x qual : Str} {st : Stmt} {f : Addr} {fd : FuncData} {N ps : List Str} {k : Nat} {sp : Sp} (F : Fun K x qual st f fd) (S : FnScope N ps (qi st)) (len : ∀ vs H Q E,sp vs H Q E → vs.length = ps.length)
  (hbody : ∀ (cdv : Value) (A : Around) (outer : List Env) (s : Shared) (H : Hp) (vs : List V) (Q : VK) (E : XK),Room k (A.deeper (envOfC qual (qi st) s.heap.objs.size f cdv)) → sp vs H Q E →
   ∃ t,PSs (CP CX0 P w K mg base N qual (qi st) f cdv A outer s H E).nox (jm st) t∧t { nx := fun _ H' => Q .non H',rt := Q } (YJ N vs) H) : FnOk P w K mg base CX0 (k + 1) f fd ps sp := by
 obtain ⟨oc,od,kV,doc,pm,an,cdv,ct,osl,rfl,lk,hcd⟩ := F.ex
 refine qej lk hcd S len fun A outer s H vs Q E hr hsp => ?_
 obtain ⟨t,h,q⟩ := hbody cdv A outer s H vs Q E hr hsp
 exact ⟨t,h.nox,q⟩
theorem Fun.binds {x qual : Str} {st : Stmt} {f : Addr} {fd : FuncData} {ps : List Str} (F : Fun K x qual st f fd)
  (h : ∀ (kV doc pm : Value) (an : Option Addr) (cdv ct : Value) (us : List Value),us.length = ps.length → bindArgs (PySem.W.fnOf x qual (Zw st) (jm st) (qi st) .none kV doc pm an cdv ct) ⟨us,[]⟩ = pure (ps.zip us)) : zD K fd ps [] := by
 obtain ⟨oc,od,kV,doc,pm,an,cdv,ct,osl,rfl,lk,hcd⟩ := F.ex
 exact .all (h kV doc pm an cdv ct)
theorem qbw {x qual : Str} {st : Stmt} {f : Addr} {oc : Value} {od an : Option Addr} {osl : Array (Option Value)} {kV doc pm cdv ct : Value} (l : K.lookup f = some ⟨oc,od,.func (PySem.W.fnOf x qual (Zw st) (jm st) (qi st) .none kV doc pm an cdv ct),osl⟩)
  (c : PySem.W.codeIn K cdv qual = true) (k : PySem.W.keepIn K (.ref f) = true) : Fun K x qual st f (PySem.W.fnOf x qual (Zw st) (jm st) (qi st) .none kV doc pm an cdv ct) := ⟨⟨oc,od,kV,doc,pm,an,cdv,ct,osl,rfl,l,c⟩,k⟩
end
section
variable {X : Cx}
end
theorem qdj {A B : Prop} (h : B) : if false = true then A else B := by
 rw [if_neg Bool.false_ne_true]
 exact h
theorem qdk {A B : Prop} (h : A) : if true = true then A else B := by
 rw [if_pos rfl]
 exact h
end L2
set_option maxHeartbeats 4000000
namespace L3
open PySem PySem.Spec PyProof.Rows L2
set_option genInjectivity true in
inductive T where
 | non | bl (b : Bool) | int (i : Int) | str (x : Str) | tup (xs : List T) | ref (a : Addr)
inductive O where
 | lst (xs : List T)
 | frz (xs : List T)
noncomputable abbrev Gp := Addr → Option O
noncomputable def gu (G : Gp) (a : Addr) (o : O) : Gp := fun b => if b = a then some o else G b
theorem qD {G : Gp} {a : Addr} {o : O} : gu G a o a = some o := by unfold gu;rw [if_pos rfl]
theorem j9 {G : Gp} {a b : Addr} {o : O} (h : b ≠ a) : gu G a o b = G b := by unfold gu;rw [if_neg h]
mutual
inductive Rp (K : PySem.W.Frag) (H : Hp) : T → V → Prop
 | non : Rp K H .non .non
 | bl (b : Bool) : Rp K H (.bl b) (.bl b)
 | int (i : Int) : Rp K H (.int i) (.int i)
 | str (x : Str) : Rp K H (.str x) (.str x)
 | ref (a : Addr) : Rp K H (.ref a) (.ref a)
 | tup {xs : List T} {a : Addr} {vs : List V} : SqT K H a vs → Rps K H xs vs → Rp K H (.tup xs) (.ref a)
inductive Rps (K : PySem.W.Frag) (H : Hp) : List T → List V → Prop
 | nil : Rps K H [] []
 | cons {x : T} {v : V} {xs : List T} {vs : List V} : Rp K H x v → Rps K H xs vs → Rps K H (x :: xs) (v :: vs)
end
noncomputable def OR (K : PySem.W.Frag) (H : Hp) (a : Addr) : O → Prop
 | .lst xs => ∃ vs,H a = some (.lst vs)∧Rps K H xs vs
 | .frz xs => ∃ vs,(∃ o,H a = some (.frz o (.lst vs)))∧Rps K H xs vs
def HR (K : PySem.W.Frag) (G : Gp) (H : Hp) : Prop := ∀ a o,G a = some o → OR K H a o
def Kp (G : Gp) (H : Hp) (G' : Gp) (H' : Hp) : Prop := ∀ a o,H a = some o → G a = none → H' a = some o∧G' a = none
theorem Kp.refl {G : Gp} {H : Hp} : Kp G H G H := fun _ _ h g => ⟨h,g⟩
theorem Kp.trans {G G1 G2 : Gp} {H H1 H2 : Hp} (a : Kp G H G1 H1) (b : Kp G1 H1 G2 H2) : Kp G H G2 H2 := fun x o h g =>
 let ⟨h1,g1⟩ := a x o h g;b x o h1 g1
section
variable {K : PySem.W.Frag} {G G' : Gp} {H H' : Hp}
theorem HR.noneT (hr : HR K G H) {a : Addr} {vs : List V} (h : Rd H a (.tup vs)) : G a = none := by
 cases e : G a with
 | none => rfl
 | some o =>
  have q := hr a o e
  cases o with
  | lst xs =>
   obtain ⟨us,q1,_⟩ := q
   rcases h with h | ⟨ob,h⟩ <;> (rw [q1] at h;cases h)
  | frz xs =>
   obtain ⟨us,⟨o1,q1⟩,_⟩ := q
   rcases h with h | ⟨ob,h⟩ <;> (rw [q1] at h;cases h)
theorem VZ (hr : HR K G H) (k : Kp G H G' H') {a : Addr} {vs : List V} (h : SqT K H a vs) : SqT K H' a vs := by
 rcases h with h | h
 ·have g := hr.noneT h
  rcases h with h | ⟨o,h⟩
  ·exact .inl (.inl (k a _ h g).1)
  ·exact .inl (.inr ⟨o,(k a _ h g).1⟩)
 ·exact .inr h
mutual
theorem Rp.keep (hr : HR K G H) (k : Kp G H G' H') : ∀ {x : T} {v : V},Rp K H x v → Rp K H' x v
 | _,_,.non => .non
 | _,_,.bl b => .bl b
 | _,_,.int i => .int i
 | _,_,.str x => .str x
 | _,_,.ref a => .ref a
 | _,_,.tup h hs => .tup (VZ hr k h) (Rps.keep hr k hs)
theorem Rps.keep (hr : HR K G H) (k : Kp G H G' H') : ∀ {x : List T} {v : List V},Rps K H x v → Rps K H' x v
 | _,_,.nil => .nil
 | _,_,.cons a b => .cons (Rp.keep hr k a) (Rps.keep hr k b)
end
theorem Rps.length : ∀ {xs : List T} {vs : List V},Rps K H xs vs → xs.length = vs.length
 | _,_,.nil => rfl
 | _,_,.cons _ b => by simp [Rps.length b]
theorem Rps.get : ∀ {xs : List T} {vs : List V} {i : Nat} {x : T},Rps K H xs vs → xs[i]? = some x → ∃ v,vs[i]? = some v∧Rp K H x v
 | _,_,_,_,.nil,e => by simp at e
 | _,_,0,_,.cons r _,e => by simp at e;subst e;exact ⟨_,rfl,r⟩
 | _,_,i + 1,x,.cons _ t,e => by
  obtain ⟨u,h1,h2⟩ := Rps.get (i := i) (x := x) t (by simpa using e)
  exact ⟨u,by simpa using h1,h2⟩
theorem Rps.append : ∀ {xs ys : List T} {vs us : List V},Rps K H xs vs → Rps K H ys us → Rps K H (xs ++ ys) (vs ++ us)
 | _,_,_,_,.nil,s => s
 | _,_,_,_,.cons r t,s => .cons r (Rps.append t s)
theorem Rps.take : ∀ {xs : List T} {vs : List V} (n : Nat),Rps K H xs vs → Rps K H (xs.take n) (vs.take n)
 | _,_,0,_ => .nil
 | _,_,_ + 1,.nil => .nil
 | _,_,n + 1,.cons r t => .cons r (Rps.take n t)
theorem Rps.drop : ∀ {xs : List T} {vs : List V} (n : Nat),Rps K H xs vs → Rps K H (xs.drop n) (vs.drop n)
 | _,_,0,r => r
 | _,_,_ + 1,.nil => .nil
 | _,_,n + 1,.cons _ t => Rps.drop n t
theorem Rps.set {x : T} {v : V} (r : Rp K H x v) : ∀ {xs : List T} {vs : List V} (i : Nat),Rps K H xs vs → Rps K H (xs.set i x) (vs.set i v)
 | _,_,_,.nil => .nil
 | _,_,0,.cons _ t => .cons r t
 | _,_,i + 1,.cons q t => .cons q (Rps.set r i t)
theorem Rps.ints : ∀ (ns : List Int),Rps K H (ns.map T.int) (ns.map V.int)
 | [] => .nil
 | n :: r => .cons (.int n) (Rps.ints r)
theorem Kp.laid {p : Addr} {ho : HO} (hp : H p = none) : Kp G H G (upd H p ho) := fun a o h g => ⟨by rw [qu (qp h hp)];exact h,g⟩
theorem HR.free (hr : HR K G H) {p : Addr} (hp : H p = none) : G p = none := by
 cases e : G p with
 | none => rfl
 | some o =>
  have q := hr p o e
  cases o with
  | lst xs => obtain ⟨us,q1,_⟩ := q;rw [hp] at q1;cases q1
  | frz xs => obtain ⟨us,⟨o1,q1⟩,_⟩ := q;rw [hp] at q1;cases q1
theorem OR.keep (hr : HR K G H) (k : Kp G H G' H') {a : Addr} {o : O} (h : OR K H a o) (e : ∀ u,H a = some u → H' a = some u) : OR K H' a o := by
 cases o with
 | lst xs => obtain ⟨vs,h1,h2⟩ := h;exact ⟨vs,e _ h1,h2.keep hr k⟩
 | frz xs => obtain ⟨vs,⟨o,h1⟩,h2⟩ := h;exact ⟨vs,⟨o,e _ h1⟩,h2.keep hr k⟩
theorem HR.laid (hr : HR K G H) {p : Addr} {ho : HO} (hp : H p = none) : HR K G (upd H p ho) := fun a o e =>
 (hr a o e).keep hr (Kp.laid hp) fun u h => by rw [qu (qp h hp)];exact h
theorem Kp.newL {p : Addr} {ho : HO} {o' : O} (hp : H p = none) : Kp G H (gu G p o') (upd H p ho) := fun a o h g =>
 ⟨by rw [qu (qp h hp)];exact h,by rw [j9 (qp h hp)];exact g⟩
theorem HR.newL (hr : HR K G H) {p : Addr} {xs : List T} {vs : List V} (hp : H p = none) (r : Rps K H xs vs) : HR K (gu G p (.lst xs)) (upd H p (.lst vs)) := fun a o e => by
 by_cases ha : a = p
 ·subst ha
  rw [qD] at e;cases e
  exact ⟨vs,qW,r.keep hr (Kp.laid hp)⟩
 ·rw [j9 ha] at e
  exact (hr a o e).keep hr (Kp.laid hp) fun u h => by rw [qu ha];exact h
theorem Kp.wr {p : Addr} {ho : HO} {o o' : O} (g : G p = some o) : Kp G H (gu G p o') (upd H p ho) := fun a ob h ga => by
 have ha : a ≠ p := by intro e;subst e;rw [g] at ga;cases ga
 exact ⟨by rw [qu ha];exact h,by rw [j9 ha];exact ga⟩
theorem HR.wr (hr : HR K G H) {p : Addr} {ys xs : List T} {vs : List V} (g : G p = some (.lst ys)) (r : Rps K H xs vs) : HR K (gu G p (.lst xs)) (upd H p (.lst vs)) := fun a o e => by
 have k : Kp G H (gu G p (.lst xs)) (upd H p (.lst vs)) := Kp.wr g
 by_cases ha : a = p
 ·subst ha
  rw [qD] at e;cases e
  exact ⟨vs,qW,r.keep hr k⟩
 ·rw [j9 ha] at e
  exact (hr a o e).keep hr k fun u h => by rw [qu ha];exact h
end
noncomputable abbrev St3 := List (Option T)
structure Rel (K : PySem.W.Frag) (τ : St3) (G : Gp) (σ : L2.St) (H : Hp) : Prop where
 hp : HR K G H
 len : τ.length = σ.length
 st : ∀ (i : Nat) (t : T),τ[i]? = some (some t) → ∃ v,σ[i]? = some (some v)∧Rp K H t v
theorem Rel.next {K : PySem.W.Frag} {τ : St3} {G G' : Gp} {σ : L2.St} {H H' : Hp} (r : Rel K τ G σ H) (hr : HR K G' H') (k : Kp G H G' H') : Rel K τ G' σ H' :=
 ⟨hr,r.len,fun i t e => let ⟨v,h1,h2⟩ := r.st i t e;⟨v,h1,h2.keep r.hp k⟩⟩
theorem Rel.set {K : PySem.W.Frag} {τ : St3} {G : Gp} {σ : L2.St} {H : Hp} {t : T} {v : V} (r : Rel K τ G σ H) (i : Nat) (h : Rp K H t v) : Rel K (τ.set i (some t)) G (σ.set i (some v)) H := by
 refine ⟨r.hp,by simp [r.len],fun j u e => ?_⟩
 by_cases hij : i = j
 ·subst hij
  rw [List.getElem?_set_self'] at e
  have hl : i < τ.length := by
   cases q : τ[i]? with
   | none => rw [q] at e;cases e
   | some z => exact (List.getElem?_eq_some_iff.mp q).1
  rw [List.getElem?_eq_getElem hl] at e
  have e' : t = u := by simpa using e
  subst e'
  exact ⟨v,by rw [List.getElem?_set_self (by rw [← r.len];exact hl)],h⟩
 ·rw [List.getElem?_set_ne hij] at e
  obtain ⟨w,h1,h2⟩ := r.st j u e
  exact ⟨w,by rw [List.getElem?_set_ne hij];exact h1,h2⟩
noncomputable abbrev Q3 := T → Gp → Prop
noncomputable abbrev TE3 := St3 → Gp → Q3 → Prop
noncomputable abbrev TT3 := St3 → Gp → (Bool → Gp → Prop) → Prop
noncomputable abbrev TA3 := St3 → Gp → (List T → Gp → Prop) → Prop
def Aft (K : PySem.W.Frag) (G : Gp) (H : Hp) (q : Q3) (Q : VK) : Prop := ∀ x G',q x G' → ∀ v H',Rp K H' x v → HR K G' H' → Kp G H G' H' → Q v H'
def qc2 (K : PySem.W.Frag) (G : Gp) (H : Hp) (q : Bool → Gp → Prop) (Q : Bool → Hp → Prop) : Prop := ∀ x G',q x G' → ∀ H',HR K G' H' → Kp G H G' H' → Q x H'
def qh9 (K : PySem.W.Frag) (G : Gp) (H : Hp) (q : List T → Gp → Prop) (Q : List V → Hp → Prop) : Prop := ∀ x G',q x G' → ∀ v H',Rps K H' x v → HR K G' H' → Kp G H G' H' → Q v H'
noncomputable def lE (K : PySem.W.Frag) (t : TE3) : TE := fun σ H Q => ∃ τ G q,Rel K τ G σ H∧t τ G q∧Aft K G H q Q
noncomputable def lT (K : PySem.W.Frag) (t : TT3) : TT := fun σ H Q => ∃ τ G q,Rel K τ G σ H∧t τ G q∧qc2 K G H q Q
noncomputable def lA (K : PySem.W.Frag) (t : TA3) : TA := fun σ H Q => ∃ τ G q,Rel K τ G σ H∧t τ G q∧qh9 K G H q Q
abbrev E3 (X : Cx) (e : Expr) (t : TE3) : Prop := PE X e (lE X.K t)
abbrev C3 (X : Cx) (e : Expr) (t : TT3) : Prop := PT X e (lT X.K t)
abbrev W3 (X : Cx) (e : Expr) (t : TT3) : Prop := PW X e (lT X.K t)
abbrev A3 (X : Cx) (es : List Expr) (t : TA3) : Prop := PA X es (lA X.K t)
theorem Aft.back {K : PySem.W.Frag} {G G1 : Gp} {H H1 : Hp} {q : Q3} {Q : VK} (a : Aft K G H q Q) (k : Kp G H G1 H1) : Aft K G1 H1 q Q := fun x G' h v H' r hr k' => a x G' h v H' r hr (k.trans k')
theorem qc2.back {K : PySem.W.Frag} {G G1 : Gp} {H H1 : Hp} {q : Bool → Gp → Prop} {Q : Bool → Hp → Prop} (a : qc2 K G H q Q) (k : Kp G H G1 H1) : qc2 K G1 H1 q Q := fun x G' h H' hr k' => a x G' h H' hr (k.trans k')
theorem YE {X : Cx} {e : Expr} {t t' : TE} (h : PE X e t) (w : ∀ σ H Q,t' σ H Q → t σ H Q) : PE X e t' := fun pins s σ H Q I q => h pins s σ H Q I (w σ H Q q)
theorem qf0 {X : Cx} {e : Expr} {t t' : TT} (h : PT X e t) (w : ∀ σ H Q,t' σ H Q → t σ H Q) : PT X e t' := fun pins s σ H Q I q => h pins s σ H Q I (w σ H Q q)
theorem qhu {X : Cx} {e : Expr} {t t' : TT} (h : PW X e t) (w : ∀ σ H Q,t' σ H Q → t σ H Q) : PW X e t' := fun wh pins s σ H Q I q => h wh pins s σ H Q I (w σ H Q q)
theorem qg8 {X : Cx} {e : List Expr} {t t' : TA} (h : PA X e t) (w : ∀ σ H Q,t' σ H Q → t σ H Q) : PA X e t' := fun pos pins s σ H Q I q => h pos pins s σ H Q I (w σ H Q q)
theorem zi {K : PySem.W.Frag} {ta : TE3} {τ : St3} {G : Gp} {σ : L2.St} {H : Hp} {q : Q3} {Q : VK} (r : Rel K τ G σ H) (h : ta τ G q)
  (n : ∀ x G1,q x G1 → ∀ v H1,Rp K H1 x v → HR K G1 H1 → Kp G H G1 H1 → Rel K τ G1 σ H1 → Q v H1) : lE K ta σ H Q :=
 ⟨τ,G,q,r,h,fun x G1 hq v H1 rx hr k => n x G1 hq v H1 rx hr k (r.next hr k)⟩
theorem D7 {K : PySem.W.Frag} {ta : TT3} {τ : St3} {G : Gp} {σ : L2.St} {H : Hp} {q : Bool → Gp → Prop} {Q : Bool → Hp → Prop} (r : Rel K τ G σ H) (h : ta τ G q)
  (n : ∀ x G1,q x G1 → ∀ H1,HR K G1 H1 → Kp G H G1 H1 → Rel K τ G1 σ H1 → Q x H1) : lT K ta σ H Q :=
 ⟨τ,G,q,r,h,fun x G1 hq H1 hr k => n x G1 hq H1 hr k (r.next hr k)⟩
theorem Zu {K : PySem.W.Frag} {ta : TA3} {τ : St3} {G : Gp} {σ : L2.St} {H : Hp} {q : List T → Gp → Prop} {Q : List V → Hp → Prop} (r : Rel K τ G σ H) (h : ta τ G q)
  (n : ∀ x G1,q x G1 → ∀ v H1,Rps K H1 x v → HR K G1 H1 → Kp G H G1 H1 → Rel K τ G1 σ H1 → Q v H1) : lA K ta σ H Q :=
 ⟨τ,G,q,r,h,fun x G1 hq v H1 rx hr k => n x G1 hq v H1 rx hr k (r.next hr k)⟩
section
variable {X : Cx} {a b c : Expr} {ta tb tc : TE3} {pos : Pos}
noncomputable def v3 (i : Nat) : TE3 := fun τ G q => match τ[i]? with | some (some t) => q t G | _ => False
theorem qe0 (i : Nat) {x : Str} {pos : Pos} (hN : X.N[i]? = some x := by rfl) (hv : Vis X.env.scope x := by first | exact Or.inl rfl | exact Or.inr (Or.inl rfl) | exact Or.inr (Or.inr rfl)) (hd : (x == ("__debug__" : Str)) = false := by decide)
  (hcd : (x == ("__classdict__" : Str)) = false := by decide) : E3 X (.Name x pos) (v3 i) := by
 refine YE (MS (i := i) hN hv hd hcd) fun σ H Q ⟨τ,G,q,r,h,af⟩ => ?_
 unfold v3 at h
 split at h
 ·rename_i t e
  obtain ⟨v,e2,rv⟩ := r.st i t e
  exact ⟨v,e2,af t G h v H rv r.hp Kp.refl⟩
 ·exact h.elim
noncomputable def c3 (t : T) : TE3 := fun _ G q => q t G
theorem e_c {t : T} {v : V} {e : Expr} (h : PE X e (tC v)) (hr : ∀ H,Rp X.K H t v) : E3 X e (c3 t) := YE h fun σ H Q ⟨τ,G,q,r,h,af⟩ => af t G h v H (hr H) r.hp Kp.refl
theorem qfg {i : Int} {j pos} : E3 X (.Constant (.int i) j pos) (c3 (.int i)) := e_c NL fun _ => .int i
theorem qhg {b : Bool} {j pos} : E3 X (.Constant (.bool b) j pos) (c3 (.bl b)) := e_c qfw fun _ => .bl b
theorem qfp {j pos} : E3 X (.Constant .none j pos) (c3 .non) := e_c MN fun _ => .non
theorem qe7 {x : Str} {j pos} : E3 X (.Constant (.str x) j pos) (c3 (.str x)) := e_c Tf fun _ => .str x
noncomputable def n3 : TE3 := fun _ _ _ => False
noncomputable abbrev R3 := T → T → Gp → Q3 → Prop
def Ys (K : PySem.W.Frag) (r3 : R3) (r : R2) : Prop := ∀ x y v u G H q Q,HR K G H → Rp K H x v → Rp K H y u → r3 x y G q → Aft K G H q Q → r v u H Q
noncomputable def o3 (r : R3) (ta tb : TE3) : TE3 := fun τ G q => ta τ G fun x G1 => tb τ G1 fun y G2 => r x y G2 q
theorem Rt {K : PySem.W.Frag} {r3 : R3} {r : R2} (hr : Ys K r3 r) {σ : L2.St} {H : Hp} {Q : VK} (h : lE K (o3 r3 ta tb) σ H Q) : tOp r (lE K ta) (lE K tb) σ H Q := by
 obtain ⟨τ,G,q,rl,h,af⟩ := h
 refine zi rl h fun x G1 h1 v H1 rx hr1 k1 rl1 => zi rl1 h1 fun y G2 h2 u H2 ry hr2 k2 rl2 => ?_
 exact hr x y v u G2 H2 q Q hr2 (rx.keep hr1 k2) ry h2 (af.back (k1.trans k2))
theorem Rk {op : Operator} {r3 : R3} {r : R2} (ho : OpR X (binaryOp op) r) (hr : Ys X.K r3 r) (ha : E3 X a ta) (hb : E3 X b tb) : E3 X (.BinOp a op b pos) (o3 r3 ta tb) :=
 YE (qe6 ho ha hb) fun _ _ _ h => Rt hr h
theorem qep {op : CmpOp} {r3 : R3} {r : R2} (ho : OpR X (compareOp op) r) (hr : Ys X.K r3 r) (ha : E3 X a ta) (hb : E3 X b tb) (hm : behindInMarks op b = false) : E3 X (.Compare a [op] [b] pos) (o3 r3 ta tb) :=
 YE (Lr ho ha hb hm) fun _ _ _ h => Rt hr h
noncomputable def tb3 (t : TE3) : TT3 := fun τ G q => t τ G fun x G' => match x with | .bl k => q k G' | _ => False
theorem qa6 {K : PySem.W.Frag} {t : TE3} {t2 : TE} (hw : ∀ σ H Q,lE K t σ H Q → t2 σ H Q) {σ : L2.St} {H : Hp} {Q : Bool → Hp → Prop} (h : lT K (tb3 t) σ H Q) : qbm t2 σ H Q := by
 obtain ⟨τ,G,q,rl,h,af⟩ := h
 refine hw _ _ _ (zi rl h fun x G1 h1 v H1 rx hr1 k1 rl1 => ?_)
 cases x with
 | bl k => cases rx;exact ⟨k,rfl,af k G1 h1 H1 hr1 k1⟩
 | _ => exact h1.elim
theorem qdy {op : CmpOp} {r3 : R3} {r : R2} (ho : OpR X (compareOp op) r) (hr : Ys X.K r3 r) (ha : E3 X a ta) (hb : E3 X b tb) (hm : behindInMarks op b = false) : C3 X (.Compare a [op] [b] pos) (tb3 (o3 r3 ta tb)) :=
 qf0 (Ls ho ha hb hm) fun _ _ _ h => qa6 (fun _ _ _ => Rt hr) h
noncomputable def ch3 (r r' : R3) (ta tb tc : TE3) : TE3 := fun τ G q => ta τ G fun x G1 => tb τ G1 fun y G2 => r x y G2 fun z G3 => match z with
 | .bl k => if k = true then tc τ G3 fun w G4 => r' y w G4 q else q (.bl false) G3
 | _ => False
theorem qfk {K : PySem.W.Frag} {r3 r3' : R3} {r r' : R2} (hr : Ys K r3 r) (hr' : Ys K r3' r') {σ : L2.St} {H : Hp} {Q : VK} (h : lE K (ch3 r3 r3' ta tb tc) σ H Q) : SZ r r' (lE K ta) (lE K tb) (lE K tc) σ H Q := by
 obtain ⟨τ,G,q,rl,h,af⟩ := h
 refine zi rl h fun x G1 h1 v H1 rx hr1 k1 rl1 => zi rl1 h1 fun y G2 h2 u H2 ry hr2 k2 rl2 => ?_
 refine hr x y v u G2 H2 _ _ hr2 (rx.keep hr1 k2) ry h2 fun z G3 h3 w H3 rz hr3 k3 => ?_
 cases z with
 | bl k =>
  cases rz
  refine ⟨k,rfl,?_⟩
  cases k with
  | false =>
   rw [if_neg Bool.false_ne_true]
   rw [show (match T.bl false with | .bl k => if k = true then tc τ G3 fun w G4 => r3' y w G4 q else q (.bl false) G3 | _ => False) = q (.bl false) G3 from by simp] at h3
   exact af _ G3 h3 _ H3 (.bl false) hr3 ((k1.trans k2).trans k3)
  | true =>
   rw [if_pos rfl]
   refine zi (rl2.next hr3 k3) (show tc τ G3 fun w G4 => r3' y w G4 q from by simpa using h3) fun w G4 h4 w' H4 rw' hr4 k4 rl4 => ?_
   exact hr' y w _ _ G4 H4 q Q hr4 ((ry.keep hr2 k3).keep hr3 k4) rw' h4 (af.back (((k1.trans k2).trans k3).trans k4))
 | _ => exact h3.elim
theorem K9 {op op' : CmpOp} {r3 r3' : R3} {r r' : R2} (ho : OpR X (compareOp op) r) (hr : Ys X.K r3 r) (ho' : OpR X (compareOp op') r') (hr' : Ys X.K r3' r') (ha : E3 X a ta) (hb : E3 X b tb) (hc : E3 X c tc)
  (hm : lastMarks [op,op'] [b,c] = false := by with_unfolding_all rfl) : E3 X (.Compare a [op,op'] [b,c] pos) (ch3 r3 r3' ta tb tc) :=
 YE (CV ho ho' ha hb hc hm) fun _ _ _ h => qfk hr hr' h
def qdm (K : PySem.W.Frag) (r3 : T → Gp → Q3 → Prop) (r : V → Hp → VK → Prop) : Prop := ∀ x v G H q Q,HR K G H → Rp K H x v → r3 x G q → Aft K G H q Q → r v H Q
noncomputable def u3 (r : T → Gp → Q3 → Prop) (ta : TE3) : TE3 := fun τ G q => ta τ G fun x G1 => r x G1 q
theorem qgn {op : UnaryOp} {r3 : T → Gp → Q3 → Prop} {r : V → Hp → VK → Prop} (ho : UnR X (unaryOp op) r) (hr : qdm X.K r3 r) (ha : E3 X a ta) : E3 X (.UnaryOp op a pos) (u3 r3 ta) :=
 YE (qds ho ha) fun _ _ _ ⟨τ,G,q,rl,h,af⟩ => zi rl h fun x G1 h1 v H1 rx hr1 k1 rl1 => hr x v G1 H1 q _ hr1 rx h1 (af.back k1)
noncomputable def WC : T → Gp → Q3 → Prop := fun x G q => match x with | .int i => q (.int (-i)) G | _ => False
theorem Kq {K : PySem.W.Frag} : qdm K WC (rU fun i => .int (-i)) := fun x v G H q Q hr rx h af => by
 cases x with
 | int i => cases rx;exact ⟨i,rfl,af _ G h _ H (.int _) hr Kp.refl⟩
 | _ => exact h.elim
noncomputable def iI (f : Int → Int → Int) : R3 := fun x y G q => match x,y with | .int i,.int j => q (.int (f i j)) G | _,_ => False
noncomputable def iC (C : Int → Int → Prop) (f : Int → Int → Int) : R3 := fun x y G q => match x,y with | .int i,.int j => C i j∧q (.int (f i j)) G | _,_ => False
noncomputable def iB (f : Int → Int → Bool) : R3 := fun x y G q => match x,y with | .int i,.int j => q (.bl (f i j)) G | _,_ => False
theorem qb0 {K : PySem.W.Frag} {f : Int → Int → Int} : Ys K (iI f) (rI0 fun i j => .int (f i j)) := fun x y v u G H q Q hr rx ry h af => by
 cases x <;> try exact h.elim
 cases y <;> try exact h.elim
 cases rx;cases ry
 exact ⟨_,_,rfl,rfl,af _ G h _ H (.int _) hr Kp.refl⟩
theorem Wa {K : PySem.W.Frag} {C : Int → Int → Prop} {f : Int → Int → Int} : Ys K (iC C f) (rI C fun i j => .int (f i j)) := fun x y v u G H q Q hr rx ry h af => by
 cases x <;> try exact h.elim
 cases y <;> try exact h.elim
 cases rx;cases ry
 exact ⟨_,_,rfl,rfl,h.1,af _ G h.2 _ H (.int _) hr Kp.refl⟩
theorem jF {K : PySem.W.Frag} {f : Int → Int → Bool} : Ys K (iB f) (rI0 fun i j => .bl (f i j)) := fun x y v u G H q Q hr rx ry h af => by
 cases x <;> try exact h.elim
 cases y <;> try exact h.elim
 cases rx;cases ry
 exact ⟨_,_,rfl,rfl,af _ G h _ H (.bl _) hr Kp.refl⟩
theorem qer (ha : E3 X a ta) (hb : E3 X b tb) : E3 X (.BinOp a .Sub b pos) (o3 (iI (· - ·)) ta tb) := Rk N7 qb0 ha hb
theorem qfq (ha : E3 X a ta) (hb : E3 X b tb) : E3 X (.BinOp a .Mult b pos) (o3 (iC Qm (· * ·)) ta tb) := Rk qac Wa ha hb
theorem qed (ha : E3 X a ta) (hb : E3 X b tb) : E3 X (.BinOp a .Mod b pos) (o3 (iC (fun _ j => 0 < j) (· % ·)) ta tb) := Rk qad Wa ha hb
theorem qf8 (ha : E3 X a ta) (hb : E3 X b tb) : E3 X (.BinOp a .FloorDiv b pos) (o3 (iC W5 (· / ·)) ta tb) := Rk Lu Wa ha hb
theorem qew (ha : E3 X a ta) (hb : E3 X b tb) : E3 X (.BinOp a .Pow b pos) (o3 (iC Mt (fun i j => i ^ j.toNat)) ta tb) := Rk Ng Wa ha hb
theorem qd9 (ha : E3 X a ta) : E3 X (.UnaryOp .USub a pos) (u3 WC ta) := qgn qbg Kq ha
noncomputable def Uf : T → T → Option Bool
 | .non,.non => some true | .non,.int _ => some false | .int _,.non => some false | .non,.bl _ => some false | .bl _,.non => some false | .non,.str _ => some false | .str _,.non => some false
 | .int i,.int j => some (decide (i = j)) | .bl i,.bl j => some (decide (i = j)) | .str i,.str j => some (decide (i = j))
 | .int _,.str _ => some false | .str _,.int _ => some false | .bl _,.str _ => some false | .str _,.bl _ => some false
 | _,_ => none
theorem DR {K : PySem.W.Frag} {H : Hp} {x y : T} {v u : V} {k : Bool} (rx : Rp K H x v) (ry : Rp K H y u) (h : Uf x y = some k) : qfy v u = true∧decide (v = u) = k := by
 cases rx <;> cases ry <;> simp [Uf] at h <;> subst h <;> refine ⟨rfl,?_⟩ <;> simp
noncomputable def Mc (neg : Bool) : R3 := fun x y G q => match y with | .non => q (.bl (match x with | .non => !neg | _ => neg)) G | _ => False
theorem SC {K : PySem.W.Frag} {H : Hp} {x : T} {v : V} (rx : Rp K H x v) : decide (v = .non) = (match x with | .non => true | _ => false) := by
 cases rx <;> simp
theorem L6 {K : PySem.W.Frag} : Ys K (Mc false) (fun x y H Q => y = .non∧Q (.bl (decide (x = .non))) H) := fun x y v u G H q Q hr rx ry h af => by
 cases y <;> try exact h.elim
 cases ry
 refine ⟨rfl,?_⟩
 rw [SC rx]
 refine af _ G h _ H ?_ hr Kp.refl
 cases x <;> exact .bl _
theorem CY {K : PySem.W.Frag} : Ys K (Mc true) (fun x y H Q => y = .non∧Q (.bl (!decide (x = .non))) H) := fun x y v u G H q Q hr rx ry h af => by
 cases y <;> try exact h.elim
 cases ry
 refine ⟨rfl,?_⟩
 rw [SC rx]
 refine af _ G h _ H ?_ hr Kp.refl
 cases x <;> exact .bl _
variable {tA tB : TT3} {ZI : List Expr}
noncomputable def or3 (t u : TT3) : TT3 := fun τ G q => t τ G fun k G1 => if k = true then q true G1 else u τ G1 q
noncomputable def D9 (t : TT3) : TT3 := fun τ G q => t τ G fun k G1 => q (!k) G1
theorem qdt (ha : C3 X a tA) : W3 X (.BoolOp .Or [a] pos) tA := qcj ha
theorem qhj (ha : C3 X a tA) (hb : W3 X (.BoolOp .Or (b :: ZI) pos) tB) : W3 X (.BoolOp .Or (a :: b :: ZI) pos) (or3 tA tB) :=
 qhu (qfu ha hb) fun _ _ _ ⟨τ,G,q,rl,h,af⟩ => D7 rl h fun k G1 h1 H1 hr1 k1 rl1 => by
  cases k with
  | true => rw [if_pos rfl] at h1 ⊢;exact af _ G1 h1 H1 hr1 k1
  | false => rw [if_neg Bool.false_ne_true] at h1 ⊢;exact ⟨τ,G1,q,rl1,h1,af.back k1⟩
theorem qel (ha : C3 X a tA) : C3 X (.UnaryOp .Not a pos) (D9 tA) :=
 qf0 (qbr ha) fun _ _ _ ⟨τ,G,q,rl,h,af⟩ => D7 rl h fun k G1 h1 H1 hr1 k1 rl1 => af _ G1 h1 H1 hr1 k1
theorem qd3 {e : Expr} {t : TE3} (h : E3 X e t) (he : ∀ whole,isTrue e X.env whole = (do let v ← whole;standAt e.pos;holding [v] (truthy v)) := by intro _;rfl) : C3 X e (tb3 t) :=
 qf0 (MA h he) fun _ _ _ h => qa6 (fun _ _ _ h => h) h
noncomputable def JB (ta tb : TE3) : TE3 := fun τ G q => ta τ G fun x G1 => match x with | .bl k => if k = true then tb τ G1 q else q (.bl false) G1 | _ => False
noncomputable def Ck (ta : TE3) : TE3 := fun τ G q => ta τ G fun x G1 => match x with | .bl k => q (.bl (!k)) G1 | _ => False
theorem qfc {op} (h : E3 X a ta) : E3 X (.BoolOp op [a] pos) ta := qb1 h
theorem qee (ha : E3 X a ta) (hb : E3 X (.BoolOp .And (b :: ZI) pos) tb) : E3 X (.BoolOp .And (a :: b :: ZI) pos) (JB ta tb) :=
 YE (qas ha hb) fun _ _ _ ⟨τ,G,q,rl,h,af⟩ => zi rl h fun x G1 h1 v H1 rx hr1 k1 rl1 => by
  cases x with
  | bl k =>
   cases rx
   refine ⟨k,rfl,?_⟩
   cases k with
   | true => rw [if_pos rfl];exact ⟨τ,G1,q,rl1,(show tb τ G1 q from by simpa using h1),af.back k1⟩
   | false => rw [if_neg Bool.false_ne_true];exact af _ G1 (by simpa using h1) _ H1 (.bl false) hr1 k1
  | _ => exact h1.elim
theorem qev (ha : E3 X a ta) : E3 X (.UnaryOp .Not a pos) (Ck ta) :=
 YE (qcc ha) fun _ _ _ ⟨τ,G,q,rl,h,af⟩ => zi rl h fun x G1 h1 v H1 rx hr1 k1 rl1 => by
  cases x with
  | bl k => cases rx;exact ⟨k,rfl,af _ G1 h1 _ H1 (.bl _) hr1 k1⟩
  | _ => exact h1.elim
noncomputable def if3 (t : TT3) (ta tb : TE3) : TE3 := fun τ G q => t τ G fun k G1 => if k = true then ta τ G1 q else tb τ G1 q
theorem qh1 {c : Expr} (hc : C3 X c tA) (ha : E3 X a ta) (hb : E3 X b tb) : E3 X (.IfExp c a b pos) (if3 tA ta tb) :=
 YE (Rn hc ha hb) fun _ _ _ ⟨τ,G,q,rl,h,af⟩ => D7 rl h fun k G1 h1 H1 hr1 k1 rl1 => by
  cases k with
  | true => rw [if_pos rfl] at h1 ⊢;exact ⟨τ,G1,q,rl1,h1,af.back k1⟩
  | false => rw [if_neg Bool.false_ne_true] at h1 ⊢;exact ⟨τ,G1,q,rl1,h1,af.back k1⟩
variable {e : Expr} {es : List Expr} {te : TE3} {t : TA3}
noncomputable def qh : TA3 := fun _ G q => q [] G
noncomputable def qc (ta : TE3) (tr : TA3) : TA3 := fun τ G q => ta τ G fun x G1 => tr τ G1 fun xs G2 => q (x :: xs) G2
theorem qf6 : A3 X [] qh := qg8 Sq fun _ H _ ⟨τ,G,q,rl,h,af⟩ => af _ G h _ H .nil rl.hp Kp.refl
theorem qbs (ha : E3 X e te) (hr : A3 X es t) (hs : starEach (e :: es) X.env = (false,eval e X.env) :: starEach es X.env := by rfl) : A3 X (e :: es) (qc te t) :=
 qg8 (Dj ha hr hs) fun _ _ _ ⟨τ,G,q,rl,h,af⟩ => zi rl h fun x G1 h1 v H1 rx hr1 k1 rl1 => Zu rl1 h1 fun xs G2 h2 vs H2 rs hr2 k2 rl2 =>
  af _ G2 h2 _ H2 (.cons (rx.keep hr1 k2) rs) hr2 (k1.trans k2)
noncomputable def Q0 (t : TA3) : TE3 := fun τ G q => t τ G fun xs G1 => xs.length ≤ sizeLine∧q (.tup xs) G1
noncomputable def Zo (t : TA3) : TE3 := fun τ G q => t τ G fun xs G1 => xs.length ≤ sizeLine∧∀ p,G1 p = none → q (.ref p) (gu G1 p (.lst xs))
theorem qdw {x1} (h : A3 X es t) : E3 X (.Tuple es x1 pos) (Q0 t) :=
 YE (Ml h) fun _ _ _ ⟨τ,G,q,rl,h,af⟩ => Zu rl h fun xs G1 h1 vs H1 rs hr1 k1 rl1 => ⟨by rw [← rs.length];exact h1.1,fun p hp =>
  af _ G1 h1.2 _ _ (.tup (SqT.of qW) (rs.keep hr1 (Kp.laid hp))) (hr1.laid hp) (k1.trans (Kp.laid hp))⟩
theorem qe5 (h : A3 X es t) : E3 X (.List es pos) (Zo t) :=
 YE (NS h) fun _ _ _ ⟨τ,G,q,rl,h,af⟩ => Zu rl h fun xs G1 h1 vs H1 rs hr1 k1 rl1 => ⟨by rw [← rs.length];exact h1.1,fun p hp =>
  af _ _ (h1.2 p (hr1.free hp)) _ _ (.ref p) (hr1.newL hp rs) (k1.trans (Kp.newL hp))⟩
def W1 (K : PySem.W.Frag) (r3 : List T → Gp → Q3 → Prop) (r : List V → Hp → VK → Prop) : Prop := ∀ xs vs G H q Q,HR K G H → Rps K H xs vs → r3 xs G q → Aft K G H q Q → r vs H Q
noncomputable def cb3 (r : List T → Gp → Q3 → Prop) (t : TA3) : TE3 := fun τ G q => t τ G fun xs G1 => r xs G1 q
theorem MB {K : PySem.W.Frag} {r3 : List T → Gp → Q3 → Prop} {r : List V → Hp → VK → Prop} (hr : W1 K r3 r) {σ : L2.St} {H : Hp} {Q : VK} (h : lE K (cb3 r3 t) σ H Q) : tCB r (lA K t) σ H Q := by
 obtain ⟨τ,G,q,rl,h,af⟩ := h
 exact Zu rl h fun xs G1 h1 vs H1 rs hr1 k1 rl1 => hr xs vs G1 H1 q Q hr1 rs h1 (af.back k1)
theorem L0 {x : Str} {p : Pos} {id : String} {r3 : List T → Gp → Q3 → Prop} {r : List V → Hp → VK → Prop} (hc : ZN X (.builtin id) r) (hr : W1 X.K r3 r) (hg : Gl X x) (hm : X.mg x = none) (hv : bootBuiltins x = some (.builtin id)) (ha : A3 X (e :: es) t) (hn : x ≠ "__name__" := by decide) (hdb : (x == ("__debug__" : Str)) = false := by decide)
  (he : starEach (e :: es) X.env = (false,eval e X.env) :: starEach es X.env := by rfl) (hpl : (backTo pos (starEach es X.env)).any (·.1) = false := by rfl) : E3 X (.Call (.Name x p) (e :: es) [] pos) (cb3 r3 t) :=
 YE (DH hc hg hm hv ha hn hdb he hpl) fun _ _ _ h => MB hr h
theorem CZ {x : Str} {p : Pos} {ty : String} {r3 : List T → Gp → Q3 → Prop} {r : List V → Hp → VK → Prop} (hc : ZN X (.type ty) r) (hr : W1 X.K r3 r) (hg : Gl X x) (hm : X.mg x = none) (hv : bootBuiltins x = some (.type ty)) (ha : A3 X (e :: es) t) (hn : x ≠ "__name__" := by decide) (hdb : (x == ("__debug__" : Str)) = false := by decide)
  (he : starEach (e :: es) X.env = (false,eval e X.env) :: starEach es X.env := by rfl) (hpl : (backTo pos (starEach es X.env)).any (·.1) = false := by rfl) : E3 X (.Call (.Name x p) (e :: es) [] pos) (cb3 r3 t) :=
 YE (WY hc hg hm hv ha hn hdb he hpl) fun _ _ _ h => MB hr h
end
end L3
namespace L3
open PySem PySem.Spec PyProof.Rows L2
noncomputable def getL (G : Gp) (p : Addr) : Option (List T) := match G p with | some (.lst xs) => some xs | some (.frz xs) => some xs | none => none
section
variable {K : PySem.W.Frag} {G G' : Gp} {H H' : Hp}
theorem zP (hr : HR K G H) {p : Addr} {xs : List T} (h : getL G p = some xs) : ∃ vs,SqL K H p vs∧Rps K H xs vs := by
 unfold getL at h
 split at h
 ·rename_i ys e;cases h
  obtain ⟨vs,h1,h2⟩ := hr p _ e
  exact ⟨vs,SqL.of h1,h2⟩
 ·rename_i ys e;cases h
  obtain ⟨vs,⟨o,h1⟩,h2⟩ := hr p _ e
  exact ⟨vs,.inl (.inr ⟨o,h1⟩),h2⟩
 ·cases h
theorem HR.lst (hr : HR K G H) {p : Addr} {xs : List T} (h : G p = some (.lst xs)) : ∃ vs,H p = some (.lst vs)∧Rps K H xs vs := hr p _ h
theorem Rps.atI {xs : List T} {vs : List V} {i : Int} {x : T} (r : Rps K H xs vs) (h : atI xs i = some x) : ∃ v,L2.atI vs i = some v∧Rp K H x v := by
 unfold L2.atI at h ⊢
 rw [← r.length]
 cases e : ixN xs.length i with
 | none => rw [e] at h;cases h
 | some j =>
  rw [e] at h
  exact r.get (by simpa using h)
end
noncomputable def ix3 : R3 := fun x y G q => match x,y with
 | .tup xs,.int i => (match atI xs i with | some z => q z G | none => False)
 | .ref p,.int i => (match getL G p with | some xs => (match atI xs i with | some z => q z G | none => False) | none => False)
 | _,_ => False
section
variable {X : Cx} {a b c e : Expr} {es : List Expr} {ta tb tc te : TE3} {t : TA3} {pos : Pos}
theorem M8 {K : PySem.W.Frag} : Ys K ix3 (rIx K) := fun x y v u G H q Q hr rx ry h af => by
 cases x <;> try exact h.elim
 case tup xs =>
  cases y <;> try exact h.elim
  case int i =>
   unfold ix3 at h
   simp only at h
   split at h
   ·rename_i z e
    cases ry
    cases rx with
    | tup hs rs =>
     obtain ⟨w,e2,rw'⟩ := rs.atI e
     exact .inr (.inl ⟨_,_,i,w,rfl,rfl,hs,e2,af z G h w H rw' hr Kp.refl⟩)
   ·exact h.elim
 case ref p =>
  cases y <;> try exact h.elim
  case int i =>
   unfold ix3 at h
   simp only at h
   split at h
   ·rename_i xs e0
    split at h
    ·rename_i z e
     cases ry
     cases rx
     obtain ⟨vs,hs,rs⟩ := zP hr e0
     obtain ⟨w,e2,rw'⟩ := rs.atI e
     exact .inl ⟨p,vs,i,w,rfl,rfl,hs,e2,af z G h w H rw' hr Kp.refl⟩
    ·exact h.elim
   ·exact h.elim
theorem qif (ha : E3 X a ta) (hb : E3 X b tb) (hs : JT b := by intro _ _;rfl) : E3 X (.Subscript a b pos) (o3 ix3 ta tb) := YE (NN qct ha hb hs) fun _ _ _ h => Rt M8 h
noncomputable def ZP {α : Type} (xs : List α) (lo hi : Option Int) : List α := (xs.drop (HT.sIx xs.length 0 lo)).take (HT.sIx xs.length xs.length hi - HT.sIx xs.length 0 lo)
theorem Rps.cut {K : PySem.W.Frag} {H : Hp} {xs : List T} {vs : List V} (r : Rps K H xs vs) (lo hi : Option Int) : Rps K H (ZP xs lo hi) (Sx vs lo hi) := by
 unfold ZP Sx
 rw [r.length]
 exact (r.drop _).take _
noncomputable abbrev TO3 := St3 → Gp → (Option Int → Gp → Prop) → Prop
noncomputable def lO (K : PySem.W.Frag) (t : TO3) : TO := fun σ H Q => ∃ τ G q,Rel K τ G σ H∧t τ G q∧∀ x G',q x G' → ∀ H',HR K G' H' → Kp G H G' H' → Q x H'
abbrev P3 (X : Cx) (e : Option Expr) (t : TO3) : Prop := PO X e (lO X.K t)
noncomputable def np3 : TO3 := fun _ G q => q none G
noncomputable def sp3 (t : TE3) : TO3 := fun τ G q => t τ G fun x G1 => match x with | .int i => q (some i) G1 | _ => False
theorem qg5 {X : Cx} {e : Option Expr} {t t' : TO} (h : PO X e t) (w : ∀ σ H Q,t' σ H Q → t σ H Q) : PO X e t' := fun pins s σ H Q I q => h pins s σ H Q I (w σ H Q q)
theorem NC : P3 X none np3 := qg5 LB fun _ H _ ⟨τ,G,q,rl,h,af⟩ => af none G h H rl.hp Kp.refl
theorem Nl (h : E3 X e te) : P3 X (some e) (sp3 te) := qg5 (LL h) fun _ _ _ ⟨τ,G,q,rl,h,af⟩ => zi rl h fun x G1 h1 v H1 rx hr1 k1 rl1 => by
 cases x <;> try exact h1.elim
 cases rx
 exact ⟨_,rfl,af _ G1 h1 H1 hr1 k1⟩
noncomputable def sl3 : T → Option Int → Option Int → Gp → Q3 → Prop := fun x lo hi G q => match x with
 | .tup xs => ¬ (HT.sIx xs.length 0 lo = 0∧HT.sIx xs.length xs.length hi = xs.length)∧q (.tup (ZP xs lo hi)) G
 | .ref p => (match getL G p with | some xs => ∀ a,G a = none → q (.ref a) (gu G a (.lst (ZP xs lo hi))) | none => False)
 | _ => False
noncomputable def ET (te : TE3) (tl th : TO3) : TE3 := fun τ G q => te τ G fun x G1 => tl τ G1 fun l G2 => th τ G2 fun u G3 => sl3 x l u G3 q
theorem Ky {lo hi : Option Expr} {tl th : TO3} {p2 : Pos} (he : E3 X e te) (hl : P3 X lo tl) (hu : P3 X hi th) : E3 X (.Subscript e (.Slice lo hi none p2) pos) (ET te tl th) :=
 YE (DQ (TF.or Cc) he hl hu) fun _ _ _ ⟨τ,G,q,rl,h,af⟩ => zi rl h fun x G1 h1 v H1 rx hr1 k1 rl1 =>
  ⟨τ,G1,_,rl1,h1,fun l G2 h2 H2 hr2 k2 => ⟨τ,G2,_,rl1.next hr2 k2,h2,fun u G3 h3 H3 hr3 k3 => by
   have kk := (k1.trans k2).trans k3
   have rx3 := (rx.keep hr1 k2).keep hr2 k3
   cases x <;> try exact h3.elim
   case tup xs =>
    cases rx3 with
    | tup hs rs =>
     refine .inl ⟨_,_,rfl,hs,by rw [← rs.length];exact h3.1,fun p hp => ?_⟩
     exact af _ G3 h3.2 _ _ (.tup (SqT.of qW) ((rs.cut _ _).keep hr3 (Kp.laid hp))) (hr3.laid hp) (kk.trans (Kp.laid hp))
   case ref p =>
    unfold sl3 at h3
    simp only at h3
    split at h3
    ·rename_i xs e0
     cases rx3
     obtain ⟨vs,hs,rs⟩ := zP hr3 e0
     refine .inr ⟨p,vs,rfl,hs,fun a ha => ?_⟩
     exact af _ _ (h3 a (hr3.free ha)) _ _ (.ref a) (hr3.newL ha (rs.cut _ _)) (kk.trans (Kp.newL ha))
    ·exact h3.elim⟩⟩
theorem Xs {K : PySem.W.Frag} {H : Hp} {xs : List T} {vs : List V} (r : Rps K H xs vs) : vs = [] ↔ xs = [] := by
 cases r <;> simp
noncomputable def je : R3 := fun x y G q => match x,y with
 | .tup xs,.tup ys => xs ≠ []∧xs.length + ys.length ≤ sizeLine∧q (.tup (xs ++ ys)) G
 | .ref a,.ref b => (match G a,G b with | some (.lst xs),some (.lst ys) => xs.length + ys.length ≤ sizeLine∧∀ p,G p = none → q (.ref p) (gu G p (.lst (xs ++ ys))) | _,_ => False)
 | .int i,.int j => q (.int (i + j)) G
 | _,_ => False
theorem U5 {K : PySem.W.Frag} : Ys K je (fun x y H Q => (rI0 (fun i j => .int (i + j)) x y H Q ∨ LD K x y H Q) ∨ qfm x y H Q) := fun x y v u G H q Q hr rx ry h af => by
 cases x <;> try exact h.elim
 case int i =>
  cases y <;> try exact h.elim
  cases rx;cases ry
  exact .inl (.inl ⟨_,_,rfl,rfl,af _ G h _ H (.int _) hr Kp.refl⟩)
 case tup xs =>
  cases y <;> try exact h.elim
  case tup ys =>
   obtain ⟨h1,h2,h3⟩ := h
   cases rx with
   | tup hs rs =>
    cases ry with
    | tup hs' rs' =>
     refine .inl (.inr ⟨_,_,_,_,rfl,rfl,hs,hs',fun z => h1 ((Xs rs).mp z),by rw [← rs.length,← rs'.length];exact h2,fun z => ?_,fun z p hp => ?_⟩)
     ·have e := (Xs rs').mp z
      subst e
      rw [List.append_nil] at h3
      exact af _ G h3 _ H (.tup hs rs) hr Kp.refl
     ·exact af _ G h3 _ _ (.tup (SqT.of qW) ((rs.append rs').keep hr (Kp.laid hp))) (hr.laid hp) (Kp.laid hp)
 case ref a =>
  cases y <;> try exact h.elim
  case ref b =>
   unfold je at h
   simp only at h
   split at h
   ·rename_i xs ys e1 e2
    cases rx;cases ry
    obtain ⟨vs,g1,r1⟩ := hr.lst e1
    obtain ⟨us,g2,r2⟩ := hr.lst e2
    refine .inr ⟨a,b,vs,us,rfl,rfl,g1,g2,by rw [← r1.length,← r2.length];exact h.1,fun p hp => ?_⟩
    exact af _ _ (h.2 p (hr.free hp)) _ _ (.ref p) (hr.newL hp (r1.append r2)) (Kp.newL hp)
   ·exact h.elim
theorem MK (ha : E3 X a ta) (hb : E3 X b tb) : E3 X (.BinOp a .Add b pos) (o3 je ta tb) := Rk ((TH.or X3).or T1) U5 ha hb
noncomputable def JO : List T → Gp → Q3 → Prop := fun xs G q => match xs with
 | [.tup ys] => q (.int ys.length) G
 | [.str y] => y.length ≤ sizeLine∧q (.int y.length) G
 | [.ref p] => (match getL G p with | some ys => q (.int ys.length) G | none => False)
 | _ => False
theorem EC {K : PySem.W.Frag} {H : Hp} {x : T} {vs : List V} (r : Rps K H [x] vs) : ∃ v,vs = [v]∧Rp K H x v := by
 cases r with
 | cons a b => cases b;exact ⟨_,rfl,a⟩
theorem qda {K : PySem.W.Frag} {H : Hp} {x y : T} {vs : List V} (r : Rps K H [x,y] vs) : ∃ v u,vs = [v,u]∧Rp K H x v∧Rp K H y u := by
 cases r with
 | cons a b => cases b with | cons c d => cases d;exact ⟨_,_,rfl,a,c⟩
theorem zk {K : PySem.W.Frag} : W1 K JO (fun xs H Q => ∃ x n,xs = [x]∧qgi K x H n∧Q (.int n) H) := fun xs vs G H q Q hr rs h af => by
 unfold JO at h
 split at h
 ·obtain ⟨v,rfl,r⟩ := EC rs
  cases r with
  | tup hs r2 => exact ⟨_,_,rfl,.inr ⟨_,hs,rfl⟩,by rw [← r2.length];exact af _ G h _ H (.int _) hr Kp.refl⟩
 ·obtain ⟨v,rfl,r⟩ := EC rs
  cases r
  exact ⟨_,_,rfl,⟨h.1,rfl⟩,af _ G h.2 _ H (.int _) hr Kp.refl⟩
 ·obtain ⟨v,rfl,r⟩ := EC rs
  split at h
  ·rename_i ys e
   cases r
   obtain ⟨us,hs,r2⟩ := zP hr e
   exact ⟨_,_,rfl,.inl ⟨_,hs,rfl⟩,by rw [← r2.length];exact af _ G h _ H (.int _) hr Kp.refl⟩
  ·exact h.elim
 ·exact h.elim
noncomputable def qba : List T → Gp → Q3 → Prop := fun xs G q => match xs with | [.int i] => q (.int (if i < 0 then -i else i)) G | _ => False
theorem CB {K : PySem.W.Frag} : W1 K qba (fun xs H Q => ∃ i,xs = [.int i]∧Q (.int (if i < 0 then -i else i)) H) := fun xs vs G H q Q hr rs h af => by
 unfold qba at h
 split at h
 ·obtain ⟨v,rfl,r⟩ := EC rs
  cases r
  exact ⟨_,rfl,af _ G h _ H (.int _) hr Kp.refl⟩
 ·exact h.elim
noncomputable def qcf : List T → Gp → Q3 → Prop := fun xs G q => match xs with | [.int i,.int j] => q (.int (if j < i then j else i)) G | _ => False
theorem LP {K : PySem.W.Frag} : W1 K qcf (fun xs H Q => ∃ i j,xs = [.int i,.int j]∧Q (.int (if j < i then j else i)) H) := fun xs vs G H q Q hr rs h af => by
 unfold qcf at h
 split at h
 ·obtain ⟨v,u,rfl,r,r'⟩ := qda rs
  cases r;cases r'
  exact ⟨_,_,rfl,af _ G h _ H (.int _) hr Kp.refl⟩
 ·exact h.elim
noncomputable def Wu : List T → Gp → Q3 → Prop := fun xs G q => match xs with | [.int i] => q (.int i) G | [.bl k] => q (.int (if k then 1 else 0)) G | _ => False
theorem Ua {K : PySem.W.Frag} : W1 K Wu (fun xs H Q => (∃ i,xs = [.int i]∧Q (.int i) H) ∨ ∃ k,xs = [.bl k]∧Q (.int (if k then 1 else 0)) H) := fun xs vs G H q Q hr rs h af => by
 unfold Wu at h
 split at h
 ·obtain ⟨v,rfl,r⟩ := EC rs
  cases r
  exact .inl ⟨_,rfl,af _ G h _ H (.int _) hr Kp.refl⟩
 ·obtain ⟨v,rfl,r⟩ := EC rs
  cases r
  exact .inr ⟨_,rfl,af _ G h _ H (.int _) hr Kp.refl⟩
 ·exact h.elim
noncomputable def Jq : List T → Gp → Q3 → Prop := fun xs G q => match xs with
 | [.tup ys] => q (.tup ys) G
 | [.ref p] => (match getL G p with | some ys => q (.tup ys) G | none => False)
 | _ => False
theorem Vn {K : PySem.W.Frag} : W1 K Jq (fun xs H Q => ∃ p ys,xs = [.ref p]∧((SqL K H p ys∧∀ l,H l = none → Q (.ref l) (upd H l (.tup ys))) ∨ (SqT K H p ys∧Q (.ref p) H))) := fun xs vs G H q Q hr rs h af => by
 unfold Jq at h
 split at h
 ·obtain ⟨v,rfl,r⟩ := EC rs
  cases r with
  | tup hs r2 => exact ⟨_,_,rfl,.inr ⟨hs,af _ G h _ H (.tup hs r2) hr Kp.refl⟩⟩
 ·obtain ⟨v,rfl,r⟩ := EC rs
  split at h
  ·rename_i ys e
   cases r
   obtain ⟨us,hs,r2⟩ := zP hr e
   exact ⟨_,_,rfl,.inl ⟨hs,fun l hl => af _ G h _ _ (.tup (SqT.of qW) (r2.keep hr (Kp.laid hl))) (hr.laid hl) (Kp.laid hl)⟩⟩
  ·exact h.elim
 ·exact h.elim
noncomputable def Um : List T → Gp → Q3 → Prop := fun xs G q => match xs with
 | [.tup ys] => ∀ p,G p = none → q (.ref p) (gu G p (.lst ys))
 | [.ref p] => (match getL G p with | some ys => ∀ p,G p = none → q (.ref p) (gu G p (.lst ys)) | none => False)
 | _ => False
theorem YC {K : PySem.W.Frag} : W1 K Um (fun xs H Q => ∃ p ys,xs = [.ref p]∧(SqL K H p ys ∨ SqT K H p ys)∧∀ l,H l = none → Q (.ref l) (upd H l (.lst ys))) := fun xs vs G H q Q hr rs h af => by
 unfold Um at h
 split at h
 ·obtain ⟨v,rfl,r⟩ := EC rs
  cases r with
  | tup hs r2 => exact ⟨_,_,rfl,.inr hs,fun l hl => af _ _ (h l (hr.free hl)) _ _ (.ref l) (hr.newL hl r2) (Kp.newL hl)⟩
 ·obtain ⟨v,rfl,r⟩ := EC rs
  split at h
  ·rename_i ys e
   cases r
   obtain ⟨us,hs,r2⟩ := zP hr e
   exact ⟨_,_,rfl,.inl hs,fun l hl => af _ _ (h l (hr.free hl)) _ _ (.ref l) (hr.newL hl r2) (Kp.newL hl)⟩
  ·exact h.elim
 ·exact h.elim
noncomputable def KY : T → List T → Gp → Q3 → Prop := fun x xs G q => match x,xs with
 | .ref l,[.ref b] => (match G l,G b with | some (.lst ys),some (.lst zs) => ys.length + zs.length ≤ sizeLine∧q .non (gu G l (.lst (ys ++ zs))) | _,_ => False)
 | _,_ => False
noncomputable def CO : T → List T → Gp → Q3 → Prop := fun x xs G q => match x,xs with
 | .ref l,[y] => (match G l with | some (.lst ys) => ys.length < sizeLine∧q .non (gu G l (.lst (ys ++ [y]))) | _ => False)
 | _,_ => False
def qfo (K : PySem.W.Frag) (r3 : T → List T → Gp → Q3 → Prop) (r : V → List V → Hp → VK → Prop) : Prop := ∀ x xs v vs G H q Q,HR K G H → Rp K H x v → Rps K H xs vs → r3 x xs G q → Aft K G H q Q → r v vs H Q
theorem KD {K : PySem.W.Frag} : qfo K KY Xd := fun x xs v vs G H q Q hr rx rs h af => by
 unfold KY at h
 split at h
 ·rename_i l b
  split at h
  ·rename_i ys zs e1 e2
   cases rx
   obtain ⟨u,rfl,r⟩ := EC rs
   cases r
   obtain ⟨vs,g1,r1⟩ := hr.lst e1
   obtain ⟨us,g2,r2⟩ := hr.lst e2
   exact ⟨l,b,vs,us,rfl,rfl,g1,g2,by rw [← r1.length,← r2.length];exact h.1,af _ _ h.2 _ _ .non (hr.wr e1 (r1.append r2)) (Kp.wr e1)⟩
  ·exact h.elim
 ·exact h.elim
theorem Ks {K : PySem.W.Frag} : qfo K CO XJ := fun x xs v vs G H q Q hr rx rs h af => by
 unfold CO at h
 split at h
 ·rename_i l y
  split at h
  ·rename_i ys e1
   cases rx
   obtain ⟨u,rfl,r⟩ := EC rs
   obtain ⟨vs,g1,r1⟩ := hr.lst e1
   exact ⟨l,vs,u,rfl,rfl,g1,by rw [← r1.length];exact h.1,af _ _ h.2 _ _ .non (hr.wr e1 (r1.append (.cons r .nil))) (Kp.wr e1)⟩
  ·exact h.elim
 ·exact h.elim
noncomputable def bm3 (r : T → List T → Gp → Q3 → Prop) (to : TE3) (t : TA3) : TE3 := fun τ G q => to τ G fun x G1 => (match x with | .ref p => (getL G1 p).isSome = true | _ => False)∧t τ G1 fun xs G2 => r x xs G2 q
theorem qhb {o : Expr} {to : TE3} {name : Str} {apos cpos : Pos} {id : String} {r3 : T → List T → Gp → Q3 → Prop} {r : V → List V → Hp → VK → Prop} (slot : Slot "list" name id) (hty : typeOf (.builtin id) = pure (.type "method_descriptor")) (hm : MtR X id r) (hr : qfo X.K r3 r) (ho : E3 X o to) (ha : A3 X (e :: es) t)
  (hbase : attributeBase o name X.env (eval o X.env) = eval o X.env := by rfl)
  (hfew : ((backTo cpos (starEach (e :: es) X.env)).all (fun x => !x.1) && (backToKw cpos (keywordEach [] X.env)).all (fun x => x.1.isSome)
   && decide ((e :: es).length + ([] : List Keyword).length + (if ([] : List Keyword).isEmpty then 0 else 1) < 30)) = true := by rfl)
  (hline : (apos.endLine == cpos.line) = true := by rfl) (hs : starEach (e :: es) X.env = (false,eval e X.env) :: starEach es X.env := by rfl) (hplain : (backTo cpos (starEach es X.env)).any (·.1) = false := by rfl) :
  E3 X (.Call (.Attribute o name apos) (e :: es) [] cpos) (bm3 r3 to t) :=
 YE (qem PySem.F.plainAttrs_list slot hty hm ho ha hbase hfew hline hs hplain) fun _ _ _ ⟨τ,G,q,rl,h,af⟩ => zi rl h fun x G1 h1 v H1 rx hr1 k1 rl1 => by
  obtain ⟨hp,h1⟩ := h1
  cases x <;> try exact hp.elim
  case ref p =>
   cases rx
   have hp' : (getL G1 p).isSome = true := hp
   obtain ⟨ys,e⟩ := Option.isSome_iff_exists.mp hp'
   obtain ⟨us,hs,r2⟩ := zP hr1 e
   exact ⟨.inl ⟨rfl,us,hs⟩,Zu rl1 h1 fun xs G2 h2 vs H2 rs hr2 k2 rl2 => hr _ xs _ vs G2 H2 q _ hr2 (.ref p) rs h2 (af.back (k1.trans k2))⟩
theorem R5 {o : Expr} {to : TE3} {apos cpos : Pos} (ho : E3 X o to) (ha : A3 X [e] t)
  (hbase : attributeBase o "append" X.env (eval o X.env) = eval o X.env := by rfl)
  (hfew : ((backTo cpos (starEach [e] X.env)).all (fun x => !x.1) && (backToKw cpos (keywordEach [] X.env)).all (fun x => x.1.isSome)
   && decide (([e] : List Expr).length + ([] : List Keyword).length + (if ([] : List Keyword).isEmpty then 0 else 1) < 30)) = true := by rfl)
  (hline : (apos.endLine == cpos.line) = true := by rfl) (hs : starEach [e] X.env = (false,eval e X.env) :: starEach [] X.env := by rfl) (hplain : (backTo cpos (starEach [] X.env)).any (·.1) = false := by rfl) :
  E3 X (.Call (.Attribute o "append" apos) [e] [] cpos) (bm3 CO to t) := qhb PySem.F.slot_list_append PySem.F.type_list_append Js Ks ho ha hbase hfew hline hs hplain
theorem Rj {o : Expr} {to : TE3} {apos cpos : Pos} (ho : E3 X o to) (ha : A3 X [e] t)
  (hbase : attributeBase o "extend" X.env (eval o X.env) = eval o X.env := by rfl)
  (hfew : ((backTo cpos (starEach [e] X.env)).all (fun x => !x.1) && (backToKw cpos (keywordEach [] X.env)).all (fun x => x.1.isSome)
   && decide (([e] : List Expr).length + ([] : List Keyword).length + (if ([] : List Keyword).isEmpty then 0 else 1) < 30)) = true := by rfl)
  (hline : (apos.endLine == cpos.line) = true := by rfl) (hs : starEach [e] X.env = (false,eval e X.env) :: starEach [] X.env := by rfl) (hplain : (backTo cpos (starEach [] X.env)).any (·.1) = false := by rfl) :
  E3 X (.Call (.Attribute o "extend" apos) [e] [] cpos) (bm3 KY to t) := qhb PySem.F.slot_list_extend PySem.F.type_list_extend Xg KD ho ha hbase hfew hline hs hplain
end
end L3
namespace L3
open PySem PySem.Spec PyProof.Rows L2
noncomputable def tyT (G : Gp) : T → Option String
 | .non => some "NoneType" | .bl _ => some "bool" | .int _ => some "int" | .str _ => some "str" | .tup _ => some "tuple"
 | .ref p => if (getL G p).isSome then some "list" else none
noncomputable def jV (t c : String) : Bool := t == c || (t == "bool" && c == "int")
theorem R8 (K : PySem.W.Frag) : ∀ t ∈ ["NoneType","bool","int","str","tuple","list"],∀ c ∈ ["bool","int","str","tuple","list"],PySem.W.kitOne K (.type t) (.type c) = some (jV t c) := by
 intro t ht c hc
 simp only [List.mem_cons,List.not_mem_nil,or_false] at ht hc
 rcases ht with rfl | rfl | rfl | rfl | rfl | rfl <;> rcases hc with rfl | rfl | rfl | rfl | rfl <;> kernel_rfl
section
variable {X : Cx} {a b c e : Expr} {es : List Expr} {ta tb tc te : TE3} {t : TA3} {pos : Pos}
def TyS (K : PySem.W.Frag) (H : Hp) (x : V) (t : String) : Prop := match x with
 | .non => t = "NoneType" | .bl _ => t = "bool" | .int _ => t = "int" | .str _ => t = "str"
 | .ref a => (t = "tuple"∧∃ vs,SqT K H a vs) ∨ (t = "list"∧∃ vs,SqL K H a vs)
 | _ => False
theorem TyS.mem {K : PySem.W.Frag} {H : Hp} {x : V} {t : String} (h : TyS K H x t) : t ∈ ["NoneType","bool","int","str","tuple","list"] := by
 cases x <;> simp [TyS] at h <;> first | (subst h;decide) | (rcases h with ⟨rfl,_⟩ | ⟨rfl,_⟩ <;> decide)
theorem TyS.kitx {pins : List (Addr × Obj)} {σ : L2.St} {H : Hp} {s : Shared} {x : V} {u : Value} {t : String} (I : Inv X pins σ H s) (rx : jo x u) (h : TyS X.K H x t) :
  ∃ HH : Heap → Prop,PySem.W.KitX X.K u (.type t) HH∧HH s.heap∧u ≠ .builtin "__main__.__loader__#opaque" := by
 cases x with
 | non => cases (show u = Value.none from rx);cases (show t = _ from h);exact ⟨_,PySem.W.kitx_none,True.intro,fun z => nomatch z⟩
 | bl y => cases (show u = Value.bool y from rx);cases (show t = _ from h);exact ⟨_,PySem.W.kitx_bool,True.intro,fun z => nomatch z⟩
 | int i => obtain ⟨tk,q⟩ := (show ∃ t,u = Value.int i t from rx);cases q;cases (show t = _ from h);exact ⟨_,PySem.W.kitx_int,True.intro,fun z => nomatch z⟩
 | str y => obtain ⟨tk,q⟩ := (show ∃ t,u = Value.str y t from rx);cases q;cases (show t = _ from h);exact ⟨_,PySem.W.kitx_str,True.intro,fun z => nomatch z⟩
 | ref a =>
  cases (show u = Value.ref a from rx)
  rcases (show (t = "tuple"∧∃ vs,SqT X.K H a vs) ∨ (t = "list"∧∃ vs,SqL X.K H a vs) from h) with ⟨rfl,vs,hs⟩ | ⟨rfl,vs,hs⟩
  ·obtain ⟨its,_,p,_⟩ := I.tuple hs
   obtain ⟨o,h1,h2,_⟩ := p
   exact ⟨_,PySem.W.kitx_tuple,⟨o,h1,h2⟩,fun z => nomatch z⟩
  ·obtain ⟨its,_,p,_⟩ := I.list hs
   obtain ⟨o,n,h1,h2,_⟩ := p
   exact ⟨_,PySem.W.kitx_list,⟨o,h1,h2⟩,fun z => nomatch z⟩
 | _ => exact False.elim h
noncomputable abbrev EZ : List String := ["bool","int","str","tuple","list"]
theorem RX : ZN X (.builtin "isinstance") (fun xs H Q => ∃ x t c,xs = [x,.ty c]∧TyS X.K H x t∧c ∈ EZ∧Q (.bl (jV t c)) H) := by
 intro pins s σ H xs us Q I r h
 obtain ⟨x,t,c,rfl,ht,hc,q⟩ := h
 obtain ⟨u,w,rfl,rx,rc⟩ := KF r
 cases (show w = Value.type c from rc)
 obtain ⟨HH,kx,hh,ne⟩ := ht.kitx I rx
 exact PySem.W.kia_one kx I.kIn hh (R8 X.K t ht.mem c hc) ne fun tk => ⟨.bl _,H,I.tok tk,rfl,q⟩
theorem qar {K : PySem.W.Frag} {G : Gp} {H : Hp} (hr : HR K G H) {x : T} {v : V} {t : String} (r : Rp K H x v) (h : tyT G x = some t) : TyS K H v t := by
 cases r with
 | non => cases h;rfl
 | bl _ => cases h;rfl
 | int _ => cases h;rfl
 | str _ => cases h;rfl
 | tup hs rs => cases h;exact .inl ⟨rfl,_,hs⟩
 | ref a =>
  have h : (if (getL G a).isSome then some "list" else none) = some t := h
  split at h
  ·rename_i e
   cases h
   obtain ⟨ys,e⟩ := Option.isSome_iff_exists.mp e
   obtain ⟨us,hs,_⟩ := zP hr e
   exact .inr ⟨rfl,us,hs⟩
  ·cases h
noncomputable def ER (f : String → Bool) (te : TE3) : TE3 := fun τ G q => te τ G fun x G1 => match tyT G1 x with | some t => q (.bl (f t)) G1 | none => False
theorem qez {tn : Str} {ty : String} {p p2 : Pos} (he : E3 X e te) (hg : Gl X "isinstance") (hm : X.mg "isinstance" = none) (hg2 : Gl X tn) (hm2 : X.mg tn = none) (hv : bootBuiltins tn = some (.type ty)) (hmem : ty ∈ EZ := by decide) (hn : tn ≠ "__name__" := by decide) (hdb : (tn == ("__debug__" : Str)) = false := by decide)
  (hs : starEach [e,.Name tn p2] X.env = (false,eval e X.env) :: starEach [.Name tn p2] X.env := by rfl) (hs2 : starEach [.Name tn p2] X.env = (false,eval (.Name tn p2) X.env) :: starEach [] X.env := by rfl) (hpl : (backTo pos (starEach [.Name tn p2] X.env)).any (·.1) = false := by rfl) :
  E3 X (.Call (.Name "isinstance" p) [e,.Name tn p2] [] pos) (ER (fun t => jV t ty) te) :=
 YE (DH RX hg hm PyProof.Rows.boot_isinstance (Dj he (Dj (Kv (v := .ty ty) hg2 hm2 hv rfl hn hdb) Sq hs2) hs) (by decide) (by decide) hs hpl)
  fun _ _ _ ⟨τ,G,q,rl,h,af⟩ => zi rl h fun x G1 h1 v H1 rx hr1 k1 rl1 => by
   split at h1
   ·rename_i t e1
    exact ⟨_,t,ty,rfl,qar hr1 rx e1,hmem,af _ G1 h1 _ H1 (.bl _) hr1 k1⟩
   ·exact h1.elim
structure Ends3 where
 nx : St3 → Gp → Prop
 rt : Q3
 bk : St3 → Gp → Prop := fun _ _ => False
 ct : St3 → Gp → Prop := fun _ _ => False
noncomputable abbrev TS3 := Ends3 → St3 → Gp → Prop
def TB (K : PySem.W.Frag) (G : Gp) (H : Hp) (q : St3 → Gp → Prop) (Q : L2.St → Hp → Prop) : Prop := ∀ τ G',q τ G' → ∀ σ H',Rel K τ G' σ H' → Kp G H G' H' → Q σ H'
structure AftD (K : PySem.W.Frag) (G : Gp) (H : Hp) (d : Ends3) (D : Ends) : Prop where
 nx : TB K G H d.nx D.nx
 rt : Aft K G H d.rt D.rt
 bk : TB K G H d.bk D.bk
 ct : TB K G H d.ct D.ct
theorem TB.back {K : PySem.W.Frag} {G G1 : Gp} {H H1 : Hp} {q : St3 → Gp → Prop} {Q : L2.St → Hp → Prop} (a : TB K G H q Q) (k : Kp G H G1 H1) : TB K G1 H1 q Q := fun x G' h v H' r k' => a x G' h v H' r (k.trans k')
theorem AftD.back {K : PySem.W.Frag} {G G1 : Gp} {H H1 : Hp} {d : Ends3} {D : Ends} (a : AftD K G H d D) (k : Kp G H G1 H1) : AftD K G1 H1 d D := ⟨a.nx.back k,a.rt.back k,a.bk.back k,a.ct.back k⟩
noncomputable def lS (K : PySem.W.Frag) (t : TS3) : TS := fun D σ H => ∃ τ G d,Rel K τ G σ H∧t d τ G∧AftD K G H d D
abbrev S3 (X : Cx) (st : Stmt) (t : TS3) : Prop := PS X st (lS X.K t)
abbrev B3 (X : Cx) (st : List Stmt) (t : TS3) : Prop := PSs X st (lS X.K t)
theorem Kl {X : Cx} {st : Stmt} {t t' : TS} (h : PS X st t) (w : ∀ D σ H,t' D σ H → t D σ H) : PS X st t' := fun pins s σ H D I q => h pins s σ H D I (w D σ H q)
theorem ML {X : Cx} {st : List Stmt} {t t' : TS} (h : PSs X st t) (w : ∀ D σ H,t' D σ H → t D σ H) : PSs X st t' := fun pins s σ H D I q => h pins s σ H D I (w D σ H q)
variable {st : Stmt} {ZI : List Stmt} {t1 t2 : TS3} {tA : TT3}
noncomputable def qT : TS3 := fun d τ G => d.nx τ G
noncomputable def qK (t u : TS3) : TS3 := fun d τ G => t { d with nx := u d } τ G
theorem qen : B3 X [] qT := ML LF fun _ σ H ⟨τ,G,d,rl,h,af⟩ => af.nx τ G h σ H rl Kp.refl
theorem NO (h1 : S3 X st t1) (h2 : B3 X ZI t2) : B3 X (st :: ZI) (qK t1 t2) := ML (RR h1 h2) fun D σ H ⟨τ,G,d,rl,h,af⟩ =>
 ⟨τ,G,{ d with nx := t2 d },rl,h,⟨fun τ' G' h' σ' H' rl' k' => ⟨τ',G',d,rl',h',af.back k'⟩,af.rt,af.bk,af.ct⟩⟩
theorem qfx (h1 : S3 X st t1) : B3 X [st] t1 := Lv h1
noncomputable def Vf (te : TE3) : TS3 := fun d τ G => te τ G fun _ G1 => d.nx τ G1
theorem qa4 (he : E3 X e te) (hs : swapsWith e none pos.line X.env = pure false := by rfl) : S3 X (.Expr e pos) (Vf te) := Kl (Lo he hs) fun _ σ H ⟨τ,G,d,rl,h,af⟩ =>
 zi rl h fun x G1 h1 v H1 rx hr1 k1 rl1 => af.nx τ G1 h1 σ H1 rl1 k1
noncomputable def ze (te : TE3) : TS3 := fun d τ G => te τ G d.rt
theorem qfs (he : E3 X e te) : S3 X (.Return (some e) pos) (ze te) := Kl (MH he) fun _ σ H ⟨τ,G,d,rl,h,af⟩ => ⟨τ,G,d.rt,rl,h,af.rt⟩
noncomputable def jX (c : TT3) (t u : TS3) : TS3 := fun d τ G => c τ G fun k G1 => if k = true then t d τ G1 else u d τ G1
theorem qh0 {c : Expr} {ba bb : List Stmt} (hc : C3 X c tA) (ha : B3 X ba t1) (hb : B3 X bb t2) : S3 X (.If c ba bb pos) (jX tA t1 t2) := Kl (qdq hc ha hb) fun _ σ H ⟨τ,G,d,rl,h,af⟩ =>
 D7 rl h fun k G1 h1 H1 hr1 k1 rl1 => by
  cases k with
  | true => rw [if_pos rfl] at h1 ⊢;exact ⟨τ,G1,d,rl1,h1,af.back k1⟩
  | false => rw [if_neg Bool.false_ne_true] at h1 ⊢;exact ⟨τ,G1,d,rl1,h1,af.back k1⟩
noncomputable abbrev TG3 := T → St3 → Gp → (St3 → Gp → Prop) → Prop
noncomputable abbrev EB := List T → St3 → Gp → (St3 → Gp → Prop) → Prop
noncomputable def lG (K : PySem.W.Frag) (t : TG3) : TG := fun v σ H Q => ∃ x τ G q,Rp K H x v∧Rel K τ G σ H∧t x τ G q∧TB K G H q Q
noncomputable def lGs (K : PySem.W.Frag) (t : EB) : TGs := fun v σ H Q => ∃ x τ G q,Rps K H x v∧Rel K τ G σ H∧t x τ G q∧TB K G H q Q
abbrev G3 (X : Cx) (e : Expr) (t : TG3) : Prop := PG X e (lG X.K t)
abbrev Gs3 (X : Cx) (es : List Expr) (t : EB) : Prop := PGs X es (lGs X.K t)
theorem qey {X : Cx} {e : Expr} {t t' : TG} (h : PG X e t) (w : ∀ v σ H Q,t' v σ H Q → t v σ H Q) : PG X e t' := fun pins s σ H v u Q I r q => h pins s σ H v u Q I r (w v σ H Q q)
theorem No {X : Cx} {e : List Expr} {t t' : TGs} (h : PGs X e t) (w : ∀ v σ H Q,t' v σ H Q → t v σ H Q) : PGs X e t' := fun pins s σ H v u Q I r q => h pins s σ H v u Q I r (w v σ H Q q)
noncomputable def gn3 (i : Nat) : TG3 := fun x τ G q => q (τ.set i (some x)) G
theorem qa8 {i : Nat} {x : Str} (hN : X.N.Nodup) (hi : X.N[i]? = some x := by rfl) (hx : Loc X.env.scope x := by first | exact Or.inl rfl | exact Or.inr rfl) (hf : X.fn x = true ∨ X.env.scope.names.lookup x = some .local := by first | exact .inl rfl | exact .inr rfl) : G3 X (.Name x pos) (gn3 i) :=
 qey (LI hN hi hx hf) fun v σ H Q ⟨x,τ,G,q,rx,rl,h,af⟩ => af _ G h _ H (rl.set i rx) Kp.refl
noncomputable def J9 : EB := fun xs τ G q => match xs with | [] => q τ G | _ => False
noncomputable def zf (t : TG3) (u : EB) : EB := fun xs τ G q => match xs with | x :: r => t x τ G fun τ' G' => u r τ' G' q | [] => False
theorem qga : Gs3 X [] J9 := No Ly fun v σ H Q ⟨x,τ,G,q,rx,rl,h,af⟩ => by
 cases rx with
 | nil => exact ⟨rfl,af _ G h _ H rl Kp.refl⟩
 | cons _ _ => exact h.elim
theorem qci {tg : TG3} {tgs : EB} (h1 : G3 X e tg) (h2 : Gs3 X es tgs) (hs : (assignEach (e :: es) X.env).map (·.2) = assign e X.env :: (assignEach es X.env).map (·.2) := by rfl) : Gs3 X (e :: es) (zf tg tgs) := No (Rr h1 h2 hs) fun v σ H Q ⟨x,τ,G,q,rx,rl,h,af⟩ => by
 cases rx with
 | nil => exact h.elim
 | cons r rs => exact ⟨_,_,rfl,_,τ,G,_,r,rl,h,fun τ' G' h' σ' H' rl' k' => ⟨_,τ',G',q,rs.keep rl.hp k',rl',h',af.back k'⟩⟩
noncomputable def Jx (n : Nat) (t : EB) : TG3 := fun x τ G q => match x with | .tup xs => xs.length = n∧t xs τ G q | _ => False
theorem qgc {k : Nat} {tgs : EB} {n : Nat} (hc : X.calm = true) (h : Gs3 X es tgs) (hn : (assignEach es X.env).length = n := by rfl) (hst : (assignEach es X.env).findIdx? (·.1) = none := by rfl) : G3 X (.Tuple es k pos) (Jx n tgs) :=
 qey (MR hc h hn hst) fun v σ H Q ⟨x,τ,G,q,rx,rl,h,af⟩ => by
  cases x <;> try exact h.elim
  case tup xs =>
   cases rx with
   | tup hs rs => exact ⟨_,_,rfl,hs,by rw [← rs.length];exact h.1,_,τ,G,q,rs,rl,h.2,af⟩
noncomputable def K3 : T → T → T → Gp → (Gp → Prop) → Prop := fun o i v G q => match o,i with
 | .ref p,.int k => (match G p with | some (.lst xs) => (match ixN xs.length k with | some j => q (gu G p (.lst (xs.set j v))) | none => False) | _ => False)
 | _,_ => False
noncomputable def Uz (to ti : TE3) : TG3 := fun x τ G q => to τ G fun o G1 => ti τ G1 fun i G2 => K3 o i x G2 fun G3 => q τ G3
theorem qf4 {o i : Expr} {to ti : TE3} (ho : E3 X o to) (hi : E3 X i ti) (ha : ∀ v,assign (.Subscript o i pos) X.env v = (do
      let ov ← holding [v] (eval o X.env)
      let iv ← holding [v,ov] (eval i X.env)
      standAt pos
      holding [v,ov,iv] (setItem ov iv v)
      release [v,ov,iv] []) := by intro _;rfl) : G3 X (.Subscript o i pos) (Uz to ti) :=
  qey (qb4 ho hi Rl ha) fun v σ H Q ⟨x,τ,G,q,rx,rl,h,af⟩ => zi rl h fun y G1 h1 u H1 ry hr1 k1 rl1 => zi rl1 h1 fun z G2 h2 w H2 rz hr2 k2 rl2 => by
    have rx2 := (rx.keep rl.hp k1).keep hr1 k2
    have ry2 := ry.keep hr1 k2
    unfold K3 at h2
    split at h2
    · rename_i p k
      split at h2
      · rename_i xs e
        split at h2
        · rename_i j ej
          cases ry2;cases rz
          obtain ⟨vs,g1,r1⟩ := hr2.lst e
          have kk : Kp G2 H2 (gu G2 p (.lst (xs.set j x))) (upd H2 p (.lst (vs.set j v))) := Kp.wr e
          exact ⟨p,vs,k,j,rfl,rfl,g1,by rw [← r1.length];exact ej,af τ _ h2 σ _ (rl2.next (hr2.wr e (r1.set rx2 j)) kk) ((k1.trans k2).trans kk)⟩
        · exact h2.elim
      · exact h2.elim
    · exact h2.elim
noncomputable def zz (te : TE3) (g : TG3) : TS3 := fun d τ G => te τ G fun x G1 => g x τ G1 d.nx
theorem qf1 {tg e : Expr} {g : TG3} (he : E3 X e te) (hg : G3 X tg g) (hs : swapsWithSole [tg] e pos.line X.env = pure false := by rfl) (hw : swappedStores [tg] e X.env = pure none := by rfl)
  (h1 : (assignEach [tg] X.env).map (·.2) = [assign tg X.env] := by rfl) : S3 X (.Assign [tg] e pos) (zz te g) := Kl (Nq he hg hs hw h1) fun _ σ H ⟨τ,G,d,rl,h,af⟩ =>
 zi rl h fun x G1 h1 v H1 rx hr1 k1 rl1 => ⟨x,τ,G1,d.nx,rx,rl1,h1,af.nx.back k1⟩
theorem qdv (i : Nat) {x : Str} {e : Expr} {pos' : Pos} (hN : X.N.Nodup) (he : E3 X e te) (hi : X.N[i]? = some x := by rfl) (hx : Loc X.env.scope x := by first | exact Or.inl rfl | exact Or.inr rfl) (hs : swapsWith e (some (.Name x pos')) pos.line X.env = pure false := by rfl) (hf : X.fn x = true ∨ X.env.scope.names.lookup x = some .local := by first | exact .inl rfl | exact .inr rfl) :
  S3 X (.Assign [.Name x pos'] e pos) (zz te (gn3 i)) := Kl (Mk hN hi hx he hs hf) fun _ σ H ⟨τ,G,d,rl,h,af⟩ =>
 zi rl h fun x G1 h1 v H1 rx hr1 k1 rl1 => af.nx _ G1 h1 _ H1 (rl1.set i rx) k1
noncomputable def CL (i j : Nat) (ta : TA3) : TS3 := fun d τ G => ta τ G fun xs G1 => match xs with | [x,y] => d.nx ((τ.set i (some x)).set j (some y)) G1 | _ => False
theorem qfr {i j : Nat} {x y : Str} {a b : Expr} {tt : TA3} {px py pt : Pos} {kt k2 pt2} (hc : X.calm = true) (hN : X.N.Nodup) (hi : X.N[i]? = some x) (hj : X.N[j]? = some y) (hij : i ≠ j)
  (hx : X.env.scope.names.lookup x = some .local) (hy : X.env.scope.names.lookup y = some .local) (ha : A3 X [a,b] tt)
  (hw : swappedStores [.Tuple [.Name x px,.Name y py] kt pt] (.Tuple [a,b] k2 pt2) X.env = pure (some [x,y]) := by rfl)
  (hs : swapsWithSole [.Tuple [.Name x px,.Name y py] kt pt] (.Tuple [a,b] k2 pt2) pos.line X.env = pure false := by rfl) :
  S3 X (.Assign [.Tuple [.Name x px,.Name y py] kt pt] (.Tuple [a,b] k2 pt2) pos) (CL i j tt) := Kl (qcg hc hN hi hj hij hx hy ha hw hs) fun _ σ H ⟨τ,G,d,rl,h,af⟩ =>
 Zu rl h fun xs G1 h1 vs H1 rs hr1 k1 rl1 => by
  split at h1
  ·obtain ⟨v,u,rfl,r,r'⟩ := qda rs
   exact ⟨v,u,rfl,af.nx _ G1 h1 _ H1 ((rl1.set i r).set j r') k1⟩
  ·exact h1.elim
end
end L3
namespace L3
open PySem PySem.Spec PyProof.Rows L2
noncomputable abbrev TI3 := St3 → Gp → (List T → (Gp → Prop) → Gp → Prop) → Prop
def LX (K : PySem.W.Frag) (J : It) (items : List T) (stay : Gp → Prop) (G0 : Gp) (H0 : Hp) : Prop := ∀ G H,HR K G H → Kp G0 H0 G H → stay G →
 (∀ i x,items[i]? = some x → J.go i H)∧(∀ i x v H',items[i]? = some x → J.yld i H v H' → Rp K H' x v∧HR K G H'∧Kp G H G H')∧J.stop items.length H
noncomputable def lI (K : PySem.W.Frag) (wi : TI3) : TI := fun σ H R => ∃ τ G r,Rel K τ G σ H∧wi τ G r∧∀ items stay G',r items stay G' → ∀ J H',HR K G' H' → Kp G H G' H' → LX K J items stay G' H' → R J H'
abbrev I3 (X : Cx) (tg iter : Expr) (wi : TI3) : Prop := PI X tg iter (lI X.K wi)
theorem qcx {X : Cx} {tg e : Expr} {t t' : TI} (h : PI X tg e t) (w : ∀ σ H R,t' σ H R → t σ H R) : PI X tg e t' := fun pins s σ H R I q => h pins s σ H R I (w σ H R q)
section
variable {X : Cx} {a b c e l tg : Expr} {es : List Expr} {ta tb tc te : TE3} {t : TA3} {pos : Pos}
theorem qaq {tl : TE} (hl : PE X l tl) : PI X tg l (fun σ H R => tl σ H fun x H1 => ∃ a,x = .ref a∧(((∃ xs,SqL X.K H1 a xs)∧R (Itl X.K a) H1) ∨ ((∃ xs,SqT X.K H1 a xs)∧R (Itt X.K a) H1))) := by
 intro pins s σ H R I h
 refine thn (hl pins s σ H _ I h) fun v s1 ⟨x,H1,I1,r1,q1⟩ => ?_
 obtain ⟨a,e,⟨⟨xs,hq⟩,q⟩ | ⟨⟨xs,hq⟩,q⟩⟩ := q1
 ·subst e
  cases r1
  obtain ⟨its,rv,p,hz⟩ := I1.list hq
  refine wpAny_pyIter_list p.isList ?_
  refine ⟨s1.heap.objs.size,[s1.heap.objs.size],_,_,H1,rfl,I1.kept (t' := s1.toks) fun b o e => Heap.get?_push_of_some _ e,Cn a _,⟨_,Heap.get?_push_size _ rfl,rfl,rfl⟩,fun b hb => ?_,q⟩
  have e : b = s1.heap.objs.size := by simpa using hb
  subst e
  exact I1.fpOk (Nat.le_refl _) (I1.hok.fresh (Nat.le_refl _))
 ·subst e
  cases r1
  obtain ⟨its,rv,p,hz⟩ := I1.tuple hq
  refine wpAny_pyIter_tuple (show s1.heap.IsTuple a its.toArray from p) ?_
  refine ⟨s1.heap.objs.size,[s1.heap.objs.size],_,_,H1,rfl,I1.kept (t' := s1.toks) fun b o e => Heap.get?_push_of_some _ e,W0 a _,⟨_,Heap.get?_push_size _ rfl,rfl,rfl⟩,fun b hb => ?_,q⟩
  have e : b = s1.heap.objs.size := by simpa using hb
  subst e
  exact I1.fpOk (Nat.le_refl _) (I1.hok.fresh (Nat.le_refl _))
noncomputable def YM (tl : TE3) : TI3 := fun τ G r => tl τ G fun x G1 => match x with
 | .tup xs => r xs (fun _ => True) G1
 | .ref p => (match getL G1 p with | some xs => r xs (fun G => getL G p = some xs) G1 | none => False)
 | _ => False
theorem qai {K : PySem.W.Frag} {p : Addr} {xs : List T} {G0 : Gp} {H0 : Hp} : LX K (Itl K p) xs (fun G => getL G p = some xs) G0 H0 := by
 intro G H hr _ hs
 obtain ⟨vs,sq,rs⟩ := zP hr hs
 refine ⟨fun i x hi => ?_,fun i x v H' hi y => ?_,⟨vs,sq,by rw [rs.length];exact Nat.le_refl _⟩⟩
 ·obtain ⟨v,hv,_⟩ := rs.get hi
  exact ⟨vs,v,sq,hv⟩
 ·obtain ⟨e,y⟩ := y
  subst e
  obtain ⟨w,hw,rw'⟩ := rs.get hi
  have e2 := (y vs sq).symm.trans hw
  cases e2
  exact ⟨rw',hr,Kp.refl⟩
theorem MM {K : PySem.W.Frag} {p : Addr} {xs : List T} {vs : List V} {G0 : Gp} {H0 : Hp} (hr0 : HR K G0 H0) (sq0 : SqT K H0 p vs) (rs0 : Rps K H0 xs vs) : LX K (Itt K p) xs (fun _ => True) G0 H0 := by
 intro G H hr k _
 have sq := VZ hr0 k sq0
 have rs := rs0.keep hr0 k
 refine ⟨fun i x hi => ?_,fun i x v H' hi y => ?_,⟨vs,sq,by rw [rs.length];exact Nat.le_refl _⟩⟩
 ·obtain ⟨v,hv,_⟩ := rs.get hi
  exact ⟨vs,v,sq,hv⟩
 ·obtain ⟨e,y⟩ := y
  subst e
  obtain ⟨w,hw,rw'⟩ := rs.get hi
  have e2 := (y vs sq).symm.trans hw
  cases e2
  exact ⟨rw',hr,Kp.refl⟩
theorem qfe (hl : E3 X l te) : I3 X tg l (YM te) := qcx (qaq hl) fun σ H R ⟨τ,G,r,rl,h,af⟩ => zi rl h fun x G1 h1 v H1 rx hr1 k1 rl1 => by
 cases x <;> try exact h1.elim
 case tup xs =>
  cases rx with
  | tup hs rs => exact ⟨_,rfl,.inr ⟨⟨_,hs⟩,af _ _ G1 h1 _ H1 hr1 k1 (MM hr1 hs rs)⟩⟩
 case ref p =>
  simp only at h1
  split at h1
  ·rename_i xs e0
   cases rx
   obtain ⟨vs,hs,rs⟩ := zP hr1 e0
   exact ⟨_,rfl,.inl ⟨⟨_,hs⟩,af _ _ G1 h1 _ H1 hr1 k1 qai⟩⟩
  ·exact h1.elim
noncomputable def Wr (lo : Int) (n : Nat) : List T := (List.range n).map fun (i : Nat) => T.int (lo + (i : Int))
theorem TJ {K : PySem.W.Frag} {lo : Int} {n : Nat} {G0 : Gp} {H0 : Hp} : LX K (Itr lo n) (Wr lo n) (fun _ => True) G0 H0 := by
 intro G H hr k _
 have hl : (Wr lo n).length = n := by simp [Wr]
 refine ⟨fun i x hi => ?_,fun i x v H' hi y => ?_,(show n ≤ (Wr lo n).length by rw [hl];exact Nat.le_refl n)⟩
 ·have := (List.getElem?_eq_some_iff.mp hi).1
  rw [hl] at this
  exact this
 ·obtain ⟨e,y⟩ := y
  subst e
  subst y
  have h1 := (List.getElem?_eq_some_iff.mp hi).1
  rw [hl] at h1
  unfold Wr at hi
  rw [List.getElem?_map,List.getElem?_range h1] at hi
  have e : T.int (lo + (i : Int)) = x := by simpa using hi
  subst e
  exact ⟨.int _,hr,Kp.refl⟩
noncomputable def zW (ta : TA3) : TI3 := fun τ G r => ta τ G fun xs G1 => match xs with
 | [.int j] => (-(2 ^ 62) ≤ j∧j < 2 ^ 62)∧r (Wr 0 j.toNat) (fun _ => True) G1
 | [.int i,.int j] => (-(2 ^ 62) ≤ i∧i < 2 ^ 62∧-(2 ^ 62) ≤ j∧j < 2 ^ 62)∧r (Wr i (j - i).toNat) (fun _ => True) G1
 | _ => False
theorem Ro {p : Pos} (hg : Gl X "range") (hm : X.mg "range" = none) (ha : A3 X [a] t) (hs : starEach [a] X.env = [(false,eval a X.env)] := by rfl) (h1 : ∀ τ G q,t τ G q → t τ G fun xs G => q xs G∧xs.length = 1) : I3 X tg (.Call (.Name "range" p) [a] [] pos) (zW t) :=
 qcx (XZ hg hm ha hs) fun σ H R ⟨τ,G,r,rl,h,af⟩ => Zu rl (h1 _ _ _ h) fun xs G1 h1 vs H1 rs hr1 k1 rl1 => by
  obtain ⟨h1,hl⟩ := h1
  simp only at h1
  split at h1
  ·obtain ⟨v,rfl,r1⟩ := EC rs
   cases r1
   exact ⟨_,rfl,h1.1.1,h1.1.2,af _ _ G1 h1.2 _ H1 hr1 k1 TJ⟩
  ·simp at hl
  ·exact h1.elim
theorem RC {p : Pos} (hg : Gl X "range") (hm : X.mg "range" = none) (ha : A3 X [a,b] t) (hs : starEach [a,b] X.env = [(false,eval a X.env),(false,eval b X.env)] := by rfl) (hs2 : starEach [b] X.env = [(false,eval b X.env)] := by rfl) (h1 : ∀ τ G q,t τ G q → t τ G fun xs G => q xs G∧xs.length = 2) : I3 X tg (.Call (.Name "range" p) [a,b] [] pos) (zW t) :=
 qcx (WS hg hm ha hs hs2) fun σ H R ⟨τ,G,r,rl,h,af⟩ => Zu rl (h1 _ _ _ h) fun xs G1 h1 vs H1 rs hr1 k1 rl1 => by
  obtain ⟨h1,hl⟩ := h1
  simp only at h1
  split at h1
  ·simp at hl
  ·obtain ⟨v,u,rfl,r1,r2⟩ := qda rs
   cases r1;cases r2
   exact ⟨_,_,rfl,h1.1,af _ _ G1 h1.2 _ H1 hr1 k1 TJ⟩
  ·exact h1.elim
noncomputable def Ul (stay : Gp → Prop) (g : TG3) (tb : TS3) (d : Ends3) : List T → St3 → Gp → Prop
 | [],τ,G => stay G∧d.nx τ G
 | x :: r,τ,G => stay G∧g x τ G fun τ2 G2 => tb { d with nx := Ul stay g tb d r,ct := Ul stay g tb d r,bk := d.nx } τ2 G2
noncomputable def YT (wi : TI3) (g : TG3) (tb : TS3) : TS3 := fun d τ G => wi τ G fun items stay G1 => Ul stay g tb d items τ G1
theorem qf3 {iter : Expr} {body : List Stmt} {wi : TI3} {g : TG3} {tb : TS3} (hp : PassesOwn (model X.prog X.w) X.A X.env X.xe) (hc : X.calm = true) (hi : I3 X tg iter wi) (hg : G3 X tg g) (hb : B3 X body tb)
  (hs : ∀ x,foldedSetIterable iter X.env x = pure x := by intro _;rfl) : S3 X (.For tg iter body [] pos) (YT wi g tb) :=
 Kl (qap hp hc hi hg hb hs) fun D σ H ⟨τ,G,d,rl,h,af⟩ => by
  refine ⟨τ,G,_,rl,h,fun items stay G1 h1 J H1 hr1 k1 ok => ?_⟩
  refine ⟨fun i m σ' H' => m = items.length - i∧i ≤ items.length∧∃ τ' G',Rel X.K τ' G' σ' H'∧Kp G1 H1 G' H'∧Ul stay g tb d (items.drop i) τ' G',⟨_,rfl,Nat.zero_le _,τ,G1,rl.next hr1 k1,Kp.refl,by simpa using h1⟩,?_⟩
  rintro i m σ' H' ⟨rfl,hi,τ',G',rl',k',h'⟩
  by_cases hlt : i < items.length
  ·rw [List.drop_eq_getElem_cons hlt] at h'
   obtain ⟨hst,h'⟩ := h'
   obtain ⟨go,yld,_⟩ := ok G' H' rl'.hp k' hst
   have hx : items[i]? = some items[i] := List.getElem?_eq_getElem hlt
   refine .inr ⟨go i _ hx,fun σ2 H2 => ∃ τ2 G2,Rel X.K τ2 G2 σ2 H2∧Kp G1 H1 G2 H2∧Ul stay g tb d (items.drop (i + 1)) τ2 G2,fun σ2 H2 h2 => ⟨_,by omega,rfl,hlt,h2⟩,fun v H2 y => ?_⟩
   obtain ⟨rv,hr2,k2⟩ := yld i _ v H2 hx y
   have k3 : Kp G1 H1 G' H2 := k'.trans k2
   refine ⟨_,τ',G',_,rv,rl'.next hr2 k2,h',fun τ3 G3 h3 σ3 H3 rl3 k4 => ?_⟩
   have k5 : Kp G H G3 H3 := (k1.trans k3).trans k4
   refine ⟨τ3,G3,_,rl3,h3,⟨fun τ4 G4 h4 σ4 H4 rl4 k6 => ⟨τ4,G4,rl4,(k3.trans k4).trans k6,h4⟩,af.rt.back k5,af.nx.back k5,fun τ4 G4 h4 σ4 H4 rl4 k6 => ⟨τ4,G4,rl4,(k3.trans k4).trans k6,h4⟩⟩⟩
  ·have e : i = items.length := by omega
   subst e
   rw [List.drop_length] at h'
   obtain ⟨_,_,stop⟩ := ok G' H' rl'.hp k' h'.1
   exact .inl ⟨stop,af.nx τ' G' h'.2 σ' H' rl' (k1.trans k')⟩
theorem Eb {stay : Gp → Prop} {g : TG3} {tb : TS3} {d : Ends3} (items : List T) (Pv : Nat → St3 → Gp → Prop) {τ : St3} {G : Gp} (h0 : Pv 0 τ G) (hst : ∀ i τ G,i ≤ items.length → Pv i τ G → stay G)
  (hs : ∀ i x τ G (nx : St3 → Gp → Prop),items[i]? = some x → Pv i τ G → (∀ τ G,Pv (i + 1) τ G → nx τ G) → g x τ G fun τ2 G2 => tb { d with nx := nx,ct := nx,bk := d.nx } τ2 G2)
  (hd : ∀ τ G,Pv items.length τ G → d.nx τ G) : Ul stay g tb d items τ G := by
 have key : ∀ (r : List T) (i : Nat) τ G,items.drop i = r → i ≤ items.length → Pv i τ G → Ul stay g tb d r τ G := by
  intro r
  induction r with
  | nil =>
   intro i τ G e hi p
   have : i = items.length := by have := congrArg List.length e;simp at this;omega
   subst this
   exact ⟨hst _ τ G hi p,hd τ G p⟩
  | cons x r ih =>
   intro i τ G e hi p
   have hl : i < items.length := by
    apply Classical.byContradiction
    intro z
    rw [List.drop_eq_nil_of_le (by omega)] at e
    cases e
   have e' := List.drop_eq_getElem_cons hl
   rw [e] at e'
   injection e' with e1 e2
   refine ⟨hst i τ G hi p,hs i x τ G _ (by rw [List.getElem?_eq_getElem hl,e1]) p fun τ2 G2 p2 => ih (i + 1) τ2 G2 e2.symm hl p2⟩
 exact key items 0 τ G (by simp) (Nat.zero_le _) h0
noncomputable abbrev Sp3 := List T → Gp → Q3 → Prop
noncomputable def lSp (K : PySem.W.Frag) (sp : Sp3) : Sp := fun vs H Q _ => ∃ ts G q,HR K G H∧Rps K H ts vs∧sp ts G q∧Aft K G H q Q
def Fn3 (P : Program) (w : World) (K : PySem.W.Frag) (mg : Str → Option Value) (base : Heap) (k : Nat) (x : Str) (sp : Sp3) : Prop :=
 ∃ f fd ps,FnOk P w K mg base CX0 k f fd ps (lSp K sp)∧zD K fd ps []∧PySem.W.keepIn K (.ref f) = true∧mg x = some (.ref f)
theorem Fn3.mono {P : Program} {w : World} {K : PySem.W.Frag} {mg : Str → Option Value} {base : Heap} {j k : Nat} {x : Str} {sp : Sp3} (F : Fn3 P w K mg base j x sp) (h : j ≤ k) : Fn3 P w K mg base k x sp :=
 let ⟨f,fd,ps,a,b,c,d⟩ := F;⟨f,fd,ps,a.mono h,b,c,d⟩
theorem My {k : Nat} {x : Str} {p : Pos} {sp : Sp3} (F : Fn3 X.prog X.w X.K X.mg X.base k x sp) (hr : Room k X.A) (hg : Gl X x) (ha : A3 X (e :: es) t) (hdb : (x == ("__debug__" : Str)) = false := by decide)
  (he : starEach (e :: es) X.env = (false,eval e X.env) :: starEach es X.env := by rfl) (hpl : (backTo pos (starEach es X.env)).any (·.1) = false := by rfl) : E3 X (.Call (.Name x p) (e :: es) [] pos) (cb3 sp t) := by
 obtain ⟨f,fd,ps,F,b,kp,m⟩ := F
 refine YE (LM F hr hg m kp b .nil qeh ha hdb he hpl) fun σ H Q ⟨τ,G,q,rl,h,af⟩ => Zu rl h fun xs G1 h1 vs H1 rs hr1 k1 rl1 => ?_
 rw [List.append_nil]
 exact ⟨xs,G1,q,hr1,rs,h1,af.back k1⟩
noncomputable def qx (N : List Str) (ts : List T) : St3 := ts.map some ++ List.replicate (N.length - ts.length) none
theorem Ey {K : PySem.W.Frag} {N : List Str} {G : Gp} {H : Hp} {ts : List T} {vs : List V} (hr : HR K G H) (rs : Rps K H ts vs) : Rel K (qx N ts) G (L2.YJ N vs) H := by
 refine ⟨hr,by simp [qx,L2.YJ,rs.length],fun i t e => ?_⟩
 unfold qx at e
 by_cases hi : i < ts.length
 ·rw [List.getElem?_append_left (by simpa using hi),List.getElem?_map] at e
  cases q : ts[i]? with
  | none => rw [q] at e;cases e
  | some z =>
   rw [q] at e
   have e' : z = t := by simpa using e
   subst e'
   obtain ⟨v,hv,r⟩ := rs.get q
   refine ⟨v,?_,r⟩
   unfold L2.YJ
   rw [List.getElem?_append_left (by rw [List.length_map,← rs.length];exact hi),List.getElem?_map,hv]
   rfl
 ·rw [List.getElem?_append_right (by simpa using hi),List.getElem?_replicate] at e
  split at e <;> cases e
theorem qbd {P : Program} {w : World} {K : PySem.W.Frag} {mg : Str → Option Value} {base : Heap} {x qual : Str} {st : Stmt} {f : Addr} {fd : FuncData} {N ps : List Str} {k : Nat} {sp : Sp3} {t3 : TS3} (F : Fun K x qual st f fd) (S : FnScope N ps (qi st)) (bd : zD K fd ps []) (hm : mg x = some (.ref f))
  (body : ∀ (cdv : Value) (A : Around) (outer : List Env) (s : Shared) (H : Hp) (E : XK),Room k (A.deeper (envOfC qual (qi st) s.heap.objs.size f cdv)) →
   B3 (CP CX0 P w K mg base N qual (qi st) f cdv A outer s H E).nox (jm st) t3)
  (read : ∀ ts G q,sp ts G q → ts.length = ps.length∧t3 { nx := fun _ G' => q .non G',rt := q } (qx N ts) G) : Fn3 P w K mg base (k + 1) x sp := by
 refine ⟨f,fd,ps,F.ok S (fun vs H Q E ⟨ts,G,q,h1,h2,h3,h4⟩ => by rw [← h2.length];exact (read ts G q h3).1) fun cdv A outer s H vs Q E hr ⟨ts,G,q,h1,h2,h3,h4⟩ => ?_,bd,F.kp,hm⟩
 refine ⟨_,body cdv A outer s H E hr,qx N ts,G,_,Ey h1 h2,(read ts G q h3).2,⟨fun τ' G' h' σ' H' rl' k' => h4 _ G' h' _ H' .non rl'.hp k',h4,fun _ _ z => z.elim,fun _ _ z => z.elim⟩⟩
noncomputable def Md (xs : List T) : Option Bool := match xs with
 | [] => some true
 | .bl k :: r => (match Md r with | some j => some (k && j) | none => none)
 | _ => none
noncomputable def qd5 (xs : List T) : Option Bool := match xs with
 | [] => some false
 | .bl k :: r => (match qd5 r with | some j => some (k || j) | none => none)
 | _ => none
theorem RI {P : Program} {w : World} {A : Around} {its : List Value} {ks : List Bool} (h : its = ks.map Value.bool) : TruthOf P w A (fun i v => its.toArray[i]? = some v) (fun i => ks.getD i true) := by
 intro i v s Q E hp hq
 subst h
 have hp' : ks[i]?.map Value.bool = some v := by simpa using hp
 cases e : ks[i]? with
 | none => rw [e] at hp';cases hp'
 | some k =>
  rw [e] at hp'
  cases hp'
  have : ks.getD i true = k := by rw [List.getD_eq_getElem?_getD,e];rfl
  have hq : Q (ks.getD i true) s := hq
  rw [this] at hq
  exact wpAny_truthy_bool hq
theorem VH : ∀ {ks : List Bool} {us : List Value},zI (ks.map V.bl) us → us = ks.map Value.bool
 | [],_,r => by cases r;rfl
 | k :: ks,_,r => by
  cases r with
  | cons a b => rw [show _ = Value.bool k from a,VH b];rfl
theorem C8 (ks : List Bool) : ((List.range ks.length).all fun i => ks.getD i true) = ks.all id := by
 induction ks with
 | nil => rfl
 | cons k ks ih =>
  rw [List.length_cons,List.range_succ_eq_map,List.all_cons,List.all_map,List.all_cons]
  congr 1
theorem ZY (hc : X.calm = true) : ZN X (.builtin "all") (fun xs H Q => ∃ (p : Addr) (ks : List Bool),xs = [.ref p]∧SqL X.K H p (ks.map V.bl)∧Q (.bl (ks.all id)) H) := by
 intro pins s σ H xs us Q I r h
 obtain ⟨p,ks,rfl,hq,q⟩ := h
 obtain ⟨u,rfl,rp⟩ := Vx r
 cases (show u = Value.ref p from rp)
 obtain ⟨its,rv,pl,hz⟩ := I.list hq
 have hb := VH rv
 have hlen : its.length = ks.length := by rw [hb];simp
 have hp : p < s.heap.objs.size := by obtain ⟨o,n,e,_⟩ := pl;exact Heap.lt_size e
 refine call_all_walk (wpAny_pyIter_list pl.isList ⟨s.heap.objs.size,_,_,_,_,_,fun i => ks.getD i true,rfl,Walks.list (A := X.A.in1) (show X.A.in1.handled = none from I.ok.hd hc) s.heap.objs.size p (Nat.ne_of_lt hp) its.toArray,⟨⟨_,Heap.get?_push_size _ rfl,rfl,rfl⟩,?_⟩,RI hb,fun h' tk hk => ?_⟩)
 ·obtain ⟨o,n,e,c,_,d⟩ := pl
  exact ⟨o,Heap.get?_push_of_some _ e,c,n,d⟩
 ·refine ⟨.bl _,H,?_,rfl,by rw [List.size_toArray,hlen,C8];exact q⟩
  exact I.kept (h' := h') (t' := tk) fun b o e => hk b o (by simp;exact Nat.ne_of_lt (Heap.lt_size e)) (Heap.get?_push_of_some _ e)
end
end L3
namespace L3
open PySem PySem.Spec PyProof.Rows L2
noncomputable def VE (env : Env) : List (Str × NameKind) → List (Str × Addr) → List (Str × Addr)
 | [],cs => cs
 | (n,k) :: r,cs => if k = .free then VE env r ((n,(env.cells.lookup n).getD 0) :: cs) else VE env r cs
theorem QL {scope : Scope} {env : Env} (h : ∀ y ∈ scope.names,y.2 = .free → ∃ c,env.cells.lookup y.1 = some c) : closureFor scope env = pure (VE env scope.names []) := by
 have key : ∀ (l : List (Str × NameKind)) (cs : List (Str × Addr)),(∀ y ∈ l,y.2 = .free → ∃ c,env.cells.lookup y.1 = some c) →
   (forIn l cs fun (x : Str × NameKind) (r : List (Str × Addr)) => if (x.2 == NameKind.free) = true then (do let a ← cellOf env x.1;pure (ForInStep.yield ((x.1,a) :: r))) else pure (ForInStep.yield r)) = (pure (VE env l cs) : Sem _) := by
  intro l
  induction l with
  | nil => intro cs _;rfl
  | cons y r ih =>
   intro cs hl
   obtain ⟨n,k⟩ := y
   rw [List.forIn_cons]
   by_cases hk : k = .free
   ·subst hk
    obtain ⟨c,hc⟩ := hl (n,.free) List.mem_cons_self rfl
    have e : cellOf env n = pure c := by unfold cellOf;rw [show List.lookup n env.cells = some c from hc]
    simp only [beq_self_eq_true,if_true]
    rw [e,pure_bind,pure_bind]
    show forIn r ((n,c) :: cs) _ = _
    rw [ih _ fun z hz => hl z (List.mem_cons_of_mem _ hz)]
    show _ = (pure (if NameKind.free = NameKind.free then VE env r ((n,(env.cells.lookup n).getD 0) :: cs) else VE env r cs) : Sem _)
    rw [if_pos rfl,show List.lookup n env.cells = some c from hc]
    rfl
   ·have hb : (k == NameKind.free) = false := by cases k <;> first | rfl | exact absurd rfl hk
    simp only [hb,Bool.false_eq_true,if_false]
    rw [pure_bind]
    show forIn r cs _ = _
    rw [ih _ fun z hz => hl z (List.mem_cons_of_mem _ hz)]
    show _ = (pure (if k = NameKind.free then VE env r ((n,(env.cells.lookup n).getD 0) :: cs) else VE env r cs) : Sem _)
    rw [if_neg hk]
 have := key scope.names [] h
 unfold closureFor
 refine Eq.trans ?_ this
 exact bind_pure (m := Sem) _
theorem Jh {env : Env} : ∀ (l : List (Str × NameKind)) (cs : List (Str × Addr)) (x : Str) (c : Addr),(∀ y ∈ l,y.2 = .free → ∃ c,env.cells.lookup y.1 = some c) →
  (∀ x c,cs.lookup x = some c → env.cells.lookup x = some c) → (VE env l cs).lookup x = some c → env.cells.lookup x = some c
 | [],_,_,_,_,h,e => h _ _ e
 | (n,k) :: r,cs,x,c,hl,h,e => by
  unfold VE at e
  split at e
  ·rename_i hk
   refine Jh r _ x c (fun y hy => hl y (List.mem_cons_of_mem _ hy)) (fun x c e => ?_) e
   rw [List.lookup_cons] at e
   split at e
   ·rename_i hx
    have hx' : x = n := by simpa using hx
    subst hx'
    obtain ⟨d,hd⟩ := hl (x,k) List.mem_cons_self hk
    have hd : List.lookup x env.cells = some d := hd
    rw [hd] at e ⊢
    exact e
   ·exact h _ _ e
  ·exact Jh r cs x c (fun y hy => hl y (List.mem_cons_of_mem _ hy)) h e
theorem YG {env : Env} : ∀ (l : List (Str × NameKind)) (cs : List (Str × Addr)) (x : Str),((x,NameKind.free) ∈ l ∨ ∃ c,cs.lookup x = some c) → ∃ c,(VE env l cs).lookup x = some c
 | [],_,_,h => by
  rcases h with h | h
  ·simp at h
  ·exact h
 | (n,k) :: r,cs,x,h => by
  unfold VE
  have put : ∀ d : Addr,(x = n ∨ ∃ c,cs.lookup x = some c) → ∃ c,((n,d) :: cs).lookup x = some c := fun d z => by
   rw [List.lookup_cons]
   cases hx : x == n with
   | true => exact ⟨d,rfl⟩
   | false =>
    rcases z with z | z
    ·rw [z] at hx;simp at hx
    ·exact z
  split
  ·rename_i hk
   refine YG r _ x ?_
   rcases h with h | h
   ·rcases List.mem_cons.mp h with e | e
    ·cases e;exact .inr (put _ (.inl rfl))
    ·exact .inl e
   ·exact .inr (put _ (.inr h))
  ·rename_i hk
   refine YG r _ x ?_
   rcases h with h | h
   ·rcases List.mem_cons.mp h with e | e
    ·cases e;exact absurd rfl hk
    ·exact .inl e
   ·exact .inr h
theorem VY {env : Env} : ∀ (l : List (Str × NameKind)) (cs : List (Str × Addr)) (x : Str) (c : Addr),(VE env l cs).lookup x = some c → (x,NameKind.free) ∈ l ∨ cs.lookup x = some c
 | [],_,_,_,e => .inr e
 | (n,k) :: r,cs,x,c,e => by
  unfold VE at e
  split at e
  ·rename_i hk
   rcases VY r _ x c e with z | z
   ·exact .inl (List.mem_cons_of_mem _ z)
   ·rw [List.lookup_cons] at z
    split at z
    ·rename_i hx
     have hx' : x = n := by simpa using hx
     subst hx';subst hk
     exact .inl List.mem_cons_self
    ·exact .inr z
  ·rcases VY r cs x c e with z | z
   ·exact .inl (List.mem_cons_of_mem _ z)
   ·exact .inr z
theorem JI {α : Type} : ∀ (xs ys : List (Str × α)) (x : Str),(xs ++ ys).lookup x = (match xs.lookup x with | some c => some c | none => ys.lookup x)
 | [],ys,x => rfl
 | (n,c) :: xs,ys,x => by
  rw [List.cons_append,List.lookup_cons,List.lookup_cons]
  cases x == n with
  | true => rfl
  | false => exact JI xs ys x
theorem jc : ∀ (l : List (Str × NameKind)) {n : Nat} {acc : List (Str × Addr)},cellsFrom n l acc = cellsFrom n l [] ++ acc
 | [],_,_ => rfl
 | (x,k) :: r,n,acc => by
  unfold cellsFrom
  split
  ·rw [jc r (acc := (x,n) :: acc),jc r (acc := [(x,n)]),List.append_assoc];rfl
  ·exact jc r
theorem QU : ∀ (l : List (Str × NameKind)) (n : Nat) (acc : List (Str × Addr)) (x : Str) (c : Addr),(x,c) ∈ cellsFrom n l acc → (x,NameKind.cell) ∈ l ∨ (x,c) ∈ acc
 | [],_,_,_,_,h => .inr h
 | (y,k) :: r,n,acc,x,c,h => by
  unfold cellsFrom at h
  split at h
  ·rename_i hk
   have hk : k = .cell := by simpa using hk
   rcases QU r _ _ x c h with z | z
   ·exact .inl (List.mem_cons_of_mem _ z)
   ·rcases List.mem_cons.mp z with e | e
    ·cases e;subst hk;exact .inl List.mem_cons_self
    ·exact .inr e
  ·rcases QU r _ _ x c h with z | z
   ·exact .inl (List.mem_cons_of_mem _ z)
   ·exact .inr z
theorem jM : ∀ (l : List (Str × NameKind)) (n : Nat) (acc : List (Str × Addr)) (x : Str),((x,NameKind.cell) ∈ l ∨ ∃ c,acc.lookup x = some c) → ∃ c,(cellsFrom n l acc).lookup x = some c
 | [],_,_,_,h => by
  rcases h with h | h
  ·simp at h
  ·exact h
 | (y,k) :: r,n,acc,x,h => by
  unfold cellsFrom
  have put : (x = y ∨ ∃ c,acc.lookup x = some c) → ∃ c,((y,n) :: acc).lookup x = some c := fun z => by
   rw [List.lookup_cons]
   cases hx : x == y with
   | true => exact ⟨n,rfl⟩
   | false =>
    rcases z with z | z
    ·rw [z] at hx;simp at hx
    ·exact z
  split
  ·refine jM r _ _ x ?_
   rcases h with h | h
   ·rcases List.mem_cons.mp h with e | e
    ·cases e;exact .inr (put (.inl rfl))
    ·exact .inl e
   ·exact .inr (put (.inr h))
  ·rename_i hk
   refine jM r _ _ x ?_
   rcases h with h | h
   ·rcases List.mem_cons.mp h with e | e
    ·cases e;exact absurd rfl hk
    ·exact .inl e
   ·exact .inr h
theorem jC {M : Model} {A : Around} {E : Value → Shared → Prop} {s : Shared} {scope : Scope} {globals : Addr} {cl : List (Str × Addr)} {qual : Str} {env : Env} {Q : Env → Shared → Prop}
  (hQ : ∀ h₁ : Heap,h₁.Ns s.heap.objs.size (fun _ => none) → (∀ b o,s.heap.get? b = some o → h₁.get? b = some o) → CellsOk h₁ (s.heap.objs.size + 1) (cellsFrom (s.heap.objs.size + 1) scope.names []) → Q (newEnv scope s.heap.objs.size globals (cellsFrom (s.heap.objs.size + 1) scope.names cl) qual none .none (some env) builtinsNs) { s with heap := h₁ }) :
  wpAny M A (newFunctionEnv scope globals cl [] qual none .none (some env)) Q E s := by
 simp only [newFunctionEnv,Option.isSome_some,if_true]
 refine wpAny_bind (wpAny_alloc ?_)
 refine wpAny_bind (wpAny_layCells _ (fun name kind cells => by cases hkc : kind == NameKind.cell <;> simp [hkc]) _ _ _ _ ?_)
 have ok := cellsFrom_ok scope.names (s.heap.push { cls := .type "dict",data := .dict #[] }) (s.heap.objs.size + 1) [] ⟨fun _ _ hm => (nomatch hm),List.Pairwise.nil⟩ (by rw [Heap.size_push];exact Nat.le_refl _)
 rw [Heap.size_push] at ok
 rw [show ({ s with heap := s.heap.push { cls := .type "dict",data := .dict #[] } } : Shared).heap.objs.size = s.heap.objs.size + 1 from Heap.size_push ..]
 rw [List.forIn_nil]
 refine wpAny_bind (wpAny_pure (wpAny_pure ?_))
 exact hQ _ ((Heap.Ns.new s.heap (.type "dict")).keeps (pushCells_keeps _ _)) (fun b o e => pushCells_keeps _ _ b o (Heap.get?_push_of_some _ e)) ok
noncomputable def qj (X : Cx) (N' : List Str) (scope : Scope) (s : Shared) (H : Hp) (fp : List Addr) : Cx where
 prog := X.prog
 w := X.w
 K := X.K
 mg := X.mg
 base := X.base
 A := X.A
 N := N'
 s₀ := s
 H₀ := H
 env := compEnvC scope (cellsFrom (s.heap.objs.size + 1) scope.names (VE X.env scope.names [])) s.heap.objs.size X.env
 outer := X.stack
 stack := X.stack
 ex := fp
 fn := fun x => scope.names.lookup x == some .cell
 calm := true
 pn := []
 xe := fun _ _ => False
noncomputable def WF (outer inner : Scope) : Bool := (inner.kind == .function) && inner.names.all fun y =>
 (y.2 != .cell || inner.names.lookup y.1 == some .cell) && (y.2 != .local || inner.names.lookup y.1 == some .local) && (y.2 != .free || (inner.names.lookup y.1 == some .free && (outer.names.lookup y.1 == some .cell || outer.names.lookup y.1 == some .free)))
noncomputable def cap {α : Type} (m : List (Option Nat)) (σ : List (Option α)) : List (Option α) := m.map fun o => match o with | some j => (σ[j]?).join | none => none
noncomputable def Je (N N' : List Str) (scope : Scope) (m : List (Option Nat)) : Bool := (m.length == N'.length) && (m.zip N').all fun p => match p.1 with
 | none => true
 | some j => N[j]? == some p.2 && scope.names.lookup p.2 == some .free
theorem WU {α : Type} {m : List (Option Nat)} {σ : List (Option α)} {i : Nat} {v : α} (h : (cap m σ)[i]? = some (some v)) : ∃ j,m[i]? = some (some j)∧σ[j]? = some (some v) := by
 unfold cap at h
 rw [List.getElem?_map] at h
 cases e : m[i]? with
 | none => rw [e] at h;cases h
 | some o =>
  rw [e] at h
  cases o with
  | none => cases h
  | some j =>
   refine ⟨j,rfl,?_⟩
   have h' : (σ[j]?).join = some v := by simpa using h
   cases q : σ[j]? with
   | none => rw [q] at h';cases h'
   | some z => rw [q] at h';exact congrArg some h'
theorem C5 {N N' : List Str} {scope : Scope} {m : List (Option Nat)} (h : Je N N' scope m = true) {i j : Nat} {x : Str} (e : m[i]? = some (some j)) (hx : N'[i]? = some x) : N[j]? = some x∧scope.names.lookup x = some .free := by
 unfold Je at h
 rw [Bool.and_eq_true] at h
 have hm : (some j,x) ∈ m.zip N' := List.mem_of_getElem? (i := i) (List.getElem?_zip_eq_some.mpr ⟨e,hx⟩)
 have := List.all_eq_true.mp h.2 _ hm
 simp only [Bool.and_eq_true,beq_iff_eq] at this
 exact this
theorem Lk {N N' : List Str} {scope : Scope} {m : List (Option Nat)} {α : Type} (σ : List (Option α)) (h : Je N N' scope m = true) : (cap m σ).length = N'.length := by
 unfold Je at h
 rw [Bool.and_eq_true] at h
 unfold cap
 rw [List.length_map]
 simpa using h.1
structure ScFacts (outer inner : Scope) : Prop where
 kind : inner.kind = .function
 own : ∀ y ∈ inner.names,y.2 = .cell → inner.names.lookup y.1 = some .cell
 loc : ∀ y ∈ inner.names,y.2 = .local → inner.names.lookup y.1 = some .local
 free : ∀ y ∈ inner.names,y.2 = .free → inner.names.lookup y.1 = some .free∧(outer.names.lookup y.1 = some .cell ∨ outer.names.lookup y.1 = some .free)
theorem Yb {outer inner : Scope} (h : WF outer inner = true) : ScFacts outer inner := by
 unfold WF at h
 rw [Bool.and_eq_true] at h
 have ha := List.all_eq_true.mp h.2
 refine ⟨by simpa using h.1,fun y hy e => ?_,fun y hy e => ?_,fun y hy e => ?_⟩
 ·have := ha y hy
  rw [e] at this
  simpa using this
 ·have := ha y hy
  rw [e] at this
  simpa using this
 ·have := ha y hy
  rw [e] at this
  simpa using this
theorem Qv {scope : Scope} {env : Env} {x : Str} {k : NameKind} (h : (relabel scope env).names.lookup x = some k) : scope.names.lookup x = some k ∨ (k = .cell∧scope.names.lookup x = some .free) := by
 have key : ∀ (l : List (Str × NameKind)),(l.map fun (n,k) => if (k == NameKind.free && env.scope.kind == .function && env.kindOf n == some .cell) then (n,NameKind.cell) else (n,k)).lookup x = some k → l.lookup x = some k ∨ (k = .cell∧l.lookup x = some .free) := by
  intro l
  induction l with
  | nil => intro h;simp at h
  | cons y r ih =>
   intro h
   obtain ⟨n,j⟩ := y
   rw [List.map_cons] at h
   dsimp only at h
   by_cases hc : (j == NameKind.free && env.scope.kind == .function && env.kindOf n == some .cell) = true
   ·rw [if_pos hc,List.lookup_cons] at h
    rw [List.lookup_cons]
    cases hx : x == n with
    | true =>
     rw [hx] at h
     have hk : NameKind.cell = k := by simpa using h
     have hj : j = .free := by simp only [Bool.and_eq_true,beq_iff_eq] at hc;exact hc.1.1
     exact .inr ⟨hk.symm,by rw [hj]⟩
    | false => rw [hx] at h;exact ih h
   ·rw [if_neg hc,List.lookup_cons] at h
    rw [List.lookup_cons]
    cases hx : x == n with
    | true => rw [hx] at h;exact .inl h
    | false => rw [hx] at h;exact ih h
 exact key scope.names h
def PF (X : Cx) (ifs : List Expr) (t : TT) : Prop :=
 ∀ (pins : List (Addr × Obj)) (s : Shared) (σ : L2.St) (H : Hp) (Q : Bool → Hp → Prop),Inv X pins σ H s → t σ H Q →
  wpAny (model X.prog X.w) X.A (forIn ifs true fun c r => if r = true then do let ok ← isTrue c X.env (eval c X.env);pure (ForInStep.yield ok) else pure (ForInStep.yield r)) (TP X pins σ Q) X.xe s
theorem qa7 {X : Cx} : PF X [] (fun _ H Q => Q true H) := fun _ _ _ H _ I h => wpAny_tests_nil ⟨H,I,h⟩
theorem qa5 {X : Cx} {c : Expr} {t : TT} (h : PT X c t) : PF X [c] t := fun pins s σ H Q I q => wpAny_tests_one (h pins s σ H Q I q)
section
variable {X : Cx} {pins : List (Addr × Obj)} {σ : L2.St} {H : Hp} {s : Shared}
theorem Uu {N' : List Str} {scope : Scope} {fp : List Addr} {m : List (Option Nat)} {h1 : Heap} {mm : Str → Option Value} (hc : X.calm = true) (I : Inv X pins σ H s) (sc : ScFacts X.env.scope scope) (hcap : Je X.N N' scope m = true)
  (hfp : ∀ b ∈ fp,E8 X pins H b) (hob : ∀ b ∈ fp,∃ o,s.heap.get? b = some o) (hns : h1.Ns s.heap.objs.size mm) (hk : ∀ b o,s.heap.get? b = some o → h1.get? b = some o) (hown : CellsOk h1 (s.heap.objs.size + 1) (cellsFrom (s.heap.objs.size + 1) scope.names [])) :
  Inv (qj X N' scope s H fp) [] (cap m σ) H { s with heap := h1 } := by
 have hcl : ∀ y ∈ scope.names,y.2 = .free → ∃ c,X.env.cells.lookup y.1 = some c := fun y hy e => by
  rcases (sc.free y hy e).2 with z | z
  ·exact I.ok.has y.1 (.inl z)
  ·exact I.ok.has y.1 (.inr z)
 have cl : ∀ x c,(VE X.env scope.names []).lookup x = some c → X.env.cells.lookup x = some c := fun x c e => Jh scope.names [] x c hcl (fun _ _ z => by simp at z) e
 have clt : ∀ x c,(VE X.env scope.names []).lookup x = some c → c < s.heap.objs.size := fun x c e => by
  obtain ⟨v,q⟩ := I.cell x c (cl x c e)
  exact q.lt
 -- a cell of the block: its own,or one from around
 have cs : ∀ x c,(cellsFrom (s.heap.objs.size + 1) scope.names (VE X.env scope.names [])).lookup x = some c → ((x,c) ∈ cellsFrom (s.heap.objs.size + 1) scope.names []∧s.heap.objs.size + 1 ≤ c∧h1.IsCell c none) ∨ (VE X.env scope.names []).lookup x = some c := fun x c e => by
  rw [jc,JI] at e
  cases q : (cellsFrom (s.heap.objs.size + 1) scope.names []).lookup x with
  | none => rw [q] at e;exact .inr e
  | some d =>
   rw [q] at e
   cases e
   have mem := PySem.mem_of_lookup q
   exact .inl ⟨mem,(hown.empty x _ mem).2,(hown.empty x _ mem).1⟩
 have fpne : ∀ b ∈ fp,b ≠ s.heap.objs.size := fun b hb => let ⟨o,e⟩ := hob b hb;Nat.ne_of_lt (Heap.lt_size e)
 refine ⟨⟨I.ok.mod,sc.kind,I.ok.glob,I.ok.blt,Nat.le_refl _,fun x y c e1 e2 => ?_,fun x hx => ?_,fun x c hf e => ?_,fun _ => I.ok.hd hc,I.ok.frames,.inl rfl,fun b hb => ⟨fpne b hb,fun x c e => ?_⟩,I.bs,Nat.le_trans I.ok.bsz I.sz,fun b o e hb => ?_,fun b hb z => ?_,I.stack,I.stkFree⟩,
  rfl,I.bare,Un.kept hk,⟨mm,hns,fun i x v e1 e2 e3 => ?_⟩,fun x c e => ?_,I.fresh,fun x c e => ?_,fun p hp => absurd (show p ∈ ([] : List (Addr × Obj)) from hp) (by simp),I.hok.kept hk,Lk σ hcap⟩
 ·rcases cs x c e1 with ⟨m1,l1,_⟩ | z1 <;> rcases cs y c e2 with ⟨m2,l2,_⟩ | z2
  ·exact PySem.name_of_addr hown.apart m1 m2
  ·exact absurd (clt y c z2) (Nat.not_lt.mpr (Nat.le_trans (Nat.le_succ _) l1))
  ·exact absurd (clt x c z1) (Nat.not_lt.mpr (Nat.le_trans (Nat.le_succ _) l2))
  ·exact I.ok.inj x y c (cl x c z1) (cl y c z2)
 ·have hx : (relabel scope X.env).names.lookup x = some .cell ∨ (relabel scope X.env).names.lookup x = some .free := hx
  have hf : scope.names.lookup x = some .cell ∨ scope.names.lookup x = some .free := by
   rcases hx with z | z
   ·rcases Qv z with q | ⟨_,q⟩
    ·exact .inl q
    ·exact .inr q
   ·rcases Qv z with q | ⟨q,_⟩
    ·exact .inr q
    ·cases q
  show ∃ c,(cellsFrom (s.heap.objs.size + 1) scope.names (VE X.env scope.names [])).lookup x = some c
  rcases hf with hf | hf
  ·exact jM scope.names _ _ x (.inl (PySem.mem_of_lookup hf))
  ·exact jM scope.names _ _ x (.inr (YG scope.names [] x (.inl (PySem.mem_of_lookup hf))))
 ·have hf : scope.names.lookup x = some .cell := by simpa [qj] using hf
  rcases cs x c e with ⟨_,l1,_⟩ | z1
  ·exact Nat.le_trans (Nat.le_succ _) l1
  ·rcases VY scope.names [] x c z1 with q | q
   ·rw [(sc.free _ q rfl).1] at hf;cases hf
   ·simp at q
 ·rcases cs x c e with ⟨_,l1,_⟩ | z1
  ·obtain ⟨o,eo⟩ := hob b hb
   exact Nat.ne_of_gt (Nat.lt_of_lt_of_le (Heap.lt_size eo) (Nat.le_trans (Nat.le_succ _) l1))
  ·exact (hfp b hb).2.2.2.2.1 x c (cl x c z1)
 ·rcases (hfp b hb).2.2.2.1 with z | z
  ·exact I.ok.noex b o e z
  ·exact absurd (Nat.lt_of_lt_of_le (Heap.lt_size e) (Nat.le_trans I.ok.bsz z)) (Nat.lt_irrefl _)
 ·rcases List.mem_cons.mp (I.stkSub b z) with q | q
  ·exact (hfp b hb).2.1 q
  ·exact (hfp b hb).2.2.1 q
 ·obtain ⟨j,ej,es⟩ := WU e2
  obtain ⟨hN,hfr⟩ := C5 hcap ej e1
  have mem := PySem.mem_of_lookup hfr
  have ho := (sc.free _ mem rfl).2
  obtain ⟨m0,hn0,hl0⟩ := I.loc
  obtain ⟨u,ru,lk⟩ := hl0 j x v hN es (ho.elim (fun z => .inr (.inl z)) fun z => .inr (.inr z))
  refine ⟨u,ru,.inr ⟨?_,?_⟩⟩
  ·rcases e3 with z | z | z
   ·rcases Qv z with q | ⟨q,_⟩
    ·rw [hfr] at q;cases q
    ·cases q
   ·exact .inl z
   ·exact .inr z
  ·rcases lk with ⟨z,_⟩ | ⟨_,c,hc',hcell⟩
   ·have z : X.env.scope.names.lookup x = some .local := z
    rcases ho with q | q <;> (rw [z] at q;cases q)
   ·obtain ⟨c',hc2⟩ := YG (env := X.env) scope.names [] x (.inl mem)
    have e := cl x c' hc2
    rw [hc'] at e
    cases e
    obtain ⟨o,eo,d⟩ := hcell
    refine ⟨c,?_,o,hk c o eo,d⟩
    show (cellsFrom (s.heap.objs.size + 1) scope.names (VE X.env scope.names [])).lookup x = some c
    rw [jc,JI]
    cases q : (cellsFrom (s.heap.objs.size + 1) scope.names []).lookup x with
    | none => exact hc2
    | some d =>
     rcases QU scope.names _ [] x d (PySem.mem_of_lookup q) with z | z
     ·rw [sc.own _ z rfl] at hfr;cases hfr
     ·simp at z
 ·rcases cs x c e with ⟨_,_,z⟩ | z1
  ·exact ⟨none,z⟩
  ·obtain ⟨v,o,eo,d⟩ := I.cell x c (cl x c z1)
   exact ⟨v,o,hk c o eo,d⟩
 ·rcases cs x c e with ⟨_,l1,_⟩ | z1
  ·exact I.hok.fresh (Nat.le_trans (Nat.le_succ _) l1)
  ·exact I.freeC x c (cl x c z1)
theorem JG {N' : List Str} {scope : Scope} {fp : List Addr} {pins' : List (Addr × Obj)} {σ' : L2.St} {H' : Hp} {s' : Shared} {h2 : Heap} (I : Inv X pins σ H s) (hfp : ∀ b ∈ fp,E8 X pins H b) (J : Inv (qj X N' scope s H fp) pins' σ' H' s')
  (sb : Heap.SameBut s.heap.objs.size s'.heap h2) : Inv X pins σ H' { s' with heap := h2 } := by
 have ne : ∀ b o,s.heap.get? b = some o → b ≠ s.heap.objs.size := fun b o e => Nat.ne_of_lt (Heap.lt_size e)
 have g : ∀ b,b ≠ s.heap.objs.size → h2.get? b = s'.heap.get? b := fun b hb => sb.2 b hb
 have hn : H' s.heap.objs.size = none := J.free
 have u : Un (frs X.stack) fp H H' s.heap s'.heap := J.base
 refine I.call' (s' := { s' with heap := h2 }) J.os ⟨fun b o e n hb hx => ?_,fun b o e n hb hx => ?_,u.free,fun b o e hx => ?_,u.tups,u.frzs,u.tbls⟩ (fun a o e => ?_) J.bare fun b hb => ⟨(hfp b hb).2.2.2.1,(hfp b hb).2.1,(hfp b hb).2.2.2.2.1,(hfp b hb).2.2.2.2.2⟩
 ·show h2.get? b = _
  rw [g b (ne b o e)];exact u.keep b o e n hb hx
 ·show ∃ sl,h2.get? b = _
  rw [g b (ne b o e)];exact u.slot b o e n hb hx
 ·show ∃ o',h2.get? b = _
  rw [g b (ne b o e)];exact u.there b o e hx
 ·refine (J.hok a o e).stay (fun b v hb q => ?_) (fun _ q => q) fun _ _ q => q
  have hb' : b ≠ s.heap.objs.size := by
   intro z
   subst z
   rcases hb with z | z
   ·rw [← z] at e;rw [hn] at e;cases e
   ·rw [hn] at z;cases z
  rw [g b hb'];exact q
end
end L3
namespace L3
open PySem PySem.Spec PyProof.Rows L2
noncomputable def tLC (wi : TI) (g : TG) (tif : TT) (te : TE) (m : List (Option Nat)) : TE := fun σ H Q => wi σ H fun J H1 => ∀ D,H1 D = none →
 ∃ W : Nat → Nat → L2.St → Hp → Prop,(∃ n,W 0 n (cap m σ) (upd H1 D (.lst [])))∧∀ i n σ H,W i n σ H →
  (J.stop i H∧Q (.ref D) H) ∨ (J.go i H∧∀ x H',J.yld i H x H' → g x σ H' fun σ2 H2 => tif σ2 H2 fun k H3 =>
   if k = true then te σ2 H3 fun y H4 => ∃ zs,H4 D = some (.lst zs)∧zs.length < sizeLine∧∃ n',n' < n∧W (i + 1) n' σ2 (upd H4 D (.lst (zs ++ [y])))
   else ∃ n',n' < n∧W (i + 1) n' σ2 H3)
section
variable {X : Cx}
theorem qdp {elt tg iter : Expr} {ifs : List Expr} {scope : Scope} {pos : Pos} {N' : List Str} {m : List (Option Nat)} {wi : TI} {g : TG} {tif : TT} {te : TE} (hc : X.calm = true) (hi : PI X tg iter wi)
  (hg : ∀ s H fp,PG (qj X N' scope s H fp) tg g) (hf : ∀ s H fp,PF (qj X N' scope s H fp) ifs tif) (he : ∀ s H fp,PE (qj X N' scope s H fp) elt te)
  (hsc : WF X.env.scope scope = true) (hcap : Je X.N N' scope m = true) (hs : ∀ x,foldedSetIterable iter X.env x = pure x := by intro _;rfl) :
  PE X (.ListComp elt [⟨tg,iter,ifs,0⟩] scope pos) (tLC wi g tif te m) := by
 intro pins s σ H Q I h
 have sc := Yb hsc
 have hcl : ∀ y ∈ scope.names,y.2 = .free → ∃ c,X.env.cells.lookup y.1 = some c := fun y hy e => by
  rcases (sc.free y hy e).2 with z | z
  ·exact I.ok.has y.1 (.inl z)
  ·exact I.ok.has y.1 (.inr z)
 rw [eval_ListComp]
 refine wpAny_comprehension_free (use := none) (g := ⟨tg,iter,ifs,0⟩) (gs := []) rfl hs (QL hcl) sc.kind sc.loc ?_
 show wpAny _ _ (eval iter X.env) _ _ s
 refine thn (hi pins s σ H _ I h) fun v s1 h1 => thn h1 fun itv s2 h2 => ?_
 obtain ⟨it,fp,tn,J,H2,rfl,I2,T,st2,f2,hW⟩ := h2
 refine wpAny_newObj_type ?_
 have hD : H2 s2.heap.objs.size = none := I2.fresh
 obtain ⟨W,⟨n0,w0⟩,turn⟩ := hW _ hD
 generalize hDe : s2.heap.objs.size = D at *
 have I3 : Inv X pins σ (upd H2 D (.lst [])) { s2 with heap := s2.heap.push { cls := .type "list",dict := none,data := .seq ([] : List Value).toArray } } := by
  subst hDe
  exact I2.laid (t' := s2.toks) (fun b u e => Heap.get?_push_of_some _ e) (Nat.le_refl _) ⟨Nat.zero_le _,[],0,.nil,Heap.get?_push_size _ rfl⟩
 have ob2 := T.obj 0 _ st2
 have ob3 : ∀ b ∈ fp,∃ o,(s2.heap.push { cls := .type "list",dict := none,data := .seq ([] : List Value).toArray }).get? b = some o := fun b hb => let ⟨o,e,_⟩ := ob2 b hb;⟨o,Heap.get?_push_of_some _ e⟩
 have f3 : ∀ b ∈ fp,E8 X pins (upd H2 D (.lst [])) b := fun b hb => by
  obtain ⟨o,e,_⟩ := ob2 b hb
  have : b ≠ D := by rw [← hDe];exact Nat.ne_of_lt (Heap.lt_size e)
  exact ⟨by rw [qu this];exact (f2 b hb).1,(f2 b hb).2⟩
 have k23 : ∀ b o,s2.heap.get? b = some o → (s2.heap.push { cls := .type "list",dict := none,data := .seq ([] : List Value).toArray }).get? b = some o := fun b o e => Heap.get?_push_of_some _ e
 generalize hH3 : upd H2 D (.lst []) = H3 at *
 generalize hs3 : ({ s2 with heap := s2.heap.push { cls := .type "list",dict := none,data := .seq ([] : List Value).toArray } } : Shared) = s3 at *
 have ob3 : ∀ b ∈ fp,∃ o,s3.heap.get? b = some o := by rw [← hs3];exact ob3
 have k23 : ∀ b o,s2.heap.get? b = some o → s3.heap.get? b = some o := by rw [← hs3];exact k23
 refine jC fun h₁ hns hk hown => ?_
 have I4 : Inv (qj X N' scope s3 H3 fp) [] (cap m σ) H3 { s3 with heap := h₁ } := Uu hc I3 sc hcap f3 ob3 hns hk hown
 have tn4 : tn 0 h₁ := T.keep _ _ _ st2 fun b hb o e => hk b o (k23 b o e)
 have fr4 : ∀ b ∈ fp,H3 b = none := fun b hb => (f3 b hb).1
 have stat : ∀ {H' : Hp},(∀ b ∈ fp,H' b = none) → ∀ b ∈ fp,E8 (qj X N' scope s3 H3 fp) [] H' b := fun hn b hb => by
  refine ⟨hn b hb,I4.ok.exf b hb |>.1,I4.ok.exfs b hb,.inl hb,fun x c e => (I4.ok.exf b hb).2 x c e,fun p hp => absurd (show p ∈ ([] : List (Addr × Obj)) from hp) (by simp)⟩
 show codeAny (model X.prog X.w) X.A (.compStart (.ListComp elt [⟨tg,iter,ifs,0⟩] scope pos) 0 (.ref it) (.ref D) (qj X N' scope s3 H3 fp).env) (compPost (model X.prog X.w) X.A X.xe none (EP X pins σ Q) (.ref D) s3.heap.objs.size) { s3 with heap := h₁ }
 have loop : codeAny (model X.prog X.w) X.A (.compLoop (.ListComp elt [⟨tg,iter,ifs,0⟩] scope pos) 0 (.ref it) (.ref D) (qj X N' scope s3 H3 fp).env) (compPost (model X.prog X.w) X.A X.xe none (EP X pins σ Q) (.ref D) s3.heap.objs.size) { s3 with heap := h₁ } := by
  refine codeAny_loop rfl (fun n s' => ∃ i σ' H',Inv (qj X N' scope s3 H3 fp) [] σ' H' s'∧tn i s'.heap∧(∀ b ∈ fp,H' b = none)∧W i n σ' H') (fun n s' hI => ?_) n0 ⟨0,cap m σ,H3,I4,tn4,fr4,w0⟩
  show wpAny _ X.A ((compTurn (.ListComp elt [⟨tg,iter,ifs,0⟩] scope pos) 0 (.ref it) (.ref D) (qj X N' scope s3 H3 fp).env).onRaise (fun x => do noteFrame x (qj X N' scope s3 H3 fp).env;theTreesLotGoes x)) _ _ s'
  refine wpAny_noted ?_
  rw [compTurn_list]
  refine wpAny_bind (wpAny_standAt (wpAny_bind ?_))
  obtain ⟨i,σ5,H5,I5,st5,fr5,w5⟩ := hI
  rcases turn i n σ5 H5 w5 with ⟨stop,q⟩ | ⟨go,step⟩
  ·refine thn (T.done (qj X N' scope s3 H3 fp) rfl rfl rfl rfl i [] s' σ5 H5 _ I5 (stat fr5) st5 stop) fun r s6 ⟨hr,I6⟩ => ?_
   subst hr
   refine wpAny_pure ?_
   obtain ⟨mm,hn6,_⟩ := I6.loc
   exact ⟨mm,hn6,fun h' sb => ⟨.ref D,H5,JG I3 f3 I6 sb,rfl,q⟩⟩
  ·refine thn (T.item (qj X N' scope s3 H3 fp) rfl rfl rfl rfl i [] s' σ5 H5 _ I5 (stat fr5) st5 go) fun r s6 ⟨u,hr,h6⟩ => ?_
   subst hr
   refine wpAny_bind (thn h6 fun _ s7 ⟨x,H7,I7,r7,y7,st7,fr7⟩ => ?_)
   have I7' := I7.pinned (stat fr7) (T.obj _ _ st7)
   have again : ∀ {σ8 : L2.St} {H8 : Hp} {s8 : Shared},Inv (qj X N' scope s3 H3 fp) ([] ++ Yl fp s7.heap) σ8 H8 s8 → (∃ n',n' < n∧W (i + 1) n' σ8 H8) →
     ∃ m',m' < n∧∃ i σ' H',Inv (qj X N' scope s3 H3 fp) [] σ' H' s8∧tn i s8.heap∧(∀ b ∈ fp,H' b = none)∧W i m' σ' H' := fun {σ8 H8 s8} I8 ⟨n',hn,w8⟩ => by
    refine ⟨n',hn,i + 1,σ8,H8,I8.unpinned,T.keep _ _ _ st7 fun b hb o e => (I8.pin (b,o) (List.mem_append_right _ (List.mem_append_right _ (zj hb e)))).1,fun b hb => ?_,w8⟩
    obtain ⟨o,e,d⟩ := T.obj _ _ st7 b hb
    exact (I8.pin (b,o) (List.mem_append_right _ (List.mem_append_right _ (zj hb e)))).2.1
   refine wpAny_bind (wpAny_mono (hg s3 H3 fp _ s7 σ5 H7 x u _ I7' r7 (step x H7 y7)) (fun _ s8 ⟨σ8,H8,I8,q8⟩ => ?_) fun _ _ z => z.elim)
   refine wpAny_bind (wpAny_mono (hf s3 H3 fp _ s8 σ8 H8 _ I8 q8) (fun k s9 ⟨H9,I9,q9⟩ => ?_) fun _ _ z => z.elim)
   cases k with
   | false =>
    rw [if_neg Bool.false_ne_true] at q9
    exact wpAny_pure ⟨rfl,again I9 q9⟩
   | true =>
    rw [if_pos rfl] at q9
    refine wpAny_bind (wpAny_bind (wpAny_mono (he s3 H3 fp _ s9 σ8 H9 _ I9 q9) (fun w s10 ⟨y,H10,I10,r10,q10⟩ => ?_) fun _ _ z => z.elim))
    obtain ⟨zs,hz,hl,q10⟩ := q10
    refine wpAny_bind (wpAny_mono (Js (X := qj X N' scope s3 H3 fp) _ s10 σ8 H10 (.ref D) [y] (.ref D) [w] (fun _ H11 => H11 = upd H10 D (.lst (zs ++ [y]))) I10 rfl (.cons r10 .nil) ⟨D,zs,y,rfl,rfl,hz,hl,rfl⟩) (fun _ s11 ⟨_,H11,I11,_,e11⟩ => ?_) fun _ _ z => z.elim)
    subst e11
    exact wpAny_pure (wpAny_pure ⟨rfl,again I11 q10⟩)
 exact codeAny_compStart_list loop (T.self X.A 0 _ _ _ tn4 loop)
end
end L3
namespace L3
open PySem PySem.Spec PyProof.Rows L2
section
variable {K : PySem.W.Frag} {G G' : Gp} {H H' : Hp}
theorem KA {D : Addr} {o : HO} {ws : List V} (hD : H D = some (.lst ws)) {a : Addr} {vs : List V} (h : SqT K H a vs) : SqT K (upd H D o) a vs := by
 rcases h with h | h
 ·refine .inl ?_
  rcases h with h | ⟨ob,h⟩
  ·have : a ≠ D := by intro e;subst e;rw [hD] at h;cases h
   exact .inl (by rw [qu this];exact h)
  ·have : a ≠ D := by intro e;subst e;rw [hD] at h;cases h
   exact .inr ⟨ob,by rw [qu this];exact h⟩
 ·exact .inr h
mutual
theorem Rp.wrD {D : Addr} {o : HO} {ws : List V} (hD : H D = some (.lst ws)) : ∀ {x : T} {v : V},Rp K H x v → Rp K (upd H D o) x v
 | _,_,.non => .non
 | _,_,.bl b => .bl b
 | _,_,.int i => .int i
 | _,_,.str x => .str x
 | _,_,.ref a => .ref a
 | _,_,.tup h hs => .tup (KA hD h) (Rps.wrD hD hs)
theorem Rps.wrD {D : Addr} {o : HO} {ws : List V} (hD : H D = some (.lst ws)) : ∀ {x : List T} {v : List V},Rps K H x v → Rps K (upd H D o) x v
 | _,_,.nil => .nil
 | _,_,.cons a b => .cons (Rp.wrD hD a) (Rps.wrD hD b)
end
theorem HR.wrD {D : Addr} {o : HO} {ws : List V} (hr : HR K G H) (hD : H D = some (.lst ws)) (g : G D = none) : HR K G (upd H D o) := fun a ob e => by
 have ha : a ≠ D := by intro z;subst z;rw [g] at e;cases e
 have q := hr a ob e
 cases ob with
 | lst xs => obtain ⟨vs,h1,h2⟩ := q;exact ⟨vs,by rw [qu ha];exact h1,h2.wrD hD⟩
 | frz xs => obtain ⟨vs,⟨o1,h1⟩,h2⟩ := q;exact ⟨vs,⟨o1,by rw [qu ha];exact h1⟩,h2.wrD hD⟩
theorem Rel.wrD {D : Addr} {o : HO} {ws : List V} {τ : St3} {σ : L2.St} (r : Rel K τ G σ H) (hD : H D = some (.lst ws)) (g : G D = none) : Rel K τ G σ (upd H D o) :=
 ⟨r.hp.wrD hD g,r.len,fun i t e => let ⟨v,h1,h2⟩ := r.st i t e;⟨v,h1,h2.wrD hD⟩⟩
theorem Kp.wrD {D : Addr} {o : HO} (k : Kp G H G' H') (hD : H D = none) : Kp G H G' (upd H' D o) := fun a ob h g => by
 obtain ⟨h1,h2⟩ := k a ob h g
 exact ⟨by rw [qu (qp h hD)];exact h1,h2⟩
theorem CW {α : Type} {m : List (Option Nat)} {σ : List (Option α)} {i j : Nat} (h : m[i]? = some (some j)) : (cap m σ)[i]? = some ((σ[j]?).join) := by
 unfold cap;rw [List.getElem?_map,h];rfl
theorem Rel.cap {τ : St3} {σ : L2.St} (r : Rel K τ G σ H) (m : List (Option Nat)) : Rel K (cap m τ) G (L3.cap m σ) H := by
 refine ⟨r.hp,by simp [L3.cap],fun i t e => ?_⟩
 obtain ⟨j,e1,e2⟩ := WU e
 obtain ⟨v,h1,h2⟩ := r.st j t e2
 exact ⟨v,by rw [CW e1,h1];rfl,h2⟩
end
noncomputable def Xz (stay : Gp → Prop) (g : TG3) (tif : TT3) (te : TE3) (q : Q3) : List T → List T → St3 → Gp → Prop
 | [],ys,_,G => stay G∧∀ p,G p = none → q (.ref p) (gu G p (.lst ys))
 | x :: r,ys,τ,G => stay G∧g x τ G fun τ2 G2 => tif τ2 G2 fun k G3 => if k = true then te τ2 G3 fun y G4 => ys.length < sizeLine∧Xz stay g tif te q r (ys ++ [y]) τ2 G4 else Xz stay g tif te q r ys τ2 G3
noncomputable def lc3 (wi : TI3) (g : TG3) (tif : TT3) (te : TE3) (m : List (Option Nat)) : TE3 := fun τ G q => wi τ G fun items stay G1 => Xz stay g tif te q items [] (cap m τ) G1
abbrev F3 (X : Cx) (ifs : List Expr) (t : TT3) : Prop := PF X ifs (lT X.K t)
noncomputable def tt3 : TT3 := fun _ G q => q true G
theorem qeq {X : Cx} : F3 X [] tt3 := fun pins s σ H Q I ⟨τ,G,q,rl,h,af⟩ => qa7 pins s σ H Q I (af true G h H rl.hp Kp.refl)
theorem qe3 {X : Cx} {c : Expr} {t : TT3} (h : C3 X c t) : F3 X [c] t := qa5 h
section
variable {X : Cx}
theorem qhr {elt tg iter : Expr} {ifs : List Expr} {scope : Scope} {pos : Pos} (N' : List Str) (m : List (Option Nat)) {wi : TI3} {g : TG3} {tif : TT3} {te : TE3} (hc : X.calm = true) (hi : I3 X tg iter wi)
  (hg : ∀ s H fp,G3 (qj X N' scope s H fp) tg g) (hf : ∀ s H fp,F3 (qj X N' scope s H fp) ifs tif) (he : ∀ s H fp,E3 (qj X N' scope s H fp) elt te)
  (hsc : WF X.env.scope scope = true) (hcap : Je X.N N' scope m = true) (hs : ∀ x,foldedSetIterable iter X.env x = pure x := by intro _;rfl) :
  E3 X (.ListComp elt [⟨tg,iter,ifs,0⟩] scope pos) (lc3 wi g tif te m) :=
 YE (qdp (g := lG X.K g) (tif := lT X.K tif) (te := lE X.K te) hc hi hg hf he hsc hcap hs) fun σ H Q ⟨τ,G,q,rl,h,af⟩ => by
  refine ⟨τ,G,_,rl,h,fun items stay G1 h1 J H1 hr1 k1 ok D hD => ?_⟩
  have gD : G1 D = none := hr1.free hD
  refine ⟨fun i n σ' H' => n = items.length - i∧i ≤ items.length∧∃ τ' G' ys vs,Rel X.K τ' G' σ' H'∧Kp G1 H1 G' H'∧H' D = some (.lst vs)∧Rps X.K H' ys vs∧G' D = none∧Xz stay g tif te q (items.drop i) ys τ' G',
   ⟨_,rfl,Nat.zero_le _,cap m τ,G1,[],[],((rl.next hr1 k1).cap m).next (hr1.laid hD) (Kp.laid hD),Kp.laid hD,qW,.nil,gD,by simpa using h1⟩,?_⟩
  rintro i n σ' H' ⟨rfl,hi,τ',G',ys,vs,rl',k',hDl,rys,gD',h'⟩
  by_cases hlt : i < items.length
  ·rw [List.drop_eq_getElem_cons hlt] at h'
   obtain ⟨hst,h'⟩ := h'
   obtain ⟨go,yld,_⟩ := ok G' H' rl'.hp k' hst
   have hx : items[i]? = some items[i] := List.getElem?_eq_getElem hlt
   refine .inr ⟨go i _ hx,fun v H2 y => ?_⟩
   obtain ⟨rv,hr2,k2⟩ := yld i _ v H2 hx y
   have nxt : ∀ {τ4 : St3} {G4 : Gp} {σ4 : L2.St} {H4 : Hp} {ys4 : List T} {vs4 : List V},Rel X.K τ4 G4 σ4 H4 → Kp G1 H1 G4 H4 → H4 D = some (.lst vs4) → Rps X.K H4 ys4 vs4 → G4 D = none → Xz stay g tif te q (items.drop (i + 1)) ys4 τ4 G4 →
     ∃ n',n' < items.length - i∧(n' = items.length - (i + 1)∧i + 1 ≤ items.length∧∃ τ' G' ys vs,Rel X.K τ' G' σ4 H4∧Kp G1 H1 G' H4∧H4 D = some (.lst vs)∧Rps X.K H4 ys vs∧G' D = none∧Xz stay g tif te q (items.drop (i + 1)) ys τ' G') :=
    fun {τ4 G4 σ4 H4 ys4 vs4} a b c d e f => ⟨_,by omega,rfl,hlt,τ4,G4,ys4,vs4,a,b,c,d,e,f⟩
   refine ⟨_,τ',G',_,rv,rl'.next hr2 k2,h',fun τ3 G3 h3 σ3 H3 rl3 k3 => ⟨τ3,G3,_,rl3,h3,fun k G4 h4 H4 hr4 k4 => ?_⟩⟩
   have kk := (k2.trans k3).trans k4
   obtain ⟨hD4,gD4⟩ := kk D _ hDl gD'
   have rys4 := rys.keep rl'.hp kk
   cases k with
   | false =>
    rw [if_neg Bool.false_ne_true] at h4
    refine qdj ?_
    exact nxt (rl3.next hr4 k4) (k'.trans kk) hD4 rys4 gD4 h4
   | true =>
    rw [if_pos rfl] at h4
    refine qdk ?_
    refine ⟨τ3,G4,_,rl3.next hr4 k4,h4,fun z G5 h5 w H5 rw5 hr5 k5 => ?_⟩
    obtain ⟨hD5,gD5⟩ := k5 D _ hD4 gD4
    have rys5 := rys4.keep hr4 k5
    exact ⟨vs,hD5,by rw [← rys.length];exact h5.1,nxt (((rl3.next hr4 k4).next hr5 k5).wrD hD5 gD5) (((k'.trans kk).trans k5).wrD hD) qW ((rys5.append (.cons rw5 .nil)).wrD hD5) gD5 h5.2⟩
  ·have e : i = items.length := by omega
   subst e
   rw [List.drop_length] at h'
   obtain ⟨_,_,stop⟩ := ok G' H' rl'.hp k' h'.1
   refine .inl ⟨stop,af _ _ (h'.2 D gD') _ H' (.ref D) (fun a o e => ?_) fun a o e ga => ?_⟩
   ·by_cases ha : a = D
    ·subst ha
     rw [qD] at e;cases e
     exact ⟨vs,hDl,rys⟩
    ·rw [j9 ha] at e
     exact rl'.hp a o e
   ·obtain ⟨e1,g1⟩ := k1 a o e ga
    obtain ⟨e2,g2⟩ := k' a o e1 g1
    exact ⟨e2,by rw [j9 (qp e1 hD)];exact g2⟩
end
end L3
namespace L3
open PySem PySem.Spec PyProof.Rows L2
structure Src (P : Program) (w : World) (it c : Addr) (St : Nat → Heap → Prop) (Has : Array Value → Heap → Prop) : Prop where
 obj : ∀ {k h},St k h → ∃ o,h.get? it = some o∧∀ v,o.data ≠ .cell v
 keep : ∀ {k h h'},St k h → (∀ o,h.get? it = some o → h'.get? it = some o) → St k h'
 hkeep : ∀ {xs h h'},Has xs h → (∀ o,h.get? c = some o → h'.get? c = some o) → Has xs h'
 item : ∀ {A : Around} {s : Shared} {k : Nat} {xs : Array Value} {x : Value} {Q : Value → Shared → Prop} {E : Value → Shared → Prop},St k s.heap → Has xs s.heap → xs[k]? = some x →
  (∀ h',St (k + 1) h' → Heap.SameBut it s.heap h' → Q x { s with heap := h' }) → wpAny (model P w) A (Builtin.SmallTypes.nextOf (.ref it)) Q E s
 done : ∀ {A : Around} {s : Shared} {k : Nat} {xs : Array Value} {Q : Value → Shared → Prop} {E : Value → Shared → Prop},A.handled = none → St k s.heap → Has xs s.heap → xs[k]? = none →
  (∀ h' e,Heap.ExtBut it s.heap h' → (∃ o,h'.get? e = some o∧o.cls = .type "StopIteration") → E (.ref e) { s with heap := h' }) → wpAny (model P w) A (Builtin.SmallTypes.nextOf (.ref it)) Q E s
theorem Rv {P : Program} {w : World} (it l : Addr) : Src P w it l (fun k h => h.IsListIter it l k) (fun xs h => h.IsList l xs) where
 obj := fun st => let ⟨o,e,_,d⟩ := st;⟨o,e,fun v z => by rw [d] at z;cases z⟩
 keep := fun st k => st.at fun o e => k o e
 hkeep := fun st k => st.at fun o e => k o e
 item := fun st hl hx hQ => wpAny_nextOf_list_item st hl hx hQ
 done := fun hh st hl hx hE => wpAny_nextOf_list_end hh st hl hx hE
theorem Ww {P : Program} {w : World} {A : Around} {s : Shared} {it t : Addr} {i : Nat} {its : Array Value} {x : Value} {Q : Value → Shared → Prop} {E : Value → Shared → Prop} (hit : s.heap.IsTupleIter it t i) (ht : s.heap.IsTuple t its) (hx : its[i]? = some x)
  (hQ : ∀ h',h'.IsTupleIter it t (i + 1) → Heap.SameBut it s.heap h' → Q x { s with heap := h' }) : wpAny (model P w) A (Builtin.SmallTypes.nextOf (.ref it)) Q E s := by
 obtain ⟨o1,e1,c1,d1⟩ := id hit
 obtain ⟨o2,e2,_,n2,d2⟩ := ht
 unfold Builtin.SmallTypes.nextOf
 refine wpAny_bind (wpAny_callSpecial?_slot (name := Str.ofString "__next__") hit.typeIs F.slot_tuple_iterator_next (wpAny_call_entry F.slot_tuple_iterator_next hit.typeIs F.entry_tuple_iterator_next ?_ (F.args_tuple_iterator_next_1 _)))
 refine wpAny_bind (m := field (.ref it) 0) (wpAny_field e1 d1 (x := .ref t) rfl ?_)
 rw [if_neg (show ¬ ((Value.ref t == Value.none) = true) by exact Bool.false_ne_true)]
 refine wpAny_bind (m := field (.ref it) 1) (wpAny_field e1 d1 (x := .int i 0) rfl ?_)
 refine wpAny_bind (m := seqItems? (.ref t)) (wpAny_seqItems e2 d2 ?_)
 simp only [Int.toNat_natCast,hx]
 refine wpAny_bind (wpAny_setField e1 d1 (by simp) (wpAny_pure ⟨x,rfl,wpAny_pure (hQ _ ⟨_,Heap.get?_update_self _ e1 (Obj.isFreed_of_fields (Obj.data_mapFields d1 _)),(Obj.cls_mapFields ..).trans c1,?_⟩ (Heap.SameBut.update ..))⟩))
 rw [Obj.data_mapFields d1];simp [rawInt]
theorem Vw {P : Program} {w : World} {A : Around} {s : Shared} {it t : Addr} {i : Nat} {its : Array Value} {Q : Value → Shared → Prop} {E : Value → Shared → Prop} (hh : A.handled = none) (hit : s.heap.IsTupleIter it t i) (ht : s.heap.IsTuple t its) (hx : its[i]? = none)
  (hE : ∀ h' e,Heap.ExtBut it s.heap h' → (∃ o,h'.get? e = some o∧o.cls = .type "StopIteration") → E (.ref e) { s with heap := h' }) : wpAny (model P w) A (Builtin.SmallTypes.nextOf (.ref it)) Q E s := by
 obtain ⟨o1,e1,c1,d1⟩ := id hit
 obtain ⟨o2,e2,_,n2,d2⟩ := ht
 unfold Builtin.SmallTypes.nextOf
 refine wpAny_bind (wpAny_callSpecial?_slot (name := Str.ofString "__next__") hit.typeIs F.slot_tuple_iterator_next (wpAny_call_entry F.slot_tuple_iterator_next hit.typeIs F.entry_tuple_iterator_next ?_ (F.args_tuple_iterator_next_1 _)))
 refine wpAny_bind (m := field (.ref it) 0) (wpAny_field e1 d1 (x := .ref t) rfl ?_)
 rw [if_neg (show ¬ ((Value.ref t == Value.none) = true) by exact Bool.false_ne_true)]
 refine wpAny_bind (m := field (.ref it) 1) (wpAny_field e1 d1 (x := .int i 0) rfl ?_)
 refine wpAny_bind (m := seqItems? (.ref t)) (wpAny_seqItems e2 d2 ?_)
 simp only [Int.toNat_natCast,hx]
 refine wpAny_bind (wpAny_rule (wpAny_bind (wpAny_setField e1 d1 (by simp) ?_)))
 refine wpAny_bind (m := newExc (.type "StopIteration") []) ?_
 simp only [newExc,newTuple]
 refine wpAny_bind (wpAny_newObj_type ?_ (by size_fits))
 refine wpAny_bind (m := firstArgMember _ _) (wpAny_of_eq (a := Value.none) (by first | rfl | (simp only [firstArgMember] <;> rfl)) (wpAny_newObj_type ?_ (by size_fits)))
 simp only [raiseNew]
 refine wpAny_bind (wpAny_handled ?_)
 first | rw [show A.in1.handled = Option.none from hh] | rw [show A.handled = Option.none from hh]
 exact wpAny_bind (wpAny_pure (wpAny_throw (hE _ _ (((Heap.SameBut.update ..).extBut.push _).push _) ⟨_,Heap.get?_push_size _ rfl,rfl⟩)))
theorem KW {P : Program} {w : World} (it t : Addr) : Src P w it t (fun k h => h.IsTupleIter it t k) (fun xs h => h.IsTuple t xs) where
 obj := fun st => let ⟨o,e,_,d⟩ := st;⟨o,e,fun v z => by rw [d] at z;cases z⟩
 keep := fun st k => st.at fun o e => k o e
 hkeep := fun st k => st.at fun o e => k o e
 item := fun st hl hx hQ => Ww st hl hx hQ
 done := fun hh st hl hx hE => Vw hh st hl hx hE
structure ZA (z ti to i1 i2 c1 c2 : Addr) : Prop where
 ne : ([z,ti,to,i1,i2] : List Addr).Nodup
 a1 : c1 ∉ [z,to,i1,i2]
 a2 : c2 ∉ [z,to,i1,i2]
section
variable {P : Program} {w : World} {A : Around} {s : Shared} {z ti to i1 i2 c1 c2 : Addr} {S1 S2 : Nat → Heap → Prop} {H1 H2 : Array Value → Heap → Prop} {k1 k2 : Nat} {xs ys : Array Value} {x y a b : Value} {E : Value → Shared → Prop}
theorem Rh {Q : Value → Shared → Prop} (R1 : Src P w i1 c1 S1 H1) (R2 : Src P w i2 c2 S2 H2) (D : ZA z ti to i1 i2 c1 c2) (hz : IsZip s.heap z ti to .none) (hi : IsPair s.heap ti (.ref i1) (.ref i2)) (ho : IsPair s.heap to a b)
  (p1 : S1 k1 s.heap) (p2 : S2 k2 s.heap) (l1 : H1 xs s.heap) (l2 : H2 ys s.heap) (hx : xs[k1]? = some x) (hy : ys[k2]? = some y)
  (hQ : ∀ h',IsZip h' z ti to (rawInt s.heap.objs.size) → IsPair h' to x y → S1 (k1 + 1) h' → S2 (k2 + 1) h' → IsPair h' s.heap.objs.size x y → (∀ c o,c ∉ [z,to,i1,i2] → s.heap.get? c = some o → h'.get? c = some o) → Q (.ref s.heap.objs.size) { s with heap := h' }) :
  wpAny (model P w) A (Builtin.«zip.__next__» ⟨[.ref z],[]⟩) (fun fin s' => ∃ v,fin = .done (.ret v)∧Q v s') E s := by
 have ne := D.ne
 simp only [List.nodup_cons,List.mem_cons,List.not_mem_nil,not_or,or_false] at ne
 obtain ⟨⟨n1,n2,n3,n4⟩,⟨n5,n6,n7⟩,⟨n8,n9⟩,n10,_⟩ := ne
 have a1 := D.a1
 have a2 := D.a2
 simp only [List.mem_cons,List.not_mem_nil,not_or,or_false] at a1 a2
 obtain ⟨q1,q2,q3,q4⟩ := a1
 obtain ⟨r1,r2,r3,r4⟩ := a2
 refine wpAny_bind (m := field (.ref z) 2) (wpAny_field hz rfl (x := .bool false) rfl ?_)
 refine wpAny_bind (m := field (.ref z) 3) (wpAny_field hz rfl (x := .ref ti) rfl ?_)
 refine wpAny_bind (wpAny_seqItems hi rfl ?_)
 refine wpAny_bind (m := Builtin.SmallTypes.ownedTupleIsFree (.ref z)) ?_
 unfold Builtin.SmallTypes.ownedTupleIsFree
 refine wpAny_bind (wpAny_field hz rfl (x := Value.none) rfl (wpAny_pure ?_))
 simp only [if_true]
 refine wpAny_bind (wpAny_rule (wpAny_bind (wpAny_field hz rfl (x := .ref to) rfl (wpAny_bind (wpAny_setField_rec hz (by simp) fun g1 z1 s1 => ?_)))))
 replace z1 : IsZip g1 z ti to Value.ellipsis := z1
 refine wpAny_bind ?_
 simp only [List.zipIdx_cons,List.zipIdx_nil,List.forIn_cons,List.forIn_nil]
 refine wpAny_bind (wpAny_bind (wpAny_onRaise (wpAny_bind (m := Builtin.SmallTypes.nextOf (.ref i1)) ?_)))
 refine R1.item (R1.keep p1 fun o e => s1.extBut _ _ (Ne.symm n3) e) (R1.hkeep l1 fun o e => s1.extBut _ _ q1 e) hx fun g2 p12 s2 => wpAny_pure ?_
 have t2 : IsPair g2 to a b := s2.extBut _ _ n8 (s1.extBut _ _ (Ne.symm n2) ho)
 refine wpAny_bind (wpAny_seqItems t2 rfl (wpAny_bind (wpAny_updateSeq_pair t2 fun g3 t3 s3 => ?_)))
 replace t3 : IsPair g3 to x b := t3
 refine wpAny_bind (wpAny_letGo (wpAny_pure (wpAny_bind (wpAny_bind (wpAny_onRaise (wpAny_bind (m := Builtin.SmallTypes.nextOf (.ref i2)) ?_))))))
 refine R2.item (R2.keep p2 fun o e => s3.extBut _ _ (Ne.symm n9) (s2.extBut _ _ (Ne.symm n10) (s1.extBut _ _ (Ne.symm n4) e))) (R2.hkeep l2 fun o e => s3.extBut _ _ r2 (s2.extBut _ _ r3 (s1.extBut _ _ r1 e))) hy fun g4 p24 s4 => wpAny_pure ?_
 have t4 : IsPair g4 to x b := s4.extBut _ _ n9 t3
 refine wpAny_bind (wpAny_seqItems t4 rfl (wpAny_bind (wpAny_updateSeq_pair t4 fun g5 t5 s5 => ?_)))
 replace t5 : IsPair g5 to x y := t5
 refine wpAny_bind (wpAny_letGo (wpAny_pure (wpAny_pure (wpAny_bind (wpAny_seqItems t5 rfl (wpAny_bind (wpAny_newTuple ?_)))))))
 have sz : g5.objs.size = s.heap.objs.size := by rw [s5.1,s4.1,s3.1,s2.1,s1.1]
 have z5 : IsZip g5 z ti to Value.ellipsis := s5.extBut _ _ n2 (s4.extBut _ _ n4 (s3.extBut _ _ n2 (s2.extBut _ _ n3 z1)))
 have kk : ∀ c o,c ∉ [z,to,i1,i2] → s.heap.get? c = some o → g5.get? c = some o := fun c o hc e => by
  simp only [List.mem_cons,List.not_mem_nil,not_or,or_false] at hc
  exact s5.extBut _ _ hc.2.1 (s4.extBut _ _ hc.2.2.2 (s3.extBut _ _ hc.2.1 (s2.extBut _ _ hc.2.2.1 (s1.extBut _ _ hc.1 e))))
 have p15 : S1 (k1 + 1) g5 := R1.keep p12 fun o e => s5.extBut _ _ (Ne.symm n8) (s4.extBut _ _ n10 (s3.extBut _ _ (Ne.symm n8) e))
 have p25 : S2 (k2 + 1) g5 := R2.keep p24 fun o e => s5.extBut _ _ (Ne.symm n9) e
 have zlt : z < g5.objs.size := Heap.lt_size z5
 refine wpAny_bind (m := Builtin.SmallTypes.ownedTupleHandOut (.ref z) (.ref g5.objs.size)) ?_
 unfold Builtin.SmallTypes.ownedTupleHandOut
 have z6 : IsZip (g5.push { cls := .type "tuple",data := .seq #[x,y] }) z ti to Value.ellipsis := Heap.get?_push_of_some _ z5
 refine wpAny_bind (wpAny_setField_rec z6 (by simp) fun g7 z7 s7 => ?_)
 replace z7 : IsZip g7 z ti to (rawInt g5.objs.size) := z7
 refine wpAny_setField_rec z7 (by simp) fun g8 z8 s8 => ?_
 replace z8 : IsZip g8 z ti to (rawInt g5.objs.size) := z8
 have up : ∀ c o,c ≠ z → g5.get? c = some o → g8.get? c = some o := fun c o hc e => s8.extBut _ _ hc (s7.extBut _ _ hc (Heap.get?_push_of_some _ e))
 have t8 : IsPair g8 g5.objs.size x y := s8.extBut _ _ (Nat.ne_of_gt zlt) (s7.extBut _ _ (Nat.ne_of_gt zlt) (Heap.get?_push_size _ rfl))
 rw [sz] at z8 t8
 refine wpAny_pure ⟨_,rfl,?_⟩
 show Q (Value.ref g5.objs.size) _
 rw [sz]
 exact hQ g8 z8 (up _ _ (Ne.symm n2) t5) (R1.keep p15 fun o e => up _ o (Ne.symm n3) e) (R2.keep p25 fun o e => up _ o (Ne.symm n4) e) t8 fun c o hc e => up c o (fun q => hc (by simp [q])) (kk c o hc e)
theorem Lq {Q : Fin → Shared → Prop} (hh : A.handled = none) (R1 : Src P w i1 c1 S1 H1) (R2 : Src P w i2 c2 S2 H2) (D : ZA z ti to i1 i2 c1 c2) (hz : IsZip s.heap z ti to .none) (hi : IsPair s.heap ti (.ref i1) (.ref i2)) (ho : IsPair s.heap to a b)
  (p1 : S1 k1 s.heap) (p2 : S2 k2 s.heap) (l1 : H1 xs s.heap) (l2 : H2 ys s.heap) (hend : xs[k1]? = none ∨ ys[k2]? = none)
  (hE : ∀ h' e,(∀ c o,c ∉ [z,to,i1,i2] → s.heap.get? c = some o → h'.get? c = some o) → (∃ o,h'.get? e = some o∧o.cls = .type "StopIteration") → E (.ref e) { s with heap := h' }) :
  wpAny (model P w) A (Builtin.«zip.__next__» ⟨[.ref z],[]⟩) Q E s := by
 have ne := D.ne
 simp only [List.nodup_cons,List.mem_cons,List.not_mem_nil,not_or,or_false] at ne
 obtain ⟨⟨n1,n2,n3,n4⟩,⟨n5,n6,n7⟩,⟨n8,n9⟩,n10,_⟩ := ne
 have a1 := D.a1
 have a2 := D.a2
 simp only [List.mem_cons,List.not_mem_nil,not_or,or_false] at a1 a2
 obtain ⟨q1,q2,q3,q4⟩ := a1
 obtain ⟨r1,r2,r3,r4⟩ := a2
 refine wpAny_bind (m := field (.ref z) 2) (wpAny_field hz rfl (x := .bool false) rfl ?_)
 refine wpAny_bind (m := field (.ref z) 3) (wpAny_field hz rfl (x := .ref ti) rfl ?_)
 refine wpAny_bind (wpAny_seqItems hi rfl ?_)
 refine wpAny_bind (m := Builtin.SmallTypes.ownedTupleIsFree (.ref z)) ?_
 unfold Builtin.SmallTypes.ownedTupleIsFree
 refine wpAny_bind (wpAny_field hz rfl (x := Value.none) rfl (wpAny_pure ?_))
 simp only [if_true]
 refine wpAny_bind (wpAny_rule (wpAny_bind (wpAny_field hz rfl (x := .ref to) rfl (wpAny_bind (wpAny_setField_rec hz (by simp) fun g1 z1 s1 => ?_)))))
 replace z1 : IsZip g1 z ti to Value.ellipsis := z1
 refine wpAny_bind ?_
 simp only [List.zipIdx_cons,List.zipIdx_nil,List.forIn_cons,List.forIn_nil]
 refine wpAny_bind (wpAny_bind (wpAny_onRaise (wpAny_bind (m := Builtin.SmallTypes.nextOf (.ref i1)) ?_)))
 cases hx : xs[k1]? with
 | none =>
  refine R1.done hh (R1.keep p1 fun o e => s1.extBut _ _ (Ne.symm n3) e) (R1.hkeep l1 fun o e => s1.extBut _ _ q1 e) hx fun g2 e s2 ⟨oe,he,ce⟩ => ?_
  have z2 : IsZip g2 z ti to Value.ellipsis := s2 _ _ n3 z1
  have ez : e ≠ z := fun q => by subst q;rw [z2] at he;cases he;simp at ce
  refine wpAny_setField_rec z2 (by simp) fun g3 _ s3 => hE g3 e (fun c o hc q => ?_) ⟨oe,s3.extBut _ _ ez he,ce⟩
  simp only [List.mem_cons,List.not_mem_nil,not_or,or_false] at hc
  exact s3.extBut _ _ hc.1 (s2 _ _ hc.2.2.1 (s1.extBut _ _ hc.1 q))
 | some x =>
  have hy : ys[k2]? = none := by rcases hend with q | q;rw [hx] at q;cases q;exact q
  refine R1.item (R1.keep p1 fun o e => s1.extBut _ _ (Ne.symm n3) e) (R1.hkeep l1 fun o e => s1.extBut _ _ q1 e) hx fun g2 p12 s2 => wpAny_pure ?_
  have t2 : IsPair g2 to a b := s2.extBut _ _ n8 (s1.extBut _ _ (Ne.symm n2) ho)
  refine wpAny_bind (wpAny_seqItems t2 rfl (wpAny_bind (wpAny_updateSeq_pair t2 fun g3 t3 s3 => ?_)))
  refine wpAny_bind (wpAny_letGo (wpAny_pure (wpAny_bind (wpAny_bind (wpAny_onRaise (wpAny_bind (m := Builtin.SmallTypes.nextOf (.ref i2)) ?_))))))
  refine R2.done hh (R2.keep p2 fun o e => s3.extBut _ _ (Ne.symm n9) (s2.extBut _ _ (Ne.symm n10) (s1.extBut _ _ (Ne.symm n4) e))) (R2.hkeep l2 fun o e => s3.extBut _ _ r2 (s2.extBut _ _ r3 (s1.extBut _ _ r1 e))) hy fun g4 e s4 ⟨oe,he,ce⟩ => ?_
  have z4 : IsZip g4 z ti to Value.ellipsis := s4 _ _ n4 (s3.extBut _ _ n2 (s2.extBut _ _ n3 z1))
  have ez : e ≠ z := fun q => by subst q;rw [z4] at he;cases he;simp at ce
  refine wpAny_setField_rec z4 (by simp) fun g5 _ s5 => hE g5 e (fun c o hc q => ?_) ⟨oe,s5.extBut _ _ ez he,ce⟩
  simp only [List.mem_cons,List.not_mem_nil,not_or,or_false] at hc
  exact s5.extBut _ _ hc.1 (s4 _ _ hc.2.2.2 (s3.extBut _ _ hc.2.1 (s2.extBut _ _ hc.2.2.1 (s1.extBut _ _ hc.1 q))))
end
end L3
namespace L3
open PySem PySem.Spec PyProof.Rows L2
noncomputable abbrev qe8 (b : Bool) : String := if b then "list_iterator" else "tuple_iterator"
noncomputable abbrev zo (b : Bool) (c : Addr) : Obj := { cls := .type (qe8 b),data := .fields #[.ref c,.int 0 0] }
def Ri (b : Bool) (it c : Addr) (k : Nat) (h : Heap) : Prop := match b with | true => h.IsListIter it c k | false => h.IsTupleIter it c k
def EF (b : Bool) (c : Addr) (xs : Array Value) (h : Heap) : Prop := match b with | true => h.IsList c xs | false => h.IsTuple c xs
theorem zw {P : Program} {w : World} (b : Bool) (it c : Addr) : Src P w it c (Ri b it c) (EF b c) := by
 cases b
 ·exact KW it c
 ·exact Rv it c
theorem Dg {P : Program} {w : World} {A : Around} {s : Shared} {b : Bool} {c : Addr} {xs : Array Value} {Q : Value → Shared → Prop} {E : Value → Shared → Prop} (h : EF b c xs s.heap) (q : Q (.ref s.heap.objs.size) { s with heap := s.heap.push (zo b c) }) :
  wpAny (model P w) A (pyIter (.ref c)) Q E s := by
 cases b
 ·exact wpAny_pyIter_tuple (show s.heap.IsTuple c xs from h) q
 ·exact wpAny_pyIter_list (show s.heap.IsList c xs from h) q
theorem XT {b : Bool} {c : Addr} {xs : Array Value} {h : Heap} {o : Obj} (q : EF b c xs h) : EF b c xs (h.push o) := by
 cases b
 ·exact (show h.IsTuple c xs from q).at fun _ e => Heap.get?_push_of_some _ e
 ·exact (show h.IsList c xs from q).at fun _ e => Heap.get?_push_of_some _ e
noncomputable abbrev zh1 (h : Heap) (o1 : Obj) : Heap := h.push o1
noncomputable abbrev zh2 (h : Heap) (o1 o2 : Obj) : Heap := (zh1 h o1).push o2
noncomputable abbrev zh3 (h : Heap) (o1 o2 : Obj) : Heap := (zh2 h o1 o2).push { cls := .type "tuple",data := .seq #[.ref h.objs.size,.ref (zh1 h o1).objs.size] }
noncomputable abbrev zh4 (h : Heap) (o1 o2 : Obj) : Heap := (zh3 h o1 o2).push { cls := .type "tuple",data := .seq #[.none,.none] }
noncomputable abbrev zh5 (h : Heap) (o1 o2 : Obj) : Heap := (zh4 h o1 o2).push { cls := .type "zip",data := .fields #[.none,.bool false,.bool false,.ref (zh2 h o1 o2).objs.size,.ref (zh3 h o1 o2).objs.size] }
theorem Xb (c1 c2 : Addr) (o1 o2 : Obj) :
  Meets (Builtin.«zip.__new__» ⟨[.type "zip",.ref c1,.ref c2],[]⟩) (fun _ R s =>
   (∀ (P : Program) (w : World) (A : Around) (Q : Value → Shared → Prop) (E : Value → Shared → Prop),Q (.ref s.heap.objs.size) { s with heap := zh1 s.heap o1 } → wpAny (model P w) A (pyIter (.ref c1)) Q E s) ∧
   (∀ (P : Program) (w : World) (A : Around) (Q : Value → Shared → Prop) (E : Value → Shared → Prop),Q (.ref (zh1 s.heap o1).objs.size) { s with heap := zh2 s.heap o1 o2 } → wpAny (model P w) A (pyIter (.ref c2)) Q E { s with heap := zh1 s.heap o1 }) ∧
   R (.ok (.ret (.ref (zh4 s.heap o1 o2).objs.size))) { s with heap := zh5 s.heap o1 o2 }) :=
 .of_wp fun prog w A R s h => by
  obtain ⟨hp,g,d,tk,os⟩ := s
  obtain ⟨h1,h2,h⟩ := h
  have hsub := sub_zip
  have k1 := fun A Q E => h1 prog w A Q E
  have k2 := fun A Q E => h2 prog w A Q E
  wp_walk using k1 _ _ _,k2 _ _ _
  exact ⟨_,rfl,h⟩
end L3
namespace L3
open PySem PySem.Spec PyProof.Rows L2
def RO (b1 b2 : Bool) (z ti to i1 i2 c1 c2 : Addr) (k : Nat) (h : Heap) : Prop :=
 IsZip h z ti to .none∧IsPair h ti (.ref i1) (.ref i2)∧(∃ a b,IsPair h to a b)∧Ri b1 i1 c1 k h∧Ri b2 i2 c2 k h
section
variable {P : Program} {w : World} {A : Around} {s : Shared} {E : Value → Shared → Prop}
theorem Rf {b1 b2 : Bool} {c1 c2 : Addr} {xs ys : Array Value} {Q : Value → Shared → Prop} (h1 : EF b1 c1 xs s.heap) (h2 : EF b2 c2 ys s.heap)
  (q : ∀ h',RO b1 b2 (s.heap.objs.size + 4) (s.heap.objs.size + 2) (s.heap.objs.size + 3) s.heap.objs.size (s.heap.objs.size + 1) c1 c2 0 h' → (∀ c o,s.heap.get? c = some o → h'.get? c = some o) → Q (.ref (s.heap.objs.size + 4)) { s with heap := h' }) :
  wpAny (model P w) A (call (.type "zip") [.ref c1,.ref c2]) Q E s := by
 refine callType_new F.called_zip (by decide) (F.typeCall_zip_2 _ _) (F.newCall_zip_2 _ _) (fun obj => F.args_object_init_3 obj _ _) F.entry_zip_new
  (Xb c1 c2 (zo b1 c1) (zo b2 c2)) ⟨fun P w A Q E q => Dg h1 q,fun P w A Q E q => Dg (s := { s with heap := zh1 s.heap (zo b1 c1) }) (XT h2) q,?_⟩
 have e1 : (zh1 s.heap (zo b1 c1)).objs.size = s.heap.objs.size + 1 := Heap.size_push ..
 have e2 : (zh2 s.heap (zo b1 c1) (zo b2 c2)).objs.size = s.heap.objs.size + 2 := by rw [Heap.size_push,e1]
 have e3 : (zh3 s.heap (zo b1 c1) (zo b2 c2)).objs.size = s.heap.objs.size + 3 := by rw [Heap.size_push,e2]
 have e4 : (zh4 s.heap (zo b1 c1) (zo b2 c2)).objs.size = s.heap.objs.size + 4 := by rw [Heap.size_push,e3]
 have g5 : (zh5 s.heap (zo b1 c1) (zo b2 c2)).get? (zh4 s.heap (zo b1 c1) (zo b2 c2)).objs.size = some _ := Heap.get?_push_size _ rfl
 have g4 : (zh5 s.heap (zo b1 c1) (zo b2 c2)).get? (zh3 s.heap (zo b1 c1) (zo b2 c2)).objs.size = some _ := Heap.get?_push_of_some _ (Heap.get?_push_size _ rfl)
 have g3 : (zh5 s.heap (zo b1 c1) (zo b2 c2)).get? (zh2 s.heap (zo b1 c1) (zo b2 c2)).objs.size = some _ := Heap.get?_push_of_some _ (Heap.get?_push_of_some _ (Heap.get?_push_size _ rfl))
 have g2 : (zh5 s.heap (zo b1 c1) (zo b2 c2)).get? (zh1 s.heap (zo b1 c1)).objs.size = some (zo b2 c2) := Heap.get?_push_of_some _ (Heap.get?_push_of_some _ (Heap.get?_push_of_some _ (Heap.get?_push_size _ rfl)))
 have g1 : (zh5 s.heap (zo b1 c1) (zo b2 c2)).get? s.heap.objs.size = some (zo b1 c1) := Heap.get?_push_of_some _ (Heap.get?_push_of_some _ (Heap.get?_push_of_some _ (Heap.get?_push_of_some _ (Heap.get?_push_size _ rfl))))
 show _∧_
 rw [e2,e3,e4] at g5
 rw [e1,e2] at g3
 rw [e3] at g4
 rw [e1] at g2
 rw [e4]
 refine ⟨⟨_,g5,rfl⟩,q _ ⟨g5,g3,⟨_,_,g4⟩,?_,?_⟩ fun c o e => Heap.get?_push_of_some _ (Heap.get?_push_of_some _ (Heap.get?_push_of_some _ (Heap.get?_push_of_some _ (Heap.get?_push_of_some _ e))))⟩
 ·cases b1 <;> exact ⟨_,g1,rfl,rfl⟩
 ·cases b2 <;> exact ⟨_,g2,rfl,rfl⟩
theorem Rx {b1 b2 : Bool} {z ti to i1 i2 c1 c2 : Addr} {k : Nat} {xs ys : Array Value} {x y : Value} {Q : Option Value → Shared → Prop} (D : ZA z ti to i1 i2 c1 c2) (st : RO b1 b2 z ti to i1 i2 c1 c2 k s.heap) (l1 : EF b1 c1 xs s.heap) (l2 : EF b2 c2 ys s.heap) (hx : xs[k]? = some x) (hy : ys[k]? = some y)
  (hQ : ∀ h',IsZip h' z ti to (rawInt s.heap.objs.size) → IsPair h' ti (.ref i1) (.ref i2) → (∃ a b,IsPair h' to a b) → Ri b1 i1 c1 (k + 1) h' → Ri b2 i2 c2 (k + 1) h' → IsPair h' s.heap.objs.size x y → (∀ c o,c ∉ [z,to,i1,i2] → s.heap.get? c = some o → h'.get? c = some o) → Q (some (.ref s.heap.objs.size)) { s with heap := h' }) :
  wpAny (model P w) A (pyNext (.ref z)) Q E s := by
 obtain ⟨hz,hi,⟨a,b,ho⟩,p1,p2⟩ := st
 have ty : s.TypeIs (.ref z) "zip" := ⟨_,hz,rfl⟩
 have nti : ti ∉ [z,to,i1,i2] := by
  have ne := D.ne
  simp only [List.nodup_cons,List.mem_cons,List.not_mem_nil,not_or,or_false] at ne ⊢
  exact ⟨Ne.symm ne.1.1,ne.2.1.1,ne.2.1.2.1,ne.2.1.2.2⟩
 unfold pyNext
 exact wpAny_bind (wpAny_attempt (wpAny_callSpecial?_slot (name := Str.ofString "__next__") ty F.slot_zip_next (wpAny_call_entry F.slot_zip_next ty F.entry_zip_next
  (Rh (zw b1 i1 c1) (zw b2 i2 c2) D hz hi ho p1 p2 l1 l2 hx hy fun h' u1 u2 u3 u4 u5 u6 => wpAny_pure (hQ h' u1 (u6 _ _ nti hi) ⟨_,_,u2⟩ u3 u4 u5 u6)) (F.args_zip_next_1 _))))
theorem UK {b1 b2 : Bool} {z ti to i1 i2 c1 c2 : Addr} {k : Nat} {xs ys : Array Value} {Q : Option Value → Shared → Prop} (hh : A.handled = none) (D : ZA z ti to i1 i2 c1 c2) (st : RO b1 b2 z ti to i1 i2 c1 c2 k s.heap) (l1 : EF b1 c1 xs s.heap) (l2 : EF b2 c2 ys s.heap) (hend : xs[k]? = none ∨ ys[k]? = none)
  (hQ : ∀ h',(∀ c o,c ∉ [z,to,i1,i2] → s.heap.get? c = some o → h'.get? c = some o) → Q none { s with heap := h' }) : wpAny (model P w) A (pyNext (.ref z)) Q E s := by
 obtain ⟨hz,hi,⟨a,b,ho⟩,p1,p2⟩ := st
 have ty : s.TypeIs (.ref z) "zip" := ⟨_,hz,rfl⟩
 unfold pyNext
 refine wpAny_bind (wpAny_attempt (wpAny_callSpecial?_slot (name := Str.ofString "__next__") ty F.slot_zip_next (wpAny_call_entry F.slot_zip_next ty F.entry_zip_next
  (Lq hh (zw b1 i1 c1) (zw b2 i2 c2) D hz hi ho p1 p2 l1 l2 hend fun h' e hk ⟨o,q1,q2⟩ => ?_) (F.args_zip_next_1 _))))
 exact wpAny_bind (wpAny_isInstance (T := "StopIteration") (b := true) ⟨o,q1,q2⟩ isSubtype_stop (wpAny_pure (hQ _ hk)))
end
def SqB (K : PySem.W.Frag) (b : Bool) (H : Hp) (a : Addr) (xs : List V) : Prop := match b with | true => SqL K H a xs | false => SqT K H a xs
theorem SqB.get {X : Cx} {pins : List (Addr × Obj)} {σ : L2.St} {H : Hp} {s : Shared} {b : Bool} {a : Addr} {xs : List V} (I : Inv X pins σ H s) (h : SqB X.K b H a xs) : ∃ its : List Value,zI xs its∧EF b a its.toArray s.heap∧xs.length ≤ sizeLine := by
 cases b
 ·obtain ⟨its,r,p,hz⟩ := I.tuple (show SqT X.K H a xs from h)
  exact ⟨its,r,(show s.heap.IsTuple a its.toArray from p),hz⟩
 ·obtain ⟨its,r,p,hz⟩ := I.list (show SqL X.K H a xs from h)
  exact ⟨its,r,p.isList,hz⟩
theorem SqB.inj {X : Cx} {pins : List (Addr × Obj)} {σ : L2.St} {H : Hp} {s : Shared} {b : Bool} {a : Addr} {xs ys : List V} (I : Inv X pins σ H s) (h : SqB X.K b H a xs) (h' : SqB X.K b H a ys) : xs = ys := by
 cases b
 ·exact I.tuple_inj h h'
 ·exact I.list_inj h h'
noncomputable def Itz (K : PySem.W.Frag) (b1 b2 : Bool) (c1 c2 : Addr) : It :=
  ⟨fun i H => ∃ xs ys x y,SqB K b1 H c1 xs∧SqB K b2 H c2 ys∧xs[i]? = some x∧ys[i]? = some y,
   fun i H v H' => ∃ p x y,H p = none∧v = .ref p∧H' = upd H p (.tup [x,y])∧(∀ xs,SqB K b1 H c1 xs → xs[i]? = some x)∧(∀ ys,SqB K b2 H c2 ys → ys[i]? = some y),
   fun i H => ∃ xs ys,SqB K b1 H c1 xs∧SqB K b2 H c2 ys∧(xs.length ≤ i ∨ ys.length ≤ i)⟩
theorem Ll {b : Bool} {c : Addr} {xs : Array Value} {h : Heap} (q : EF b c xs h) : c < h.objs.size := by
 cases b
 ·obtain ⟨o,e,_⟩ := (show h.IsTuple c xs from q);exact Heap.lt_size e
 ·obtain ⟨o,e,_⟩ := (show h.IsList c xs from q);exact Heap.lt_size e
theorem CS {P : Program} {w : World} {K : PySem.W.Frag} {es : List Expr} {k1 : Nat} {pt : Pos} {b1 b2 : Bool} {z ti to i1 i2 c1 c2 : Addr} (D : ZA z ti to i1 i2 c1 c2) : Turn P w K (.Tuple es k1 pt) (Itz K b1 b2 c1 c2) [z,ti,to,i1,i2] z (RO b1 b2 z ti to i1 i2 c1 c2) where
 mem := by simp
 obj := fun i h ⟨hz,hi,⟨a,b,ho⟩,p1,p2⟩ c hc => by
  simp only [List.mem_cons,List.not_mem_nil,or_false] at hc
  rcases hc with rfl | rfl | rfl | rfl | rfl
  ·exact ⟨_,hz,fun v q => by cases q⟩
  ·exact ⟨_,hi,fun v q => by cases q⟩
  ·exact ⟨_,ho,fun v q => by cases q⟩
  ·exact (zw (P := P) (w := w) b1 c c1).obj p1
  ·exact (zw (P := P) (w := w) b2 c c2).obj p2
 keep := fun i h h' ⟨hz,hi,⟨a,b,ho⟩,p1,p2⟩ k =>
  ⟨k z (by simp) _ hz,k ti (by simp) _ hi,⟨a,b,k to (by simp) _ ho⟩,(zw (P := P) (w := w) b1 i1 c1).keep p1 fun o e => k i1 (by simp) o e,(zw (P := P) (w := w) b2 i2 c2).keep p2 fun o e => k i2 (by simp) o e⟩
 item := by
  intro X hP hw hK hc i pins s σ H E I hf st hg
  subst hP hw hK
  obtain ⟨xs,ys,x,y,sq1,sq2,hx,hy⟩ := hg
  obtain ⟨its1,rv1,l1,z1⟩ := sq1.get I
  obtain ⟨its2,rv2,l2,z2⟩ := sq2.get I
  obtain ⟨u1,hu1,ru1⟩ := rv1.get hx
  obtain ⟨u2,hu2,ru2⟩ := rv2.get hy
  refine Rx D st l1 l2 (x := u1) (y := u2) (by simpa using hu1) (by simpa using hu2) fun h' hz hi ho p1 p2 hp hk => ?_
  have hfr : H s.heap.objs.size = none := I.fresh
  have free : ∀ b ∈ [z,ti,to,i1,i2],H b = none := fun b hb => (hf b hb).1
  refine ⟨_,rfl,wpAny_letOwnedTupleGo_zip hz fun h2 hz2 s2 => ?_⟩
  have zlt : z < s.heap.objs.size := Heap.lt_size st.1
  have hp2 : IsPair h2 s.heap.objs.size u1 u2 := (s2.2 _ (Nat.ne_of_gt zlt)).trans hp
  have ne := D.ne
  simp only [List.nodup_cons,List.mem_cons,List.not_mem_nil,not_or,or_false] at ne
  have up : ∀ c o,c ≠ z → h'.get? c = some o → h2.get? c = some o := fun c o hc e => (s2.2 c hc).trans e
  have kk : ∀ c o,c ∉ [z,to,i1,i2] → s.heap.get? c = some o → h2.get? c = some o := fun c o hc e => up c o (fun q => hc (by simp [q])) (hk c o hc e)
  have I3 : Inv X pins σ (upd H s.heap.objs.size (.tup [x,y])) { s with heap := h2 } := by
   refine I.step (g' := s.gens) (d' := s.drawn) (t' := s.toks) (ch := [z,to,i1,i2]) (fun b hb => ?_) (fun b o _ _ hcb e _ => kk b o hcb e) (fun b o _ _ hcb e _ => ⟨o.slots,kk b o hcb e⟩) (fun b o _ e n => by rw [qu (Nat.ne_of_lt (Heap.lt_size e))];exact n) (fun b o hcb e => ⟨o,kk b o hcb e⟩)
    (fun b _ e => by rw [qu (qp e hfr)];exact e) (fun b _ _ e => by rw [qu (qp e hfr)];exact e) (fun b ps e => ⟨#[],by rw [qu (qp e hfr),e];simp⟩) (fun m hm => ?_) (fun b u e => ?_) I.bare
   ·obtain ⟨f0,f1,f2,f3,f4,f5⟩ := hf b (by simp only [List.mem_cons,List.not_mem_nil,or_false] at hb ⊢;rcases hb with q | q | q | q <;> simp [q])
    exact ⟨f3,f1,f4,f5⟩
   ·obtain ⟨o,es',ep,ho',r⟩ := hm
    refine ⟨o,es',ep,kk _ o (fun q => ?_) ho',r⟩
    obtain ⟨f0,f1,_⟩ := hf X.env.locals (by simp only [List.mem_cons,List.not_mem_nil,or_false] at q ⊢;rcases q with q | q | q | q <;> simp [q])
    exact f1 rfl
   ·by_cases hb : b = s.heap.objs.size
    ·subst hb
     rw [qW] at e
     cases e
     exact ⟨by show 2 ≤ sizeLine;decide,[u1,u2],.cons ru1 (.cons ru2 .nil),⟨_,hp2,rfl,_,rfl⟩⟩
    ·rw [qu hb] at e
     refine (I.hok b u e).stay (fun c v hcb q => kk c v (fun m => ?_) q) (fun _ q => by rw [qu (qp q hfr)];exact q) fun _ _ q => by rw [qu (qp q hfr)];exact q
     have hn := free c (by simp only [List.mem_cons,List.not_mem_nil,or_false] at m ⊢;rcases m with q | q | q | q <;> simp [q])
     rcases hcb with q | q
     ·rw [q] at hn;rw [hn] at e;cases e
     ·rw [hn] at q;cases q
  refine ⟨.ref s.heap.objs.size,_,I3,rfl,⟨_,x,y,hfr,rfl,rfl,fun zs q => by rw [q.inj I sq1];exact hx,fun zs q => by rw [q.inj I sq2];exact hy⟩,⟨hz2,up _ _ (Ne.symm ne.1.1) hi,let ⟨a,b,q⟩ := ho;⟨a,b,up _ _ (Ne.symm ne.1.2.1) q⟩,(zw (P := X.prog) (w := X.w) b1 i1 c1).keep p1 fun o e => up _ o (Ne.symm ne.1.2.2.1) e,(zw (P := X.prog) (w := X.w) b2 i2 c2).keep p2 fun o e => up _ o (Ne.symm ne.1.2.2.2) e⟩,fun b hb => ?_⟩
  rw [qu (fun q => ?_)]
  ·exact free b hb
  ·subst q
   obtain ⟨hz0,hi0,⟨a0,b0,ho0⟩,q1,q2⟩ := st
   simp only [List.mem_cons,List.not_mem_nil,or_false] at hb
   rcases hb with q | q | q | q | q
   ·exact absurd q (Nat.ne_of_gt zlt)
   ·exact absurd q (Nat.ne_of_gt (Heap.lt_size hi0))
   ·exact absurd q (Nat.ne_of_gt (Heap.lt_size ho0))
   ·obtain ⟨o,e,_⟩ := (zw (P := X.prog) (w := X.w) b1 i1 c1).obj q1
    exact absurd q (Nat.ne_of_gt (Heap.lt_size e))
   ·obtain ⟨o,e,_⟩ := (zw (P := X.prog) (w := X.w) b2 i2 c2).obj q2
    exact absurd q (Nat.ne_of_gt (Heap.lt_size e))
 done := by
  intro X hP hw hK hc i pins s σ H E I hf st hg
  subst hP hw hK
  obtain ⟨xs,ys,sq1,sq2,hend⟩ := hg
  obtain ⟨its1,rv1,l1,z1⟩ := sq1.get I
  obtain ⟨its2,rv2,l2,z2⟩ := sq2.get I
  have e1 := rv1.length
  have e2 := rv2.length
  refine UK (I.ok.hd hc) D st l1 l2 (by rcases hend with q | q;exact .inl (by simp;omega);exact .inr (by simp;omega)) fun h' hk => ⟨rfl,?_⟩
  have free : ∀ b ∈ [z,ti,to,i1,i2],H b = none := fun b hb => (hf b hb).1
  refine I.step (g' := s.gens) (d' := s.drawn) (t' := s.toks) (ch := [z,to,i1,i2]) (fun b hb => ?_) (fun b o _ _ hcb e _ => hk b o hcb e) (fun b o _ _ hcb e _ => ⟨o.slots,hk b o hcb e⟩) (fun _ _ _ _ n => n) (fun b o hcb e => ⟨o,hk b o hcb e⟩) (fun _ _ e => e) (fun _ _ _ e => e) (fun b ps e => ⟨#[],by rw [e];simp⟩) (fun m hm => ?_) (fun b u e => ?_) I.bare
  ·obtain ⟨f0,f1,f2,f3,f4,f5⟩ := hf b (by simp only [List.mem_cons,List.not_mem_nil,or_false] at hb ⊢;rcases hb with q | q | q | q <;> simp [q])
   exact ⟨f3,f1,f4,f5⟩
  ·obtain ⟨o,es',ep,ho',r⟩ := hm
   refine ⟨o,es',ep,hk _ o (fun q => ?_) ho',r⟩
   obtain ⟨f0,f1,_⟩ := hf X.env.locals (by simp only [List.mem_cons,List.not_mem_nil,or_false] at q ⊢;rcases q with q | q | q | q <;> simp [q])
   exact f1 rfl
  ·refine (I.hok b u e).stay (fun c v hcb q => hk c v (fun m => ?_) q) (fun _ q => q) fun _ _ q => q
   have hn := free c (by simp only [List.mem_cons,List.not_mem_nil,or_false] at m ⊢;rcases m with q | q | q | q <;> simp [q])
   rcases hcb with q | q
   ·rw [q] at hn;rw [hn] at e;cases e
   ·rw [hn] at q;cases q
 self := fun A i s Q E st h => wpAny_pyIter_zip st.1 h
end L3
namespace L3
open PySem PySem.Spec PyProof.Rows L2
theorem qbi {n c1 c2 : Addr} (h1 : c1 < n) (h2 : c2 < n) : ZA (n + 4) (n + 2) (n + 3) n (n + 1) c1 c2 := by
 have k : ∀ n c : Nat,c < n → c ≠ n + 4∧c ≠ n + 3∧c ≠ n∧c ≠ n + 1 := fun n c h => by omega
 have d : ∀ n : Nat,(([n + 4,n + 2,n + 3,n,n + 1] : List Nat)).Nodup := fun n => by
  simp only [List.nodup_cons,List.mem_cons,List.not_mem_nil,not_or,or_false,List.nodup_nil,and_true,not_false_eq_true]
  omega
 refine ⟨d n,?_,?_⟩
 ·simp only [List.mem_cons,List.not_mem_nil,not_or,or_false];exact k n c1 h1
 ·simp only [List.mem_cons,List.not_mem_nil,not_or,or_false];exact k n c2 h2
section
variable {X : Cx} {a b e l : Expr} {es : List Expr} {pos : Pos}
theorem qcl {p pt : Pos} {k1 : Nat} {ta : TA} (hg : Gl X "zip") (hm : X.mg "zip" = none) (ha : PA X [a,b] ta) (hs : starEach [a,b] X.env = [(false,eval a X.env),(false,eval b X.env)] := by rfl) (hs2 : starEach [b] X.env = [(false,eval b X.env)] := by rfl) :
  PI X (.Tuple es k1 pt) (.Call (.Name "zip" p) [a,b] [] pos) (fun σ H R => ta σ H fun vs H1 => ∃ b1 b2 c1 c2 xs ys,vs = [.ref c1,.ref c2]∧SqB X.K b1 H1 c1 xs∧SqB X.K b2 H1 c2 ys∧R (Itz X.K b1 b2 c1 c2) H1) := by
 intro pins s σ H R I h
 refine Call_ (Vc I hg hm PyProof.Rows.boot_zip (PyProof.Rows.callWith_type1 (thn (ha pos pins s σ H _ I h) fun us s1 ⟨vs,H1,I1,r1,q1⟩ => ?_) (by rw [hs,hs2]) (by rw [hs2];rfl)))
 obtain ⟨b1,b2,c1,c2,xs,ys,rfl,sq1,sq2,q⟩ := q1
 obtain ⟨u1,u2,rfl,e1,e2⟩ := KF r1
 cases (show u1 = Value.ref c1 from e1)
 cases (show u2 = Value.ref c2 from e2)
 obtain ⟨its1,rv1,l1,z1⟩ := sq1.get I1
 obtain ⟨its2,rv2,l2,z2⟩ := sq2.get I1
 refine Rf l1 l2 fun h' st hk => wpAny_pyIter_zip st.1 ?_
 refine ⟨s1.heap.objs.size + 4,[s1.heap.objs.size + 4,s1.heap.objs.size + 2,s1.heap.objs.size + 3,s1.heap.objs.size,s1.heap.objs.size + 1],_,_,H1,rfl,I1.kept (t' := s1.toks) hk,CS (qbi (Ll l1) (Ll l2)),st,fun c hc => ?_,q⟩
 have hle : s1.heap.objs.size ≤ c := by
  simp only [List.mem_cons,List.not_mem_nil,or_false] at hc
  rcases hc with rfl | rfl | rfl | rfl | rfl <;> first | exact Nat.le_refl _ | exact Nat.le_add_right _ _
 exact I1.fpOk hle (I1.hok.fresh hle)
end
noncomputable def Qu (G : Gp) : T → Option (List T)
 | .tup xs => some xs
 | .ref p => getL G p
 | _ => none
theorem CA {K : PySem.W.Frag} {G0 : Gp} {H0 : Hp} {x : T} {v : V} {us : List T} (hr0 : HR K G0 H0) (rx : Rp K H0 x v) (h : Qu G0 x = some us) :
  ∃ b c,v = .ref c∧∀ G H,HR K G H → Kp G0 H0 G H → Qu G x = some us → ∃ vs,SqB K b H c vs∧Rps K H us vs := by
 cases rx with
 | tup hs rs =>
  cases h
  exact ⟨false,_,rfl,fun G H hr k _ => ⟨_,(VZ hr0 k hs : SqT K H _ _),rs.keep hr0 k⟩⟩
 | ref a => exact ⟨true,a,rfl,fun G H hr k hq => let ⟨vs,h1,h2⟩ := zP hr (show getL G a = some us from hq);⟨vs,h1,h2⟩⟩
 | _ => cases h
noncomputable def Rs (us vs : List T) : List T := (us.zip vs).map fun p => .tup [p.1,p.2]
theorem DS {us vs : List T} {i : Nat} {x : T} (h : (Rs us vs)[i]? = some x) : ∃ a b,us[i]? = some a∧vs[i]? = some b∧x = .tup [a,b] := by
 unfold Rs at h
 rw [List.getElem?_map] at h
 cases e : (us.zip vs)[i]? with
 | none => rw [e] at h;cases h
 | some p =>
  rw [e] at h
  have := List.getElem?_zip_eq_some.mp e
  exact ⟨p.1,p.2,this.1,this.2,by simpa using h.symm⟩
theorem qbu {K : PySem.W.Frag} {b1 b2 : Bool} {c1 c2 : Addr} {x y : T} {us vs : List T} {G0 : Gp} {H0 : Hp}
  (f1 : ∀ G H,HR K G H → Kp G0 H0 G H → Qu G x = some us → ∃ vs,SqB K b1 H c1 vs∧Rps K H us vs) (f2 : ∀ G H,HR K G H → Kp G0 H0 G H → Qu G y = some vs → ∃ ws,SqB K b2 H c2 ws∧Rps K H vs ws) :
  LX K (Itz K b1 b2 c1 c2) (Rs us vs) (fun G => Qu G x = some us∧Qu G y = some vs) G0 H0 := by
 intro G H hr k ⟨h1,h2⟩
 obtain ⟨p,sp,rp⟩ := f1 G H hr k h1
 obtain ⟨q,sq,rq⟩ := f2 G H hr k h2
 refine ⟨fun i z hz => ?_,fun i z v H' hz hy => ?_,⟨p,q,sp,sq,?_⟩⟩
 ·obtain ⟨a,b,ha,hb,_⟩ := DS hz
  obtain ⟨v,hv,_⟩ := rp.get ha
  obtain ⟨w,hw,_⟩ := rq.get hb
  exact ⟨p,q,v,w,sp,sq,hv,hw⟩
 ·obtain ⟨a,b,ha,hb,rfl⟩ := DS hz
  obtain ⟨t,v1,v2,ht,rfl,rfl,g1,g2⟩ := hy
  obtain ⟨v,hv,rv⟩ := rp.get ha
  obtain ⟨w,hw,rw'⟩ := rq.get hb
  have e1 := (g1 p sp).symm.trans hv
  have e2 := (g2 q sq).symm.trans hw
  obtain rfl : v1 = v := Option.some.inj e1
  obtain rfl : v2 = w := Option.some.inj e2
  have kk : Kp G H G (upd H t (.tup [v1,v2])) := Kp.laid ht
  exact ⟨.tup (SqT.of qW) (.cons (rv.keep hr kk) (.cons (rw'.keep hr kk) .nil)),hr.laid ht,kk⟩
 ·rw [← rp.length,← rq.length,show (Rs us vs).length = min us.length vs.length by simp [Rs]]
  omega
noncomputable def RK (ta : TA3) : TI3 := fun τ G r => ta τ G fun xs G1 => match xs with
 | [x,y] => (match Qu G1 x,Qu G1 y with | some us,some vs => r (Rs us vs) (fun G => Qu G x = some us∧Qu G y = some vs) G1 | _,_ => False)
 | _ => False
section
variable {X : Cx} {a b e l : Expr} {es : List Expr} {pos : Pos} {t : TA3}
theorem qdn {p pt : Pos} {k1 : Nat} (hg : Gl X "zip") (hm : X.mg "zip" = none) (ha : A3 X [a,b] t) (hs : starEach [a,b] X.env = [(false,eval a X.env),(false,eval b X.env)] := by rfl) (hs2 : starEach [b] X.env = [(false,eval b X.env)] := by rfl) :
  I3 X (.Tuple es k1 pt) (.Call (.Name "zip" p) [a,b] [] pos) (RK t) :=
 qcx (qcl hg hm ha hs hs2) fun σ H R ⟨τ,G,r,rl,h,af⟩ => Zu rl h fun xs G1 h1 vs H1 rs hr1 k1 rl1 => by
  split at h1
  ·rename_i x y
   split at h1
   ·rename_i us ws e1 e2
    obtain ⟨v,u,rfl,r1,r2⟩ := qda rs
    obtain ⟨b1,c1,rfl,f1⟩ := CA hr1 r1 e1
    obtain ⟨b2,c2,rfl,f2⟩ := CA hr1 r2 e2
    obtain ⟨p,sp,_⟩ := f1 G1 H1 hr1 Kp.refl e1
    obtain ⟨q,sq,_⟩ := f2 G1 H1 hr1 Kp.refl e2
    exact ⟨b1,b2,c1,c2,p,q,rfl,sp,sq,af _ _ G1 h1 _ H1 hr1 k1 (qbu f1 f2)⟩
   ·exact h1.elim
  ·exact h1.elim
noncomputable def WE : List T → Gp → Q3 → Prop := fun xs G q => match xs with
 | [.ref p] => (match getL G p with | some ys => (match Md ys with | some k => q (.bl k) G | none => False) | none => False)
 | _ => False
theorem C9 {K : PySem.W.Frag} {H : Hp} : ∀ {ys : List T} {vs : List V} {k : Bool},Rps K H ys vs → Md ys = some k → ∃ ks : List Bool,vs = ks.map V.bl∧ks.all id = k
 | _,_,_,.nil,h => by cases h;exact ⟨[],rfl,rfl⟩
 | y :: ys,_,k,.cons a b,h => by
  unfold Md at h
  split at h
  ·rename_i e;cases e
  ·rename_i j r e
   cases e
   split at h
   ·rename_i i ei
    obtain ⟨ks,rfl,hk⟩ := C9 b ei
    cases a
    cases h
    exact ⟨j :: ks,rfl,by rw [List.all_cons,hk];rfl⟩
   ·cases h
  ·cases h
theorem C7 {K : PySem.W.Frag} : W1 K WE (fun xs H Q => ∃ (p : Addr) (ks : List Bool),xs = [.ref p]∧SqL K H p (ks.map V.bl)∧Q (.bl (ks.all id)) H) := fun xs vs G H q Q hr rs h af => by
 unfold WE at h
 split at h
 ·rename_i p
  obtain ⟨v,rfl,r⟩ := EC rs
  cases r
  split at h
  ·rename_i ys e0
   split at h
   ·rename_i k e1
    obtain ⟨us,hs,r2⟩ := zP hr e0
    obtain ⟨ks,rfl,hk⟩ := C9 r2 e1
    exact ⟨p,ks,rfl,hs,by rw [hk];exact af _ G h _ H (.bl _) hr Kp.refl⟩
   ·exact h.elim
  ·exact h.elim
 ·exact h.elim
end
end L3
namespace L3
open PySem PySem.Spec PyProof.Rows L2
noncomputable def qdu : Value → Bool
 | .type t => t == "list"
 | _ => false
noncomputable def JZ : List (Addr × Obj) → Bool
 | [] => true
 | p :: r => if qdu p.2.cls then false else JZ r
theorem VG : ∀ {K : List (Addr × Obj)} {a : Addr} {o : Obj},JZ K = true → K.lookup a = some o → o.cls ≠ .type "list"
 | [],_,_,_,e => by simp at e
 | (b,x) :: r,a,o,h,e => by
  unfold JZ at h
  split at h
  ·cases h
  ·rename_i hx
   rw [List.lookup_cons] at e
   split at e
   ·cases e
    intro z
    rw [z] at hx
    exact hx rfl
   ·exact VG h e
theorem W4 {K : PySem.W.Frag} {H : Hp} {a : Addr} {ns : List Int} (hK : JZ K = true) (hO : qc6 H) (hS : SqL K H a (ns.map V.int)) : ∃ o,H a = some (.frz o (.lst (ns.map V.int))) := by
 rcases hS with (h | h) | ⟨o,its,n,h1,h2,_⟩
 ·rcases hO a with z | ⟨o,xs,z⟩ <;> (rw [h] at z;cases z)
 ·exact h
 ·exact absurd h2 (VG hK h1)
noncomputable def only (a : Addr) (ns : List Int) : Gp := fun b => if b = a then some (.frz (ns.map T.int)) else none
theorem Kx {K : PySem.W.Frag} {H : Hp} {a : Addr} {ns : List Int} (h : ∃ o,H a = some (.frz o (.lst (ns.map V.int)))) : HR K (only a ns) H := fun b o e => by
 unfold only at e
 split at e
 ·rename_i hb;subst hb;cases e;exact ⟨_,h,Rps.ints ns⟩
 ·cases e
noncomputable def VJ : Sp3 := fun ts G q => ∃ (a : Addr) (ns : List Int),ts = [.ref a]∧G a = some (.frz (ns.map T.int))∧ns.length ≤ 63∧∀ G',q (.bl true) G'
theorem qd4 {l : PySem.W.OpenLaw} {k : Nat} {q : Program} {loose : List Str} {XP : (Str → Option Value) → Heap → Prop} {YP : World → Heap → Prop} {d : DefRec} {K : Params → PySem.W.Frag} {x : Str} (hn : l.most = some 63) (hdf : d.params.defaults = []) (hr : Room k callerA)
  (hY : ∀ (w : World) (h : Heap),YP w h → (K w.params).In h) (hK : ∀ w : World,JZ (K w.params) = true)
  (F : ∀ (w : World) (mg : Str → Option Value) (fa : Addr) (h : Heap),(K w.params).In h → h.Ns mainGlobals mg → mg d.name = some (.ref fa) →
   ∃ fd : FuncData,(∀ (s : Shared) (u : Value),BindsTo s fd ⟨[u],[]⟩ [(x,u)])∧∀ base : Heap,(K w.params).In base → base.Ns mainGlobals mg → FnOk l.prog w (K w.params) mg base CX0 k fa fd [x] (lSp (K w.params) VJ)) :
  PySem.W.WalkO q loose XP YP l.row.toRowW d [] (fun f vs => PySem.call f vs) :=
 L2.LA (n := 63) (k := k) (x := x) (CX := fun _ => CX0) (sp := fun w => lSp (K w.params) VJ) hn (by decide) hdf hr hY F
  (fun w H a ns hl hO hS => ⟨[.ref a],only a ns,fun t _ => t = .bl true,Kx (W4 (hK w) hO hS),.cons (.ref a) .nil,⟨a,ns,rfl,by simp [only],hl,fun _ => rfl⟩,fun t G' e v H' r _ _ => by subst e;cases r;rfl⟩) fun _ _ _ _ _ z => z
theorem LS {P : Program} {w : World} {K : PySem.W.Frag} {mg : Str → Option Value} {base : Heap} {x qual : Str} {st : Stmt} {f : Addr} {fd : FuncData} {N ps : List Str} {k : Nat} {sp : Sp3} {t3 : TS3} (F : Fun K x qual st f fd) (S : FnScope N ps (qi st))
  (body : ∀ (cdv : Value) (A : Around) (outer : List Env) (s : Shared) (H : Hp) (E : XK),Room k (A.deeper (envOfC qual (qi st) s.heap.objs.size f cdv)) →
   B3 (CP CX0 P w K mg base N qual (qi st) f cdv A outer s H E).nox (jm st) t3)
  (read : ∀ ts G q,sp ts G q → ts.length = ps.length∧t3 { nx := fun _ G' => q .non G',rt := q } (qx N ts) G) : FnOk P w K mg base CX0 (k + 1) f fd ps (lSp K sp) := by
 refine F.ok S (fun vs H Q E ⟨ts,G,q,h1,h2,h3,h4⟩ => by rw [← h2.length];exact (read ts G q h3).1) fun cdv A outer s H vs Q E hr ⟨ts,G,q,h1,h2,h3,h4⟩ => ?_
 refine ⟨_,body cdv A outer s H E hr,qx N ts,G,_,Ey h1 h2,(read ts G q h3).2,⟨fun τ' G' h' σ' H' rl' k' => h4 _ G' h' _ H' .non rl'.hp k',h4,fun _ _ z => z.elim,fun _ _ z => z.elim⟩⟩
end L3
namespace L3
open PySem PySem.Spec PyProof.Rows L2
noncomputable abbrev eh1 (h : Heap) (o1 : Obj) : Heap := h.push o1
noncomputable abbrev eh2 (h : Heap) (o1 : Obj) : Heap := (eh1 h o1).push { cls := .type "enumerate",data := .fields #[.none,.bool false,.ref h.objs.size,rawInt 0,.none,.none] }
theorem Ws (c : Addr) (o1 : Obj) (ob : Obj) :
  Meets (Builtin.«enumerate.__new__» ⟨[.type "enumerate",.ref c],[]⟩) (fun _ R s => s.heap.get? c = some ob ∧
   (∀ (P : Program) (w : World) (A : Around) (Q : Value → Shared → Prop) (E : Value → Shared → Prop),Q (.ref s.heap.objs.size) { s with heap := eh1 s.heap o1 } → wpAny (model P w) A (pyIter (.ref c)) Q E s) ∧
   R (.ok (.ret (.ref (eh1 s.heap o1).objs.size))) { s with heap := eh2 s.heap o1 }) :=
 .of_wp fun prog w A R s h => by
  obtain ⟨hp,g,d,tk,os⟩ := s
  obtain ⟨hl,h1,h⟩ := h
  have hsub := sub_enumerate
  have k1 := fun A Q E => h1 prog w A Q E
  wp_walk using wpAny_loadPart' hl
  refine wpAny_stack_any fun st => wpAny_pure ?_
  split
  ·rename_i c _ _ _ _ _
   cases (c == Value.type "enumerate")
   ·wp_walk using wpAny_loadPart' hl,k1 _ _ _
    exact ⟨_,rfl,h⟩
   ·wp_walk using wpAny_loadPart' hl,k1 _ _ _
    exact ⟨_,rfl,h⟩
  ·wp_walk using wpAny_loadPart' hl,k1 _ _ _
   exact ⟨_,rfl,h⟩
theorem RN {b : Bool} {c : Addr} {xs : Array Value} {h : Heap} (q : EF b c xs h) : ∃ o,h.get? c = some o := by
 cases b
 ·obtain ⟨o,e,_⟩ := (show h.IsTuple c xs from q);exact ⟨o,e⟩
 ·obtain ⟨o,e,_⟩ := (show h.IsList c xs from q);exact ⟨o,e⟩
section
variable {P : Program} {w : World} {A : Around} {s : Shared} {E : Value → Shared → Prop}
theorem WW {b : Bool} {c : Addr} {xs : Array Value} {Q : Value → Shared → Prop} (h1 : EF b c xs s.heap)
  (q : ∀ h',IsEnum h' (s.heap.objs.size + 1) s.heap.objs.size 0 .none → Ri b s.heap.objs.size c 0 h' → (∀ c o,s.heap.get? c = some o → h'.get? c = some o) → Q (.ref (s.heap.objs.size + 1)) { s with heap := h' }) :
  wpAny (model P w) A (call (.type "enumerate") [.ref c]) Q E s := by
 obtain ⟨ob,hob⟩ := RN h1
 refine callType_new F.called_enumerate (by decide) (F.typeCall_enumerate_1 _) (F.newCall_enumerate_1 _) (fun obj => F.args_object_init_2 obj _) F.entry_enumerate_new
  (Ws c (zo b c) ob) ⟨hob,fun P w A Q E q => Dg h1 q,?_⟩
 have e1 : (eh1 s.heap (zo b c)).objs.size = s.heap.objs.size + 1 := Heap.size_push ..
 have g2 : (eh2 s.heap (zo b c)).get? (eh1 s.heap (zo b c)).objs.size = some _ := Heap.get?_push_size _ rfl
 have g1 : (eh2 s.heap (zo b c)).get? s.heap.objs.size = some (zo b c) := Heap.get?_push_of_some _ (Heap.get?_push_size _ rfl)
 show _∧_
 rw [e1] at g2 ⊢
 refine ⟨⟨_,g2,rfl⟩,q _ g2 ?_ fun c o e => Heap.get?_push_of_some _ (Heap.get?_push_of_some _ e)⟩
 cases b <;> exact ⟨_,g1,rfl,rfl⟩
end
theorem RW {P : Program} {w : World} {A : Around} (hh : A.handled = none) (b : Bool) (it c : Addr) (hne : c ≠ it) (xs : Array Value) :
  Draws P w A it [it,c] xs.size (fun i v => xs[i]? = some v) (fun i h => Ri b it c i h∧EF b c xs h) where
 live := fun i h st => let ⟨o,e,_⟩ := (zw (P := P) (w := w) b it c).obj st.1;⟨o,e⟩
 frame := fun i h h' st hk => ⟨(zw (P := P) (w := w) b it c).keep st.1 fun o e => hk it (by simp) o e,(zw (P := P) (w := w) b it c).hkeep st.2 fun o e => hk c (by simp) o e⟩
 item := fun i s Q E hi st hQ => by
  refine (zw (P := P) (w := w) b it c).item st.1 st.2 (x := xs[i]) (by simp [hi]) fun h' st' sb => ?_
  exact hQ _ h' s.toks (by simp [hi]) ⟨st',(zw (P := P) (w := w) b it c).hkeep st.2 fun o e => (sb.2 c hne).trans e⟩ sb
 done := fun s Q E st hE => (zw (P := P) (w := w) b it c).done hh st.1 st.2 (by simp) hE
theorem UA {P : Program} {w : World} {A : Around} {s : Shared} {E : Value → Shared → Prop} {b : Bool} {e it c : Addr} {i : Nat} {xs : Array Value} {old : Value} {Q : Option Value → Shared → Prop} (hh : A.handled = none) (he : IsEnum s.heap e it i old) (p1 : Ri b it c i s.heap) (l1 : EF b c xs s.heap) (hx : xs[i]? = none)
  (hQ : ∀ h',Heap.ExtBut it s.heap h' → Q none { s with heap := h' }) : wpAny (model P w) A (pyNext (.ref e)) Q E s := by
 have hT : s.TypeIs (.ref e) "enumerate" := ⟨_,he,rfl⟩
 unfold pyNext
 refine wpAny_bind (wpAny_attempt (wpAny_callSpecial?_slot (name := Str.ofString "__next__") hT F.slot_enumerate_next
  (wpAny_call_entry F.slot_enumerate_next hT F.entry_enumerate_next ?_ (F.args_enumerate_next_1 _))))
 show wpAny _ _ (field (.ref e) 2 >>= _) _ _ _
 refine wpAny_bind (wpAny_field he rfl (x := .ref it) rfl ?_)
 refine wpAny_bind ((zw (P := P) (w := w) b it c).done (show A.in1.handled = none from hh) p1 l1 hx fun h' x he' hx' => ?_)
 obtain ⟨o,ho,hc⟩ := hx'
 refine wpAny_bind (wpAny_isInstance (T := "StopIteration") (b := true) ⟨o,ho,hc⟩ isSubtype_stop ?_)
 exact wpAny_pure (hQ _ he')
noncomputable def Ite (K : PySem.W.Frag) (b : Bool) (c : Addr) : It :=
  ⟨fun i H => ∃ xs x,SqB K b H c xs∧xs[i]? = some x,
   fun i H v H' => ∃ p x,H p = none∧v = .ref p∧H' = upd H p (.tup [.int i,x])∧(∀ xs,SqB K b H c xs → xs[i]? = some x),
   fun i H => ∃ xs,SqB K b H c xs∧xs.length ≤ i⟩
def M1 (b : Bool) (e it c : Addr) (k : Nat) (h : Heap) : Prop := (∃ old,IsEnum h e it k old)∧Ri b it c k h
theorem XU {P : Program} {w : World} {K : PySem.W.Frag} {es : List Expr} {k1 : Nat} {pt : Pos} {b : Bool} {e it c : Addr} (n1 : e ≠ it) (n2 : c ≠ e) (n3 : c ≠ it) : Turn P w K (.Tuple es k1 pt) (Ite K b c) [e,it] e (M1 b e it c) where
 mem := by simp
 obj := fun i h ⟨⟨old,he⟩,p1⟩ d hd => by
  simp only [List.mem_cons,List.not_mem_nil,or_false] at hd
  rcases hd with rfl | rfl
  ·exact ⟨_,he,fun v q => by cases q⟩
  ·exact (zw (P := P) (w := w) b d c).obj p1
 keep := fun i h h' ⟨⟨old,he⟩,p1⟩ k => ⟨⟨old,k e (by simp) _ he⟩,(zw (P := P) (w := w) b it c).keep p1 fun o e => k it (by simp) o e⟩
 item := by
  intro X hP hw hK hc i pins s σ H E I hf st hg
  subst hP hw hK
  obtain ⟨xs,x,sq,hx⟩ := hg
  obtain ⟨its,rv,l1,z1⟩ := sq.get I
  obtain ⟨u,hu,ru⟩ := rv.get hx
  obtain ⟨⟨old,he⟩,p1⟩ := st
  have hil : i < its.toArray.size := by have := (List.getElem?_eq_some_iff.mp hu).1;simpa using this
  refine wpAny_pyNext_enum_itemD (RW (show X.A.in1.handled = none from I.ok.hd hc) b it c n3 its.toArray) he ⟨p1,l1⟩ hil n1 (by simp only [List.mem_cons,List.not_mem_nil,or_false,not_or];exact ⟨n1,Ne.symm n2⟩) fun y h' tk hy ho st' ht hsz hk => ?_
  have hy' : y = u := by
   have : its.toArray[i]? = some u := by simpa using hu
   rw [this] at hy;exact (Option.some.inj hy).symm
  subst hy'
  have hfr : H s.heap.objs.size = none := I.fresh
  have free : ∀ b ∈ [e,it],H b = none := fun b hb => (hf b hb).1
  refine ⟨_,rfl,wpAny_letOwnedTupleGo_enum ho fun h2 hz2 s2 => ?_⟩
  have elt : e < s.heap.objs.size := Heap.lt_size he
  have hp2 : h2.get? s.heap.objs.size = some { cls := .type "tuple",data := .seq #[.int i tk,y] } := (s2.2 _ (Nat.ne_of_gt elt)).trans ht
  have up : ∀ c o,c ≠ e → h'.get? c = some o → h2.get? c = some o := fun c o hc e => (s2.2 c hc).trans e
  have kk : ∀ c o,c ∉ [e,it] → s.heap.get? c = some o → h2.get? c = some o := fun c o hc q => by
   simp only [List.mem_cons,List.not_mem_nil,or_false,not_or] at hc
   exact up c o hc.1 (hk c o hc.1 hc.2 q)
  have I3 : Inv X pins σ (upd H s.heap.objs.size (.tup [.int i,x])) { s with heap := h2,toks := tk + 1 } := by
   refine I.step (g' := s.gens) (d' := s.drawn) (t' := tk + 1) (ch := [e,it]) (fun b hb => ?_) (fun b o _ _ hcb e _ => kk b o hcb e) (fun b o _ _ hcb e _ => ⟨o.slots,kk b o hcb e⟩) (fun b o _ e n => by rw [qu (Nat.ne_of_lt (Heap.lt_size e))];exact n) (fun b o hcb e => ⟨o,kk b o hcb e⟩)
    (fun b _ e => by rw [qu (qp e hfr)];exact e) (fun b _ _ e => by rw [qu (qp e hfr)];exact e) (fun b ps e => ⟨#[],by rw [qu (qp e hfr),e];simp⟩) (fun m hm => ?_) (fun b u e => ?_) I.bare
   ·obtain ⟨f0,f1,f2,f3,f4,f5⟩ := hf b hb
    exact ⟨f3,f1,f4,f5⟩
   ·obtain ⟨o,es',ep,ho',r⟩ := hm
    refine ⟨o,es',ep,kk _ o (fun q => ?_) ho',r⟩
    obtain ⟨f0,f1,_⟩ := hf X.env.locals q
    exact f1 rfl
   ·by_cases hb : b = s.heap.objs.size
    ·subst hb
     rw [qW] at e
     cases e
     exact ⟨by show 2 ≤ sizeLine;decide,[.int i tk,y],.cons ⟨tk,rfl⟩ (.cons ru .nil),⟨_,hp2,rfl,_,rfl⟩⟩
    ·rw [qu hb] at e
     refine (I.hok b u e).stay (fun c v hcb q => kk c v (fun m => ?_) q) (fun _ q => by rw [qu (qp q hfr)];exact q) fun _ _ q => by rw [qu (qp q hfr)];exact q
     have hn := free c m
     rcases hcb with q | q
     ·rw [q] at hn;rw [hn] at e;cases e
     ·rw [hn] at q;cases q
  refine ⟨.ref s.heap.objs.size,_,I3,rfl,⟨_,x,hfr,rfl,rfl,fun zs q => by rw [q.inj I sq];exact hx⟩,⟨⟨_,by push_cast;exact hz2⟩,(zw (P := X.prog) (w := X.w) b it c).keep st'.1 fun o e => up _ o (Ne.symm n1) e⟩,fun b hb => ?_⟩
  rw [qu (fun q => ?_)]
  ·exact free b hb
  ·subst q
   simp only [List.mem_cons,List.not_mem_nil,or_false] at hb
   rcases hb with q | q
   ·exact absurd q (Nat.ne_of_gt elt)
   ·obtain ⟨o,e,_⟩ := (zw (P := X.prog) (w := X.w) b it c).obj p1
    exact absurd q (Nat.ne_of_gt (Heap.lt_size e))
 done := by
  intro X hP hw hK hc i pins s σ H E I hf st hg
  subst hP hw hK
  obtain ⟨xs,sq,hend⟩ := hg
  obtain ⟨its,rv,l1,z1⟩ := sq.get I
  obtain ⟨⟨old,he⟩,p1⟩ := st
  have e1 := rv.length
  have free : ∀ b ∈ [e,it],H b = none := fun b hb => (hf b hb).1
  refine UA (I.ok.hd hc) he p1 l1 (by simp;omega) fun h' hk0 => ⟨rfl,?_⟩
  have hk : ∀ c o,c ∉ [e,it] → s.heap.get? c = some o → h'.get? c = some o := fun c o hcb q => hk0 c o (by simp only [List.mem_cons,List.not_mem_nil,or_false,not_or] at hcb;exact hcb.2) q
  refine I.step (g' := s.gens) (d' := s.drawn) (t' := s.toks) (ch := [e,it]) (fun b hb => ?_) (fun b o _ _ hcb e _ => hk b o hcb e) (fun b o _ _ hcb e _ => ⟨o.slots,hk b o hcb e⟩) (fun _ _ _ _ n => n) (fun b o hcb e => ⟨o,hk b o hcb e⟩) (fun _ _ e => e) (fun _ _ _ e => e) (fun b ps e => ⟨#[],by rw [e];simp⟩) (fun m hm => ?_) (fun b u e => ?_) I.bare
  ·obtain ⟨f0,f1,f2,f3,f4,f5⟩ := hf b hb
   exact ⟨f3,f1,f4,f5⟩
  ·obtain ⟨o,es',ep,ho',r⟩ := hm
   refine ⟨o,es',ep,hk _ o (fun q => ?_) ho',r⟩
   obtain ⟨f0,f1,_⟩ := hf X.env.locals q
   exact f1 rfl
  ·refine (I.hok b u e).stay (fun c v hcb q => hk c v (fun m => ?_) q) (fun _ q => q) fun _ _ q => q
   have hn := free c m
   rcases hcb with q | q
   ·rw [q] at hn;rw [hn] at e;cases e
   ·rw [hn] at q;cases q
 self := fun A i s Q E st h => let ⟨⟨old,he⟩,_⟩ := st;wpAny_pyIter_enum he h
section
variable {X : Cx} {a b e l : Expr} {es : List Expr} {pos : Pos}
theorem K6 {p pt : Pos} {k1 : Nat} {ta : TA} (hg : Gl X "enumerate") (hm : X.mg "enumerate" = none) (ha : PA X [a] ta) (hs : starEach [a] X.env = [(false,eval a X.env)] := by rfl) :
  PI X (.Tuple es k1 pt) (.Call (.Name "enumerate" p) [a] [] pos) (fun σ H R => ta σ H fun vs H1 => ∃ b1 c1 xs,vs = [.ref c1]∧SqB X.K b1 H1 c1 xs∧R (Ite X.K b1 c1) H1) := by
 intro pins s σ H R I h
 refine Call_ (Vc I hg hm PyProof.Rows.boot_enumerate (PyProof.Rows.callWith_type1 (thn (ha pos pins s σ H _ I h) fun us s1 ⟨vs,H1,I1,r1,q1⟩ => ?_) (by rw [hs];rfl) (by rfl)))
 obtain ⟨b1,c1,xs,rfl,sq1,q⟩ := q1
 obtain ⟨u1,rfl,e1⟩ := Vx r1
 cases (show u1 = Value.ref c1 from e1)
 obtain ⟨its1,rv1,l1,z1⟩ := sq1.get I1
 refine WW l1 fun h' he hit hk => wpAny_pyIter_enum he ?_
 have lt := Ll l1
 have ne3 : ∀ n c : Nat,c < n → n + 1 ≠ n∧c ≠ n + 1∧c ≠ n := fun n c h => by omega
 obtain ⟨m1,m2,m3⟩ := ne3 _ _ lt
 refine ⟨s1.heap.objs.size + 1,[s1.heap.objs.size + 1,s1.heap.objs.size],_,_,H1,rfl,I1.kept (t' := s1.toks) hk,XU m1 m2 m3,⟨⟨_,he⟩,hit⟩,fun c hc => ?_,q⟩
 have hle : s1.heap.objs.size ≤ c := by
  simp only [List.mem_cons,List.not_mem_nil,or_false] at hc
  rcases hc with rfl | rfl <;> first | exact Nat.le_refl _ | exact Nat.le_add_right _ _
 exact I1.fpOk hle (I1.hok.fresh hle)
end
noncomputable def jL (k : Nat) : List T → List T
 | [] => []
 | x :: r => .tup [.int (k : Int),x] :: jL (k + 1) r
noncomputable def Rm (us : List T) : List T := jL 0 us
theorem Yn : ∀ {us : List T} {k i : Nat} {x : T},(jL k us)[i]? = some x → ∃ a,us[i]? = some a∧x = .tup [.int ((k + i : Nat) : Int),a]
 | [],_,_,_,h => by simp [jL] at h
 | u :: us,k,0,x,h => by simp [jL] at h;exact ⟨u,rfl,by simp [← h]⟩
 | u :: us,k,i + 1,x,h => by
  simp [jL] at h
  obtain ⟨a,ha,hx⟩ := Yn h
  exact ⟨a,by simpa using ha,by rw [hx];congr 4;omega⟩
theorem Yk : ∀ (us : List T) (k : Nat),(jL k us).length = us.length
 | [],_ => rfl
 | u :: us,k => by simp [jL,Yk us]
theorem X0 (us : List T) : (Rm us).length = us.length := Yk us 0
theorem UZ {us : List T} {i : Nat} {x : T} (h : (Rm us)[i]? = some x) : ∃ a,us[i]? = some a∧x = .tup [.int (i : Int),a] := by
 obtain ⟨a,ha,hx⟩ := Yn h
 exact ⟨a,ha,by rw [hx];congr 4;omega⟩
theorem Na {K : PySem.W.Frag} {b1 : Bool} {c1 : Addr} {x : T} {us : List T} {G0 : Gp} {H0 : Hp}
  (f1 : ∀ G H,HR K G H → Kp G0 H0 G H → Qu G x = some us → ∃ vs,SqB K b1 H c1 vs∧Rps K H us vs) :
  LX K (Ite K b1 c1) (Rm us) (fun G => Qu G x = some us) G0 H0 := by
 intro G H hr k h1
 obtain ⟨p,sp,rp⟩ := f1 G H hr k h1
 refine ⟨fun i z hz => ?_,fun i z v H' hz hy => ?_,⟨p,sp,?_⟩⟩
 ·obtain ⟨a,ha,_⟩ := UZ hz
  obtain ⟨v,hv,_⟩ := rp.get ha
  exact ⟨p,v,sp,hv⟩
 ·obtain ⟨a,ha,rfl⟩ := UZ hz
  obtain ⟨t,v1,ht,rfl,rfl,g1⟩ := hy
  obtain ⟨v,hv,rv⟩ := rp.get ha
  have e1 := (g1 p sp).symm.trans hv
  obtain rfl : v1 = v := Option.some.inj e1
  have kk : Kp G H G (upd H t (.tup [.int i,v1])) := Kp.laid ht
  exact ⟨.tup (SqT.of qW) (.cons (.int _) (.cons (rv.keep hr kk) .nil)),hr.laid ht,kk⟩
 ·rw [← rp.length,X0]
  exact Nat.le_refl _
noncomputable def VS (ta : TA3) : TI3 := fun τ G r => ta τ G fun xs G1 => match xs with
 | [x] => (match Qu G1 x with | some us => r (Rm us) (fun G => Qu G x = some us) G1 | _ => False)
 | _ => False
section
variable {X : Cx} {a b e l : Expr} {es : List Expr} {pos : Pos} {t : TA3}
theorem qcd {p pt : Pos} {k1 : Nat} (hg : Gl X "enumerate") (hm : X.mg "enumerate" = none) (ha : A3 X [a] t) (hs : starEach [a] X.env = [(false,eval a X.env)] := by rfl) :
  I3 X (.Tuple es k1 pt) (.Call (.Name "enumerate" p) [a] [] pos) (VS t) :=
 qcx (K6 hg hm ha hs) fun σ H R ⟨τ,G,r,rl,h,af⟩ => Zu rl h fun xs G1 h1 vs H1 rs hr1 k1 rl1 => by
  split at h1
  ·rename_i x
   split at h1
   ·rename_i us e1
    obtain ⟨v,rfl,r1⟩ := EC rs
    obtain ⟨b1,c1,rfl,f1⟩ := CA hr1 r1 e1
    obtain ⟨p,sp,_⟩ := f1 G1 H1 hr1 Kp.refl e1
    exact ⟨b1,c1,p,rfl,sp,af _ _ G1 h1 _ H1 hr1 k1 (Na f1)⟩
   ·exact h1.elim
  ·exact h1.elim
end
end L3
namespace L3
open PySem PySem.Spec PyProof.Rows L2
section
variable {X : Cx} {a b c e : Expr} {es : List Expr} {ta tb tc te : TE3} {t : TA3} {pos : Pos}
end
end L3
namespace L3
open PySem PySem.Spec PyProof.Rows L2
section
variable {X : Cx}
theorem LC {elt tg iter : Expr} {ifs : List Expr} {scope : Scope} {pos cpos : Pos} {N' : List Str} {m : List (Option Nat)} {wi : TI} {g : TG} {tif : TT} {te : TE} {use : Option (Value → Sem Unit)} {Qc : Value → Shared → Prop} {QD : Addr → Hp → Prop} (hc : X.calm = true) (hi : PI X tg iter wi)
  (hg : ∀ s H fp,PG (qj X N' scope s H fp) tg g) (hf : ∀ s H fp,PF (qj X N' scope s H fp) ifs tif) (he : ∀ s H fp,PE (qj X N' scope s H fp) elt te)
  (hsc : WF X.env.scope scope = true) (hcap : Je X.N N' scope m = true) (hs : ∀ x,foldedSetIterable iter X.env x = pure x) {pins : List (Addr × Obj)} {s : Shared} {σ : L2.St} {H : Hp} (I : Inv X pins σ H s)
  (h : wi σ H fun J H1 => ∀ D,H1 D = none →
   ∃ W : Nat → Nat → L2.St → Hp → Prop,(∃ n,W 0 n (cap m σ) (upd H1 D (.lst [])))∧∀ i n σ H,W i n σ H →
    (J.stop i H∧QD D H) ∨ (J.go i H∧∀ x H',J.yld i H x H' → g x σ H' fun σ2 H2 => tif σ2 H2 fun k H3 =>
     if k = true then te σ2 H3 fun y H4 => ∃ zs,H4 D = some (.lst zs)∧zs.length < sizeLine∧∃ n',n' < n∧W (i + 1) n' σ2 (upd H4 D (.lst (zs ++ [y])))
     else ∃ n',n' < n∧W (i + 1) n' σ2 H3))
  (fin : ∀ (D : Addr) (s3 : Shared) (H3 : Hp) (fp : List Addr) (s6 : Shared) (H6 : Hp) (σ6 : L2.St) (r : Flow),Inv X pins σ H3 s3 → (∀ b ∈ fp,E8 X pins H3 b) → Inv (qj X N' scope s3 H3 fp) [] σ6 H6 s6 → QD D H6 → compPost (model X.prog X.w) X.A X.xe use Qc (.ref D) s3.heap.objs.size (.ok r) s6) :
  wpAny (model X.prog X.w) X.A (comprehension (.ListComp elt [⟨tg,iter,ifs,0⟩] scope pos) scope X.env cpos (newList []) false (eval iter X.env) use) Qc X.xe s := by
 have sc := Yb hsc
 have hcl : ∀ y ∈ scope.names,y.2 = .free → ∃ c,X.env.cells.lookup y.1 = some c := fun y hy e => by
  rcases (sc.free y hy e).2 with z | z
  ·exact I.ok.has y.1 (.inl z)
  ·exact I.ok.has y.1 (.inr z)
 refine wpAny_comprehension_free (g := ⟨tg,iter,ifs,0⟩) (gs := []) rfl hs (QL hcl) sc.kind sc.loc ?_
 show wpAny _ _ (eval iter X.env) _ _ s
 refine thn (hi pins s σ H _ I h) fun v s1 h1 => thn h1 fun itv s2 h2 => ?_
 obtain ⟨it,fp,tn,J,H2,rfl,I2,T,st2,f2,hW⟩ := h2
 refine wpAny_newObj_type ?_
 have hD : H2 s2.heap.objs.size = none := I2.fresh
 obtain ⟨W,⟨n0,w0⟩,turn⟩ := hW _ hD
 generalize hDe : s2.heap.objs.size = D at *
 have I3 : Inv X pins σ (upd H2 D (.lst [])) { s2 with heap := s2.heap.push { cls := .type "list",dict := none,data := .seq ([] : List Value).toArray } } := by
  subst hDe
  exact I2.laid (t' := s2.toks) (fun b u e => Heap.get?_push_of_some _ e) (Nat.le_refl _) ⟨Nat.zero_le _,[],0,.nil,Heap.get?_push_size _ rfl⟩
 have ob2 := T.obj 0 _ st2
 have ob3 : ∀ b ∈ fp,∃ o,(s2.heap.push { cls := .type "list",dict := none,data := .seq ([] : List Value).toArray }).get? b = some o := fun b hb => let ⟨o,e,_⟩ := ob2 b hb;⟨o,Heap.get?_push_of_some _ e⟩
 have f3 : ∀ b ∈ fp,E8 X pins (upd H2 D (.lst [])) b := fun b hb => by
  obtain ⟨o,e,_⟩ := ob2 b hb
  have : b ≠ D := by rw [← hDe];exact Nat.ne_of_lt (Heap.lt_size e)
  exact ⟨by rw [qu this];exact (f2 b hb).1,(f2 b hb).2⟩
 have k23 : ∀ b o,s2.heap.get? b = some o → (s2.heap.push { cls := .type "list",dict := none,data := .seq ([] : List Value).toArray }).get? b = some o := fun b o e => Heap.get?_push_of_some _ e
 generalize hH3 : upd H2 D (.lst []) = H3 at *
 generalize hs3 : ({ s2 with heap := s2.heap.push { cls := .type "list",dict := none,data := .seq ([] : List Value).toArray } } : Shared) = s3 at *
 have ob3 : ∀ b ∈ fp,∃ o,s3.heap.get? b = some o := by rw [← hs3];exact ob3
 have k23 : ∀ b o,s2.heap.get? b = some o → s3.heap.get? b = some o := by rw [← hs3];exact k23
 refine jC fun h₁ hns hk hown => ?_
 have I4 : Inv (qj X N' scope s3 H3 fp) [] (cap m σ) H3 { s3 with heap := h₁ } := Uu hc I3 sc hcap f3 ob3 hns hk hown
 have tn4 : tn 0 h₁ := T.keep _ _ _ st2 fun b hb o e => hk b o (k23 b o e)
 have fr4 : ∀ b ∈ fp,H3 b = none := fun b hb => (f3 b hb).1
 have stat : ∀ {H' : Hp},(∀ b ∈ fp,H' b = none) → ∀ b ∈ fp,E8 (qj X N' scope s3 H3 fp) [] H' b := fun hn b hb => by
  refine ⟨hn b hb,I4.ok.exf b hb |>.1,I4.ok.exfs b hb,.inl hb,fun x c e => (I4.ok.exf b hb).2 x c e,fun p hp => absurd (show p ∈ ([] : List (Addr × Obj)) from hp) (by simp)⟩
 show codeAny (model X.prog X.w) X.A (.compStart (.ListComp elt [⟨tg,iter,ifs,0⟩] scope pos) 0 (.ref it) (.ref D) (qj X N' scope s3 H3 fp).env) (compPost (model X.prog X.w) X.A X.xe use Qc (.ref D) s3.heap.objs.size) { s3 with heap := h₁ }
 have loop : codeAny (model X.prog X.w) X.A (.compLoop (.ListComp elt [⟨tg,iter,ifs,0⟩] scope pos) 0 (.ref it) (.ref D) (qj X N' scope s3 H3 fp).env) (compPost (model X.prog X.w) X.A X.xe use Qc (.ref D) s3.heap.objs.size) { s3 with heap := h₁ } := by
  refine codeAny_loop rfl (fun n s' => ∃ i σ' H',Inv (qj X N' scope s3 H3 fp) [] σ' H' s'∧tn i s'.heap∧(∀ b ∈ fp,H' b = none)∧W i n σ' H') (fun n s' hI => ?_) n0 ⟨0,cap m σ,H3,I4,tn4,fr4,w0⟩
  show wpAny _ X.A ((compTurn (.ListComp elt [⟨tg,iter,ifs,0⟩] scope pos) 0 (.ref it) (.ref D) (qj X N' scope s3 H3 fp).env).onRaise (fun x => do noteFrame x (qj X N' scope s3 H3 fp).env;theTreesLotGoes x)) _ _ s'
  refine wpAny_noted ?_
  rw [compTurn_list]
  refine wpAny_bind (wpAny_standAt (wpAny_bind ?_))
  obtain ⟨i,σ5,H5,I5,st5,fr5,w5⟩ := hI
  rcases turn i n σ5 H5 w5 with ⟨stop,q⟩ | ⟨go,step⟩
  ·refine thn (T.done (qj X N' scope s3 H3 fp) rfl rfl rfl rfl i [] s' σ5 H5 _ I5 (stat fr5) st5 stop) fun r s6 ⟨hr,I6⟩ => ?_
   subst hr
   refine wpAny_pure ?_
   exact fin D s3 H3 fp s6 H5 σ5 _ I3 f3 I6 q
  ·refine thn (T.item (qj X N' scope s3 H3 fp) rfl rfl rfl rfl i [] s' σ5 H5 _ I5 (stat fr5) st5 go) fun r s6 ⟨u,hr,h6⟩ => ?_
   subst hr
   refine wpAny_bind (thn h6 fun _ s7 ⟨x,H7,I7,r7,y7,st7,fr7⟩ => ?_)
   have I7' := I7.pinned (stat fr7) (T.obj _ _ st7)
   have again : ∀ {σ8 : L2.St} {H8 : Hp} {s8 : Shared},Inv (qj X N' scope s3 H3 fp) ([] ++ Yl fp s7.heap) σ8 H8 s8 → (∃ n',n' < n∧W (i + 1) n' σ8 H8) →
     ∃ m',m' < n∧∃ i σ' H',Inv (qj X N' scope s3 H3 fp) [] σ' H' s8∧tn i s8.heap∧(∀ b ∈ fp,H' b = none)∧W i m' σ' H' := fun {σ8 H8 s8} I8 ⟨n',hn,w8⟩ => by
    refine ⟨n',hn,i + 1,σ8,H8,I8.unpinned,T.keep _ _ _ st7 fun b hb o e => (I8.pin (b,o) (List.mem_append_right _ (List.mem_append_right _ (zj hb e)))).1,fun b hb => ?_,w8⟩
    obtain ⟨o,e,d⟩ := T.obj _ _ st7 b hb
    exact (I8.pin (b,o) (List.mem_append_right _ (List.mem_append_right _ (zj hb e)))).2.1
   refine wpAny_bind (wpAny_mono (hg s3 H3 fp _ s7 σ5 H7 x u _ I7' r7 (step x H7 y7)) (fun _ s8 ⟨σ8,H8,I8,q8⟩ => ?_) fun _ _ z => z.elim)
   refine wpAny_bind (wpAny_mono (hf s3 H3 fp _ s8 σ8 H8 _ I8 q8) (fun k s9 ⟨H9,I9,q9⟩ => ?_) fun _ _ z => z.elim)
   cases k with
   | false =>
    rw [if_neg Bool.false_ne_true] at q9
    exact wpAny_pure ⟨rfl,again I9 q9⟩
   | true =>
    rw [if_pos rfl] at q9
    refine wpAny_bind (wpAny_bind (wpAny_mono (he s3 H3 fp _ s9 σ8 H9 _ I9 q9) (fun w s10 ⟨y,H10,I10,r10,q10⟩ => ?_) fun _ _ z => z.elim))
    obtain ⟨zs,hz,hl,q10⟩ := q10
    refine wpAny_bind (wpAny_mono (Js (X := qj X N' scope s3 H3 fp) _ s10 σ8 H10 (.ref D) [y] (.ref D) [w] (fun _ H11 => H11 = upd H10 D (.lst (zs ++ [y]))) I10 rfl (.cons r10 .nil) ⟨D,zs,y,rfl,rfl,hz,hl,rfl⟩) (fun _ s11 ⟨_,H11,I11,_,e11⟩ => ?_) fun _ _ z => z.elim)
    subst e11
    exact wpAny_pure (wpAny_pure ⟨rfl,again I11 q10⟩)
 exact codeAny_compStart_list loop (T.self X.A 0 _ _ _ tn4 loop)
theorem RP {i : Nat} {y : Str} {py spos : Pos} {elt tg iter : Expr} {ifs : List Expr} {scope : Scope} {pos : Pos} {N' : List Str} {m : List (Option Nat)} {wi : TI} {g : TG} {tif : TT} {te : TE} (hc : X.calm = true) (hN : X.N.Nodup) (hi : PI X tg iter wi)
  (hg : ∀ s H fp,PG (qj X N' scope s H fp) tg g) (hf : ∀ s H fp,PF (qj X N' scope s H fp) ifs tif) (he : ∀ s H fp,PE (qj X N' scope s H fp) elt te)
  (hsc : WF X.env.scope scope = true) (hcap : Je X.N N' scope m = true) (hs : ∀ x,foldedSetIterable iter X.env x = pure x) (hiy : X.N[i]? = some y) (hl : X.env.scope.names.lookup y = some .local)
  (hsw : swapsWith (.ListComp elt [⟨tg,iter,ifs,0⟩] scope pos) (some (.Name y py)) spos.line X.env = pure true) :
  PS X (.Assign [.Name y py] (.ListComp elt [⟨tg,iter,ifs,0⟩] scope pos) spos) (qex (tLC wi g tif te m) (Kt i)) := by
 intro pins s σ H D I h
 rw [exec_Assign_Name_used _ _ _ _ hsw]
 refine wpAny_bind (wpAny_standAt (wpAny_bind ?_))
 show wpAny _ X.A (do let _ ← comprehension (.ListComp elt [⟨tg,iter,ifs,0⟩] scope pos) scope X.env _ (newList []) false (eval iter X.env) (some (assign (.Name y py) X.env))) _ _ s
 refine wpAny_bind (wpAny_mono (LC (use := some (assign (.Name y py) X.env)) (QD := fun D' H' => D.nx (σ.set i (some (.ref D'))) H') (Qc := fun _ s' => ∃ σ' H',Inv X pins σ' H' s'∧D.nx σ' H') hc hi hg hf he hsc hcap hs I h fun D' s3 H3 fp s6 H6 σ6 r I3 f3 I6 q => ?_) (fun _ s' hq => wpAny_pure (wpAny_pure hq)) fun _ _ e => e)
 have I7 : Inv X pins σ H6 s6 := JG (h2 := s6.heap) I3 f3 I6 ⟨rfl,fun _ _ => rfl⟩
 obtain ⟨mm,hn6,_⟩ := I6.loc
 have hfC : E8 X pins H6 s3.heap.objs.size := I3.fpOk (Nat.le_refl _) I6.free
 obtain ⟨f0,f1,f2,f3',f4,f5⟩ := hfC
 show wpAny _ X.A (assign (.Name y py) X.env (.ref D')) _ _ _
 refine wpAny_assign_Name (Ei I7 hN hiy (.inl hl) (v := .ref D') rfl (fun s8 I8 hch => ?_) (.inr hl))
 obtain ⟨a,sb,ha⟩ := hch
 have hne : s3.heap.objs.size ≠ a := by
  rcases ha with rfl | ha
  ·exact f1
  ·exact Ne.symm (f4 _ _ ha)
 refine ⟨mm,hn6.sameBut sb hne,fun h' sb' => ⟨_,_,I8.turned (t' := s8.toks) (fun b o hb e => (sb'.2 b hb).trans e) f0 f1 f3' f4 f5,q⟩⟩
end
theorem qd0 {K : PySem.W.Frag} {m : List (Option Nat)} {wi : TI3} {g : TG3} {tif : TT3} {te : TE3} {σ : L2.St} {H : Hp} {Q : VK} (hh : lE K (lc3 wi g tif te m) σ H Q) : tLC (lI K wi) (lG K g) (lT K tif) (lE K te) m σ H Q := by
  obtain ⟨τ,G,q,rl,h,af⟩ := hh
  refine ⟨τ,G,_,rl,h,fun items stay G1 h1 J H1 hr1 k1 ok D hD => ?_⟩
  have gD : G1 D = none := hr1.free hD
  refine ⟨fun i n σ' H' => n = items.length - i∧i ≤ items.length∧∃ τ' G' ys vs,Rel K τ' G' σ' H'∧Kp G1 H1 G' H'∧H' D = some (.lst vs)∧Rps K H' ys vs∧G' D = none∧Xz stay g tif te q (items.drop i) ys τ' G',
   ⟨_,rfl,Nat.zero_le _,cap m τ,G1,[],[],((rl.next hr1 k1).cap m).next (hr1.laid hD) (Kp.laid hD),Kp.laid hD,qW,.nil,gD,by simpa using h1⟩,?_⟩
  rintro i n σ' H' ⟨rfl,hi,τ',G',ys,vs,rl',k',hDl,rys,gD',h'⟩
  by_cases hlt : i < items.length
  ·rw [List.drop_eq_getElem_cons hlt] at h'
   obtain ⟨hst,h'⟩ := h'
   obtain ⟨go,yld,_⟩ := ok G' H' rl'.hp k' hst
   have hx : items[i]? = some items[i] := List.getElem?_eq_getElem hlt
   refine .inr ⟨go i _ hx,fun v H2 y => ?_⟩
   obtain ⟨rv,hr2,k2⟩ := yld i _ v H2 hx y
   have nxt : ∀ {τ4 : St3} {G4 : Gp} {σ4 : L2.St} {H4 : Hp} {ys4 : List T} {vs4 : List V},Rel K τ4 G4 σ4 H4 → Kp G1 H1 G4 H4 → H4 D = some (.lst vs4) → Rps K H4 ys4 vs4 → G4 D = none → Xz stay g tif te q (items.drop (i + 1)) ys4 τ4 G4 →
     ∃ n',n' < items.length - i∧(n' = items.length - (i + 1)∧i + 1 ≤ items.length∧∃ τ' G' ys vs,Rel K τ' G' σ4 H4∧Kp G1 H1 G' H4∧H4 D = some (.lst vs)∧Rps K H4 ys vs∧G' D = none∧Xz stay g tif te q (items.drop (i + 1)) ys τ' G') :=
    fun {τ4 G4 σ4 H4 ys4 vs4} a b c d e f => ⟨_,by omega,rfl,hlt,τ4,G4,ys4,vs4,a,b,c,d,e,f⟩
   refine ⟨_,τ',G',_,rv,rl'.next hr2 k2,h',fun τ3 G3 h3 σ3 H3 rl3 k3 => ⟨τ3,G3,_,rl3,h3,fun k G4 h4 H4 hr4 k4 => ?_⟩⟩
   have kk := (k2.trans k3).trans k4
   obtain ⟨hD4,gD4⟩ := kk D _ hDl gD'
   have rys4 := rys.keep rl'.hp kk
   cases k with
   | false =>
    rw [if_neg Bool.false_ne_true] at h4
    refine qdj ?_
    exact nxt (rl3.next hr4 k4) (k'.trans kk) hD4 rys4 gD4 h4
   | true =>
    rw [if_pos rfl] at h4
    refine qdk ?_
    refine ⟨τ3,G4,_,rl3.next hr4 k4,h4,fun z G5 h5 w H5 rw5 hr5 k5 => ?_⟩
    obtain ⟨hD5,gD5⟩ := k5 D _ hD4 gD4
    have rys5 := rys4.keep hr4 k5
    exact ⟨vs,hD5,by rw [← rys.length];exact h5.1,nxt (((rl3.next hr4 k4).next hr5 k5).wrD hD5 gD5) (((k'.trans kk).trans k5).wrD hD) qW ((rys5.append (.cons rw5 .nil)).wrD hD5) gD5 h5.2⟩
  ·have e : i = items.length := by omega
   subst e
   rw [List.drop_length] at h'
   obtain ⟨_,_,stop⟩ := ok G' H' rl'.hp k' h'.1
   refine .inl ⟨stop,af _ _ (h'.2 D gD') _ H' (.ref D) (fun a o e => ?_) fun a o e ga => ?_⟩
   ·by_cases ha : a = D
    ·subst ha
     rw [qD] at e;cases e
     exact ⟨vs,hDl,rys⟩
    ·rw [j9 ha] at e
     exact rl'.hp a o e
   ·obtain ⟨e1,g1⟩ := k1 a o e ga
    obtain ⟨e2,g2⟩ := k' a o e1 g1
    exact ⟨e2,by rw [j9 (qp e1 hD)];exact g2⟩
theorem LH {X : Cx} {py spos : Pos} {elt tg iter : Expr} {ifs : List Expr} {scope : Scope} {pos : Pos} {y : Str} (i : Nat) (N' : List Str) (m : List (Option Nat)) {wi : TI3} {g : TG3} {tif : TT3} {te : TE3} (hc : X.calm = true) (hN : X.N.Nodup) (hi : I3 X tg iter wi)
  (hg : ∀ s H fp,G3 (qj X N' scope s H fp) tg g) (hf : ∀ s H fp,F3 (qj X N' scope s H fp) ifs tif) (he : ∀ s H fp,E3 (qj X N' scope s H fp) elt te)
  (hsc : WF X.env.scope scope = true) (hcap : Je X.N N' scope m = true) (hl : X.env.scope.names.lookup y = some .local) (hsw : swapsWith (.ListComp elt [⟨tg,iter,ifs,0⟩] scope pos) (some (.Name y py)) spos.line X.env = pure true) (hiy : X.N[i]? = some y := by rfl) (hs : ∀ x,foldedSetIterable iter X.env x = pure x := by intro _;rfl) :
  S3 X (.Assign [.Name y py] (.ListComp elt [⟨tg,iter,ifs,0⟩] scope pos) spos) (zz (lc3 wi g tif te m) (gn3 i)) :=
 Kl (RP (g := lG X.K g) (tif := lT X.K tif) (te := lE X.K te) hc hN hi hg hf he hsc hcap hs hiy hl hsw) fun _ σ H ⟨τ,G,d,rl,h,af⟩ =>
  qd0 ⟨τ,G,_,rl,h,fun x G1 h1 v H1 rx hr1 k1 => af.nx _ G1 h1 _ H1 ((rl.next hr1 k1).set i rx) k1⟩
end L3
set_option autoImplicit true
namespace L3
open PySem PySem.Spec PyProof.Rows L2
structure jE3 (X : Cx) (e : Expr) (t : TE3) : Prop where h : E3 X e t
structure jC3 (X : Cx) (e : Expr) (t : TT3) : Prop where h : C3 X e t
structure jW3 (X : Cx) (e : Expr) (t : TT3) : Prop where h : W3 X e t
structure jA3 (X : Cx) (e : List Expr) (t : TA3) : Prop where h : A3 X e t
structure jP3 (X : Cx) (e : Option Expr) (t : TO3) : Prop where h : P3 X e t
structure jS3 (X : Cx) (e : Stmt) (t : TS3) : Prop where h : S3 X e t
structure jB3 (X : Cx) (e : List Stmt) (t : TS3) : Prop where h : B3 X e t
structure jG3 (X : Cx) (e : Expr) (t : TG3) : Prop where h : G3 X e t
structure jGs3 (X : Cx) (e : List Expr) (t : EB) : Prop where h : Gs3 X e t
structure jI3 (X : Cx) (tg e : Expr) (t : TI3) : Prop where h : I3 X tg e t
structure jF3 (X : Cx) (e : List Expr) (t : TT3) : Prop where h : F3 X e t
theorem qb {X : Cx} (i : Nat) {x : Str} {pos : Pos} (hN : X.N[i]? = some x := by rfl) (hv : Vis X.env.scope x := by first | exact Or.inl rfl | exact Or.inr (Or.inl rfl) | exact Or.inr (Or.inr rfl)) (hd : (x == ("__debug__" : Str)) = false := by decide)
  (hcd : (x == ("__classdict__" : Str)) = false := by decide) : jE3 X (.Name x pos) (v3 i) :=
 ⟨qe0 (i := i) (hN := hN) (hv := hv) (hd := hd) (hcd := hcd)⟩
theorem qe {X : Cx} {i : Int} {j pos} : jE3 X (.Constant (.int i) j pos) (c3 (.int i)) :=
 ⟨qfg ⟩
theorem Yy {X : Cx} {b : Bool} {j pos} : jE3 X (.Constant (.bool b) j pos) (c3 (.bl b)) :=
 ⟨qhg ⟩
theorem YV {X : Cx} {j pos} : jE3 X (.Constant .none j pos) (c3 .non) :=
 ⟨qfp ⟩
theorem zX {X : Cx} {x : Str} {j pos} : jE3 X (.Constant (.str x) j pos) (c3 (.str x)) :=
 ⟨qe7 ⟩
theorem J8 {ta : TE3} {tb : TE3} {pos : Pos} {a : Expr} {b : Expr} {X : Cx} {op : CmpOp} {r3 : R3} {r : R2} (ho : OpR X (compareOp op) r) (hr : Ys X.K r3 r) (ha : jE3 X a ta) (hb : jE3 X b tb) (hm : behindInMarks op b = false) : jE3 X (.Compare a [op] [b] pos) (o3 r3 ta tb) :=
 ⟨qep (ho := ho) (hr := hr) (ha := ha.h) (hb := hb.h) (hm := hm)⟩
theorem qz {ta : TE3} {tb : TE3} {pos : Pos} {a : Expr} {b : Expr} {X : Cx} {op : CmpOp} {r3 : R3} {r : R2} (ho : OpR X (compareOp op) r) (hr : Ys X.K r3 r) (ha : jE3 X a ta) (hb : jE3 X b tb) (hm : behindInMarks op b = false) : jC3 X (.Compare a [op] [b] pos) (tb3 (o3 r3 ta tb)) :=
 ⟨qdy (ho := ho) (hr := hr) (ha := ha.h) (hb := hb.h) (hm := hm)⟩
theorem RM {ta : TE3} {tb : TE3} {tc : TE3} {pos : Pos} {a : Expr} {b : Expr} {c : Expr} {X : Cx} {op op' : CmpOp} {r3 r3' : R3} {r r' : R2} (ho : OpR X (compareOp op) r) (hr : Ys X.K r3 r) (ho' : OpR X (compareOp op') r') (hr' : Ys X.K r3' r') (ha : jE3 X a ta) (hb : jE3 X b tb) (hc : jE3 X c tc)
  (hm : lastMarks [op,op'] [b,c] = false := by with_unfolding_all rfl) : jE3 X (.Compare a [op,op'] [b,c] pos) (ch3 r3 r3' ta tb tc) :=
 ⟨K9 (ho := ho) (hr := hr) (ho' := ho') (hr' := hr') (ha := ha.h) (hb := hb.h) (hc := hc.h) (hm := hm)⟩
theorem D0 {ta : TE3} {tb : TE3} {pos : Pos} {a : Expr} {b : Expr} {X : Cx} (ha : jE3 X a ta) (hb : jE3 X b tb) : jE3 X (.BinOp a .Sub b pos) (o3 (iI (· - ·)) ta tb) :=
 ⟨qer (ha := ha.h) (hb := hb.h)⟩
theorem zH {ta : TE3} {tb : TE3} {pos : Pos} {a : Expr} {b : Expr} {X : Cx} (ha : jE3 X a ta) (hb : jE3 X b tb) : jE3 X (.BinOp a .Mult b pos) (o3 (iC Qm (· * ·)) ta tb) :=
 ⟨qfq (ha := ha.h) (hb := hb.h)⟩
theorem ZQ {ta : TE3} {tb : TE3} {pos : Pos} {a : Expr} {b : Expr} {X : Cx} (ha : jE3 X a ta) (hb : jE3 X b tb) : jE3 X (.BinOp a .Mod b pos) (o3 (iC (fun _ j => 0 < j) (· % ·)) ta tb) :=
 ⟨qed (ha := ha.h) (hb := hb.h)⟩
theorem UE {ta : TE3} {tb : TE3} {pos : Pos} {a : Expr} {b : Expr} {X : Cx} (ha : jE3 X a ta) (hb : jE3 X b tb) : jE3 X (.BinOp a .FloorDiv b pos) (o3 (iC W5 (· / ·)) ta tb) :=
 ⟨qf8 (ha := ha.h) (hb := hb.h)⟩
theorem Nu {ta : TE3} {tb : TE3} {pos : Pos} {a : Expr} {b : Expr} {X : Cx} (ha : jE3 X a ta) (hb : jE3 X b tb) : jE3 X (.BinOp a .Pow b pos) (o3 (iC Mt (fun i j => i ^ j.toNat)) ta tb) :=
 ⟨qew (ha := ha.h) (hb := hb.h)⟩
theorem En {ta : TE3} {pos : Pos} {a : Expr} {X : Cx} (ha : jE3 X a ta) : jE3 X (.UnaryOp .USub a pos) (u3 WC ta) :=
 ⟨qd9 (ha := ha.h)⟩
theorem Jn {tA : TT3} {pos : Pos} {a : Expr} {X : Cx} (ha : jC3 X a tA) : jW3 X (.BoolOp .Or [a] pos) tA :=
 ⟨qdt (ha := ha.h)⟩
theorem JS {ZI : List Expr} {tA : TT3} {tB : TT3} {pos : Pos} {a : Expr} {X : Cx} (ha : jC3 X a tA) (hb : jW3 X (.BoolOp .Or (b :: ZI) pos) tB) : jW3 X (.BoolOp .Or (a :: b :: ZI) pos) (or3 tA tB) :=
 ⟨qhj (ha := ha.h) (hb := hb.h)⟩
theorem ZX {tA : TT3} {pos : Pos} {a : Expr} {X : Cx} (ha : jC3 X a tA) : jC3 X (.UnaryOp .Not a pos) (D9 tA) :=
 ⟨qel (ha := ha.h)⟩
theorem ZU {X : Cx} {e : Expr} {t : TE3} (h : jE3 X e t) (he : ∀ whole,isTrue e X.env whole = (do let v ← whole;standAt e.pos;holding [v] (truthy v)) := by intro _;rfl) : jC3 X e (tb3 t) :=
 ⟨qd3 (h := h.h) (he := he)⟩
theorem YZ {ta : TE3} {pos : Pos} {a : Expr} {X : Cx} {op} (h : jE3 X a ta) : jE3 X (.BoolOp op [a] pos) ta :=
 ⟨qfc (h := h.h)⟩
theorem Ve {ZI : List Expr} {ta : TE3} {tb : TE3} {pos : Pos} {a : Expr} {X : Cx} (ha : jE3 X a ta) (hb : jE3 X (.BoolOp .And (b :: ZI) pos) tb) : jE3 X (.BoolOp .And (a :: b :: ZI) pos) (JB ta tb) :=
 ⟨qee (ha := ha.h) (hb := hb.h)⟩
theorem Sc {ta : TE3} {pos : Pos} {a : Expr} {X : Cx} (ha : jE3 X a ta) : jE3 X (.UnaryOp .Not a pos) (Ck ta) :=
 ⟨qev (ha := ha.h)⟩
theorem Li {tA : TT3} {ta : TE3} {tb : TE3} {pos : Pos} {a : Expr} {b : Expr} {X : Cx} {c : Expr} (hc : jC3 X c tA) (ha : jE3 X a ta) (hb : jE3 X b tb) : jE3 X (.IfExp c a b pos) (if3 tA ta tb) :=
 ⟨qh1 (hc := hc.h) (ha := ha.h) (hb := hb.h)⟩
theorem qd {X : Cx}  : jA3 X [] qh :=
 ⟨qf6 ⟩
theorem qa {te : TE3} {t : TA3} {es : List Expr} {X : Cx} (ha : jE3 X e te) (hr : jA3 X es t) (hs : starEach (e :: es) X.env = (false,eval e X.env) :: starEach es X.env := by rfl) : jA3 X (e :: es) (qc te t) :=
 ⟨qbs (ha := ha.h) (hr := hr.h) (hs := hs)⟩
theorem zc {t : TA3} {pos : Pos} {es : List Expr} {X : Cx} {x1} (h : jA3 X es t) : jE3 X (.Tuple es x1 pos) (Q0 t) :=
 ⟨qdw (h := h.h)⟩
theorem zJ {t : TA3} {pos : Pos} {es : List Expr} {X : Cx} (h : jA3 X es t) : jE3 X (.List es pos) (Zo t) :=
 ⟨qe5 (h := h.h)⟩
theorem qB {t : TA3} {pos : Pos} {es : List Expr} {X : Cx} {x : Str} {p : Pos} {id : String} {r3 : List T → Gp → Q3 → Prop} {r : List V → Hp → VK → Prop} (hc : ZN X (.builtin id) r) (hr : W1 X.K r3 r) (hg : Gl X x) (hm : X.mg x = none) (hv : bootBuiltins x = some (.builtin id)) (ha : jA3 X (e :: es) t) (hn : x ≠ "__name__" := by decide) (hdb : (x == ("__debug__" : Str)) = false := by decide)
  (he : starEach (e :: es) X.env = (false,eval e X.env) :: starEach es X.env := by rfl) (hpl : (backTo pos (starEach es X.env)).any (·.1) = false := by rfl) : jE3 X (.Call (.Name x p) (e :: es) [] pos) (cb3 r3 t) :=
 ⟨L0 (hc := hc) (hr := hr) (hg := hg) (hm := hm) (hv := hv) (ha := ha.h) (hn := hn) (hdb := hdb) (he := he) (hpl := hpl)⟩
theorem zb {t : TA3} {pos : Pos} {es : List Expr} {X : Cx} {x : Str} {p : Pos} {ty : String} {r3 : List T → Gp → Q3 → Prop} {r : List V → Hp → VK → Prop} (hc : ZN X (.type ty) r) (hr : W1 X.K r3 r) (hg : Gl X x) (hm : X.mg x = none) (hv : bootBuiltins x = some (.type ty)) (ha : jA3 X (e :: es) t) (hn : x ≠ "__name__" := by decide) (hdb : (x == ("__debug__" : Str)) = false := by decide)
  (he : starEach (e :: es) X.env = (false,eval e X.env) :: starEach es X.env := by rfl) (hpl : (backTo pos (starEach es X.env)).any (·.1) = false := by rfl) : jE3 X (.Call (.Name x p) (e :: es) [] pos) (cb3 r3 t) :=
 ⟨CZ (hc := hc) (hr := hr) (hg := hg) (hm := hm) (hv := hv) (ha := ha.h) (hn := hn) (hdb := hdb) (he := he) (hpl := hpl)⟩
theorem qF {ta : TE3} {tb : TE3} {pos : Pos} {a : Expr} {b : Expr} {X : Cx} (ha : jE3 X a ta) (hb : jE3 X b tb) (hs : JT b := by intro _ _;rfl) : jE3 X (.Subscript a b pos) (o3 ix3 ta tb) :=
 ⟨qif (ha := ha.h) (hb := hb.h) (hs := hs)⟩
theorem zS {X : Cx}  : jP3 X none np3 :=
 ⟨NC ⟩
theorem zd {te : TE3} {e : Expr} {X : Cx} (h : jE3 X e te) : jP3 X (some e) (sp3 te) :=
 ⟨Nl (h := h.h)⟩
theorem jb {te : TE3} {pos : Pos} {e : Expr} {X : Cx} {lo hi : Option Expr} {tl th : TO3} {p2 : Pos} (he : jE3 X e te) (hl : jP3 X lo tl) (hu : jP3 X hi th) : jE3 X (.Subscript e (.Slice lo hi none p2) pos) (ET te tl th) :=
 ⟨Ky (he := he.h) (hl := hl.h) (hu := hu.h)⟩
theorem qy {ta : TE3} {tb : TE3} {pos : Pos} {a : Expr} {b : Expr} {X : Cx} (ha : jE3 X a ta) (hb : jE3 X b tb) : jE3 X (.BinOp a .Add b pos) (o3 je ta tb) :=
 ⟨MK (ha := ha.h) (hb := hb.h)⟩
theorem YQ {t : TA3} {e : Expr} {X : Cx} {o : Expr} {to : TE3} {apos cpos : Pos} (ho : jE3 X o to) (ha : jA3 X [e] t)
  (hbase : attributeBase o "append" X.env (eval o X.env) = eval o X.env := by rfl)
  (hfew : ((backTo cpos (starEach [e] X.env)).all (fun x => !x.1) && (backToKw cpos (keywordEach [] X.env)).all (fun x => x.1.isSome)
   && decide (([e] : List Expr).length + ([] : List Keyword).length + (if ([] : List Keyword).isEmpty then 0 else 1) < 30)) = true := by rfl)
  (hline : (apos.endLine == cpos.line) = true := by rfl) (hs : starEach [e] X.env = (false,eval e X.env) :: starEach [] X.env := by rfl) (hplain : (backTo cpos (starEach [] X.env)).any (·.1) = false := by rfl) : jE3 X (.Call (.Attribute o "append" apos) [e] [] cpos) (bm3 CO to t) :=
 ⟨R5 (ho := ho.h) (ha := ha.h) (hbase := hbase) (hfew := hfew) (hline := hline) (hs := hs) (hplain := hplain)⟩
theorem CC {t : TA3} {e : Expr} {X : Cx} {o : Expr} {to : TE3} {apos cpos : Pos} (ho : jE3 X o to) (ha : jA3 X [e] t)
  (hbase : attributeBase o "extend" X.env (eval o X.env) = eval o X.env := by rfl)
  (hfew : ((backTo cpos (starEach [e] X.env)).all (fun x => !x.1) && (backToKw cpos (keywordEach [] X.env)).all (fun x => x.1.isSome)
   && decide (([e] : List Expr).length + ([] : List Keyword).length + (if ([] : List Keyword).isEmpty then 0 else 1) < 30)) = true := by rfl)
  (hline : (apos.endLine == cpos.line) = true := by rfl) (hs : starEach [e] X.env = (false,eval e X.env) :: starEach [] X.env := by rfl) (hplain : (backTo cpos (starEach [] X.env)).any (·.1) = false := by rfl) : jE3 X (.Call (.Attribute o "extend" apos) [e] [] cpos) (bm3 KY to t) :=
 ⟨Rj (ho := ho.h) (ha := ha.h) (hbase := hbase) (hfew := hfew) (hline := hline) (hs := hs) (hplain := hplain)⟩
theorem Z7 {te : TE3} {pos : Pos} {e : Expr} {X : Cx} {tn : Str} {ty : String} {p p2 : Pos} (he : jE3 X e te) (hg : Gl X "isinstance") (hm : X.mg "isinstance" = none) (hg2 : Gl X tn) (hm2 : X.mg tn = none) (hv : bootBuiltins tn = some (.type ty)) (hmem : ty ∈ EZ := by decide) (hn : tn ≠ "__name__" := by decide) (hdb : (tn == ("__debug__" : Str)) = false := by decide)
  (hs : starEach [e,.Name tn p2] X.env = (false,eval e X.env) :: starEach [.Name tn p2] X.env := by rfl) (hs2 : starEach [.Name tn p2] X.env = (false,eval (.Name tn p2) X.env) :: starEach [] X.env := by rfl) (hpl : (backTo pos (starEach [.Name tn p2] X.env)).any (·.1) = false := by rfl) : jE3 X (.Call (.Name "isinstance" p) [e,.Name tn p2] [] pos) (ER (fun t => jV t ty) te) :=
 ⟨qez (he := he.h) (hg := hg) (hm := hm) (hg2 := hg2) (hm2 := hm2) (hv := hv) (hmem := hmem) (hn := hn) (hdb := hdb) (hs := hs) (hs2 := hs2) (hpl := hpl)⟩
theorem qJ {X : Cx}  : jB3 X [] qT :=
 ⟨qen ⟩
theorem qg {ZI : List Stmt} {st : Stmt} {t1 : TS3} {t2 : TS3} {X : Cx} (h1 : jS3 X st t1) (h2 : jB3 X ZI t2) : jB3 X (st :: ZI) (qK t1 t2) :=
 ⟨NO (h1 := h1.h) (h2 := h2.h)⟩
theorem qm {st : Stmt} {t1 : TS3} {X : Cx} (h1 : jS3 X st t1) : jB3 X [st] t1 :=
 ⟨qfx (h1 := h1.h)⟩
theorem Up {te : TE3} {pos : Pos} {e : Expr} {X : Cx} (he : jE3 X e te) (hs : swapsWith e none pos.line X.env = pure false := by rfl) : jS3 X (.Expr e pos) (Vf te) :=
 ⟨qa4 (he := he.h) (hs := hs)⟩
theorem qo {te : TE3} {pos : Pos} {e : Expr} {X : Cx} (he : jE3 X e te) : jS3 X (.Return (some e) pos) (ze te) :=
 ⟨qfs (he := he.h)⟩
theorem z9 {tA : TT3} {t1 : TS3} {t2 : TS3} {pos : Pos} {X : Cx} {c : Expr} {ba bb : List Stmt} (hc : jC3 X c tA) (ha : jB3 X ba t1) (hb : jB3 X bb t2) : jS3 X (.If c ba bb pos) (jX tA t1 t2) :=
 ⟨qh0 (hc := hc.h) (ha := ha.h) (hb := hb.h)⟩
theorem qA {pos : Pos} {X : Cx} {i : Nat} {x : Str} (hN : X.N.Nodup) (hi : X.N[i]? = some x := by rfl) (hx : Loc X.env.scope x := by first | exact Or.inl rfl | exact Or.inr rfl) (hf : X.fn x = true ∨ X.env.scope.names.lookup x = some .local := by first | exact .inl rfl | exact .inr rfl) : jG3 X (.Name x pos) (gn3 i) :=
 ⟨qa8 (hN := hN) (hi := hi) (hx := hx) (hf := hf)⟩
theorem Zx {X : Cx}  : jGs3 X [] J9 :=
 ⟨qga ⟩
theorem qP {es : List Expr} {X : Cx} {tg : TG3} {tgs : EB} (h1 : jG3 X e tg) (h2 : jGs3 X es tgs) (hs : (assignEach (e :: es) X.env).map (·.2) = assign e X.env :: (assignEach es X.env).map (·.2) := by rfl) : jGs3 X (e :: es) (zf tg tgs) :=
 ⟨qci (h1 := h1.h) (h2 := h2.h) (hs := hs)⟩
theorem Z0 {pos : Pos} {es : List Expr} {X : Cx} {k : Nat} {tgs : EB} {n : Nat} (hc : X.calm = true) (h : jGs3 X es tgs) (hn : (assignEach es X.env).length = n := by rfl) (hst : (assignEach es X.env).findIdx? (·.1) = none := by rfl) : jG3 X (.Tuple es k pos) (Jx n tgs) :=
 ⟨qgc (hc := hc) (h := h.h) (hn := hn) (hst := hst)⟩
theorem TU {pos : Pos} {X : Cx} {o i : Expr} {to ti : TE3} (ho : jE3 X o to) (hi : jE3 X i ti) (ha : ∀ v,assign (.Subscript o i pos) X.env v = (do
      let ov ← holding [v] (eval o X.env)
      let iv ← holding [v,ov] (eval i X.env)
      standAt pos
      holding [v,ov,iv] (setItem ov iv v)
      release [v,ov,iv] []) := by intro _;rfl) : jG3 X (.Subscript o i pos) (Uz to ti) :=
  ⟨qf4 (ho := ho.h) (hi := hi.h) (ha := ha)⟩
theorem Vp {te : TE3} {pos : Pos} {X : Cx} {tg e : Expr} {g : TG3} (he : jE3 X e te) (hg : jG3 X tg g) (hs : swapsWithSole [tg] e pos.line X.env = pure false := by rfl) (hw : swappedStores [tg] e X.env = pure none := by rfl)
  (h1 : (assignEach [tg] X.env).map (·.2) = [assign tg X.env] := by rfl) : jS3 X (.Assign [tg] e pos) (zz te g) :=
 ⟨qf1 (he := he.h) (hg := hg.h) (hs := hs) (hw := hw) (h1 := h1)⟩
theorem qZ {te : TE3} {pos : Pos} {X : Cx} (i : Nat) {x : Str} {e : Expr} {pos' : Pos} (hN : X.N.Nodup) (he : jE3 X e te) (hi : X.N[i]? = some x := by rfl) (hx : Loc X.env.scope x := by first | exact Or.inl rfl | exact Or.inr rfl) (hs : swapsWith e (some (.Name x pos')) pos.line X.env = pure false := by rfl) (hf : X.fn x = true ∨ X.env.scope.names.lookup x = some .local := by first | exact .inl rfl | exact .inr rfl) : jS3 X (.Assign [.Name x pos'] e pos) (zz te (gn3 i)) :=
 ⟨qdv (i := i) (hN := hN) (he := he.h) (hi := hi) (hx := hx) (hs := hs) (hf := hf)⟩
theorem Ej {pos : Pos} {X : Cx} {i j : Nat} {x y : Str} {a b : Expr} {tt : TA3} {px py pt : Pos} {kt k2 pt2} (hc : X.calm = true) (hN : X.N.Nodup) (hi : X.N[i]? = some x) (hj : X.N[j]? = some y) (hij : i ≠ j)
  (hx : X.env.scope.names.lookup x = some .local) (hy : X.env.scope.names.lookup y = some .local) (ha : jA3 X [a,b] tt)
  (hw : swappedStores [.Tuple [.Name x px,.Name y py] kt pt] (.Tuple [a,b] k2 pt2) X.env = pure (some [x,y]) := by rfl)
  (hs : swapsWithSole [.Tuple [.Name x px,.Name y py] kt pt] (.Tuple [a,b] k2 pt2) pos.line X.env = pure false := by rfl) : jS3 X (.Assign [.Tuple [.Name x px,.Name y py] kt pt] (.Tuple [a,b] k2 pt2) pos) (CL i j tt) :=
 ⟨qfr (hc := hc) (hN := hN) (hi := hi) (hj := hj) (hij := hij) (hx := hx) (hy := hy) (ha := ha.h) (hw := hw) (hs := hs)⟩
theorem YH {te : TE3} {X : Cx} {tg : Expr} {l : Expr} (hl : jE3 X l te) : jI3 X tg l (YM te) :=
 ⟨qfe (hl := hl.h)⟩
theorem qM {t : TA3} {pos : Pos} {a : Expr} {X : Cx} {tg : Expr} {p : Pos} (hg : Gl X "range") (hm : X.mg "range" = none) (ha : jA3 X [a] t) (hs : starEach [a] X.env = [(false,eval a X.env)] := by rfl) (h1 : ∀ τ G q,t τ G q → t τ G fun xs G => q xs G∧xs.length = 1) : jI3 X tg (.Call (.Name "range" p) [a] [] pos) (zW t) :=
 ⟨Ro (hg := hg) (hm := hm) (ha := ha.h) (hs := hs) (h1 := h1)⟩
theorem Eg {t : TA3} {pos : Pos} {a : Expr} {b : Expr} {X : Cx} {tg : Expr} {p : Pos} (hg : Gl X "range") (hm : X.mg "range" = none) (ha : jA3 X [a,b] t) (hs : starEach [a,b] X.env = [(false,eval a X.env),(false,eval b X.env)] := by rfl) (hs2 : starEach [b] X.env = [(false,eval b X.env)] := by rfl) (h1 : ∀ τ G q,t τ G q → t τ G fun xs G => q xs G∧xs.length = 2) : jI3 X tg (.Call (.Name "range" p) [a,b] [] pos) (zW t) :=
 ⟨RC (hg := hg) (hm := hm) (ha := ha.h) (hs := hs) (hs2 := hs2) (h1 := h1)⟩
theorem Q4 {pos : Pos} {X : Cx} {tg : Expr} {iter : Expr} {body : List Stmt} {wi : TI3} {g : TG3} {tb : TS3} (hp : PassesOwn (model X.prog X.w) X.A X.env X.xe) (hc : X.calm = true) (hi : jI3 X tg iter wi) (hg : jG3 X tg g) (hb : jB3 X body tb)
  (hs : ∀ x,foldedSetIterable iter X.env x = pure x := by intro _;rfl) : jS3 X (.For tg iter body [] pos) (YT wi g tb) :=
 ⟨qf3 (hp := hp) (hc := hc) (hi := hi.h) (hg := hg.h) (hb := hb.h) (hs := hs)⟩
theorem qk {t : TA3} {pos : Pos} {es : List Expr} {X : Cx} {k : Nat} {x : Str} {p : Pos} {sp : Sp3} (F : Fn3 X.prog X.w X.K X.mg X.base k x sp) (hr : Room k X.A) (hg : Gl X x) (ha : jA3 X (e :: es) t) (hdb : (x == ("__debug__" : Str)) = false := by decide)
  (he : starEach (e :: es) X.env = (false,eval e X.env) :: starEach es X.env := by rfl) (hpl : (backTo pos (starEach es X.env)).any (·.1) = false := by rfl) : jE3 X (.Call (.Name x p) (e :: es) [] pos) (cb3 sp t) :=
 ⟨My (F := F) (hr := hr) (hg := hg) (ha := ha.h) (hdb := hdb) (he := he) (hpl := hpl)⟩
theorem UJ {X : Cx} {elt tg iter : Expr} {ifs : List Expr} {scope : Scope} {pos : Pos} (N' : List Str) (m : List (Option Nat)) {wi : TI3} {g : TG3} {tif : TT3} {te : TE3} (hc : X.calm = true) (hi : jI3 X tg iter wi)
  (hg : ∀ s H fp,jG3 (qj X N' scope s H fp) tg g) (hf : ∀ s H fp,jF3 (qj X N' scope s H fp) ifs tif) (he : ∀ s H fp,jE3 (qj X N' scope s H fp) elt te)
  (hsc : WF X.env.scope scope = true) (hcap : Je X.N N' scope m = true) (hs : ∀ x,foldedSetIterable iter X.env x = pure x := by intro _;rfl) : jE3 X (.ListComp elt [⟨tg,iter,ifs,0⟩] scope pos) (lc3 wi g tif te m) :=
 ⟨qhr (N' := N') (m := m) (hc := hc) (hi := hi.h) (hg := (fun s H fp => (hg s H fp).h)) (hf := (fun s H fp => (hf s H fp).h)) (he := (fun s H fp => (he s H fp).h)) (hsc := hsc) (hcap := hcap) (hs := hs)⟩
theorem jZ {X : Cx} : jF3 X [] tt3 :=
 ⟨qeq ⟩
theorem N8 {X : Cx} {c : Expr} {t : TT3} (h : jC3 X c t) : jF3 X [c] t :=
 ⟨qe3 (h := h.h)⟩
theorem Nt {t : TA3} {pos : Pos} {es : List Expr} {a : Expr} {b : Expr} {X : Cx} {p pt : Pos} {k1 : Nat} (hg : Gl X "zip") (hm : X.mg "zip" = none) (ha : jA3 X [a,b] t) (hs : starEach [a,b] X.env = [(false,eval a X.env),(false,eval b X.env)] := by rfl) (hs2 : starEach [b] X.env = [(false,eval b X.env)] := by rfl) : jI3 X (.Tuple es k1 pt) (.Call (.Name "zip" p) [a,b] [] pos) (RK t) :=
 ⟨qdn (hg := hg) (hm := hm) (ha := ha.h) (hs := hs) (hs2 := hs2)⟩
theorem EI {t : TA3} {pos : Pos} {es : List Expr} {a : Expr} {X : Cx} {p pt : Pos} {k1 : Nat} (hg : Gl X "enumerate") (hm : X.mg "enumerate" = none) (ha : jA3 X [a] t) (hs : starEach [a] X.env = [(false,eval a X.env)] := by rfl) : jI3 X (.Tuple es k1 pt) (.Call (.Name "enumerate" p) [a] [] pos) (VS t) :=
 ⟨qcd (hg := hg) (hm := hm) (ha := ha.h) (hs := hs)⟩
theorem Y9 {X : Cx} {py spos : Pos} {elt tg iter : Expr} {ifs : List Expr} {scope : Scope} {pos : Pos} {y : Str} (i : Nat) (N' : List Str) (m : List (Option Nat)) {wi : TI3} {g : TG3} {tif : TT3} {te : TE3} (hc : X.calm = true) (hN : X.N.Nodup) (hi : jI3 X tg iter wi)
  (hg : ∀ s H fp,jG3 (qj X N' scope s H fp) tg g) (hf : ∀ s H fp,jF3 (qj X N' scope s H fp) ifs tif) (he : ∀ s H fp,jE3 (qj X N' scope s H fp) elt te)
  (hsc : WF X.env.scope scope = true) (hcap : Je X.N N' scope m = true) (hl : X.env.scope.names.lookup y = some .local) (hsw : swapsWith (.ListComp elt [⟨tg,iter,ifs,0⟩] scope pos) (some (.Name y py)) spos.line X.env = pure true) (hiy : X.N[i]? = some y := by rfl) (hs : ∀ x,foldedSetIterable iter X.env x = pure x := by intro _;rfl) : jS3 X (.Assign [.Name y py] (.ListComp elt [⟨tg,iter,ifs,0⟩] scope pos) spos) (zz (lc3 wi g tif te m) (gn3 i)) :=
 ⟨LH (i := i) (N' := N') (m := m) (hc := hc) (hN := hN) (hi := hi.h) (hg := (fun s H fp => (hg s H fp).h)) (hf := (fun s H fp => (hf s H fp).h)) (he := (fun s H fp => (he s H fp).h)) (hsc := hsc) (hcap := hcap) (hl := hl) (hsw := hsw) (hiy := hiy) (hs := hs)⟩
theorem jpt {X : Cx} {e : Expr} {t : TT3} (h : jW3 X e t) : jC3 X e t := ⟨PW.pt h.h⟩
theorem qL {P : Program} {w : World} {K : PySem.W.Frag} {mg : Str → Option Value} {base : Heap} {x qual : Str} {st : Stmt} {f : Addr} {fd : FuncData} {N ps : List Str} {k : Nat} {sp : Sp3} {t3 : TS3} (F : Fun K x qual st f fd) (S : FnScope N ps (qi st)) (bd : zD K fd ps []) (hm : mg x = some (.ref f))
  (body : ∀ (cdv : Value) (A : Around) (outer : List Env) (s : Shared) (H : Hp) (E : XK),Room k (A.deeper (envOfC qual (qi st) s.heap.objs.size f cdv)) →
   jB3 (CP CX0 P w K mg base N qual (qi st) f cdv A outer s H E).nox (jm st) t3)
  (read : ∀ ts G q,sp ts G q → ts.length = ps.length∧t3 { nx := fun _ G' => q .non G',rt := q } (qx N ts) G) : Fn3 P w K mg base (k + 1) x sp :=
 qbd F S bd hm (fun cdv A outer s H E hr => (body cdv A outer s H E hr).h) read
theorem Rq {P : Program} {w : World} {K : PySem.W.Frag} {mg : Str → Option Value} {base : Heap} {x qual : Str} {st : Stmt} {f : Addr} {fd : FuncData} {N ps : List Str} {k : Nat} {sp : Sp3} {t3 : TS3} (F : Fun K x qual st f fd) (S : FnScope N ps (qi st))
  (body : ∀ (cdv : Value) (A : Around) (outer : List Env) (s : Shared) (H : Hp) (E : XK),Room k (A.deeper (envOfC qual (qi st) s.heap.objs.size f cdv)) →
   jB3 (CP CX0 P w K mg base N qual (qi st) f cdv A outer s H E).nox (jm st) t3)
  (read : ∀ ts G q,sp ts G q → ts.length = ps.length∧t3 { nx := fun _ G' => q .non G',rt := q } (qx N ts) G) : FnOk P w K mg base CX0 (k + 1) f fd ps (lSp K sp) :=
 LS F S (fun cdv A outer s H E hr => (body cdv A outer s H E hr).h) read
end L3
namespace L3
open PySem PySem.Spec PyProof.Rows L2
open PySem.SeqAt
def Ex (G G' : Gp) : Prop := ∀ b o,G b = some o → G' b = some o
theorem Ex.refl {G : Gp} : Ex G G := fun _ _ e => e
theorem Ex.trans {G G1 G2 : Gp} (a : Ex G G1) (b : Ex G1 G2) : Ex G G2 := fun x o e => b x o (a x o e)
theorem jE {G : Gp} {p : Addr} {o : O} (hp : G p = none) : Ex G (gu G p o) := fun b ob e => by
 rw [j9 (by rintro rfl;rw [hp] at e;cases e)];exact e
mutual
inductive Dp (G : Gp) : T → PyData → Prop
 | non : Dp G .non .none
 | bl (b : Bool) : Dp G (.bl b) (.bool b)
 | int (i : Int) : Dp G (.int i) (.int i)
 | str (x : Str) : Dp G (.str x) (.str x)
 | tup {xs : List T} {ds : List PyData} : Dps G xs ds → Dp G (.tup xs) (.tuple ds)
 | lst {p : Addr} {xs : List T} {ds : List PyData} : getL G p = some xs → Dps G xs ds → Dp G (.ref p) (.list ds)
inductive Dps (G : Gp) : List T → List PyData → Prop
 | nil : Dps G [] []
 | cons {x : T} {d : PyData} {xs : List T} {ds : List PyData} : Dp G x d → Dps G xs ds → Dps G (x :: xs) (d :: ds)
end
theorem Ex.getL {G G' : Gp} (e : Ex G G') {p : Addr} {xs : List T} (h : getL G p = some xs) : getL G' p = some xs := by
 unfold L3.getL at h ⊢
 split at h
 ·rename_i ys g;cases h;rw [e _ _ g]
 ·rename_i ys g;cases h;rw [e _ _ g]
 ·cases h
mutual
inductive DV (K : PySem.W.Frag) (H : Hp) : V → PyData → Prop
 | non : DV K H .non .none
 | bl (b : Bool) : DV K H (.bl b) (.bool b)
 | int (i : Int) : DV K H (.int i) (.int i)
 | str (x : Str) : DV K H (.str x) (.str x)
 | tup {a : Addr} {vs : List V} {ds : List PyData} : SqT K H a vs → DVs K H vs ds → DV K H (.ref a) (.tuple ds)
 | lst {a : Addr} {vs : List V} {ds : List PyData} : SqL K H a vs → DVs K H vs ds → DV K H (.ref a) (.list ds)
inductive DVs (K : PySem.W.Frag) (H : Hp) : List V → List PyData → Prop
 | nil : DVs K H [] []
 | cons {x : V} {d : PyData} {xs : List V} {ds : List PyData} : DV K H x d → DVs K H xs ds → DVs K H (x :: xs) (d :: ds)
end
mutual
theorem Dp.dv {K : PySem.W.Frag} {G : Gp} {H : Hp} (hr : HR K G H) : ∀ {x : T} {d : PyData} {v : V},Dp G x d → Rp K H x v → DV K H v d
 | _,_,_,.non,.non => .non
 | _,_,_,.bl b,.bl _ => .bl b
 | _,_,_,.int i,.int _ => .int i
 | _,_,_,.str x,.str _ => .str x
 | _,_,_,.tup h,.tup hs rs => .tup hs (Dps.dv hr h rs)
 | _,_,_,.lst g h,r => by
  cases r
  obtain ⟨_,hs,rs⟩ := zP hr g
  exact .lst hs (Dps.dv hr h rs)
theorem Dps.dv {K : PySem.W.Frag} {G : Gp} {H : Hp} (hr : HR K G H) : ∀ {x : List T} {d : List PyData} {v : List V},Dps G x d → Rps K H x v → DVs K H v d
 | _,_,_,.nil,.nil => .nil
 | _,_,_,.cons a b,.cons c d => .cons (Dp.dv hr a c) (Dps.dv hr b d)
end
mutual
noncomputable def Q1 : PyData → PyData → Option Bool
 | .none,.none => some true
 | .bool a,.bool b => some (a == b)
 | .int a,.int b => some (a == b)
 | .str a,.str b => some (a == b)
 | .list xs,.list ys => Zn xs ys
 | .tuple xs,.tuple ys => Zn xs ys
 | _,_ => none
noncomputable def Zn : List PyData → List PyData → Option Bool
 | [],[] => some true
 | x :: xs,y :: ys => match Q1 x y,Zn xs ys with | some a,some b => some (a && b) | _,_ => none
 | _,_ => some false
end
mutual
noncomputable def dpt : PyData → Nat
 | .list xs => TW xs + 1
 | .tuple xs => TW xs + 1
 | _ => 0
noncomputable def TW : List PyData → Nat
 | [] => 0
 | x :: xs => max (dpt x) (TW xs)
end
section
variable {X : Cx} {pins : List (Addr × Obj)} {σ : L2.St} {H : Hp} {s : Shared}
mutual
theorem DV.inj (I : Inv X pins σ H s) : ∀ {v : V} {d e : PyData},DV X.K H v d → DV X.K H v e → d = e
 | _,_,_,.non,.non => rfl
 | _,_,_,.bl _,.bl _ => rfl
 | _,_,_,.int _,.int _ => rfl
 | _,_,_,.str _,.str _ => rfl
 | _,_,_,.tup h hs,.tup k ks => by
  have := I.tuple_inj h k
  subst this
  rw [DVs.inj I hs ks]
 | _,_,_,.lst h hs,.lst k ks => by
  have := I.list_inj h k
  subst this
  rw [DVs.inj I hs ks]
 | _,_,_,.tup h hs,.lst k ks => by
  obtain ⟨i1,_,p1,_⟩ := I.tuple h
  obtain ⟨i2,_,p2,_⟩ := I.list k
  exact absurd rfl (ne_of_list_tuple p2.isList (show s.heap.IsTuple _ i1.toArray from p1))
 | _,_,_,.lst k ks,.tup h hs => by
  obtain ⟨i1,_,p1,_⟩ := I.tuple h
  obtain ⟨i2,_,p2,_⟩ := I.list k
  exact absurd rfl (ne_of_list_tuple p2.isList (show s.heap.IsTuple _ i1.toArray from p1))
theorem DVs.inj (I : Inv X pins σ H s) : ∀ {v : List V} {d e : List PyData},DVs X.K H v d → DVs X.K H v e → d = e
 | _,_,_,.nil,.nil => rfl
 | _,_,_,.cons a b,.cons c d => by rw [DV.inj I a c,DVs.inj I b d]
end
mutual
theorem Ev : ∀ {d : PyData} {b : Bool},Q1 d d = some b → b = true
 | .none,_,h => by simp [Q1] at h;exact h
 | .bool _,_,h => by simp [Q1] at h;exact h
 | .int _,_,h => by simp [Q1] at h;exact h
 | .str _,_,h => by simp [Q1] at h;exact h
 | .list xs,_,h => by simp only [Q1] at h;exact Yd h
 | .tuple xs,_,h => by simp only [Q1] at h;exact Yd h
 | .dict _,_,h => by simp [Q1] at h
theorem Yd : ∀ {d : List PyData} {b : Bool},Zn d d = some b → b = true
 | [],_,h => by simp [Zn] at h;exact h
 | x :: xs,b,h => by
  simp only [Zn] at h
  split at h
  ·rename_i a c e1 e2
   rw [Ev e1,Yd e2] at h
   simpa using h.symm
  ·cases h
end
theorem Zv : ∀ {xs ys : List PyData} {b : Bool},Zn xs ys = some b → xs.length = ys.length → ∃ e : Nat → Bool,(∀ (j : Nat) x y,xs[j]? = some x → ys[j]? = some y → Q1 x y = some (e j))∧b = (List.range xs.length).all e
 | [],[],b,h,_ => by simp [Zn] at h;exact ⟨fun _ => true,by simp,by simp [h]⟩
 | x :: xs,y :: ys,b,h,hl => by
  simp only [Zn] at h
  split at h
  ·rename_i a c e1 e2
   obtain ⟨e,h1,h2⟩ := Zv e2 (by simpa using hl)
   refine ⟨fun j => match j with | 0 => a | j + 1 => e j,fun j u v hu hv => ?_,?_⟩
   ·cases j with
    | zero => simp at hu hv;subst hu;subst hv;exact e1
    | succ j => exact h1 j u v (by simpa using hu) (by simpa using hv)
   ·rw [List.length_cons,List.range_succ_eq_map,List.all_cons,List.all_map]
    cases h
    rw [h2]
    rfl
  ·cases h
 | [],_ :: _,_,_,hl => by simp at hl
 | _ :: _,[],_,_,hl => by simp at hl
theorem Zt : ∀ {xs ys : List PyData} {b : Bool},Zn xs ys = some b → xs.length ≠ ys.length → b = false∧∃ e : Nat → Bool,∀ (j : Nat) x y,xs[j]? = some x → ys[j]? = some y → Q1 x y = some (e j)
 | [],[],_,_,hl => by simp at hl
 | [],_ :: _,b,h,_ => by simp [Zn] at h;exact ⟨h,fun _ => true,by simp⟩
 | _ :: _,[],b,h,_ => by simp [Zn] at h;exact ⟨h,fun _ => true,by simp⟩
 | x :: xs,y :: ys,b,h,hl => by
  simp only [Zn] at h
  split at h
  ·rename_i a c e1 e2
   obtain ⟨h0,e,h1⟩ := Zt e2 (by simpa using hl)
   subst h0
   refine ⟨by simpa using h.symm,fun j => match j with | 0 => a | j + 1 => e j,fun j u v hu hv => ?_⟩
   cases j with
   | zero => simp at hu hv;subst hu;subst hv;exact e1
   | succ j => exact h1 j u v (by simpa using hu) (by simpa using hv)
  ·cases h
theorem Jw : ∀ {xs : List PyData} {x : PyData},x ∈ xs → dpt x ≤ TW xs
 | [],_,h => by simp at h
 | y :: ys,x,h => by
  simp only [TW]
  rcases List.mem_cons.mp h with e | e
  ·subst e;omega
  ·have := Jw e;omega
theorem DVs.get {K : PySem.W.Frag} {H : Hp} : ∀ {xs : List V} {ds : List PyData} {i : Nat} {x : V},DVs K H xs ds → xs[i]? = some x → ∃ d,ds[i]? = some d∧DV K H x d
 | _,_,_,_,.nil,e => by simp at e
 | _,_,0,_,.cons r _,e => by simp at e;subst e;exact ⟨_,rfl,r⟩
 | _,_,i + 1,x,.cons _ t,e => by
  obtain ⟨u,h1,h2⟩ := DVs.get (i := i) (x := x) t (by simpa using e)
  exact ⟨u,by simpa using h1,h2⟩
theorem DVs.length {K : PySem.W.Frag} {H : Hp} : ∀ {xs : List V} {ds : List PyData},DVs K H xs ds → xs.length = ds.length
 | _,_,.nil => rfl
 | _,_,.cons _ b => by simp [DVs.length b]
theorem Zr {vs : List V} {us : List Value} (r : zI vs us) {j : Nat} (h : j < us.toArray.size) : ∃ v,vs[j]? = some v∧jo v us.toArray[j] := by
 have hj : j < vs.length := by rw [r.length];simpa using h
 obtain ⟨u,hu,ru⟩ := r.get (List.getElem?_eq_getElem hj)
 refine ⟨vs[j],List.getElem?_eq_getElem hj,?_⟩
 have hj2 : j < us.length := by simpa using h
 rw [List.getElem?_eq_getElem hj2] at hu
 have : us[j] = u := Option.some.inj hu
 simpa [this] using ru
theorem Uw (I : Inv X pins σ H s) : ∀ (n : Nat) {v u : V} {d e : PyData} {b : Bool} {x y : Value} {A : Around},DV X.K H v d → DV X.K H u e → Q1 d e = some b → dpt d ≤ n → A.units + n < cLine → jo v x → jo u y →
  RcAt A s x y b∧EqAt A s x y b := by
 intro n
 induction n with
 | zero =>
  intro v u d e b x y A hv hu h hd hn rx ry
  cases hv with
  | non => cases hu <;> simp [Q1] at h;subst h;cases (show x = Value.none from rx);cases (show y = Value.none from ry);exact ⟨RcAt.none_none,EqAt.same _⟩
  | bl a => cases hu <;> simp [Q1] at h;subst h;cases (show x = Value.bool _ from rx);cases (show y = Value.bool _ from ry);exact ⟨RcAt.bool_bool _ _,EqAt.bool_bool _ _⟩
  | int a => cases hu <;> simp [Q1] at h;subst h;obtain ⟨t,rfl⟩ := (show ∃ t,x = Value.int _ t from rx);obtain ⟨t',rfl⟩ := (show ∃ t,y = Value.int _ t from ry);exact ⟨RcAt.int_int _ _ _ _,EqAt.int_int _ _ _ _⟩
  | str a => cases hu <;> simp [Q1] at h;subst h;obtain ⟨t,rfl⟩ := (show ∃ t,x = Value.str _ t from rx);obtain ⟨t',rfl⟩ := (show ∃ t,y = Value.str _ t from ry);exact ⟨RcAt.str_str _ _ _ _,EqAt.str_str _ _ _ _⟩
  | tup => simp [dpt] at hd
  | lst => simp [dpt] at hd
 | succ n ih =>
  intro v u d e b x y A hv hu h hd hn rx ry
  have fin : ∀ {l l' : Addr} {k : Bool},x = .ref l → y = .ref l' → v = .ref l → u = .ref l' → b = k → RcAt A s x y k → RcAt A s x y b∧EqAt A s x y b := by
   rintro l l' k rfl rfl rfl rfl rfl rc
   refine ⟨rc,?_⟩
   by_cases hll : l = l'
   ·subst hll
    have := DV.inj I hv hu
    subst this
    rw [Ev h]
    exact EqAt.same _
   ·exact EqAt.of_refs hll rc
  cases hv with
  | non => cases hu <;> simp [Q1] at h;subst h;cases (show x = Value.none from rx);cases (show y = Value.none from ry);exact ⟨RcAt.none_none,EqAt.same _⟩
  | bl a => cases hu <;> simp [Q1] at h;subst h;cases (show x = Value.bool _ from rx);cases (show y = Value.bool _ from ry);exact ⟨RcAt.bool_bool _ _,EqAt.bool_bool _ _⟩
  | int a => cases hu <;> simp [Q1] at h;subst h;obtain ⟨t,rfl⟩ := (show ∃ t,x = Value.int _ t from rx);obtain ⟨t',rfl⟩ := (show ∃ t,y = Value.int _ t from ry);exact ⟨RcAt.int_int _ _ _ _,EqAt.int_int _ _ _ _⟩
  | str a => cases hu <;> simp [Q1] at h;subst h;obtain ⟨t,rfl⟩ := (show ∃ t,x = Value.str _ t from rx);obtain ⟨t',rfl⟩ := (show ∃ t,y = Value.str _ t from ry);exact ⟨RcAt.str_str _ _ _ _,EqAt.str_str _ _ _ _⟩
  | tup hq hs =>
   cases hu with
   | tup kq ks =>
    rename_i a1 vs1 ds1 a2 vs2 ds2
    simp only [Q1] at h
    obtain ⟨i1,r1,p1,z1⟩ := I.tuple hq
    obtain ⟨i2,r2,p2,z2⟩ := I.tuple kq
    have l1 := hs.length;have l2 := ks.length;have m1 := r1.length;have m2 := r2.length
    have el : ∀ (e : Nat → Bool),(∀ (j : Nat) x y,ds1[j]? = some x → ds2[j]? = some y → Q1 x y = some (e j)) → ∀ j (h1 : j < i1.toArray.size) (h2 : j < i2.toArray.size),EqAt A.in1 s i1.toArray[j] i2.toArray[j] (e j) := fun e he j h1 h2 => by
     obtain ⟨w1,g1,q1⟩ := Zr r1 h1
     obtain ⟨w2,g2,q2⟩ := Zr r2 h2
     obtain ⟨d1,f1,dv1⟩ := hs.get g1
     obtain ⟨d2,f2,dv2⟩ := ks.get g2
     have := Jw (List.mem_of_getElem? f1)
     exact (ih dv1 dv2 (he j d1 d2 f1 f2) (by simp only [dpt] at hd;omega) (show A.units + 1 + n < cLine by omega) q1 q2).2
    cases (show x = Value.ref a1 from rx)
    cases (show y = Value.ref a2 from ry)
    by_cases hl : ds1.length = ds2.length
    ·obtain ⟨e,he,hb⟩ := Zv h hl
     refine fin rfl rfl rfl rfl (k := (List.range (min i1.toArray.size i2.toArray.size)).all e && i1.toArray.size == i2.toArray.size) ?_ (RcAt.tuples (show s.heap.IsTuple a1 i1.toArray from p1) (show s.heap.IsTuple a2 i2.toArray from p2) (by omega) (el e he))
     have e1 : i1.toArray.size = ds1.length := by rw [List.size_toArray];omega
     have e2 : i2.toArray.size = ds1.length := by rw [List.size_toArray];omega
     rw [e1,e2,hb];simp
    ·obtain ⟨hb,e,he⟩ := Zt h hl
     refine fin rfl rfl rfl rfl (k := (List.range (min i1.toArray.size i2.toArray.size)).all e && i1.toArray.size == i2.toArray.size) ?_ (RcAt.tuples (show s.heap.IsTuple a1 i1.toArray from p1) (show s.heap.IsTuple a2 i2.toArray from p2) (by omega) (el e he))
     have e1 : i1.toArray.size ≠ i2.toArray.size := by rw [List.size_toArray,List.size_toArray];omega
     rw [hb];simp [e1]
     intro;omega
   | _ => simp [Q1] at h
  | lst hq hs =>
   cases hu with
   | lst kq ks =>
    rename_i a1 vs1 ds1 a2 vs2 ds2
    simp only [Q1] at h
    obtain ⟨i1,r1,p1,z1⟩ := I.list hq
    obtain ⟨i2,r2,p2,z2⟩ := I.list kq
    have l1 := hs.length;have l2 := ks.length;have m1 := r1.length;have m2 := r2.length
    have el : ∀ (e : Nat → Bool),(∀ (j : Nat) x y,ds1[j]? = some x → ds2[j]? = some y → Q1 x y = some (e j)) → ∀ j (h1 : j < i1.toArray.size) (h2 : j < i2.toArray.size),EqAt A.in1 s i1.toArray[j] i2.toArray[j] (e j) := fun e he j h1 h2 => by
     obtain ⟨w1,g1,q1⟩ := Zr r1 h1
     obtain ⟨w2,g2,q2⟩ := Zr r2 h2
     obtain ⟨d1,f1,dv1⟩ := hs.get g1
     obtain ⟨d2,f2,dv2⟩ := ks.get g2
     have := Jw (List.mem_of_getElem? f1)
     exact (ih dv1 dv2 (he j d1 d2 f1 f2) (by simp only [dpt] at hd;omega) (show A.units + 1 + n < cLine by omega) q1 q2).2
    cases (show x = Value.ref a1 from rx)
    cases (show y = Value.ref a2 from ry)
    by_cases hl : ds1.length = ds2.length
    ·obtain ⟨e,he,hb⟩ := Zv h hl
     refine fin rfl rfl rfl rfl (k := (List.range i1.toArray.size).all e) ?_ (RcAt.lists p1.isList p2.isList (by rw [List.size_toArray,List.size_toArray];omega) (by omega) (el e he))
     have e1 : i1.toArray.size = ds1.length := by rw [List.size_toArray];omega
     rw [e1,hb]
    ·obtain ⟨hb,e,he⟩ := Zt h hl
     refine fin rfl rfl rfl rfl (k := false) hb (RcAt.lists_lengths p1.isList p2.isList (by rw [List.size_toArray,List.size_toArray];simp;omega) (by omega))
   | _ => simp [Q1] at h
theorem KQ (I : Inv X pins σ H s) {n : Nat} {v u : V} {d e : PyData} {b : Bool} {x y : Value} {A : Around} (hv : DV X.K H v d) (hu : DV X.K H u e) (h : Q1 d e = some b) (hd : dpt d ≤ n + 1) (hn : A.units + (n + 1) < cLine) (rx : jo v x) (ry : jo u y) (hs : dpt d ≠ 0) : RcNeAt A s x y (!b) := by
 cases hv with
 | tup hq hs' =>
  cases hu with
  | tup kq ks =>
   rename_i a1 vs1 ds1 a2 vs2 ds2
   simp only [Q1] at h
   obtain ⟨i1,r1,p1,z1⟩ := I.tuple hq
   obtain ⟨i2,r2,p2,z2⟩ := I.tuple kq
   have l1 := hs'.length;have l2 := ks.length;have m1 := r1.length;have m2 := r2.length
   have el : ∀ (e : Nat → Bool),(∀ (j : Nat) x y,ds1[j]? = some x → ds2[j]? = some y → Q1 x y = some (e j)) → ∀ j (h1 : j < i1.toArray.size) (h2 : j < i2.toArray.size),EqAt A.in1 s i1.toArray[j] i2.toArray[j] (e j) := fun e he j h1 h2 => by
    obtain ⟨w1,g1,q1⟩ := Zr r1 h1
    obtain ⟨w2,g2,q2⟩ := Zr r2 h2
    obtain ⟨d1,f1,dv1⟩ := hs'.get g1
    obtain ⟨d2,f2,dv2⟩ := ks.get g2
    have := Jw (List.mem_of_getElem? f1)
    exact (Uw I n dv1 dv2 (he j d1 d2 f1 f2) (by simp only [dpt] at hd;omega) (show A.units + 1 + n < cLine by omega) q1 q2).2
   cases (show x = Value.ref a1 from rx)
   cases (show y = Value.ref a2 from ry)
   by_cases hl : ds1.length = ds2.length
   ·obtain ⟨e,he,hb⟩ := Zv h hl
    have := RcNeAt.tuples (show s.heap.IsTuple a1 i1.toArray from p1) (show s.heap.IsTuple a2 i2.toArray from p2) (A := A) (by omega) (el e he)
    have e1 : i1.toArray.size = ds1.length := by rw [List.size_toArray];omega
    have e2 : i2.toArray.size = ds1.length := by rw [List.size_toArray];omega
    rw [e1,e2] at this
    rw [hb];simpa using this
   ·obtain ⟨hb,e,he⟩ := Zt h hl
    have := RcNeAt.tuples (show s.heap.IsTuple a1 i1.toArray from p1) (show s.heap.IsTuple a2 i2.toArray from p2) (A := A) (by omega) (el e he)
    have e1 : (i1.toArray.size == i2.toArray.size) = false := by rw [List.size_toArray,List.size_toArray];simp;omega
    rw [e1] at this
    rw [hb];simpa using this
  | _ => simp [Q1] at h
 | lst hq hs' =>
  cases hu with
  | lst kq ks =>
   rename_i a1 vs1 ds1 a2 vs2 ds2
   simp only [Q1] at h
   obtain ⟨i1,r1,p1,z1⟩ := I.list hq
   obtain ⟨i2,r2,p2,z2⟩ := I.list kq
   have l1 := hs'.length;have l2 := ks.length;have m1 := r1.length;have m2 := r2.length
   have el : ∀ (e : Nat → Bool),(∀ (j : Nat) x y,ds1[j]? = some x → ds2[j]? = some y → Q1 x y = some (e j)) → ∀ j (h1 : j < i1.toArray.size) (h2 : j < i2.toArray.size),EqAt A.in1 s i1.toArray[j] i2.toArray[j] (e j) := fun e he j h1 h2 => by
    obtain ⟨w1,g1,q1⟩ := Zr r1 h1
    obtain ⟨w2,g2,q2⟩ := Zr r2 h2
    obtain ⟨d1,f1,dv1⟩ := hs'.get g1
    obtain ⟨d2,f2,dv2⟩ := ks.get g2
    have := Jw (List.mem_of_getElem? f1)
    exact (Uw I n dv1 dv2 (he j d1 d2 f1 f2) (by simp only [dpt] at hd;omega) (show A.units + 1 + n < cLine by omega) q1 q2).2
   cases (show x = Value.ref a1 from rx)
   cases (show y = Value.ref a2 from ry)
   by_cases hl : ds1.length = ds2.length
   ·obtain ⟨e,he,hb⟩ := Zv h hl
    have := RcNeAt.lists p1.isList p2.isList (A := A) (by rw [List.size_toArray,List.size_toArray];omega) (by omega) (el e he)
    have e1 : i1.toArray.size = ds1.length := by rw [List.size_toArray];omega
    rw [e1] at this
    rw [hb];exact this
   ·obtain ⟨hb,e,he⟩ := Zt h hl
    rw [hb]
    exact RcNeAt.lists_lengths p1.isList p2.isList (by rw [List.size_toArray,List.size_toArray];simp;omega) (by omega)
  | _ => simp [Q1] at h
 | _ => simp [dpt] at hs
noncomputable def Mb (K : PySem.W.Frag) (neg : Bool) : R2 := fun x y H Q => ∃ d e b,DV K H x d∧DV K H y e∧Q1 d e = some b∧dpt d ≤ 40∧dpt d ≠ 0∧Q (.bl (if neg then !b else b)) H
theorem qbe (hu : X.A.units + 64 < cLine) : OpR X (compareOp .Eq) (Mb X.K false) := by
 intro pins s σ H x y v u Q I rx ry h
 obtain ⟨d,e,b,hx,hy,hb,hd,_,q⟩ := h
 exact (Uw I 40 hx hy hb hd (by omega) rx ry).1 X.prog X.w X.xe _ ⟨.bl b,H,I,rfl,q⟩
theorem qco (hu : X.A.units + 64 < cLine) : OpR X (compareOp .NotEq) (Mb X.K true) := by
 intro pins s σ H x y v u Q I rx ry h
 obtain ⟨d,e,b,hx,hy,hb,hd,hs,q⟩ := h
 exact KQ I (n := 40) hx hy hb (by omega) (by omega) rx ry hs X.prog X.w X.xe _ ⟨.bl (!b),H,I,rfl,q⟩
end
noncomputable def Qb (neg : Bool) : R3 := fun x y G q => match Uf x y with
 | some k => q (.bl (if neg then !k else k)) G
 | none => ∃ d e b,Dp G x d∧Dp G y e∧Q1 d e = some b∧dpt d ≤ 40∧dpt d ≠ 0∧q (.bl (if neg then !b else b)) G
theorem qU {K : PySem.W.Frag} : Ys K (Qb false) (fun x y H Q => rEq x y H Q ∨ Mb K false x y H Q) := fun x y v u G H q Q hr rx ry h af => by
 unfold Qb at h
 split at h
 ·rename_i k e
  obtain ⟨h1,h2⟩ := DR rx ry e
  refine .inl ⟨h1,?_⟩
  rw [h2]
  exact af _ G h _ H (.bl _) hr Kp.refl
 ·obtain ⟨d,e,b,h1,h2,h3,h4,h5,h6⟩ := h
  exact .inr ⟨d,e,b,h1.dv hr rx,h2.dv hr ry,h3,h4,h5,af _ G h6 _ H (.bl _) hr Kp.refl⟩
theorem Zd {K : PySem.W.Frag} : Ys K (Qb true) (fun x y H Q => rNe x y H Q ∨ Mb K true x y H Q) := fun x y v u G H q Q hr rx ry h af => by
 unfold Qb at h
 split at h
 ·rename_i k e
  obtain ⟨h1,h2⟩ := DR rx ry e
  refine .inl ⟨h1,?_⟩
  rw [h2]
  exact af _ G h _ H (.bl _) hr Kp.refl
 ·obtain ⟨d,e,b,h1,h2,h3,h4,h5,h6⟩ := h
  exact .inr ⟨d,e,b,h1.dv hr rx,h2.dv hr ry,h3,h4,h5,af _ G h6 _ H (.bl _) hr Kp.refl⟩
theorem zq {X : Cx} (hu : X.A.units + 64 < cLine) : OpR X (compareOp .Eq) (fun x y H Q => rEq x y H Q ∨ Mb X.K false x y H Q) := qe2.or (qbe hu)
theorem Ju {X : Cx} (hu : X.A.units + 64 < cLine) : OpR X (compareOp .NotEq) (fun x y H Q => rNe x y H Q ∨ Mb X.K true x y H Q) := qe9.or (qco hu)
end L3
namespace L3
open PySem PySem.Spec PyProof.Rows L2
section
variable {X : Cx} {pins : List (Addr × Obj)} {σ : L2.St} {H : Hp} {s : Shared}
mutual
theorem DV.reads (I : Inv X pins σ H s) : ∀ {v : V} {d : PyData} {x : Value},DV X.K H v d → jo v x → ∃ as,Reads s.heap x d as
 | _,_,x,.non,r => by cases (show x = Value.none from r);exact ⟨_,.none⟩
 | _,_,x,.bl b,r => by cases (show x = Value.bool b from r);exact ⟨_,.bool b⟩
 | _,_,x,.int i,r => by obtain ⟨t,rfl⟩ := (show ∃ t,x = Value.int i t from r);exact ⟨_,.int i t⟩
 | _,_,x,.str y,r => by obtain ⟨t,rfl⟩ := (show ∃ t,x = Value.str y t from r);exact ⟨_,.str y t⟩
 | _,_,x,.tup (a := a) h hs,r => by
  cases (show x = Value.ref a from r)
  obtain ⟨its,rv,⟨o,h1,h2,n,h3⟩,_⟩ := I.tuple h
  obtain ⟨as,ra⟩ := DVs.reads I hs rv
  exact ⟨as,.tuple h1 h2 h3 (by simpa using ra)⟩
 | _,_,x,.lst (a := a) h hs,r => by
  cases (show x = Value.ref a from r)
  obtain ⟨its,rv,p,_⟩ := I.list h
  obtain ⟨o,h1,h2,n,h3⟩ := p.isList
  obtain ⟨as,ra⟩ := DVs.reads I hs rv
  exact ⟨a :: as,.list h1 h2 h3 (by simpa using ra)⟩
theorem DVs.reads (I : Inv X pins σ H s) : ∀ {v : List V} {d : List PyData} {x : List Value},DVs X.K H v d → zI v x → ∃ as,ReadsAll s.heap x d as
 | _,_,_,.nil,.nil => ⟨_,.nil⟩
 | _,_,_,.cons a b,.cons c d => by
  obtain ⟨as,r1⟩ := DV.reads I a c
  obtain ⟨bs,r2⟩ := DVs.reads I b d
  exact ⟨_,.cons r1 r2⟩
end
structure ShOk (d : PyData) : Prop where
 sh : d.showable = true
 nd : d.hasDict = false
 dp : d.depth ≤ 40
 lv : d.leavesShort 13 = true
 bk : d.bulk ≤ 2 ^ 20
end
end L3
namespace L3
open PySem PySem.Spec PyProof.Rows L2
section
variable {X : Cx}
theorem Da {K : PySem.W.Frag} {H : Hp} : ∀ {ys : List T} {vs : List V} (h : Rps K H ys vs),Rps K H ys.reverse vs.reverse
 | _,_,.nil => .nil
 | _,_,.cons r t => by rw [List.reverse_cons,List.reverse_cons];exact (Da t).append (.cons r .nil)
end
end L3
namespace L3
open PySem PySem.Spec PyProof.Rows L2
section
variable {prog : Program} {w : World} {A : Around} {R : Result → Shared → Prop} {s : Shared}
theorem Ug (elt t1 i1 t2 i2 : Expr) (f1 f2 : List Expr) (scope : Scope) (pos : Pos) (it acc : Value) (env : Env) :
  compTurn (.ListComp elt [⟨t1,i1,f1,0⟩,⟨t2,i2,f2,0⟩] scope pos) 0 it acc env = (do
   standAt i1.pos
   match ← pyNext it with
   | none => pure (.done .next)
   | some v =>
    letOwnedTupleGo t1 it v
    assign t1 env v
    let mut ok := true
    for c in f1 do
     if ok then ok ← isTrue c env (eval c env)
    if ok then
     let x ← eval i2 env
     standAt i2.pos
     let x ← foldedSetIterable i2 env x
     let _ ← runOwn (.compStart (.ListComp elt [⟨t1,i1,f1,0⟩,⟨t2,i2,f2,0⟩] scope pos) 1 (← holding [x] (pyIter x)) acc env) env
    again (.compLoop (.ListComp elt [⟨t1,i1,f1,0⟩,⟨t2,i2,f2,0⟩] scope pos) 0 it acc env)) := by rfl
theorem Uy (elt t1 i1 t2 i2 : Expr) (f1 f2 : List Expr) (scope : Scope) (pos : Pos) (it acc : Value) (env : Env) :
  compTurn (.ListComp elt [⟨t1,i1,f1,0⟩,⟨t2,i2,f2,0⟩] scope pos) 1 it acc env = (do
   standAt i2.pos
   match ← pyNext it with
   | none => pure (.done .next)
   | some v =>
    letOwnedTupleGo t2 it v
    assign t2 env v
    let mut ok := true
    for c in f2 do
     if ok then ok ← isTrue c env (eval c env)
    if ok then
     (do let _ ← call (.builtin "list.append") [acc,← eval elt env])
    again (.compLoop (.ListComp elt [⟨t1,i1,f1,0⟩,⟨t2,i2,f2,0⟩] scope pos) 1 it acc env)) := by rfl
theorem Zq {elt t1 i1 t2 i2 : Expr} {f1 f2 : List Expr} {scope : Scope} {pos : Pos} {it acc : Value} {env : Env}
  (h0 : codeAny (model prog w) A (.compLoop (.ListComp elt [⟨t1,i1,f1,0⟩,⟨t2,i2,f2,0⟩] scope pos) 1 it acc env) R s)
  (h : wpAny (model prog w) A (pyIter it) (fun it' s' => codeAny (model prog w) A (.compLoop (.ListComp elt [⟨t1,i1,f1,0⟩,⟨t2,i2,f2,0⟩] scope pos) 1 it' acc env) R s')
   (notedBy (model prog w) A env fun x s' => R (.error x) s') s) :
  codeAny (model prog w) A (.compStart (.ListComp elt [⟨t1,i1,f1,0⟩,⟨t2,i2,f2,0⟩] scope pos) 1 it acc env) R s := by
 refine codeAny_of_tree ?_
 show wpAny _ _ ((compStart (.ListComp elt [⟨t1,i1,f1,0⟩,⟨t2,i2,f2,0⟩] scope pos) 1 it acc env).onRaise (fun x => do noteFrame x env;standAt theWindowsPlace)) _ _ s
 refine wpAny_notedAt ?_
 unfold compStart
 show wpAny _ _ (ask >>= _) _ _ s
 refine wpAny_bind (wpAny_askSetting (wpAny_ite ?_))
 split
 ·first
   | exact wpAny_bind (wpAny_pure (wpAny_pure (And.intro rfl h0)))
   | exact wpAny_pure (And.intro rfl h0)
 ·first
   | exact wpAny_bind (wpAny_rule (wpAny_bind (wpAny_standAt (wpAny_bind (wpAny_mono h (fun it' s' h' => wpAny_pure (And.intro rfl h')) fun _ _ x => x)))))
   | (refine wpAny_bind (wpAny_rule ?_);show wpAny _ _ (standAt i2.pos >>= _) _ _ s;exact wpAny_bind (wpAny_standAt (wpAny_bind (wpAny_mono h (fun it' s' h' => wpAny_pure (And.intro rfl h')) fun _ _ x => x))))
end
def tIn (wi : TI) (g : TG) (tif : TT) (te : TE) (D : Addr) (N : L2.St → Hp → Prop) (σ : L2.St) (H : Hp) : Prop := wi σ H fun J H1 =>
 ∃ W : Nat → Nat → L2.St → Hp → Prop,(∃ n,W 0 n σ H1)∧∀ i n σ H,W i n σ H →
  (J.stop i H∧N σ H) ∨ (J.go i H∧∀ x H',J.yld i H x H' → g x σ H' fun σ2 H2 => tif σ2 H2 fun k H3 =>
   if k = true then te σ2 H3 fun y H4 => ∃ zs,H4 D = some (.lst zs)∧zs.length < sizeLine∧∃ n',n' < n∧W (i + 1) n' σ2 (upd H4 D (.lst (zs ++ [y])))
   else ∃ n',n' < n∧W (i + 1) n' σ2 H3)
section
variable {X : Cx}
theorem MY {elt t1 i1 t2 i2 : Expr} {f1 f2 : List Expr} {scope : Scope} {pos : Pos} {wi : TI} {g : TG} {tif : TT} {te : TE} {D : Addr} {N : L2.St → Hp → Prop} (hc : X.calm = true) (hx : ∀ v s,¬ X.xe v s) (hi : PI X t2 i2 wi) (hg : PG X t2 g) (hf : PF X f2 tif) (he : PE X elt te)
    (hs : ∀ x,foldedSetIterable i2 X.env x = pure x) {pins : List (Addr × Obj)} {s : Shared} {σ : L2.St} {H : Hp} {E : Value → Shared → Prop} {α : Type} {kk : Sem α} {Q : α → Shared → Prop} (I : Inv X pins σ H s) (h : tIn wi g tif te D N σ H) (hk : ∀ s' σ' H',Inv X pins σ' H' s' → N σ' H' → wpAny (model X.prog X.w) X.A kk Q E s') :
    wpAny (model X.prog X.w) X.A (do
            let x ← eval i2 X.env
            standAt i2.pos
            let x ← foldedSetIterable i2 X.env x
            let _ ← runOwn (.compStart (.ListComp elt [⟨t1,i1,f1,0⟩,⟨t2,i2,f2,0⟩] scope pos) 1 (← holding [x] (pyIter x)) (.ref D) X.env) X.env
            kk) Q E s := by
  refine wpAny_bind (wpAny_mono (hi pins s σ H _ I h) (fun v s1 h1 => ?_) fun _ _ z => (hx _ _ z).elim)
  refine wpAny_bind (wpAny_standAt (wpAny_bind (wpAny_of_eq (hs v) ?_)))
  refine wpAny_bind (wpAny_holding (wpAny_mono h1 (fun itv s2 h2 => ?_) fun _ _ z => (hx _ _ z).elim))
  obtain ⟨it,fp,tn,J,H2,rfl,I2,T,st2,f2',W,⟨n0,w0⟩,turn⟩ := h2
  have stat : ∀ {H' : Hp},(∀ b ∈ fp,H' b = none) → ∀ b ∈ fp,E8 X pins H' b := fun hn b hb => ⟨hn b hb,(f2' b hb).2⟩
  refine wpAny_bind (wpAny_runOwn ?_)
  show codeAny (model X.prog X.w) X.A (.compStart (.ListComp elt [⟨t1,i1,f1,0⟩,⟨t2,i2,f2,0⟩] scope pos) 1 (.ref it) (.ref D) X.env) _ s2
  have loop : codeAny (model X.prog X.w) X.A (.compLoop (.ListComp elt [⟨t1,i1,f1,0⟩,⟨t2,i2,f2,0⟩] scope pos) 1 (.ref it) (.ref D) X.env) (fun r s' => match r with
      | .ok f => wpAny (model X.prog X.w) X.A kk Q E s'
      | .error e => cameBackBy (model X.prog X.w) X.A X.env E e s') s2 := by
    refine codeAny_loop rfl (fun n s' => ∃ i σ' H',Inv X pins σ' H' s'∧tn i s'.heap∧(∀ b ∈ fp,H' b = none)∧W i n σ' H') (fun n s' hI => ?_) n0 ⟨0,σ,H2,I2,st2,fun b hb => (f2' b hb).1,w0⟩
    show wpAny _ X.A ((compTurn (.ListComp elt [⟨t1,i1,f1,0⟩,⟨t2,i2,f2,0⟩] scope pos) 1 (.ref it) (.ref D) X.env).onRaise (fun x => do noteFrame x X.env;theTreesLotGoes x)) _ _ s'
    refine wpAny_noted ?_
    rw [Uy]
    refine wpAny_bind (wpAny_standAt (wpAny_bind ?_))
    obtain ⟨i,σ5,H5,I5,st5,fr5,w5⟩ := hI
    rcases turn i n σ5 H5 w5 with ⟨stop,q⟩ | ⟨go,step⟩
    · refine thn (T.done X rfl rfl rfl hc i pins s' σ5 H5 _ I5 (stat fr5) st5 stop) fun r s6 ⟨hr,I6⟩ => ?_
      subst hr
      exact wpAny_pure (hk _ σ5 H5 I6 q)
    · refine thn (T.item X rfl rfl rfl hc i pins s' σ5 H5 _ I5 (stat fr5) st5 go) fun r s6 ⟨u,hr,h6⟩ => ?_
      subst hr
      refine wpAny_bind (thn h6 fun _ s7 ⟨x,H7,I7,r7,y7,st7,fr7⟩ => ?_)
      have I7' := I7.pinned (stat fr7) (T.obj _ _ st7)
      have again : ∀ {σ8 : L2.St} {H8 : Hp} {s8 : Shared},Inv X (pins ++ Yl fp s7.heap) σ8 H8 s8 → (∃ n',n' < n∧W (i + 1) n' σ8 H8) →
          ∃ m',m' < n∧∃ i σ' H',Inv X pins σ' H' s8∧tn i s8.heap∧(∀ b ∈ fp,H' b = none)∧W i m' σ' H' := fun {σ8 H8 s8} I8 ⟨n',hn,w8⟩ => by
        refine ⟨n',hn,i + 1,σ8,H8,I8.unpinned,T.keep _ _ _ st7 fun b hb o e => (I8.pin (b,o) (List.mem_append_right _ (List.mem_append_right _ (zj hb e)))).1,fun b hb => ?_,w8⟩
        obtain ⟨o,e,d⟩ := T.obj _ _ st7 b hb
        exact (I8.pin (b,o) (List.mem_append_right _ (List.mem_append_right _ (zj hb e)))).2.1
      refine wpAny_bind (wpAny_mono (hg _ s7 σ5 H7 x u _ I7' r7 (step x H7 y7)) (fun _ s8 ⟨σ8,H8,I8,q8⟩ => ?_) fun _ _ z => (hx _ _ z).elim)
      refine wpAny_bind (wpAny_mono (hf _ s8 σ8 H8 _ I8 q8) (fun k s9 ⟨H9,I9,q9⟩ => ?_) fun _ _ z => (hx _ _ z).elim)
      cases k with
      | false =>
        rw [if_neg Bool.false_ne_true] at q9
        exact wpAny_pure ⟨rfl,again I9 q9⟩
      | true =>
        rw [if_pos rfl] at q9
        refine wpAny_bind (wpAny_bind (wpAny_mono (he _ s9 σ8 H9 _ I9 q9) (fun w s10 ⟨y,H10,I10,r10,q10⟩ => ?_) fun _ _ z => (hx _ _ z).elim))
        obtain ⟨zs,hz,hl,q10⟩ := q10
        refine wpAny_bind (wpAny_mono (Js (X := X) _ s10 σ8 H10 (.ref D) [y] (.ref D) [w] (fun _ H11 => H11 = upd H10 D (.lst (zs ++ [y]))) I10 rfl (.cons r10 .nil) ⟨D,zs,y,rfl,rfl,hz,hl,rfl⟩) (fun _ s11 ⟨_,H11,I11,_,e11⟩ => ?_) fun _ _ z => (hx _ _ z).elim)
        subst e11
        exact wpAny_pure (wpAny_pure ⟨rfl,again I11 q10⟩)
  exact Zq loop (T.self X.A 0 _ _ _ st2 loop)
noncomputable def qid (wi : TI) (g : TG) (tif : TT) (wi2 : TI) (g2 : TG) (tif2 : TT) (te : TE) (m : List (Option Nat)) : TE := fun σ H Q => wi σ H fun J H1 => ∀ D,H1 D = none →
 ∃ W : Nat → Nat → L2.St → Hp → Prop,(∃ n,W 0 n (cap m σ) (upd H1 D (.lst [])))∧∀ i n σ H,W i n σ H →
  (J.stop i H∧Q (.ref D) H) ∨ (J.go i H∧∀ x H',J.yld i H x H' → g x σ H' fun σ2 H2 => tif σ2 H2 fun k H3 =>
   if k = true then tIn wi2 g2 tif2 te D (fun σ4 H4 => ∃ n',n' < n∧W (i + 1) n' σ4 H4) σ2 H3
   else ∃ n',n' < n∧W (i + 1) n' σ2 H3)
theorem MF {elt tg iter t2 i2 : Expr} {ifs f2 : List Expr} {scope : Scope} {pos : Pos} {N' : List Str} {m : List (Option Nat)} {wi : TI} {g : TG} {tif : TT} {wi2 : TI} {g2 : TG} {tif2 : TT} {te : TE} (hc : X.calm = true) (hi : PI X tg iter wi)
  (hg : ∀ s H fp,PG (qj X N' scope s H fp) tg g) (hf : ∀ s H fp,PF (qj X N' scope s H fp) ifs tif) (hi2 : ∀ s H fp,PI (qj X N' scope s H fp) t2 i2 wi2) (hg2 : ∀ s H fp,PG (qj X N' scope s H fp) t2 g2) (hf2 : ∀ s H fp,PF (qj X N' scope s H fp) f2 tif2) (he : ∀ s H fp,PE (qj X N' scope s H fp) elt te)
  (hsc : WF X.env.scope scope = true) (hcap : Je X.N N' scope m = true) (hs : ∀ x,foldedSetIterable iter X.env x = pure x := by intro _;rfl) (hs2 : ∀ s H fp x,foldedSetIterable i2 (qj X N' scope s H fp).env x = pure x := by intro _ _ _ _;rfl) :
  PE X (.ListComp elt [⟨tg,iter,ifs,0⟩,⟨t2,i2,f2,0⟩] scope pos) (qid wi g tif wi2 g2 tif2 te m) := by
 intro pins s σ H Q I h
 have sc := Yb hsc
 have hcl : ∀ y ∈ scope.names,y.2 = .free → ∃ c,X.env.cells.lookup y.1 = some c := fun y hy e => by
  rcases (sc.free y hy e).2 with z | z
  ·exact I.ok.has y.1 (.inl z)
  ·exact I.ok.has y.1 (.inr z)
 rw [eval_ListComp]
 refine wpAny_comprehension_free (use := none) (g := ⟨tg,iter,ifs,0⟩) (gs := [⟨t2,i2,f2,0⟩]) rfl hs (QL hcl) sc.kind sc.loc ?_
 show wpAny _ _ (eval iter X.env) _ _ s
 refine thn (hi pins s σ H _ I h) fun v s1 h1 => thn h1 fun itv s2 h2 => ?_
 obtain ⟨it,fp,tn,J,H2,rfl,I2,T,st2,fF2,hW⟩ := h2
 refine wpAny_newObj_type ?_
 have hD : H2 s2.heap.objs.size = none := I2.fresh
 obtain ⟨W,⟨n0,w0⟩,turn⟩ := hW _ hD
 generalize hDe : s2.heap.objs.size = D at *
 have I3 : Inv X pins σ (upd H2 D (.lst [])) { s2 with heap := s2.heap.push { cls := .type "list",dict := none,data := .seq ([] : List Value).toArray } } := by
  subst hDe
  exact I2.laid (t' := s2.toks) (fun b u e => Heap.get?_push_of_some _ e) (Nat.le_refl _) ⟨Nat.zero_le _,[],0,.nil,Heap.get?_push_size _ rfl⟩
 have ob2 := T.obj 0 _ st2
 have ob3 : ∀ b ∈ fp,∃ o,(s2.heap.push { cls := .type "list",dict := none,data := .seq ([] : List Value).toArray }).get? b = some o := fun b hb => let ⟨o,e,_⟩ := ob2 b hb;⟨o,Heap.get?_push_of_some _ e⟩
 have f3 : ∀ b ∈ fp,E8 X pins (upd H2 D (.lst [])) b := fun b hb => by
  obtain ⟨o,e,_⟩ := ob2 b hb
  have : b ≠ D := by rw [← hDe];exact Nat.ne_of_lt (Heap.lt_size e)
  exact ⟨by rw [qu this];exact (fF2 b hb).1,(fF2 b hb).2⟩
 have k23 : ∀ b o,s2.heap.get? b = some o → (s2.heap.push { cls := .type "list",dict := none,data := .seq ([] : List Value).toArray }).get? b = some o := fun b o e => Heap.get?_push_of_some _ e
 generalize hH3 : upd H2 D (.lst []) = H3 at *
 generalize hs3 : ({ s2 with heap := s2.heap.push { cls := .type "list",dict := none,data := .seq ([] : List Value).toArray } } : Shared) = s3 at *
 have ob3 : ∀ b ∈ fp,∃ o,s3.heap.get? b = some o := by rw [← hs3];exact ob3
 have k23 : ∀ b o,s2.heap.get? b = some o → s3.heap.get? b = some o := by rw [← hs3];exact k23
 refine jC fun h₁ hns hk hown => ?_
 have I4 : Inv (qj X N' scope s3 H3 fp) [] (cap m σ) H3 { s3 with heap := h₁ } := Uu hc I3 sc hcap f3 ob3 hns hk hown
 have tn4 : tn 0 h₁ := T.keep _ _ _ st2 fun b hb o e => hk b o (k23 b o e)
 have fr4 : ∀ b ∈ fp,H3 b = none := fun b hb => (f3 b hb).1
 have stat : ∀ {H' : Hp},(∀ b ∈ fp,H' b = none) → ∀ b ∈ fp,E8 (qj X N' scope s3 H3 fp) [] H' b := fun hn b hb => by
  refine ⟨hn b hb,I4.ok.exf b hb |>.1,I4.ok.exfs b hb,.inl hb,fun x c e => (I4.ok.exf b hb).2 x c e,fun p hp => absurd (show p ∈ ([] : List (Addr × Obj)) from hp) (by simp)⟩
 show codeAny (model X.prog X.w) X.A (.compStart (.ListComp elt [⟨tg,iter,ifs,0⟩,⟨t2,i2,f2,0⟩] scope pos) 0 (.ref it) (.ref D) (qj X N' scope s3 H3 fp).env) (compPost (model X.prog X.w) X.A X.xe none (EP X pins σ Q) (.ref D) s3.heap.objs.size) { s3 with heap := h₁ }
 have loop : codeAny (model X.prog X.w) X.A (.compLoop (.ListComp elt [⟨tg,iter,ifs,0⟩,⟨t2,i2,f2,0⟩] scope pos) 0 (.ref it) (.ref D) (qj X N' scope s3 H3 fp).env) (compPost (model X.prog X.w) X.A X.xe none (EP X pins σ Q) (.ref D) s3.heap.objs.size) { s3 with heap := h₁ } := by
  refine codeAny_loop rfl (fun n s' => ∃ i σ' H',Inv (qj X N' scope s3 H3 fp) [] σ' H' s'∧tn i s'.heap∧(∀ b ∈ fp,H' b = none)∧W i n σ' H') (fun n s' hI => ?_) n0 ⟨0,cap m σ,H3,I4,tn4,fr4,w0⟩
  show wpAny _ X.A ((compTurn (.ListComp elt [⟨tg,iter,ifs,0⟩,⟨t2,i2,f2,0⟩] scope pos) 0 (.ref it) (.ref D) (qj X N' scope s3 H3 fp).env).onRaise (fun x => do noteFrame x (qj X N' scope s3 H3 fp).env;theTreesLotGoes x)) _ _ s'
  refine wpAny_noted ?_
  rw [Ug]
  refine wpAny_bind (wpAny_standAt (wpAny_bind ?_))
  obtain ⟨i,σ5,H5,I5,st5,fr5,w5⟩ := hI
  rcases turn i n σ5 H5 w5 with ⟨stop,q⟩ | ⟨go,step⟩
  ·refine thn (T.done (qj X N' scope s3 H3 fp) rfl rfl rfl rfl i [] s' σ5 H5 _ I5 (stat fr5) st5 stop) fun r s6 ⟨hr,I6⟩ => ?_
   subst hr
   refine wpAny_pure ?_
   obtain ⟨mm,hn6,_⟩ := I6.loc
   exact ⟨mm,hn6,fun h' sb => ⟨.ref D,H5,JG I3 f3 I6 sb,rfl,q⟩⟩
  ·refine thn (T.item (qj X N' scope s3 H3 fp) rfl rfl rfl rfl i [] s' σ5 H5 _ I5 (stat fr5) st5 go) fun r s6 ⟨u,hr,h6⟩ => ?_
   subst hr
   refine wpAny_bind (thn h6 fun _ s7 ⟨x,H7,I7,r7,y7,st7,fr7⟩ => ?_)
   have I7' := I7.pinned (stat fr7) (T.obj _ _ st7)
   have again : ∀ {σ8 : L2.St} {H8 : Hp} {s8 : Shared},Inv (qj X N' scope s3 H3 fp) ([] ++ Yl fp s7.heap) σ8 H8 s8 → (∃ n',n' < n∧W (i + 1) n' σ8 H8) →
     ∃ m',m' < n∧∃ i σ' H',Inv (qj X N' scope s3 H3 fp) [] σ' H' s8∧tn i s8.heap∧(∀ b ∈ fp,H' b = none)∧W i m' σ' H' := fun {σ8 H8 s8} I8 ⟨n',hn,w8⟩ => by
    refine ⟨n',hn,i + 1,σ8,H8,I8.unpinned,T.keep _ _ _ st7 fun b hb o e => (I8.pin (b,o) (List.mem_append_right _ (List.mem_append_right _ (zj hb e)))).1,fun b hb => ?_,w8⟩
    obtain ⟨o,e,d⟩ := T.obj _ _ st7 b hb
    exact (I8.pin (b,o) (List.mem_append_right _ (List.mem_append_right _ (zj hb e)))).2.1
   refine wpAny_bind (wpAny_mono (hg s3 H3 fp _ s7 σ5 H7 x u _ I7' r7 (step x H7 y7)) (fun _ s8 ⟨σ8,H8,I8,q8⟩ => ?_) fun _ _ z => z.elim)
   refine wpAny_bind (wpAny_mono (hf s3 H3 fp _ s8 σ8 H8 _ I8 q8) (fun k s9 ⟨H9,I9,q9⟩ => ?_) fun _ _ z => z.elim)
   cases k with
   | false =>
    rw [if_neg Bool.false_ne_true] at q9
    exact wpAny_pure ⟨rfl,again I9 q9⟩
   | true =>
    rw [if_pos rfl] at q9
    refine MY (X := qj X N' scope s3 H3 fp) rfl (fun _ _ z => z) (hi2 s3 H3 fp) (hg2 s3 H3 fp) (hf2 s3 H3 fp) (he s3 H3 fp) (hs2 s3 H3 fp) I9 q9 fun s10 σ10 H10 I10 q10 => ?_
    exact wpAny_pure ⟨rfl,again I10 q10⟩
 exact codeAny_compStart_list loop (T.self X.A 0 _ _ _ tn4 loop)
end
end L3
namespace L3
open PySem PySem.Spec PyProof.Rows L2
noncomputable def LZ (D : Addr) (stay : Gp → Prop) (g : TG3) (tif : TT3) (te : TE3) (N : St3 → Gp → Prop) : List T → St3 → Gp → Prop
 | [],τ,G => stay G∧N τ G
 | x :: r,τ,G => stay G∧g x τ G fun τ2 G2 => tif τ2 G2 fun k G3 =>
  if k = true then te τ2 G3 fun y G4 => (match G4 D with | some (.lst ys) => ys.length < sizeLine∧LZ D stay g tif te N r τ2 (gu G4 D (.lst (ys ++ [y]))) | _ => False) else LZ D stay g tif te N r τ2 G3
noncomputable def XX (D : Addr) (stay : Gp → Prop) (g : TG3) (tif : TT3) (wi2 : TI3) (g2 : TG3) (tif2 : TT3) (te : TE3) (q : Q3) : List T → St3 → Gp → Prop
 | [],_,G => stay G∧q (.ref D) G
 | x :: r,τ,G => stay G∧g x τ G fun τ2 G2 => tif τ2 G2 fun k G3 =>
  if k = true then wi2 τ2 G3 fun items2 stay2 G4 => LZ D stay2 g2 tif2 te (fun τ' G' => XX D stay g tif wi2 g2 tif2 te q r τ' G') items2 τ2 G4 else XX D stay g tif wi2 g2 tif2 te q r τ2 G3
noncomputable def qbq (wi : TI3) (g : TG3) (tif : TT3) (wi2 : TI3) (g2 : TG3) (tif2 : TT3) (te : TE3) (m : List (Option Nat)) : TE3 := fun τ G q => wi τ G fun items stay G1 => ∀ D,G1 D = none → XX D stay g tif wi2 g2 tif2 te q items (cap m τ) (gu G1 D (.lst []))
section
variable {K : PySem.W.Frag}
theorem LO {wi2 : TI3} {g2 : TG3} {tif2 : TT3} {te : TE3} {D : Addr} {N3 : St3 → Gp → Prop} {N : L2.St → Hp → Prop} {τ : St3} {G : Gp} {σ : L2.St} {H : Hp} {Gb : Gp} {Hb : Hp} (rl : Rel K τ G σ H) (kb : Kp Gb Hb G H) (h : wi2 τ G fun items stay G1 => LZ D stay g2 tif2 te N3 items τ G1)
  (hN : ∀ τ' G' σ' H',Rel K τ' G' σ' H' → Kp Gb Hb G' H' → N3 τ' G' → N σ' H') : tIn (lI K wi2) (lG K g2) (lT K tif2) (lE K te) D N σ H := by
 refine ⟨τ,G,_,rl,h,fun items stay G1 h1 J H1 hr1 k1 ok => ?_⟩
 refine ⟨fun i n σ' H' => n = items.length - i∧i ≤ items.length∧∃ τ' G',Rel K τ' G' σ' H'∧Kp G1 H1 G' H'∧LZ D stay g2 tif2 te N3 (items.drop i) τ' G',⟨_,rfl,Nat.zero_le _,τ,G1,rl.next hr1 k1,Kp.refl,by simpa using h1⟩,?_⟩
 rintro i n σ' H' ⟨rfl,hi,τ',G',rl',k',h'⟩
 by_cases hlt : i < items.length
 ·rw [List.drop_eq_getElem_cons hlt] at h'
  obtain ⟨hst,h'⟩ := h'
  obtain ⟨go,yld,_⟩ := ok G' H' rl'.hp k' hst
  have hx : items[i]? = some items[i] := List.getElem?_eq_getElem hlt
  refine .inr ⟨go i _ hx,fun v H2 y => ?_⟩
  obtain ⟨rv,hr2,k2⟩ := yld i _ v H2 hx y
  refine ⟨_,τ',G',_,rv,rl'.next hr2 k2,h',fun τ3 G3 h3 σ3 H3 rl3 k3 => ⟨τ3,G3,_,rl3,h3,fun k G4 h4 H4 hr4 k4 => ?_⟩⟩
  have kk := (k2.trans k3).trans k4
  cases k with
  | false =>
   rw [if_neg Bool.false_ne_true] at h4
   refine qdj ?_
   exact ⟨_,by omega,rfl,hlt,τ3,G4,rl3.next hr4 k4,k'.trans kk,h4⟩
  | true =>
   rw [if_pos rfl] at h4
   refine qdk ?_
   refine ⟨τ3,G4,_,rl3.next hr4 k4,h4,fun z G5 h5 w H5 rw5 hr5 k5 => ?_⟩
   split at h5
   ·rename_i ys e1
    obtain ⟨vs,g1,r1⟩ := hr5.lst e1
    exact ⟨vs,g1,by rw [← r1.length];exact h5.1,_,by omega,rfl,hlt,τ3,_,((rl3.next hr4 k4).next hr5 k5).next (hr5.wr e1 (r1.append (.cons rw5 .nil))) (Kp.wr e1),((k'.trans kk).trans k5).trans (Kp.wr e1),h5.2⟩
   ·exact h5.elim
 ·have e : i = items.length := by omega
  subst e
  rw [List.drop_length] at h'
  obtain ⟨_,_,stop⟩ := ok G' H' rl'.hp k' h'.1
  exact .inl ⟨stop,hN _ _ _ _ rl' ((kb.trans k1).trans k') h'.2⟩
end
section
variable {X : Cx}
theorem qf2 {elt tg iter t2 i2 : Expr} {ifs f2 : List Expr} {scope : Scope} {pos : Pos} (N' : List Str) (m : List (Option Nat)) {wi : TI3} {g : TG3} {tif : TT3} {wi2 : TI3} {g2 : TG3} {tif2 : TT3} {te : TE3} (hc : X.calm = true) (hi : I3 X tg iter wi)
  (hg : ∀ s H fp,G3 (qj X N' scope s H fp) tg g) (hf : ∀ s H fp,F3 (qj X N' scope s H fp) ifs tif) (hi2 : ∀ s H fp,I3 (qj X N' scope s H fp) t2 i2 wi2) (hg2 : ∀ s H fp,G3 (qj X N' scope s H fp) t2 g2) (hf2 : ∀ s H fp,F3 (qj X N' scope s H fp) f2 tif2) (he : ∀ s H fp,E3 (qj X N' scope s H fp) elt te)
  (hsc : WF X.env.scope scope = true) (hcap : Je X.N N' scope m = true) (hs : ∀ x,foldedSetIterable iter X.env x = pure x := by intro _;rfl) (hs2 : ∀ s H fp x,foldedSetIterable i2 (qj X N' scope s H fp).env x = pure x := by intro _ _ _ _;rfl) :
  E3 X (.ListComp elt [⟨tg,iter,ifs,0⟩,⟨t2,i2,f2,0⟩] scope pos) (qbq wi g tif wi2 g2 tif2 te m) :=
 YE (MF (g := lG X.K g) (tif := lT X.K tif) (wi2 := lI X.K wi2) (g2 := lG X.K g2) (tif2 := lT X.K tif2) (te := lE X.K te) hc hi hg hf hi2 hg2 hf2 he hsc hcap hs hs2) fun σ H Q ⟨τ,G,q,rl,h,af⟩ => by
  refine ⟨τ,G,_,rl,h,fun items stay G1 h1 J H1 hr1 k1 ok D hD => ?_⟩
  have gD : G1 D = none := hr1.free hD
  have h1 := h1 D gD
  have hr1' : HR X.K (gu G1 D (.lst [])) (upd H1 D (.lst [])) := HR.newL hr1 hD .nil
  have k1' : Kp G1 H1 (gu G1 D (.lst [])) (upd H1 D (.lst [])) := Kp.newL hD
  refine ⟨fun i n σ' H' => n = items.length - i∧i ≤ items.length∧∃ τ' G',Rel X.K τ' G' σ' H'∧Kp G1 H1 G' H'∧XX D stay g tif wi2 g2 tif2 te q (items.drop i) τ' G',
   ⟨_,rfl,Nat.zero_le _,cap m τ,_,((rl.next hr1 k1).cap m).next hr1' k1',k1',by simpa using h1⟩,?_⟩
  rintro i n σ' H' ⟨rfl,hi,τ',G',rl',k',h'⟩
  by_cases hlt : i < items.length
  ·rw [List.drop_eq_getElem_cons hlt] at h'
   obtain ⟨hst,h'⟩ := h'
   obtain ⟨go,yld,_⟩ := ok G' H' rl'.hp k' hst
   have hx : items[i]? = some items[i] := List.getElem?_eq_getElem hlt
   refine .inr ⟨go i _ hx,fun v H2 y => ?_⟩
   obtain ⟨rv,hr2,k2⟩ := yld i _ v H2 hx y
   refine ⟨_,τ',G',_,rv,rl'.next hr2 k2,h',fun τ3 G3 h3 σ3 H3 rl3 k3 => ⟨τ3,G3,_,rl3,h3,fun k G4 h4 H4 hr4 k4 => ?_⟩⟩
   have kk := (k2.trans k3).trans k4
   cases k with
   | false =>
    rw [if_neg Bool.false_ne_true] at h4
    refine qdj ?_
    exact ⟨_,by omega,rfl,hlt,τ3,G4,rl3.next hr4 k4,k'.trans kk,h4⟩
   | true =>
    rw [if_pos rfl] at h4
    refine qdk ?_
    exact LO (rl3.next hr4 k4) (k'.trans kk) h4 fun τ5 G5 σ5 H5 rl5 k5 h5 => ⟨_,by omega,rfl,hlt,τ5,G5,rl5,k5,h5⟩
  ·have e : i = items.length := by omega
   subst e
   rw [List.drop_length] at h'
   obtain ⟨_,_,stop⟩ := ok G' H' rl'.hp k' h'.1
   exact .inl ⟨stop,af _ _ h'.2 _ H' (.ref D) rl'.hp (k1.trans k')⟩
theorem S7 {elt tg iter t2 i2 : Expr} {ifs f2 : List Expr} {scope : Scope} {pos : Pos} (N' : List Str) (m : List (Option Nat)) {wi : TI3} {g : TG3} {tif : TT3} {wi2 : TI3} {g2 : TG3} {tif2 : TT3} {te : TE3} (hc : X.calm = true) (hi : jI3 X tg iter wi)
  (hg : ∀ s H fp,jG3 (qj X N' scope s H fp) tg g) (hf : ∀ s H fp,jF3 (qj X N' scope s H fp) ifs tif) (hi2 : ∀ s H fp,jI3 (qj X N' scope s H fp) t2 i2 wi2) (hg2 : ∀ s H fp,jG3 (qj X N' scope s H fp) t2 g2) (hf2 : ∀ s H fp,jF3 (qj X N' scope s H fp) f2 tif2) (he : ∀ s H fp,jE3 (qj X N' scope s H fp) elt te)
  (hsc : WF X.env.scope scope = true) (hcap : Je X.N N' scope m = true) (hs : ∀ x,foldedSetIterable iter X.env x = pure x := by intro _;rfl) (hs2 : ∀ s H fp x,foldedSetIterable i2 (qj X N' scope s H fp).env x = pure x := by intro _ _ _ _;rfl) :
  jE3 X (.ListComp elt [⟨tg,iter,ifs,0⟩,⟨t2,i2,f2,0⟩] scope pos) (qbq wi g tif wi2 g2 tif2 te m) :=
 ⟨qf2 N' m hc hi.h (fun s H fp => (hg s H fp).h) (fun s H fp => (hf s H fp).h) (fun s H fp => (hi2 s H fp).h) (fun s H fp => (hg2 s H fp).h) (fun s H fp => (hf2 s H fp).h) (fun s H fp => (he s H fp).h) hsc hcap hs hs2⟩
end
end L3
namespace L3
open PySem PySem.Spec PyProof.Rows L2
section
variable {X : Cx}
end
end L3
namespace L3
open PySem PySem.Spec PyProof.Rows L2
section
variable {X : Cx} {tg a b c : Expr} {pos : Pos}
end
end L3
namespace L3
open PySem PySem.Spec PyProof.Rows L2
section
variable {X : Cx}
end
end L3
namespace L3
open PySem PySem.Spec PyProof.Rows L2
end L3
namespace L3
open PySem PySem.Spec PyProof.Rows L2
section
variable {X : Cx} {a b : Expr} {ta tb : TE3} {pos : Pos}
structure ShW (d : PyData) : Prop where
 sh : d.showable = true
 nd : d.hasDict = false
 dp : d.depth ≤ 40
 fit : d.shown.length ≤ sizeLine
theorem ShOk.w {d : PyData} (h : ShOk d) : ShW d := ⟨h.sh,h.nd,h.dp,PyData.shown_fits_bulk (by decide) (by decide) h.lv h.bk⟩
theorem Xr (hg : X.A.guards = some []) (hu : X.A.units + 64 < cLine) : ZN X (.type "str") (fun xs H Q => ∃ a d,xs = [.ref a]∧DV X.K H (.ref a) d∧ShW d∧Q (.str d.shown) H) := by
 intro pins s σ H xs us Q I r h
 obtain ⟨a,d,rfl,dv,ok,q⟩ := h
 obtain ⟨u,rfl,rp⟩ := Vx r
 cases (show u = Value.ref a from rp)
 obtain ⟨as,rd⟩ := dv.reads I (show jo (.ref a) (.ref a) from rfl)
 refine str_of_reads rd ok.sh (PyData.noDict_hsm ok.nd) hg (by have := ok.dp;omega) (fun _ _ e => e) (fun h' u tk hk => ?_) ok.fit
 exact ⟨.str _,H,I.kept (h' := h') (t' := tk) hk,⟨_,rfl⟩,q⟩
noncomputable def shV (st : Bool) : V → Hp → (Str → Prop) → Prop := fun v H q => match v with
 | .non => q (Str.ofString "None")
 | .bl b => q (if b = true then Str.ofString "True" else Str.ofString "False")
 | .int i => i.natAbs.log2 < 1920∧q (Str.ofString (toString i))
 | .str x => if st then q x else (reprText x).length ≤ sizeLine∧q (reprText x)
 | .ref a => ∃ d,DV X.K H (.ref a) d∧ShW d∧q d.shown
 | _ => False
theorem Jk (hg : X.A.guards = some []) (hu : X.A.units + 64 < cLine) : ZN X (.type "str") (fun xs H Q => ∃ v,xs = [v]∧shV (X := X) true v H fun x => Q (.str x) H) := by
 intro pins s σ H xs us Q I r h
 obtain ⟨v,rfl,h⟩ := h
 obtain ⟨u,rfl,rp⟩ := Vx r
 cases v with
 | non => cases (show u = Value.none from rp);exact P.str_of_none ⟨.str _,H,I.tok _,⟨_,rfl⟩,h⟩
 | bl b => cases (show u = Value.bool b from rp);exact P.str_of_bool ⟨.str _,H,I.tok _,⟨_,rfl⟩,h⟩
 | int i => obtain ⟨t,rfl⟩ := (show ∃ t,u = Value.int i t from rp);exact P.str_of_int h.1 ⟨.str _,H,I.tok _,⟨_,rfl⟩,h.2⟩
 | str x => obtain ⟨t,rfl⟩ := (show ∃ t,u = Value.str x t from rp);exact P.str_of_str ⟨.str _,H,I,⟨_,rfl⟩,h⟩
 | ref a =>
  obtain ⟨d,dv,ok,q⟩ := h
  exact Xr hg hu _ _ _ _ _ _ _ I r ⟨a,d,rfl,dv,ok,q⟩
 | _ => exact h.elim
noncomputable def shT (st : Bool) : T → Gp → (Str → Prop) → Prop := fun x G q => match x with
 | .non => q (Str.ofString "None")
 | .bl b => q (if b = true then Str.ofString "True" else Str.ofString "False")
 | .int i => i.natAbs.log2 < 1920∧q (Str.ofString (toString i))
 | .str x => if st then q x else (reprText x).length ≤ sizeLine∧q (reprText x)
 | .tup _ => ∃ d,Dp G x d∧ShW d∧q d.shown
 | .ref _ => ∃ d,Dp G x d∧ShW d∧q d.shown
noncomputable def Et (st : Bool) : List T → Gp → Q3 → Prop := fun xs G q => match xs with
 | [x] => shT st x G fun y => q (.str y) G
 | _ => False
theorem Ur {st : Bool} : W1 X.K (Et st) (fun xs H Q => ∃ v,xs = [v]∧shV (X := X) st v H fun x => Q (.str x) H) := fun xs vs G H q Q hr rs h af => by
 unfold Et at h
 split at h
 ·rename_i x
  obtain ⟨v,rfl,r⟩ := EC rs
  refine ⟨v,rfl,?_⟩
  cases r with
  | non => exact af _ G h _ H (.str _) hr Kp.refl
  | bl b => exact af _ G h _ H (.str _) hr Kp.refl
  | int i => exact ⟨h.1,af _ G h.2 _ H (.str _) hr Kp.refl⟩
  | str x =>
   cases st with
   | true => exact af _ G h _ H (.str _) hr Kp.refl
   | false => exact ⟨h.1,af _ G h.2 _ H (.str _) hr Kp.refl⟩
  | tup hs r2 =>
   obtain ⟨d,h1,h2,h3⟩ := h
   exact ⟨d,h1.dv hr (.tup hs r2),h2,af _ G h3 _ H (.str _) hr Kp.refl⟩
  | ref a =>
   obtain ⟨d,h1,h2,h3⟩ := h
   exact ⟨d,h1.dv hr (.ref a),h2,af _ G h3 _ H (.str _) hr Kp.refl⟩
 ·exact h.elim
theorem Rw : OpR X (binaryOp .Add) (fun x y H Q => ∃ a b ys,x = .ref a∧y = .ref b∧SqT X.K H a []∧SqT X.K H b ys∧Q (.ref b) H) := by
 intro pins s σ H x y v u Q I rx ry h
 obtain ⟨a,b,ys,rfl,rfl,ha,hb,q⟩ := h
 cases rx
 cases ry
 obtain ⟨its,r1,p1,_⟩ := I.tuple ha
 obtain ⟨its2,r2,p2,_⟩ := I.tuple hb
 cases r1
 obtain ⟨⟨cls,dd,data,sl⟩,ho,hc,n,hd⟩ := id p1
 obtain ⟨⟨cls2,dd2,data2,sl2⟩,ho2,hc2,n2,hd2⟩ := id p2
 simp only at hc hd hc2 hd2
 subst hc hd hc2 hd2
 exact concat_meets ⟨_,ho,rfl⟩ ⟨_,ho2,rfl⟩ noFill_tuple_add seq_tuple_add PySem.F.slot_tuple_add PySem.F.entry_tuple_add (PySem.F.args_tuple_add_2 _ _)
   (tuple_addW0 a b #[] its2.toArray n n2 dd dd2 sl sl2 rfl) ⟨ho,ho2,⟨.ref b,H,I,rfl,q⟩⟩
noncomputable def Yo : R3 := fun x y G q => match x,y with
 | .tup xs,.tup ys => xs.length + ys.length ≤ sizeLine∧q (.tup (xs ++ ys)) G
 | .ref a,.ref b => (match G a,G b with | some (.lst xs),some (.lst ys) => xs.length + ys.length ≤ sizeLine∧∀ p,G p = none → q (.ref p) (gu G p (.lst (xs ++ ys))) | _,_ => False)
 | .int i,.int j => q (.int (i + j)) G
 | _,_ => False
theorem Ru : Ys X.K Yo (fun x y H Q => ((rI0 (fun i j => .int (i + j)) x y H Q ∨ LD X.K x y H Q) ∨ qfm x y H Q) ∨ ∃ a b ys,x = .ref a∧y = .ref b∧SqT X.K H a []∧SqT X.K H b ys∧Q (.ref b) H) := fun x y v u G H q Q hr rx ry h af => by
 cases x with
 | tup xs =>
  cases y with
  | tup ys =>
   cases xs with
   | nil =>
    cases rx with
    | tup hs rs =>
     cases rs
     cases ry with
     | tup hs' rs' => exact .inr ⟨_,_,_,rfl,rfl,hs,hs',af _ G h.2 _ H (.tup hs' rs') hr Kp.refl⟩
   | cons x xs => exact .inl (U5 _ _ v u G H q Q hr rx ry ⟨by simp,h⟩ af)
  | _ => exact h.elim
 | ref a =>
  cases y with
  | ref b => exact .inl (U5 (.ref a) (.ref b) v u G H q Q hr rx ry h af)
  | _ => exact h.elim
 | int i =>
  cases y with
  | int j => exact .inl (U5 (.int i) (.int j) v u G H q Q hr rx ry h af)
  | _ => exact h.elim
 | _ => exact h.elim
theorem Qh (ha : jE3 X a ta) (hb : jE3 X b tb) : jE3 X (.BinOp a .Add b pos) (o3 Yo ta tb) := ⟨Rk (((TH.or X3).or T1).or Rw) Ru ha.h hb.h⟩
theorem JW {prog : Program} {w : World} {A : Around} {E : Value → Shared → Prop} {s : Shared} {t sl : Addr} {items : Array Value} {vl vu : Value} {lo hi : Option Int} {Q : Value → Shared → Prop} (ht : IsTup s.heap t items) (hs : s.heap.IsSliceOf sl vl vu .none) (pl : IsPart vl lo) (pu : IsPart vu hi)
  (hw : HT.sIx items.size 0 lo = 0∧HT.sIx items.size items.size hi = items.size) (h : Q (.ref t) s) : wpAny (model prog w) A (getItem (.ref t) (.ref sl)) Q E s := by
 obtain ⟨os,hos,hcs,hds⟩ := id hs
 have hTs : s.TypeIs (.ref sl) "slice" := ⟨os,hos,hcs⟩
 unfold getItem
 try with_reducible refine wpAny_holding ?_
 first | refine wpAny_bind (wpAny_pure ?_) | skip
 refine wpAny_bind (wpAny_sequenceKey ht.typeIs (by decide) ?_)
 refine wpAny_bind (wpAny_callSpecial?_slot (name := Str.ofString "__getitem__") ht.typeIs PyProof.Rows.slot_tuple_getitem
  (wpAny_call_entry PyProof.Rows.slot_tuple_getitem ht.typeIs entry_tuple_getitem ?_ (args_tuple_getitem _ _)))
 show wpAny _ _ (Builtin.Tuple.tupleItemsOf (.ref t) >>= _) _ _ s
 refine wpAny_bind (tupleItemsOf_ ht ?_)
 refine wpAny_bind (wpAny_typeOf hTs ?_)
 rw [if_pos (by decide)]
 refine wpAny_bind (HT.Zi hs pl pu ?_)
 have hyes : (((HT.sIx items.size 0 lo : Nat) : Int) == 0 && (1 : Int) == 1 && (HT.sIx items.size items.size hi - HT.sIx items.size 0 lo) == items.size) = true := by
  rw [hw.1,hw.2];simp
 show wpAny _ _ (if (((HT.sIx items.size 0 lo : Nat) : Int) == 0 && (1 : Int) == 1 && (HT.sIx items.size items.size hi - HT.sIx items.size 0 lo) == items.size) = true then _ else _) _ _ s
 rw [if_pos hyes]
 unfold Builtin.Tuple.tupleIsExact
 refine wpAny_bind (wpAny_bind (wpAny_typeOf ht.typeIs (wpAny_pure ?_)))
 rw [if_pos (by decide)]
 refine wpAny_bind (wpAny_rule ?_)
 exact wpAny_pure ⟨_,rfl,wpAny_pure h⟩
noncomputable def qh6 (K : PySem.W.Frag) : V → Option Int → Option Int → Hp → VK → Prop := fun x lo hi H Q => ∃ a xs,x = .ref a∧SqT K H a xs∧(HT.sIx xs.length 0 lo = 0∧HT.sIx xs.length xs.length hi = xs.length)∧Q (.ref a) H
theorem RY : SlR X (qh6 X.K) := by
 intro pins s σ H x v vl vu lo hi sl Q I rx hs pl pu h
 obtain ⟨a,xs,rfl,hx,hw,q⟩ := h
 cases rx
 obtain ⟨its,r,ht,hz⟩ := I.tuple hx
 have hlen : its.toArray.size = xs.length := by rw [List.size_toArray];exact r.length.symm
 refine ⟨"tuple",_,PyProof.Rows.slot_tuple_getitem.lookup,ht.typeIs,?_⟩
 exact JW ht hs pl pu (by rw [hlen];exact hw) ⟨.ref a,H,I,rfl,q⟩
noncomputable def qd6 : T → Option Int → Option Int → Gp → Q3 → Prop := fun x lo hi G q => match x with
 | .tup xs => q (.tup (ZP xs lo hi)) G
 | .ref p => (match getL G p with | some xs => ∀ a,G a = none → q (.ref a) (gu G a (.lst (ZP xs lo hi))) | none => False)
 | _ => False
noncomputable def UH (te : TE3) (tl th : TO3) : TE3 := fun τ G q => te τ G fun x G1 => tl τ G1 fun l G2 => th τ G2 fun u G3 => qd6 x l u G3 q
theorem Q2 {e : Expr} {te : TE3} {lo hi : Option Expr} {tl th : TO3} {p2 : Pos} (he : jE3 X e te) (hl : jP3 X lo tl) (hu : jP3 X hi th) : jE3 X (.Subscript e (.Slice lo hi none p2) pos) (UH te tl th) :=
 ⟨YE (DQ ((TF.or Cc).or RY) he.h hl.h hu.h) fun _ _ _ ⟨τ,G,q,rl,h,af⟩ => zi rl h fun x G1 h1 v H1 rx hr1 k1 rl1 =>
  ⟨τ,G1,_,rl1,h1,fun l G2 h2 H2 hr2 k2 => ⟨τ,G2,_,rl1.next hr2 k2,h2,fun u G3 h3 H3 hr3 k3 => by
   have kk := (k1.trans k2).trans k3
   have rx3 := (rx.keep hr1 k2).keep hr2 k3
   cases x <;> try exact h3.elim
   case tup xs =>
    cases rx3 with
    | tup hs rs =>
     by_cases hw : HT.sIx xs.length 0 l = 0∧HT.sIx xs.length xs.length u = xs.length
     ·refine .inr ⟨_,_,rfl,hs,by rw [← rs.length];exact hw,?_⟩
      have e : ZP xs l u = xs := by unfold ZP;rw [hw.1,hw.2];simp
      have h4 : q (.tup (ZP xs l u)) G3 := h3
      rw [e] at h4
      exact af _ G3 h4 _ _ (.tup hs rs) hr3 kk
     ·refine .inl (.inl ⟨_,_,rfl,hs,by rw [← rs.length];exact hw,fun p hp => ?_⟩)
      exact af _ G3 h3 _ _ (.tup (SqT.of qW) ((rs.cut _ _).keep hr3 (Kp.laid hp))) (hr3.laid hp) (kk.trans (Kp.laid hp))
   case ref p =>
    unfold qd6 at h3
    simp only at h3
    split at h3
    ·rename_i xs e0
     cases rx3
     obtain ⟨vs,hs,rs⟩ := zP hr3 e0
     refine .inl (.inr ⟨p,vs,rfl,hs,fun a ha => ?_⟩)
     exact af _ _ (h3 a (hr3.free ha)) _ _ (.ref a) (hr3.newL ha (rs.cut _ _)) (kk.trans (Kp.newL ha))
    ·exact h3.elim⟩⟩⟩
end
end L3
namespace HT
open PySem PySem.Spec PyProof.Rows
section
variable {prog : Program} {w : World} {A : Around} {E : Value → Shared → Prop} {s : Shared}
theorem Wz (n : Nat) : Builtin.Slice.sliceAdjust none none (-1) (n : Int) = ((n : Int) - 1,-1) := rfl
theorem Wt (n : Nat) : Builtin.Slice.slicePlaces ((n : Int) - 1) (-1) (-1) = n := by
 unfold Builtin.Slice.slicePlaces
 rw [if_neg (by decide)]
 have e : - (-1 : Int) = 1 := by decide
 rw [e,Int.ediv_one]
 split <;> omega
theorem Yx {sl : Addr} {vk : Value} {n : Nat} {Q : Int × Int × Nat → Shared → Prop} (hs : s.heap.IsSliceOf sl .none .none vk) (pk : IsPart vk (some (-1)))
  (h : Q ((n : Int) - 1,-1,n) s) : wpAny (model prog w) A (Builtin.Slice.sliceApplied (.ref sl) (pure (n : Int))) Q E s := by
 obtain ⟨os,hos,hcs,hds⟩ := id hs
 unfold Builtin.Slice.sliceApplied Builtin.Slice.sliceFields
 refine wpAny_bind (wpAny_bind (wpAny_field hos hds (x := .none) rfl (wpAny_bind (wpAny_field hos hds (x := .none) rfl (wpAny_bind (wpAny_field hos hds (x := vk) rfl (wpAny_pure ?_)))))))
 refine wpAny_bind (JJ pk ?_)
 show wpAny _ _ (if ((-1 : Int) == 0) = true then _ else _) _ _ s
 rw [if_neg (by decide)]
 refine wpAny_bind (slicePart_none (wpAny_bind (slicePart_none (wpAny_bind (wpAny_pure ?_)))))
 show wpAny _ _ (match Builtin.Slice.sliceAdjust none none (-1) (n : Int) with | (lo,hi) => pure (lo,(-1 : Int),Builtin.Slice.slicePlaces lo hi (-1))) _ _ s
 rw [Wz n]
 show wpAny _ _ (pure ((n : Int) - 1,(-1 : Int),Builtin.Slice.slicePlaces ((n : Int) - 1) (-1) (-1))) _ _ s
 rw [Wt]
 exact wpAny_pure h
theorem DT {α β : Type} {f g : α → Option β} : ∀ {l : List α},(∀ x ∈ l,f x = g x) → l.filterMap f = l.filterMap g
 | [],_ => rfl
 | x :: l,h => by rw [List.filterMap_cons,List.filterMap_cons,h x (by simp),DT fun y hy => h y (by simp [hy])]
theorem RE (xs : Array Value) : ((List.range xs.size).filterMap fun (m : Nat) => xs[((xs.size : Int) - 1 + (m : Int) * (-1)).toNat]?).toArray = xs.toList.reverse.toArray := by
 congr 1
 have e : ((List.range xs.size).filterMap fun (m : Nat) => xs[((xs.size : Int) - 1 + (m : Int) * (-1)).toNat]?) = (List.range xs.size).filterMap fun (m : Nat) => xs.toList.reverse[m]? := by
  refine DT fun m hm => ?_
  have hm := List.mem_range.mp hm
  have h1 : ((xs.size : Int) - 1 + (m : Int) * (-1)).toNat = xs.size - 1 - m := by omega
  rw [h1,List.getElem?_reverse (by simpa using hm),Array.getElem?_toList,Array.length_toList]
 rw [e]
 have l : xs.size = xs.toList.reverse.length := by simp
 rw [l]
 generalize xs.toList.reverse = ys
 clear e l
 induction ys with
 | nil => rfl
 | cons y ys ih =>
  rw [List.length_cons,List.range_succ_eq_map,List.filterMap_cons]
  simp only [List.getElem?_cons_zero,List.filterMap_map]
  congr 1
theorem Ye {t sl : Addr} {items : Array Value} {vk : Value} {Q : Value → Shared → Prop} (ht : IsTup s.heap t items) (hs : s.heap.IsSliceOf sl .none .none vk) (pk : IsPart vk (some (-1)))
  (h : Q (.ref s.heap.objs.size) { s with heap := s.heap.push { cls := .type "tuple",data := .seq items.toList.reverse.toArray } })
  (hsz : items.size ≤ sizeLine) : wpAny (model prog w) A (getItem (.ref t) (.ref sl)) Q E s := by
 have htake : sizeOk (.seq items.toList.reverse.toArray) := by
  show items.toList.reverse.toArray.size ≤ sizeLine
  rw [List.size_toArray,List.length_reverse,Array.length_toList];exact hsz
 obtain ⟨os,hos,hcs,hds⟩ := id hs
 have hTs : s.TypeIs (.ref sl) "slice" := ⟨os,hos,hcs⟩
 unfold getItem
 try with_reducible refine wpAny_holding ?_
 first | refine wpAny_bind (wpAny_pure ?_) | skip
 refine wpAny_bind (wpAny_sequenceKey ht.typeIs (by decide) ?_)
 refine wpAny_bind (wpAny_callSpecial?_slot (name := Str.ofString "__getitem__") ht.typeIs PyProof.Rows.slot_tuple_getitem
  (wpAny_call_entry PyProof.Rows.slot_tuple_getitem ht.typeIs entry_tuple_getitem ?_ (args_tuple_getitem _ _)))
 show wpAny _ _ (Builtin.Tuple.tupleItemsOf (.ref t) >>= _) _ _ s
 refine wpAny_bind (tupleItemsOf_ ht ?_)
 refine wpAny_bind (wpAny_typeOf hTs ?_)
 rw [if_pos (by decide)]
 refine wpAny_bind (Yx hs pk ?_)
 show wpAny _ _ (if ((((items.size : Int) - 1) == 0 && (-1 : Int) == 1 && items.size == items.size) = true) then _ else _) _ _ s
 rw [if_neg (by intro q;rw [Bool.and_eq_true,Bool.and_eq_true] at q;exact absurd q.1.2 (by decide)),RE]
 first
  | exact wpAny_bind (m := Builtin.Tuple.tupleExact _) (wpAny_newObj_type (wpAny_pure ⟨_,rfl,wpAny_pure h⟩) htake)
  | exact wpAny_bind (m := Builtin.Tuple.tupleExact _) (wpAny_newObj_type (wpAny_bind (wpAny_pure (wpAny_pure ⟨_,rfl,wpAny_pure h⟩))) htake)
  | exact wpAny_bind (wpAny_bind (m := Builtin.Tuple.tupleExact _) (wpAny_newObj_type (wpAny_pure (wpAny_pure ⟨_,rfl,wpAny_pure h⟩)) htake))
  | exact wpAny_bind (wpAny_bind (m := Builtin.Tuple.tupleExact _) (wpAny_newObj_type (wpAny_pure ⟨_,rfl,wpAny_pure h⟩) htake))
end
end HT
namespace L3
open PySem PySem.Spec PyProof.Rows L2
section
variable {X : Cx} {e ek : Expr} {p2 pos : Pos}
noncomputable def qhk (K : PySem.W.Frag) (te : TE) (tk : TO) : TE := fun σ H Q => te σ H fun x H1 => tk σ H1 fun k H2 => k = some (-1)∧((∃ a xs,x = .ref a∧SqL K H2 a xs∧∀ p,H2 p = none → Q (.ref p) (upd H2 p (.lst xs.reverse))) ∨ (∃ a xs,x = .ref a∧SqT K H2 a xs∧∀ p,H2 p = none → Q (.ref p) (upd H2 p (.tup xs.reverse))))
theorem NI {te : TE} {tk : TO} (he : PE X e te) (hk : PO X (some ek) tk) {ops : Value → Value → List Value} (hs : ∀ v w,subscripted (.Slice none none (some ek) p2) false v w = operate (ops v w) (getItem v w)) : PE X (.Subscript e (.Slice none none (some ek) p2) pos) (qhk X.K te tk) := by
 intro pins s σ H Q I h
 refine Subscript_ (thn (he pins s σ H _ I h) fun v s1 ⟨x,H1,I1,r1,q1⟩ => ?_)
 refine wpAny_Slice ?_
 rw [evalPart_none]
 refine wpAny_pure ?_
 refine wpAny_pure ?_
 refine thn (hk pins s1 σ H1 _ I1 q1) fun vk s3 ⟨k,H3,I3,pk,q3⟩ => ?_
 obtain ⟨rfl,q3⟩ := q3
 have I4 : Inv X pins σ H3 { s3 with heap := s3.heap.push { cls := .type "slice",data := .fields #[.none,.none,vk] } } := I3.kept (t' := s3.toks) fun b ob q => Heap.get?_push_of_some _ q
 rcases q3 with ⟨a,xs,rfl,hx,q⟩ | ⟨a,xs,rfl,hx,q⟩
 ·cases r1
  obtain ⟨its,r,ht,hz⟩ := I4.list hx
  have hlen := r.length
  show wpAny (model X.prog X.w) X.A (subscriptTail e (.Slice none none (some ek) p2) (.ref a) (.ref s3.heap.objs.size)) (EP X pins σ Q) X.xe { s3 with heap := s3.heap.push { cls := .type "slice",data := .fields #[.none,.none,vk] } }
  refine tail_any (ops := ops (.ref a) (.ref s3.heap.objs.size)) (T := "list") ht.isList.typeIs slot_list_getitem.lookup ?_ (hs _ _)
  refine wpAny_getItem_list_slice ht.isList (Heap.IsSliceOf.new ..) .none .none pk (by decide) ?_ (by rw [List.size_toArray] <;> omega)
  rw [PySem.W.krv_pick]
  refine ⟨.ref _,_,I4.laid (t' := s3.toks) (o := .lst xs.reverse) (fun b ob q => Heap.get?_push_of_some _ q) (Nat.le_refl _) ?_,rfl,q _ (I4.hok.fresh (Nat.le_refl _))⟩
  exact ⟨by rw [List.length_reverse];exact hz,_,0,r.reverse,Heap.get?_push_size _ rfl⟩
 ·cases r1
  obtain ⟨its,r,ht,hz⟩ := I4.tuple hx
  have hlen : its.toArray.size = xs.length := by rw [List.size_toArray];exact r.length.symm
  show wpAny (model X.prog X.w) X.A (subscriptTail e (.Slice none none (some ek) p2) (.ref a) (.ref s3.heap.objs.size)) (EP X pins σ Q) X.xe { s3 with heap := s3.heap.push { cls := .type "slice",data := .fields #[.none,.none,vk] } }
  refine tail_any (ops := ops (.ref a) (.ref s3.heap.objs.size)) (T := "tuple") ht.typeIs PyProof.Rows.slot_tuple_getitem.lookup ?_ (hs _ _)
  refine HT.Ye ht (Heap.IsSliceOf.new ..) pk ?_ (by rw [hlen];exact hz)
  refine ⟨.ref _,_,I4.laid (t' := s3.toks) (o := .tup xs.reverse) (fun b ob q => Heap.get?_push_of_some _ q) (Nat.le_refl _) ?_,rfl,q _ (I4.hok.fresh (Nat.le_refl _))⟩
  exact ⟨by rw [List.length_reverse];exact hz,_,r.reverse,IsTup.new _ _⟩
noncomputable def qc3 (te : TE3) (tk : TO3) : TE3 := fun τ G q => te τ G fun x G1 => tk τ G1 fun k G2 => k = some (-1)∧(match x with | .tup xs => q (.tup xs.reverse) G2 | .ref p => (match getL G2 p with | some xs => ∀ a,G2 a = none → q (.ref a) (gu G2 a (.lst xs.reverse)) | none => False) | _ => False)
theorem SV {te : TE3} {tk : TO3} (he : jE3 X e te) (hk : jP3 X (some ek) tk) {ops : Value → Value → List Value} (hs : ∀ v w,subscripted (.Slice none none (some ek) p2) false v w = operate (ops v w) (getItem v w)) : jE3 X (.Subscript e (.Slice none none (some ek) p2) pos) (qc3 te tk) :=
 ⟨YE (NI he.h hk.h hs) fun _ _ _ ⟨τ,G,q,rl,h,af⟩ => zi rl h fun x G1 h1 v H1 rx hr1 k1 rl1 =>
  ⟨τ,G1,_,rl1,h1,fun k G2 h2 H2 hr2 k2 => by
   obtain ⟨hk,h2⟩ := h2
   have rx2 := rx.keep hr1 k2
   cases x <;> try exact h2.elim
   case tup xs =>
    cases rx2 with
    | tup hs' rs => exact ⟨hk,.inr ⟨_,_,rfl,hs',fun p hp => af _ G2 h2 _ _ (.tup (SqT.of qW) ((Da rs).keep hr2 (Kp.laid hp))) (hr2.laid hp) ((k1.trans k2).trans (Kp.laid hp))⟩⟩
   case ref p =>
    simp only at h2
    split at h2
    ·rename_i xs e0
     cases rx2
     obtain ⟨vs,hs',rs⟩ := zP hr2 e0
     exact ⟨hk,.inl ⟨p,vs,rfl,hs',fun a ha => af _ _ (h2 a (hr2.free ha)) _ _ (.ref a) (hr2.newL ha (Da rs)) ((k1.trans k2).trans (Kp.newL ha))⟩⟩
    ·exact h2.elim⟩⟩
end
end L3
namespace L3
open PySem PySem.Spec PyProof.Rows L2
section
variable {X : Cx} {a b : Expr} {ta tb : TE3} {pos : Pos}
theorem Nc {prog : Program} {w : World} {A : Around} {E : Value → Shared → Prop} {s : Shared} {k : Bool} {Q : Value → Shared → Prop} (h : Q (.int (-(if k = true then (1 : Int) else 0)) s.toks) { s with toks := s.toks + 1 }) : wpAny (model prog w) A (unaryOp .USub (.bool k)) Q E s := by
 unfold unaryOp
 refine wpAny_holding ?_
 refine wpAny_bind (m := callSpecial? (.bool k) (Str.ofString "__neg__")) (wpAny_callSpecial?_slot (name := Str.ofString "__neg__") (PySem.typeIs_bool s k) PySem.F.slot_bool_neg
  (wpAny_call_entry PySem.F.slot_bool_neg (PySem.typeIs_bool s k) entry_int_neg ?_ (args_int_neg _)))
 show wpAny _ _ (do ret (← mkInt (-(if k = true then (1 : Int) else 0)))) _ _ s
 exact wpAny_ret_mkInt (wpAny_pure h)
noncomputable def nbT : T → Option Int
 | .int i => some i
 | .bl k => some (if k = true then 1 else 0)
 | _ => none
noncomputable def nI3 (f : Int → Int → Int) : R3 := fun x y G q => match nbT x,y with | some i,.int j => q (.int (f i j)) G | _,_ => False
noncomputable def nQ3 : R3 := fun x y G q => match nbT x,y with | some i,.int j => q (.bl (i == j)) G | _,_ => False
noncomputable def nN3 : T → Gp → Q3 → Prop := fun x G q => match nbT x with | some i => q (.int (-i)) G | _ => False
noncomputable def nbV : V → Option Int
 | .int i => some i
 | .bl k => some (if k = true then 1 else 0)
 | _ => none
theorem Di {K : PySem.W.Frag} {H : Hp} {x : T} {v : V} {i : Int} (r : Rp K H x v) (h : nbT x = some i) : nbV v = some i := by
 cases r <;> first | exact h | cases h
theorem K7 : OpR X (binaryOp .Add) (fun x y H Q => ∃ i j,nbV x = some i∧y = .int j∧Q (.int (i + j)) H) := by
 intro pins s σ H x y v u Q I rx ry h
 obtain ⟨i,j,e,rfl,q⟩ := h
 obtain ⟨t,rfl⟩ := ry
 cases x <;> cases e
 ·cases rx;exact PySem.IntBool.add_bool_int ⟨.int _,H,I.tok _,⟨_,rfl⟩,q⟩
 ·obtain ⟨t',rfl⟩ := rx;exact add_int ⟨.int _,H,I.tok _,⟨_,rfl⟩,q⟩
theorem KH : OpR X (binaryOp .Sub) (fun x y H Q => ∃ i j,nbV x = some i∧y = .int j∧Q (.int (i - j)) H) := by
 intro pins s σ H x y v u Q I rx ry h
 obtain ⟨i,j,e,rfl,q⟩ := h
 obtain ⟨t,rfl⟩ := ry
 cases x <;> cases e
 ·cases rx;exact PySem.IntBool.sub_bool_int ⟨.int _,H,I.tok _,⟨_,rfl⟩,q⟩
 ·obtain ⟨t',rfl⟩ := rx;exact sub_int ⟨.int _,H,I.tok _,⟨_,rfl⟩,q⟩
theorem MI : OpR X (compareOp .Eq) (fun x y H Q => ∃ i j,nbV x = some i∧y = .int j∧Q (.bl (i == j)) H) := by
 intro pins s σ H x y v u Q I rx ry h
 obtain ⟨i,j,e,rfl,q⟩ := h
 obtain ⟨t,rfl⟩ := ry
 cases x <;> cases e
 ·cases rx;exact PySem.EqBoolInt.eq_bool_int (qI I q rfl)
 ·obtain ⟨t',rfl⟩ := rx;exact eq_int (qI I q rfl)
theorem Kw : UnR X (unaryOp .USub) (fun x H Q => ∃ i,nbV x = some i∧Q (.int (-i)) H) := by
 intro pins s σ H x v Q I rx h
 obtain ⟨i,e,q⟩ := h
 cases x <;> cases e
 ·cases rx;exact Nc ⟨.int _,H,I.tok _,⟨_,rfl⟩,q⟩
 ·obtain ⟨t',rfl⟩ := rx;exact neg_int ⟨.int _,H,I.tok _,⟨_,rfl⟩,q⟩
theorem T5 {K : PySem.W.Frag} {f : Int → Int → Int} : Ys K (nI3 f) (fun x y H Q => ∃ i j,nbV x = some i∧y = .int j∧Q (.int (f i j)) H) := fun x y v u G H q Q hr rx ry h af => by
 unfold nI3 at h
 split at h
 ·rename_i i j e
  cases ry
  exact ⟨i,j,Di rx e,rfl,af _ G h _ H (.int _) hr Kp.refl⟩
 ·exact h.elim
theorem qb7 {K : PySem.W.Frag} : Ys K nQ3 (fun x y H Q => ∃ i j,nbV x = some i∧y = .int j∧Q (.bl (i == j)) H) := fun x y v u G H q Q hr rx ry h af => by
 unfold nQ3 at h
 split at h
 ·rename_i i j e
  cases ry
  exact ⟨i,j,Di rx e,rfl,af _ G h _ H (.bl _) hr Kp.refl⟩
 ·exact h.elim
theorem qbt {K : PySem.W.Frag} : qdm K nN3 (fun x H Q => ∃ i,nbV x = some i∧Q (.int (-i)) H) := fun x v G H q Q hr rx h af => by
 unfold nN3 at h
 split at h
 ·rename_i i e
  exact ⟨i,Di rx e,af _ G h _ H (.int _) hr Kp.refl⟩
 ·exact h.elim
theorem LG (ha : jE3 X a ta) (hb : jE3 X b tb) : jE3 X (.BinOp a .Add b pos) (o3 (nI3 (· + ·)) ta tb) := ⟨Rk K7 T5 ha.h hb.h⟩
theorem L9 (ha : jE3 X a ta) (hb : jE3 X b tb) : jE3 X (.BinOp a .Sub b pos) (o3 (nI3 (· - ·)) ta tb) := ⟨Rk KH T5 ha.h hb.h⟩
theorem LJ (ha : jE3 X a ta) : jE3 X (.UnaryOp .USub a pos) (u3 nN3 ta) := ⟨qgn Kw qbt ha.h⟩
end
end L3
namespace L3
open PySem PySem.Spec PyProof.Rows L2
abbrev Rd (sp : Sp3) (n : Nat) (t : TS3) (N : List Str) : Prop := ∀ ts G q,sp ts G q → ts.length = n∧t { nx := fun _ G' => q .non G',rt := q } (qx N ts) G
theorem jgn {pos : Pos} {X : Cx} {x : Str} (i : Nat) (hN : decide X.N.Nodup = true := by kernel_rfl) (hi : X.N[i]? = some x := by rfl) (hx : Loc X.env.scope x := by first | exact Or.inl rfl | exact Or.inr rfl) (hf : X.fn x = true ∨ X.env.scope.names.lookup x = some .local := by first | exact .inl rfl | exact .inr rfl) : jG3 X (.Name x pos) (gn3 i) :=
 qA (of_decide_eq_true hN) hi hx hf
end L3
namespace L3
open PySem PySem.Spec PyProof.Rows L2
section
variable {X : Cx} {K : PySem.W.Frag} {w : World} {mg : Str → Option Value}
inductive Ents (K : PySem.W.Frag) (w : World) : List DictEntry → List (Str × T) → Prop
 | nil : Ents K w [] []
 | cons {x : Str} {tk : Tok} {u : Value} {v : V} {t : T} {es : List DictEntry} {tab : List (Str × T)} : jo v u → (∀ H,Rp K H t v) → Ents K w es tab → Ents K w (⟨PyData.keyHash w.params x,.str x tk,u⟩ :: es) ((x,t) :: tab)
noncomputable def jg : List (Str × T) → Str → Option T
 | [],_ => none
 | (y,t) :: r,x => if y = x then some t else jg r x
structure Tb (K : PySem.W.Frag) (mg : Str → Option Value) (w : World) (x : Str) (tab : List (Str × T)) : Prop where
 at_ : ∃ (d : Addr) (es : Array DictEntry) (ep : Nat),mg x = some (.ref d)∧K.lookup d = some ⟨.type "dict",none,.dict es ep,#[]⟩∧(d == sysModules) = false∧Ents K w es.toList tab
theorem Ents.keys {P : Program} : ∀ {es : List DictEntry} {tab : List (Str × T)},Ents K w es tab → ∀ e ∈ es,∃ k,(PySem.strKind P w).is k e.key = true∧e.hash = (PySem.strKind P w).hash k
 | _,_,.nil,e,h => by cases h
 | _,_,.cons (x := x) a b t,e,h => by
  rcases List.mem_cons.mp h with rfl | h
  ·exact ⟨x,by show (x == x) = true;simp,rfl⟩
  ·exact Ents.keys t e h
theorem Ents.find : ∀ {es : List DictEntry} {tab : List (Str × T)} (x : Str),Ents K w es tab →
    (match jg tab x with
     | some t => ∃ (u : Value) (v : V),(es.find? fun e => Value.isStrOf x e.key).map (·.val) = some u∧jo v u∧∀ H,Rp K H t v
     | none => (es.find? fun e => Value.isStrOf x e.key).map (·.val) = none)
  | _,_,x,.nil => by simp [jg]
  | _,_,x,.cons (x := y) (tk := tk) (u := u) (v := v) (t := t) (es := es) (tab := tab) a b r => by
    by_cases e : y = x
    · have : Value.isStrOf x (Value.str y tk) = true := by show (y == x) = true;simp [e]
      simp only [jg,e,if_true,List.find?_cons,this]
      subst e
      simp only [this]
      exact ⟨u,v,rfl,a,b⟩
    · have : Value.isStrOf x (Value.str y tk) = false := by show (y == x) = false;simp [e]
      have ih := Ents.find x r
      simp only [jg,e,if_false,List.find?_cons,this]
      exact ih
theorem Ents.map {P : Program} {h : Heap} {d : Addr} {es : Array DictEntry} {ep : Nat} {tab : List (Str × T)} (hd : h.get? d = some ⟨.type "dict",none,.dict es ep,#[]⟩) (en : Ents K w es.toList tab) :
  Heap.MapOf (PySem.strKind P w) h d (fun x => findBy Value.isStrOf es x) :=
 ⟨_,es,ep,hd,⟨rfl,rfl,rfl⟩,rfl,fun e he => en.keys e (by simpa using he),fun _ => rfl⟩
noncomputable def qil (K : PySem.W.Frag) (d : Addr) (tab : List (Str × T)) : R2 := fun x y H Q => x = .ref d∧∃ s t,y = .str s∧jg tab s = some t∧∀ v,Rp K H t v → Q v H
theorem qaz {d : Addr} {es : Array DictEntry} {ep : Nat} {tab : List (Str × T)} (hk : X.K.lookup d = some ⟨.type "dict",none,.dict es ep,#[]⟩) (en : Ents X.K X.w es.toList tab) : IxR X (qil X.K d tab) := by
 intro value slice pins s σ H x y v u Q I rx ry h hs
 obtain ⟨rfl,z,t,rfl,ht,q⟩ := h
 cases rx
 obtain ⟨tk,rfl⟩ := ry
 have hd := I.kIn _ _ hk
 have f := en.find z
 rw [ht] at f
 obtain ⟨u,v,hf,rv,rp⟩ := f
 have hf' : findBy Value.isStrOf es z = some u := by
  unfold findBy
  rw [← Array.find?_toList]
  exact hf
 refine subscriptTail_builtinR (x := u) ⟨_,hd,rfl⟩ PySem.F.slot_dict_getitem.lookup (wpAny_getItem_of (knd := PySem.strKind X.prog X.w) (Q := fun r s' => r = u∧EP X pins σ Q r s') (k := z) (by show (z == z) = true;simp) (en.map hd) hf' ⟨rfl,v,H,I.tok _,rv,q v (rp H)⟩) hs
noncomputable def RT (tab : List (Str × T)) (te : TE3) : TE3 := fun τ G q => te τ G fun x G1 => match x with | .str s => (match jg tab s with | some t => q t G1 | none => False) | _ => False
theorem K8 {x : Str} {e : Expr} {te : TE3} {tab : List (Str × T)} {p1 pos : Pos} (tb : Tb X.K X.mg X.w x tab) (hg : Gl X x) (he : jE3 X e te) (hs : JT e) (hd : (x == ("__debug__" : Str)) = false := by decide) : jE3 X (.Subscript (.Name x p1) e pos) (RT tab te) := by
 obtain ⟨d,es,ep,hm,hk,hn,en⟩ := tb.at_
 exact ⟨YE (NN (qaz hk en) (LQ hg hm (v := .ref d) rfl hd) he.h hs) fun _ _ _ ⟨τ,G,q,rl,h,af⟩ => zi rl h fun y G1 h1 v H1 rx hr1 k1 rl1 => by
  cases y <;> try exact h1.elim
  case str z =>
   cases rx
   unfold RT at h
   simp only at h1
   split at h1
   ·rename_i t ht
    exact ⟨rfl,z,t,rfl,ht,fun v rv => af.back k1 _ _ h1 _ _ rv hr1 Kp.refl⟩
   ·exact h1.elim⟩
end
end L3
namespace L3
open PySem PySem.Spec PyProof.Rows L2
inductive Cv : List Str → List V → List (Value × Value) → Prop
 | nil : Cv [] [] []
 | cons {k : Str} {tk : Tok} {v : V} {u : Value} {ks : List Str} {xs : List V} {vs : List (Value × Value)} : jo v u → Cv ks xs vs → Cv (k :: ks) (v :: xs) ((.str k tk,u) :: vs)
structure jD3 (X : Cx) (keys : List (Option Expr)) (values : List Expr) (ks : List Str) (t : TA3) : Prop where
 h : ∀ (pos : Pos) (pins : List (Addr × Obj)) (s : Shared) (σ : L2.St) (H : Hp) (Q : List V → Hp → Prop),Inv X pins σ H s → lA X.K t σ H Q →
  wpAny (model X.prog X.w) X.A (evalPairs (pairTrees keys values X.env pos)) (fun vs s' => ∃ xs H',Inv X pins σ H' s'∧Cv ks xs vs∧Q xs H') X.xe s
 len : keys.length = values.length
 all : (keys.all fun x => x.isSome) = true
section
variable {X : Cx}
theorem qan : jD3 X [] [] [] qh :=
 ⟨fun pos pins s σ H Q I ⟨τ,G,q,rl,h,af⟩ => by
  show wpAny _ _ (evalPairs []) _ _ _
  exact wpAny_pure ⟨[],H,I,.nil,af _ _ h _ _ .nil rl.hp Kp.refl⟩,rfl,rfl⟩
theorem YY {k : Str} {j : Nat} {kp : Pos} {v : Expr} {tv : TE3} {keys : List (Option Expr)} {values : List Expr} {ks : List Str} {t : TA3} (hv : jE3 X v tv) (r : jD3 X keys values ks t) :
  jD3 X (some (.Constant (.str k) j kp) :: keys) (v :: values) (k :: ks) (qc tv t) :=
 ⟨fun pos pins s σ H Q I ⟨τ,G,q,rl,h,af⟩ => by
  show wpAny _ _ (evalPairs ((eval (.Constant (.str k) j kp) X.env,do let x ← eval v X.env;standAt pos;pure x) :: pairTrees keys values X.env pos)) _ _ _
  refine evalPairs_cons (thn (Tf (X := X) (x := k) (j := j) (pos := kp) pins s σ H (fun y H' => y = .str k∧H' = H) I ⟨rfl,rfl⟩) fun kv s1 ⟨y,H1,I1,ry,ey,eH⟩ => ?_)
  subst ey;subst eH
  obtain ⟨tk,rfl⟩ := ry
  refine wpAny_bind (thn (hv.h pins s1 σ H1 (fun x H2 => lA X.K t σ H2 fun xs H3 => Q (x :: xs) H3) I1 (zi rl h fun x G1 h1 v H2 rx hr1 k1 rl1 => ⟨τ,G1,_,rl1,h1,fun xs G2 h2 vs H3 rs hr2 k2 => af _ _ h2 _ _ (.cons (rx.keep hr1 k2) rs) hr2 (k1.trans k2)⟩)) fun u s2 ⟨x,H2,I2,rx,q2⟩ => ?_)
  refine wpAny_bind (wpAny_standAt (wpAny_pure ?_))
  exact thn (r.h pos pins s2 σ H2 _ I2 q2) fun vs s3 ⟨xs,H3,I3,cv,q3⟩ => ⟨x :: xs,H3,I3,.cons rx cv,q3⟩,by simp [r.len],by simpa using r.all⟩
theorem Cv.carries {P : Program} {w : World} : ∀ {ks : List Str} {xs : List V} {vs : List (Value × Value)},Cv ks xs vs → Carries (PySem.strKind P w) vs (ks.zip (vs.map (·.2)))
 | _,_,_,.nil => True.intro
 | _,_,_,.cons (k := k) r t => ⟨by show (k == k) = true;simp,rfl,t.carries⟩
theorem Cv.len : ∀ {ks : List Str} {xs : List V} {vs : List (Value × Value)},Cv ks xs vs → ks.length = vs.length
 | _,_,_,.nil => rfl
 | _,_,_,.cons _ t => by simp [t.len]
noncomputable def R0 : List Str → List V → Str → Option V
 | k :: ks,v :: vs,x => if k = x then some v else R0 ks vs x
 | _,_,_ => none
theorem Cv.get : ∀ {ks : List Str} {xs : List V} {vs : List (Value × Value)} {x : Str} {v : V},Cv ks xs vs → R0 ks xs x = some v → ∃ u,valueAt (ks.zip (vs.map (·.2))) x = some u∧jo v u
 | _,_,_,x,v,.nil,h => by simp [R0] at h
 | _,_,_,x,v,.cons (k := k) (u := u) r t,h => by
  by_cases e : k = x
  ·simp [R0,e] at h
   subst h
   exact ⟨u,by simp [valueAt,e],r⟩
  ·simp [R0,e] at h
   obtain ⟨u',h1,h2⟩ := Cv.get t h
   exact ⟨u',by simpa [valueAt,e] using h1,h2⟩
noncomputable def qfa (ks : List Str) (tv : TA) (te : TE) : TE := fun σ H Q => tv σ H fun xs H1 => te σ H1 fun y H2 => ∃ k v,y = .str k∧R0 ks xs k = some v∧Q v H2
theorem K2 {keys : List (Option Expr)} {values : List Expr} {ks : List Str} {t : TA3} {e : Expr} {te : TE} {p1 pos : Pos} (hd : jD3 X keys values ks t) (he : PE X e te) (hs : JT e) (nd : ks.Nodup) (ne : keys ≠ []) (h15 : keys.length ≤ 15) :
  PE X (.Subscript (.Dict keys values p1) e pos) (qfa ks (lA X.K t) te) := by
 intro pins s σ H Q I hl
 refine Subscript_ ?_
 refine wpAny_Dict_walk (knd := PySem.strKind X.prog X.w) hd.all hd.len ne h15 ?_
 have hsz := I.sz
 have hlt := I.lt
 have I0 : Inv X pins σ H { s with heap := s.heap.push { cls := .type "dict",data := .dict #[] } } := I.kept (t' := s.toks) fun b o e => Heap.get?_push_of_some _ e
 have ok0 : H s.heap.objs.size = none∧s.heap.objs.size ≠ X.env.locals∧s.heap.objs.size ∉ X.fs := ⟨I.fresh,fun z => Nat.lt_irrefl _ (z ▸ hlt),I.nofs (Nat.le_refl _)⟩
 have hcell : ∀ x c,X.env.cells.lookup x = some c → c ≠ s.heap.objs.size := fun x c e z => by
  obtain ⟨v,o,ho,_⟩ := I.cell x c e
  have := Heap.lt_size ho
  rw [z] at this
  exact Nat.lt_irrefl _ this
 have hpin : ∀ p ∈ X.pn ++ pins,p.1 ≠ s.heap.objs.size := fun p hp z => by
  have := Heap.lt_size (I.pin p hp).1
  rw [z] at this
  exact Nat.lt_irrefl _ this
 have Ip : Inv X (pins ++ [(s.heap.objs.size,{ cls := .type "dict",data := .dict #[] })]) σ H { s with heap := s.heap.push { cls := .type "dict",data := .dict #[] } } := I0.pins_of fun p hp => by
  rcases List.mem_append.mp hp with z | z
  ·exact I0.pin p (List.mem_append_right _ z)
  ·simp only [List.mem_singleton] at z
   subst z
   exact ⟨Heap.get?_push_size _ rfl,ok0.1,ok0.2.1,ok0.2.2,fun v => by simp⟩
 refine thn (hd.h p1 _ _ σ H _ Ip hl) fun vs s1 ⟨xs,H1,I1,cv,q1⟩ => ?_
 have p1' := I1.pin (s.heap.objs.size,{ cls := .type "dict",data := .dict #[] }) (by simp)
 have hkeys : (List.map (fun x => x.fst) (ks.zip (vs.map (·.2)))) = ks := by
  have := cv.len
  rw [List.map_fst_zip (by simp;omega)]
 refine ⟨ks.zip (vs.map (·.2)),cv.carries,⟨_,#[],0,p1'.1,⟨rfl,rfl,rfl⟩,rfl,fun e he => by simp at he,by first | exact True.intro | constructor,by simp⟩,fun h' hd' hsame => ?_⟩
 rw [merged_nil_of_nodup _ (by rw [hkeys];exact nd)] at hd'
 have I1u : Inv X pins σ H1 s1 := I1.unpinned
 have I2 : Inv X pins σ H1 { heap := h',gens := s1.gens,drawn := s1.drawn,toks := s1.toks + vs.length,os := s1.os } :=
  I1u.turned (it := s.heap.objs.size) (fun b o hb e => by rw [hsame.2 b hb];exact e) p1'.2.1 ok0.2.1 (.inr hsz) hcell hpin
 obtain ⟨o,es,ep,ho,hx,hdata,hk,hp,hn⟩ := hd'
 have I3 : Inv X (pins ++ [(s.heap.objs.size,o)]) σ H1 { heap := h',gens := s1.gens,drawn := s1.drawn,toks := s1.toks + vs.length,os := s1.os } := I2.pins_of fun p hp => by
  rcases List.mem_append.mp hp with z | z
  ·exact I2.pin p (List.mem_append_right _ z)
  ·simp only [List.mem_singleton] at z
   subst z
   exact ⟨ho,p1'.2.1,ok0.2.1,ok0.2.2,fun v => by rw [hdata];simp⟩
 refine thn (he _ _ σ H1 _ I3 q1) fun u s2 ⟨y,H2,I4,ry,k,v,ey,hg,q2⟩ => ?_
 subst ey
 obtain ⟨tk,rfl⟩ := ry
 have po := I4.pin (s.heap.objs.size,o) (by simp)
 have dd : s2.heap.DictOf (PySem.strKind X.prog X.w) s.heap.objs.size (ks.zip (vs.map (·.2))) := ⟨o,es,ep,po.1,hx,hdata,hk,hp,hn⟩
 obtain ⟨u,hu,ru⟩ := cv.get hg
 exact subscriptTail_builtinR (x := u) ⟨_,po.1,hx.1⟩ PySem.F.slot_dict_getitem.lookup (wpAny_getItem_of (knd := PySem.strKind X.prog X.w) (Q := fun r s' => r = u∧EP X pins σ Q r s') (k := k) (by show (k == k) = true;simp) dd.mapOf hu ⟨rfl,v,H2,I4.unpinned.tok _,ru,q2⟩) (hs _ _)
noncomputable def Lb (ks : List Str) (t : TA3) (te : TE3) : TE3 := fun τ G q => t τ G fun xs G1 => te τ G1 fun y G2 => match y with | .str k => (match jg (ks.zip xs) k with | some x => q x G2 | none => False) | _ => False
theorem XB {K : PySem.W.Frag} {H : Hp} : ∀ {ks : List Str} {xs : List T} {vs : List V} {k : Str} {x : T},Rps K H xs vs → jg (ks.zip xs) k = some x → ∃ v,R0 ks vs k = some v∧Rp K H x v
 | [],_,_,k,x,_,h => by simp [jg] at h
 | _ :: _,_,_,k,x,.nil,h => by simp [jg] at h
 | y :: ks,_,_,k,x,.cons (v := v) r t,h => by
  by_cases e : y = k
  ·simp [jg,e] at h
   subst h
   exact ⟨v,by simp [R0,e],r⟩
  ·simp [jg,e] at h
   obtain ⟨v,h1,h2⟩ := XB t h
   exact ⟨v,by simpa [R0,e] using h1,h2⟩
theorem K0 {keys : List (Option Expr)} {values : List Expr} {ks : List Str} {t : TA3} {e : Expr} {te : TE3} {p1 pos : Pos} (hd : jD3 X keys values ks t) (he : jE3 X e te) (hs : JT e := by intro _ _;rfl) (nd : ks.Nodup := by decide) (ne : keys ≠ [] := by simp) (h15 : keys.length ≤ 15 := by decide) :
  jE3 X (.Subscript (.Dict keys values p1) e pos) (Lb ks t te) :=
 ⟨YE (K2 hd he.h hs nd ne h15) fun σ H Q ⟨τ,G,q,rl,h,af⟩ =>
  ⟨τ,G,_,rl,h,fun xs G1 h1 vs H1 rs hr1 k1 => zi (rl.next hr1 k1) h1 fun y G2 h2 v H2 ry hr2 k2 rl2 => by
   cases y <;> try exact h2.elim
   case str k =>
    cases ry
    simp only at h2
    split at h2
    ·rename_i x hx
     obtain ⟨v,hv,rv⟩ := XB (rs.keep hr1 k2) hx
     exact ⟨k,v,rfl,hv,af _ _ h2 _ _ rv hr2 (k1.trans k2)⟩
    ·exact h2.elim⟩⟩
end
theorem D6 {K : PySem.W.Frag} {p : Addr} {od : Option Addr} {n : Nat} {sl : Array (Option Value)} {i j : Int} {ti tj : Tok} (h : K.lookup p = some ⟨.type "tuple",od,.seq #[.int i ti,.int j tj] n,sl⟩) : ∀ H,Rp K H (.tup [.int i,.int j]) (.ref p) := fun H =>
 .tup (vs := [.int i,.int j]) (.inr ⟨_,_,_,h,rfl,rfl,by show 2 ≤ sizeLine;decide,.cons ⟨_,rfl⟩ (.cons ⟨_,rfl⟩ .nil)⟩) (.cons (.int _) (.cons (.int _) .nil))
noncomputable def J4 : List (Str × T) := [("row",.tup [.int 0,.int 1]),("column",.tup [.int 1,.int 0]),("slant",.tup [.int 1,.int 1]),("back",.tup [.int 1,.int (-1)])]
end L3
namespace L3
open PySem PySem.Spec PyProof.Rows L2
open PySem.SeqAt
noncomputable def CQ (dx : PyData) : List PyData → Option Bool
 | [] => some false
 | d :: ds => (match Q1 d dx,CQ dx ds with | some b,some c => some (b || c) | _,_ => none)
theorem DP {dx : PyData} : ∀ {ds : List PyData} {b : Bool},CQ dx ds = some b → ∃ bs : List Bool,bs.length = ds.length∧(∀ (j : Nat) d,ds[j]? = some d → ∃ c,bs[j]? = some c∧Q1 d dx = some c)∧b = bs.any id
 | [],b,h => by simp [CQ] at h;subst h;exact ⟨[],rfl,fun j d hd => by simp at hd,rfl⟩
 | d :: ds,b,h => by
  unfold CQ at h
  split at h
  ·rename_i b1 c1 e1 e2
   cases h
   obtain ⟨bs,hl,ha,hb⟩ := DP e2
   refine ⟨b1 :: bs,by simp [hl],fun j d' hd => ?_,by simp [hb]⟩
   cases j with
   | zero => simp at hd;subst hd;exact ⟨b1,rfl,e1⟩
   | succ j => simpa using ha j d' (by simpa using hd)
  ·cases h
section
variable {X : Cx} {pins : List (Addr × Obj)} {σ : L2.St} {H : Hp} {s : Shared}
theorem WH (I : Inv X pins σ H s) {x : V} {dx : PyData} {v : Value} {xs : List V} {ds : List PyData} {its : List Value} {b : Bool} (hu : X.A.units + 64 < cLine) (hx : DV X.K H x dx) (rx : jo x v) (hs : DVs X.K H xs ds) (rs : zI xs its) (hb : CQ dx ds = some b) (hd : ∀ d ∈ ds,dpt d ≤ 40) :
  ∃ e : Value → Bool,(∀ y ∈ its,EqAt X.A.in1 s y v (e y))∧its.any e = b := by
 obtain ⟨bs,hl,ha,rfl⟩ := DP hb
 have un : X.A.in1.units + 40 < cLine := by
  have : X.A.in1.units ≤ X.A.units + 8 := by first | (show X.A.units + 1 ≤ _;omega) | (show X.A.units ≤ _;omega) | (simp [Around.in1];omega)
  omega
 have at_ : ∀ (j : Nat) y,its[j]? = some y → ∃ c,bs[j]? = some c∧EqAt X.A.in1 s y v c := fun j y hj => by
  obtain ⟨hj1,_⟩ := List.getElem?_eq_some_iff.mp hj
  have hxl : j < xs.length := by rw [rs.length];exact hj1
  obtain ⟨u,hu',ru⟩ := rs.get (List.getElem?_eq_getElem hxl)
  rw [hj] at hu';cases hu'
  obtain ⟨d,hd1,hd2⟩ := hs.get (List.getElem?_eq_getElem hxl)
  obtain ⟨c,hc1,hc2⟩ := ha j d hd1
  exact ⟨c,hc1,(Uw I 40 hd2 hx hc2 (hd d (List.mem_of_getElem? hd1)) un ru rx).2⟩
 classical
 refine ⟨fun y => decide (∃ j : Nat,its[j]? = some y∧bs[j]? = some true),fun y hy => ?_,?_⟩
 ·by_cases he : ∃ j : Nat,its[j]? = some y∧bs[j]? = some true
  ·obtain ⟨j,h1,h2⟩ := id he
   obtain ⟨c,hc,eq⟩ := at_ j y h1
   rw [h2] at hc;cases hc
   simpa [he] using eq
  ·obtain ⟨j,hj,e⟩ := List.mem_iff_getElem.mp hy
   have hj' : its[j]? = some y := by rw [List.getElem?_eq_getElem hj,e]
   obtain ⟨c,hc,eq⟩ := at_ j y hj'
   cases c with
   | true => exact absurd ⟨j,hj',hc⟩ he
   | false => simpa [he] using eq
 ·rw [Bool.eq_iff_iff,List.any_eq_true,List.any_eq_true]
  constructor
  ·rintro ⟨y,_,hy⟩
   obtain ⟨j,_,h2⟩ := of_decide_eq_true hy
   exact ⟨true,List.mem_of_getElem? h2,rfl⟩
  ·rintro ⟨c,hc,e⟩
   have : c = true := e
   subst this
   obtain ⟨j,hj,ej⟩ := List.mem_iff_getElem.mp hc
   have hl2 : its.length = bs.length := by rw [← rs.length,hs.length,hl]
   have hj2 : j < its.length := by omega
   exact ⟨its[j],List.getElem_mem hj2,decide_eq_true ⟨j,List.getElem?_eq_getElem hj2,by rw [List.getElem?_eq_getElem hj,ej]⟩⟩
noncomputable def qgl (K : PySem.W.Frag) (neg : Bool) : R2 := fun x y H Q => ∃ p xs dx ds b,y = .ref p∧(SqL K H p xs ∨ SqT K H p xs)∧DV K H x dx∧DVs K H xs ds∧CQ dx ds = some b∧(∀ d ∈ ds,dpt d ≤ 40)∧Q (.bl (if neg then !b else b)) H
theorem Xq (hu : X.A.units + 64 < cLine) : OpR X (compareOp .NotIn) (qgl X.K true) := by
 intro pins s σ H x y v u Q I rx ry h
 obtain ⟨p,xs,dx,ds,b,rfl,hq,hx,hs,hb,hd,q⟩ := h
 cases ry
 rcases hq with hq | hq
 ·obtain ⟨its,r,pl,hz⟩ := I.list hq
  obtain ⟨e,he,ha⟩ := WH I hu hx rx hs r hb hd
  refine SeqAt.notIn_listAt e pl.isList (fun w hw => he w (by simpa using hw)) ⟨.bl _,H,I,rfl,?_⟩
  rw [show its.toArray.any e = its.any e by simp,ha]
  exact q
 ·obtain ⟨its,r,pl,hz⟩ := I.tuple hq
  obtain ⟨e,he,ha⟩ := WH I hu hx rx hs r hb hd
  refine SeqAt.notIn_tupleAt e pl (fun w hw => he w (by simpa using hw)) ⟨.bl _,H,I,rfl,?_⟩
  rw [show its.toArray.any e = its.any e by simp,ha]
  exact q
end
noncomputable def qgu (neg : Bool) : R3 := fun x y G q => ∃ ys dx ds b,Qu G y = some ys∧Dp G x dx∧Dps G ys ds∧CQ dx ds = some b∧(∀ d ∈ ds,dpt d ≤ 40)∧q (.bl (if neg then !b else b)) G
theorem LR {K : PySem.W.Frag} {neg : Bool} : Ys K (qgu neg) (qgl K neg) := fun x y v u G H q Q hr rx ry h af => by
 obtain ⟨ys,dx,ds,b,h1,h2,h3,h4,h5,h6⟩ := h
 cases y with
 | tup zs =>
  simp [Qu] at h1
  subst h1
  cases ry with
  | tup hs rs => exact ⟨_,_,dx,ds,b,rfl,.inr hs,h2.dv hr rx,h3.dv hr rs,h4,h5,af _ G h6 _ H (.bl _) hr Kp.refl⟩
 | ref p =>
  simp [Qu] at h1
  cases ry
  obtain ⟨us,hs,rs⟩ := zP hr h1
  exact ⟨_,_,dx,ds,b,rfl,.inl hs,h2.dv hr rx,h3.dv hr rs,h4,h5,af _ G h6 _ H (.bl _) hr Kp.refl⟩
 | _ => simp [Qu] at h1
end L3
namespace HT
open PySem PySem.Spec PyProof.Rows L2
section
open PySem.SeqAt
open PySem.MeetsSeq PySem.MeetsSeq2 PySem.MeetsSeq3
end
section
variable {prog : Program} {w : World} {A : Around} {E : Value → Shared → Prop} {s : Shared}
end
end HT
namespace L3
open PySem PySem.Spec PyProof.Rows L2
end L3
namespace L3
open PySem PySem.Spec PyProof.Rows L2
section
variable {X : Cx}
end
end L3
namespace L3
open PySem PySem.Spec PyProof.Rows L2
theorem ixR (p : Addr) (i : Int) (G : Gp) (q : Q3) : ix3 (.ref p) (.int i) G q = (match getL G p with | some xs => (match L2.atI xs i with | some z => q z G | none => False) | none => False) := rfl
theorem DL {α : Type} {xs : List α} {i : Int} (h0 : 0 ≤ i) (h1 : i < (xs.length : Int)) : L2.atI xs i = xs[i.toNat]? := by
 unfold L2.atI ixN
 have e1 : i.toNat < xs.length := by omega
 simp [h0,e1,h1]
theorem Ep : ¬ Str.ofString "row" = Str.ofString "block" := by decide
theorem Do : ¬ Str.ofString "row" = Str.ofString "step" := by decide
theorem Eo : ¬ Str.ofString "row" = Str.ofString "cells" := by decide
theorem YS : ¬ Str.ofString "column" = Str.ofString "block" := by decide
theorem V9 : ¬ Str.ofString "column" = Str.ofString "step" := by decide
theorem YR : ¬ Str.ofString "column" = Str.ofString "cells" := by decide
theorem V8 : ¬ Str.ofString "slant" = Str.ofString "block" := by decide
theorem Us : ¬ Str.ofString "slant" = Str.ofString "step" := by decide
theorem VD : ¬ Str.ofString "slant" = Str.ofString "cells" := by decide
theorem U2 : ¬ Str.ofString "back" = Str.ofString "block" := by decide
theorem Em : ¬ Str.ofString "back" = Str.ofString "step" := by decide
theorem Ue : ¬ Str.ofString "back" = Str.ofString "cells" := by decide
theorem ZV : ¬ Str.ofString "block" = Str.ofString "cells" := by decide
theorem J2 : ¬ Str.ofString "step" = Str.ofString "block" := by decide
theorem Jy : ¬ Str.ofString "step" = Str.ofString "cells" := by decide
theorem cm {i j : Int} (h1 : -1000000 < j) (h2 : j < 1000000) : Qm i j := .inr ⟨by omega,by omega⟩
theorem Ch {lo : Int} {n i : Nat} {x : T} (h : (Wr lo n)[i]? = some x) : i < n∧x = T.int (lo + (i : Int)) := by
 unfold Wr at h
 rw [List.getElem?_map] at h
 cases e : (List.range n)[i]? with
 | none => rw [e] at h;cases h
 | some k =>
  rw [e] at h
  obtain ⟨hi,hk⟩ := List.getElem?_eq_some_iff.mp e
  simp at hi hk
  subst hk
  exact ⟨hi,by simpa using h.symm⟩
theorem KO (lo : Int) (n : Nat) : (Wr lo n).length = n := by simp [Wr]
end L3
namespace Bk
open PySem L2 L3
noncomputable def Zf : TS3 := (ze (JB (ER (fun t => jV t "int") (v3 0)) (Ck (ER (fun t => jV t "bool") (v3 0)))))
noncomputable def Jl : TS3 := (qK (zz (o3 (iC (fun _ j => 0 < j) (· % ·)) (o3 (iC Qm (· * ·)) (o3 je (o3 je (o3 (iC (fun _ j => 0 < j) (· % ·)) (v3 0) (c3 (.int 2147483629))) (o3 (iC Qm (· * ·)) (o3 (iC Qm (· * ·)) (v3 1) (v3 1)) (c3 (.int 7919)))) (c3 (.int 11))) (c3 (.int 48271))) (c3 (.int 2147483647))) (gn3 2)) (ze (o3 (iC (fun _ j => 0 < j) (· % ·)) (o3 (iC Qm (· * ·)) (v3 2) (v3 2)) (c3 (.int 1999999973)))))
noncomputable def ZE : TS3 := (qK (zz (if3 (tb3 (o3 (iB fun i j => decide (i < j)) (v3 1) (cb3 JO (qc (v3 0) qh)))) (o3 ix3 (v3 0) (v3 1)) (c3 (.int 0))) (gn3 2)) (qK (zz (if3 (tb3 (o3 (iB fun i j => decide (j ≤ i)) (cb3 qba (qc (v3 2) qh)) (o3 (iC Mt (fun i j => i ^ j.toNat)) (c3 (.int 10)) (c3 (.int 18))))) (cb3 qba (qc (v3 2) qh)) (c3 (.int 0))) (gn3 3)) (ze (Zo (qc (v3 3) (qc (o3 je (v3 2) (o3 (iC Qm (· * ·)) (c3 (.int 1000003)) (v3 1))) (qc (c3 (.int 0)) qh)))))))
noncomputable def ZK (S_law_mix : Sp3) : TS3 := (qK (zz (o3 je (o3 ix3 (v3 0) (c3 (.int 2))) (c3 (.int 1))) (Uz (v3 0) (c3 (.int 2)))) (qK (jX (tb3 (o3 (iB fun i j => decide (j < i)) (o3 ix3 (v3 0) (c3 (.int 0))) (c3 (.int 0)))) (qK (zz (o3 (iC (fun _ j => 0 < j) (· % ·)) (o3 ix3 (v3 0) (c3 (.int 0))) (v3 1)) (gn3 2)) (qK (zz (o3 (iC W5 (· / ·)) (o3 ix3 (v3 0) (c3 (.int 0))) (v3 1)) (Uz (v3 0) (c3 (.int 0)))) (ze (v3 2)))) qT) (ze (o3 (iC (fun _ j => 0 < j) (· % ·)) (o3 (iC W5 (· / ·)) (cb3 S_law_mix (qc (cb3 S_law_mix (qc (o3 ix3 (v3 0) (c3 (.int 1))) (qc (o3 ix3 (v3 0) (c3 (.int 2))) qh))) (qc (o3 je (o3 ix3 (v3 0) (c3 (.int 2))) (c3 (.int 64))) qh))) (c3 (.int 64))) (v3 1)))))
end Bk
namespace Bk
open PySem L2 L3
theorem p2 (n : Nat) : ((2 : Int) ^ n) = ((2 ^ n : Nat) : Int) := by simp
noncomputable abbrev qch (q : Q3) : Ends3 := { nx := fun _ G' => q .non G',rt := q }
theorem Yj {A B : TS3} {d : Ends3} {τ : St3} {G : Gp} (h : ∀ nx,nx = B d → A { d with nx := nx } τ G) : qK A B d τ G := h _ rfl
end Bk
namespace Bk
open PySem L2 L3
end Bk
namespace Bk
open PySem L2 L3
def Lf (G : Gp) (a : Addr) (n : Int) : Prop := ∃ o c m,G a = some (.lst [.int o,.int c,.int m])∧0 ≤ o∧0 ≤ m∧m ≤ n
def Ext (a : Addr) (G G' : Gp) : Prop := ∀ b o,b ≠ a → G b = some o → G' b = some o
theorem Lf.ne {G : Gp} {a p : Addr} {n : Int} (h : Lf G a n) (hp : G p = none) : p ≠ a := by
 rintro rfl
 obtain ⟨o,c,m,e,_⟩ := h
 rw [hp] at e;cases e
theorem Lf.new {G : Gp} {a p : Addr} {n : Int} {ob : O} (h : Lf G a n) (hp : p ≠ a) : Lf (gu G p ob) a n := by
 obtain ⟨o,c,m,e,r⟩ := h
 exact ⟨o,c,m,by rw [j9 (Ne.symm hp)];exact e,r⟩
theorem Lf.mono {G : Gp} {a : Addr} {n k : Int} (h : Lf G a n) (hk : n ≤ k) : Lf G a k := by
 obtain ⟨o,c,m,e,h1,h2,h3⟩ := h
 exact ⟨o,c,m,e,h1,h2,by omega⟩
theorem Lf.ex {G G' : Gp} {a : Addr} {n : Int} (h : Lf G a n) (e : Ex G G') : Lf G' a n := by
 obtain ⟨o,c,m,e1,h1⟩ := h
 exact ⟨o,c,m,e _ _ e1,h1⟩
theorem Ext.refl {a : Addr} {G : Gp} : Ext a G G := fun _ _ _ e => e
theorem Ext.trans {a : Addr} {G G1 G2 : Gp} (x : Ext a G G1) (y : Ext a G1 G2) : Ext a G G2 := fun b o hb e => y b o hb (x b o hb e)
theorem Vi {a p : Addr} {G : Gp} {ob : O} (hp : G p = none) : Ext a G (gu G p ob) := fun b o _ e => by
 rw [j9 (by rintro rfl;rw [hp] at e;cases e)];exact e
theorem YK {a : Addr} {G G' : Gp} (h : Ex G G') : Ext a G G' := fun b o _ e => h b o e
noncomputable def VL : Sp3 := fun ts G q => ∃ c k,ts = [.int c,.int k]∧0 ≤ k∧k < 4294967296∧∀ m,0 ≤ m → m < 1999999973 → q (.int m) G
noncomputable def Zh : Sp3 := fun ts G q => ∃ (a : Addr) (k : Int) (ns : List Int),ts = [.ref a,.int k]∧G a = some (.frz (ns.map T.int))∧ns.length ≤ 63∧0 ≤ k∧k ≤ 63∧∀ p o c,G p = none → 0 ≤ o → q (.ref p) (gu G p (.lst [.int o,.int c,.int 0]))
noncomputable def qt : Sp3 := fun ts G q => ∃ a n many,ts = [.ref a,.int many]∧1 ≤ many∧many < 1073741824∧Lf G a n∧n < 1073741824∧∀ d G',0 ≤ d → d < many → Lf G' a (n + 1) → Ext a G G' → q (.int d) G'
theorem Q5 {a : Addr} {n many : Int} {G : Gp} {q : Q3} (hL : Lf G a n) (h1 : 1 ≤ many) (h2 : many < 1073741824) (hn : n < 1073741824) (h : ∀ d G',0 ≤ d → d < many → Lf G' a (n + 1) → Ext a G G' → q (.int d) G') : qt [.ref a,.int many] G q := ⟨a,n,many,rfl,h1,h2,hL,hn,h⟩
theorem Wj : ∀ ts G q,VL ts G q → ts.length = 2∧Jl (qch q) (qx ["_law_cell","_law_k","_law_m"] ts) G := by
 rintro ts G q ⟨c,k,rfl,h1,h2,h⟩
 refine ⟨rfl,?_⟩
 simp only [Jl,qK,zz,o3,v3,qx,List.map_cons,List.map_nil,List.length_cons,List.length_nil,Nat.zero_add,Nat.reduceAdd,Nat.reduceSub,List.replicate_one,List.cons_append,List.nil_append,Nat.zero_lt_succ,getElem?_pos,List.getElem_cons_zero,c3,iC,Int.reduceLT,Nat.reduceLT,List.getElem_cons_succ,je,gn3,ze,List.set_cons_succ,List.set_cons_zero,Nat.lt_add_one,true_and]
 exact ⟨.inl ⟨by omega,by omega⟩,cm (by omega) (by omega),cm (by omega) (by omega),.inl ⟨by omega,by omega⟩,h _ (Int.emod_nonneg _ (by omega)) (Int.emod_lt_of_pos _ (by omega))⟩
theorem cp : Mt 10 18 := ⟨by decide,by decide,by decide⟩
theorem Db : ∀ ts G q,Zh ts G q → ts.length = 2∧ZE (qch q) (qx ["_law_script","_law_k","_law_cell","_law_own"] ts) G := by
 rintro ts G q ⟨a,k,ns,rfl,hG,hl,h1,h2,h⟩
 refine ⟨rfl,?_⟩
 simp only [ZE,qK,zz,if3,tb3,o3,v3,qx,List.map_cons,List.map_nil,List.length_cons,List.length_nil,Nat.zero_add,Nat.reduceAdd,Nat.reduceSub,List.reduceReplicate,List.cons_append,List.nil_append,Nat.reduceLT,getElem?_pos,List.getElem_cons_succ,List.getElem_cons_zero,cb3,qc,Nat.zero_lt_succ,qh,JO,getL,hG,iB,List.length_map,decide_eq_true_eq,gn3,List.set_cons_succ,List.set_cons_zero,qba,c3,iC,Int.reduceToNat,Int.reducePow,ze,Zo,Nat.lt_add_one,je,ne_eq,sizeLine_eq,Nat.reduceLeDiff,true_and,gu,ixR,atI,ixN,List.getElem?_map,Int.lt_irrefl,↓reduceIte,Int.reduceLE,decide_false,Bool.false_eq_true,Int.zero_add]
 have ck : Qm 1000003 k := cm (by omega) (by omega)
 by_cases hk : k < ns.length
 ·have hk' : k.toNat < ns.length := by omega
  simp [hk,h1,hk',cp,ck]
  split
  ·split
   ·exact fun p hp => h p (-ns[k.toNat]) _ hp (by omega)
   ·exact fun p hp => h p 0 _ hp (by omega)
  ·split
   ·exact fun p hp => h p ns[k.toNat] _ hp (by omega)
   ·exact fun p hp => h p 0 _ hp (by omega)
 ·simp [hk,cp,ck]
  exact fun p hp => h p 0 _ hp (by omega)
theorem Dc : ∀ ts G q,qt ts G q → ts.length = 2∧ZK VL (qch q) (qx ["_law_left_here","_law_many","_law_digit"] ts) G := by
 rintro ts G q ⟨a,n,many,rfl,m1,m2,⟨o,c,m,hG,ho,hm,hn⟩,h3,h⟩
 refine ⟨rfl,?_⟩
 unfold ZK
 refine Yj fun nx1 q1 => ?_
 simp only [zz,o3,v3,qx,List.map_cons,List.map_nil,List.length_cons,List.length_nil,Nat.zero_add,Nat.reduceAdd,Nat.reduceSub,List.replicate_one,List.cons_append,List.nil_append,Nat.zero_lt_succ,getElem?_pos,List.getElem_cons_zero,c3,je,ne_eq,sizeLine_eq,Uz,K3,ixN,Int.zero_le_ofNat,↓reduceIte,Int.reduceToNat,tb3,iB,decide_eq_true_eq,Nat.reduceLT,List.getElem_cons_succ,iC,gn3,List.set_cons_succ,List.set_cons_zero,Std.le_refl,Int.natCast_pos,Int.toNat_zero,ze,Nat.lt_add_one,ixR,getL,atI,qT,cb3,qc,qh,Int.toNat_one,List.length_set,hG,Int.cast_ofNat_Int,Int.reduceLT,Option.bind_some,qD]
 rw [q1]
 clear q1
 refine Yj fun nx2 q2 => ?_
 simp only [jX,zz,o3,v3,qx,List.map_cons,List.map_nil,List.length_cons,List.length_nil,Nat.zero_add,Nat.reduceAdd,Nat.reduceSub,List.replicate_one,List.cons_append,List.nil_append,Nat.zero_lt_succ,getElem?_pos,List.getElem_cons_zero,c3,je,ne_eq,sizeLine_eq,Uz,K3,ixN,Int.zero_le_ofNat,↓reduceIte,Int.reduceToNat,tb3,iB,decide_eq_true_eq,Nat.reduceLT,List.getElem_cons_succ,iC,gn3,List.set_cons_succ,List.set_cons_zero,Std.le_refl,Int.natCast_pos,Int.toNat_zero,ze,Nat.lt_add_one,ixR,getL,atI,qT,cb3,qc,qh,Int.toNat_one,List.length_set,hG,Int.cast_ofNat_Int,Int.reduceLT,Option.bind_some,qD]
 split
 ·simp only [qK,zz,o3,v3,List.length_cons,List.length_nil,Nat.zero_add,Nat.reduceAdd,Nat.zero_lt_succ,getElem?_pos,List.getElem_cons_zero,c3,Nat.reduceLT,List.getElem_cons_succ,iC,gn3,List.set_cons_succ,List.set_cons_zero,Uz,K3,ixN,Std.le_refl,↓reduceIte,Int.natCast_pos,Int.toNat_zero,ze,Nat.lt_add_one,ixR,getL,atI,qD,Int.cast_ofNat_Int,Int.reduceLT,Option.bind_some]
  refine ⟨by omega,⟨by omega,m2⟩,h _ _ (Int.emod_nonneg _ (by omega)) (Int.emod_lt_of_pos _ (by omega)) ⟨o / many,c,m + 1,qD,Int.ediv_nonneg ho (by omega),by omega,by omega⟩ fun b ob hb e => ?_⟩
  rw [j9 hb,j9 hb];exact e
 ·rw [q2]
  clear q2
  simp only [zz,o3,v3,qx,List.map_cons,List.map_nil,List.length_cons,List.length_nil,Nat.zero_add,Nat.reduceAdd,Nat.reduceSub,List.replicate_one,List.cons_append,List.nil_append,Nat.zero_lt_succ,getElem?_pos,List.getElem_cons_zero,c3,je,ne_eq,sizeLine_eq,Uz,K3,ixN,Int.zero_le_ofNat,↓reduceIte,Int.reduceToNat,tb3,iB,decide_eq_true_eq,Nat.reduceLT,List.getElem_cons_succ,iC,gn3,List.set_cons_succ,List.set_cons_zero,Std.le_refl,Int.natCast_pos,Int.toNat_zero,ze,Nat.lt_add_one,ixR,getL,atI,qT,cb3,qc,qh,Int.toNat_one,List.length_set,hG,Int.cast_ofNat_Int,Int.reduceLT,Option.bind_some,qD]
  refine ⟨c,m + 1,rfl,by omega,by omega,fun u u1 u2 => ?_⟩
  simp only [zz,o3,v3,qx,List.map_cons,List.map_nil,List.length_cons,List.length_nil,Nat.zero_add,Nat.reduceAdd,Nat.reduceSub,List.replicate_one,List.cons_append,List.nil_append,Nat.zero_lt_succ,getElem?_pos,List.getElem_cons_zero,c3,je,ne_eq,sizeLine_eq,Uz,K3,ixN,Int.zero_le_ofNat,↓reduceIte,Int.reduceToNat,tb3,iB,decide_eq_true_eq,Nat.reduceLT,List.getElem_cons_succ,iC,gn3,List.set_cons_succ,List.set_cons_zero,Std.le_refl,Int.natCast_pos,Int.toNat_zero,ze,Nat.lt_add_one,ixR,getL,atI,qT,cb3,qc,qh,Int.toNat_one,List.length_set,hG,Int.cast_ofNat_Int,Int.reduceLT,Option.bind_some,qD]
  refine ⟨u,m + 1 + 64,rfl,by omega,by omega,fun v v1 v2 => ?_⟩
  refine ⟨⟨by omega,by omega⟩,by omega,h _ _ (Int.emod_nonneg _ (by omega)) (Int.emod_lt_of_pos _ (by omega)) ⟨o,c,m + 1,qD,ho,by omega,by omega⟩ fun b ob hb e => ?_⟩
  rw [j9 hb];exact e
end Bk
namespace Bk
open PySem L2 L3
end Bk
namespace Bk
open PySem L2 L3
theorem qeu {α : Type} {x : α} {xs : List α} : L2.atI (x :: xs) 0 = some x := by simp [L2.atI,ixN]
theorem qf9 {α : Type} {x y : α} {xs : List α} : L2.atI (x :: y :: xs) 1 = some y := by
 rw [DL (by omega) (by simp;omega)];rfl
end Bk
namespace Bk
open PySem L2 L3
end Bk
namespace Bk
open PySem L2 L3
end Bk
namespace Bk
open PySem L2 L3
end Bk
namespace Bk
open PySem L2 L3
structure SD (k n : Nat) (d : PyData) : Prop where
 sh : d.showable = true
 nd : d.hasDict = false
 dp : d.depth ≤ k
 lv : d.leavesShort 13 = true
 bk : d.bulk ≤ n
theorem SD.ok {k n : Nat} {d : PyData} (h : SD k n d) (hk : k ≤ 40) (hn : n ≤ 2 ^ 20) : ShOk d := ⟨h.sh,h.nd,Nat.le_trans h.dp hk,h.lv,Nat.le_trans h.bk hn⟩
theorem SD.mono {k n k' n' : Nat} {d : PyData} (h : SD k n d) (hk : k ≤ k') (hn : n ≤ n') : SD k' n' d := ⟨h.sh,h.nd,Nat.le_trans h.dp hk,h.lv,Nat.le_trans h.bk hn⟩
theorem YN (k n : Nat) : SD k n .none := ⟨rfl,rfl,Nat.zero_le _,rfl,Nat.zero_le _⟩
theorem Vd (k n : Nat) (b : Bool) : SD k n (.bool b) := ⟨rfl,rfl,Nat.zero_le _,rfl,Nat.zero_le _⟩
theorem Qa (k n : Nat) {i : Int} (h : -1000000 ≤ i∧i ≤ 1000000) : SD k n (.int i) := by
 refine ⟨?_,rfl,Nat.zero_le _,?_,Nat.zero_le _⟩
 ·simp only [PyData.showable]
  have : i.natAbs < 2 ^ 20 := by omega
  have h2 : i.natAbs.log2 < 20 ∨ i.natAbs = 0 := by
   rcases Nat.eq_zero_or_pos i.natAbs with z | z
   ·exact .inr z
   ·exact .inl ((Nat.log2_lt (by omega)).mpr this)
  rcases h2 with h2 | h2
  ·simp;omega
  ·simp [h2]
 ·have := PyProof.Rows.intsShortAll_ints2 [i] (by intro n hn;simp at hn;subst hn;omega)
  simpa [PyData.intsShortAll,PyData.intsShort,PyData.leavesShort] using this
theorem Zl (k n : Nat) {x : Str} (h : x.cps.size ≤ n) (hc : (x.cps.toList.all fun c => decide (c < 16 ^ 8)) = true) : SD k n (.str x) := ⟨rfl,rfl,Nat.zero_le _,hc,h⟩
structure SDs (k n : Nat) (ds : List PyData) : Prop where
 sh : PyData.showableAll ds = true
 nd : PyData.hasDictAll ds = false
 dp : PyData.depthAll ds ≤ k
 lv : PyData.leavesShortAll 13 ds = true
 bk : PyData.bulkAll ds ≤ n
theorem zE (k n : Nat) : SDs k n [] := ⟨rfl,rfl,Nat.zero_le _,rfl,Nat.zero_le _⟩
theorem qC {k n m s : Nat} {d : PyData} {ds : List PyData} (h : SD k n d) (t : SDs k m ds) (hs : n + 1 + m ≤ s) : SDs k s (d :: ds) := by
 refine ⟨?_,?_,?_,?_,?_⟩
 ·simp [PyData.showableAll,h.sh,t.sh]
 ·simp [PyData.hasDictAll,h.nd,t.nd]
 ·simp only [PyData.depthAll];exact Nat.max_le.mpr ⟨h.dp,t.dp⟩
 ·simp [PyData.leavesShortAll,h.lv,t.lv]
 ·simp only [PyData.bulkAll];have := h.bk;have := t.bk;omega
theorem zl {k n : Nat} {ds : List PyData} (t : SDs k n ds) : SD (k + 1) n (.tuple ds) := by
 refine ⟨?_,?_,?_,?_,?_⟩
 ·simpa [PyData.showable] using t.sh
 ·simpa [PyData.hasDict] using t.nd
 ·simp only [PyData.depth];have := t.dp;omega
 ·simpa [PyData.leavesShort] using t.lv
 ·simp only [PyData.bulk];exact t.bk
theorem Qt {k n : Nat} {ds : List PyData} (t : SDs k n ds) : SD (k + 1) n (.list ds) := by
 refine ⟨?_,?_,?_,?_,?_⟩
 ·simpa [PyData.showable] using t.sh
 ·simpa [PyData.hasDict] using t.nd
 ·simp only [PyData.depth];have := t.dp;omega
 ·simpa [PyData.leavesShort] using t.lv
 ·simp only [PyData.bulk];exact t.bk
theorem Z6 {k n : Nat} : ∀ {ds : List PyData},(∀ d ∈ ds,SD k n d) → SDs k (ds.length * (n + 1)) ds
 | [],_ => zE _ _
 | d :: ds,h => qC (h d (by simp)) (Z6 fun x hx => h x (by simp [hx])) (by rw [List.length_cons,Nat.succ_mul];omega)
theorem _root_.L3.Dps.append {G : Gp} : ∀ {xs ys : List T} {ds es : List PyData},Dps G xs ds → Dps G ys es → Dps G (xs ++ ys) (ds ++ es)
 | _,_,_,_,.nil,b => b
 | _,_,_,_,.cons a t,b => .cons a (L3.Dps.append t b)
theorem _root_.L3.Dps.take {G : Gp} : ∀ {xs : List T} {ds : List PyData} (i : Nat),Dps G xs ds → Dps G (xs.take i) (ds.take i)
 | _,_,0,_ => .nil
 | _,_,_ + 1,.nil => .nil
 | _,_,i + 1,.cons a t => .cons a (L3.Dps.take i t)
theorem _root_.L3.Dps.drop {G : Gp} : ∀ {xs : List T} {ds : List PyData} (i : Nat),Dps G xs ds → Dps G (xs.drop i) (ds.drop i)
 | _,_,0,h => h
 | _,_,_ + 1,.nil => .nil
 | _,_,i + 1,.cons a t => L3.Dps.drop i t
end Bk
namespace Bk
open PySem L2 L3
end Bk
namespace Bk
open PySem L2 L3
noncomputable def Y8 : TS3 := (ze (lc3 (zW (qc (v3 2) qh)) (gn3 0) tt3 (Q0 (qc (o3 (iC Qm (· * ·)) (v3 0) (v3 1)) (qc (o3 (iC Qm (· * ·)) (v3 0) (v3 2)) qh))) [none,some 0,some 1]))
noncomputable def ZH (S_strung : Sp3) : TS3 := (qK (zz (o3 ix3 (v3 0) (c3 (.int 0))) (gn3 1)) (qK (jX (tb3 (o3 (Qb false) (v3 1) (c3 (.str "cells")))) (ze (cb3 Um (qc (o3 ix3 (v3 0) (c3 (.int 1))) qh))) qT) (qK (jX (tb3 (o3 (Qb false) (v3 1) (c3 (.str "block")))) (ze (qbq (zW (qc (o3 ix3 (v3 0) (c3 (.int 1))) qh)) (gn3 0) tt3 (zW (qc (o3 ix3 (v3 2) (c3 (.int 2))) qh)) (gn3 1) tt3 (Q0 (qc (v3 0) (qc (v3 1) qh))) [none,none,some 0])) qT) (qK (jX (tb3 (o3 (Qb false) (v3 1) (c3 (.str "step")))) (ze (cb3 S_strung (qc (o3 ix3 (v3 0) (c3 (.int 1))) (qc (o3 ix3 (v3 0) (c3 (.int 2))) (qc (o3 ix3 (v3 0) (c3 (.int 3))) qh))))) qT) (qK (zz (RT J4 (v3 1)) (Jx 2 (zf (gn3 2) (zf (gn3 3) J9)))) (ze (cb3 S_strung (qc (v3 2) (qc (v3 3) (qc (o3 ix3 (v3 0) (c3 (.int 1))) qh))))))))))
noncomputable def Z9 (S_law_pick : Sp3) : TS3 := (ze (o3 je (c3 (.int 1)) (cb3 S_law_pick (qc (v3 0) (qc (o3 ix3 (Zo (qc (c3 (.int 5)) (qc (c3 (.int 5)) (qc (c3 (.int 5)) (qc (c3 (.int 5)) (qc (c3 (.int 5)) (qc (c3 (.int 5)) (qc (c3 (.int 8)) (qc (c3 (.int 16)) qh))))))))) (cb3 S_law_pick (qc (v3 0) (qc (c3 (.int 8)) qh)))) qh)))))
noncomputable def Z8 (S_law_pick : Sp3) (S_law_many : Sp3) : TS3 := (qK (zz (cb3 S_law_pick (qc (v3 0) (qc (c3 (.int 9)) qh))) (gn3 1)) (qK (jX (tb3 (o3 (iB fun i j => decide (i < j)) (v3 1) (c3 (.int 4)))) (ze (Q0 (qc (o3 ix3 (Zo (qc (c3 (.str "row")) (qc (c3 (.str "column")) (qc (c3 (.str "slant")) (qc (c3 (.str "back")) qh))))) (v3 1)) (qc (cb3 S_law_many (qc (v3 0) qh)) qh)))) qT) (qK (jX (tb3 (o3 (iB fun i j => decide (i < j)) (v3 1) (c3 (.int 6)))) (qK (CL 2 3 (qc (cb3 S_law_pick (qc (v3 0) (qc (c3 (.int 2)) qh))) (qc (o3 je (c3 (.int 1)) (cb3 S_law_pick (qc (v3 0) (qc (c3 (.int 4)) qh)))) qh))) (qK (zz (o3 je (c3 (.int 1)) (cb3 S_law_pick (qc (v3 0) (qc (o3 (iC W5 (· / ·)) (c3 (.int 16)) (v3 3)) qh)))) (gn3 4)) (ze (o3 ix3 (Zo (qc (Q0 (qc (c3 (.str "block")) (qc (v3 3) (qc (v3 4) qh)))) (qc (Q0 (qc (c3 (.str "block")) (qc (v3 4) (qc (v3 3) qh)))) qh))) (v3 2))))) qT) (qK (jX (tb3 (o3 (iB fun i j => decide (i < j)) (v3 1) (c3 (.int 8)))) (qK (CL 5 6 (qc (o3 (iI (· - ·)) (cb3 S_law_pick (qc (v3 0) (qc (c3 (.int 7)) qh))) (c3 (.int 3))) (qc (o3 (iI (· - ·)) (cb3 S_law_pick (qc (v3 0) (qc (c3 (.int 9)) qh))) (c3 (.int 4))) qh))) (qK (jX (tb3 (o3 (Qb false) (cb3 S_law_pick (qc (v3 0) (qc (c3 (.int 6)) qh))) (c3 (.int 0)))) (ze (Q0 (qc (c3 (.str "step")) (qc (o3 (iC Qm (· * ·)) (c3 (.int 5)) (v3 5)) (qc (o3 je (o3 (iC Qm (· * ·)) (c3 (.int 3)) (v3 6)) (cb3 Wu (qc (JB (o3 (Qb false) (v3 5) (c3 (.int 0))) (o3 (Qb false) (v3 6) (c3 (.int 0)))) qh))) (qc (o3 je (c3 (.int 1)) (cb3 S_law_pick (qc (v3 0) (qc (c3 (.int 4)) qh)))) qh)))))) qT) (ze (Q0 (qc (c3 (.str "step")) (qc (v3 5) (qc (o3 je (v3 6) (cb3 Wu (qc (JB (o3 (Qb false) (v3 5) (c3 (.int 0))) (o3 (Qb false) (v3 6) (c3 (.int 0)))) qh))) (qc (cb3 S_law_many (qc (v3 0) qh)) qh)))))))) qT) (qK (CL 7 8 (qc (Zo qh) (qc (o3 je (c3 (.int 1)) (o3 (iC Qm (· * ·)) (c3 (.int 4)) (cb3 Wu (qc (o3 (Qb false) (cb3 S_law_pick (qc (v3 0) (qc (c3 (.int 5)) qh))) (c3 (.int 0))) qh)))) qh))) (qK (YT (zW (qc (cb3 S_law_many (qc (v3 0) qh)) qh)) (gn3 9) (qK (zz (Q0 (qc (o3 (iC Qm (· * ·)) (v3 8) (o3 (iI (· - ·)) (cb3 S_law_pick (qc (v3 0) (qc (c3 (.int 6)) qh))) (c3 (.int 2)))) (qc (o3 (iC Qm (· * ·)) (v3 8) (o3 (iI (· - ·)) (cb3 S_law_pick (qc (v3 0) (qc (c3 (.int 6)) qh))) (c3 (.int 2)))) qh))) (gn3 10)) (jX (tb3 (o3 (qgu true) (v3 10) (v3 7))) (Vf (bm3 CO (v3 7) (qc (v3 10) qh))) qT))) (ze (Q0 (qc (c3 (.str "cells")) (qc (cb3 Jq (qc (v3 7) qh)) qh))))))))))
noncomputable def QS : TS3 := (qK (jX (tb3 (o3 (Qb false) (o3 ix3 (v3 0) (c3 (.int 0))) (c3 (.str "cells")))) (ze (cb3 Um (qc (o3 ix3 (v3 0) (c3 (.int 1))) qh))) qT) (qK (jX (tb3 (o3 (Qb false) (o3 ix3 (v3 0) (c3 (.int 0))) (c3 (.str "block")))) (qK (zz (Zo qh) (gn3 1)) (qK (YT (zW (qc (o3 ix3 (v3 0) (c3 (.int 1))) qh)) (gn3 2) (Vf (bm3 KY (v3 1) (qc (lc3 (zW (qc (o3 ix3 (v3 0) (c3 (.int 2))) qh)) (gn3 0) tt3 (Q0 (qc (v3 1) (qc (v3 0) qh))) [none,some 2]) qh)))) (ze (v3 1)))) qT) (qK (zz (Lb ["row","column","slant","back","step"] (qc (Q0 (qc (c3 (.int 0)) (qc (c3 (.int 1)) qh))) (qc (Q0 (qc (c3 (.int 1)) (qc (c3 (.int 0)) qh))) (qc (Q0 (qc (c3 (.int 1)) (qc (c3 (.int 1)) qh))) (qc (Q0 (qc (c3 (.int 1)) (qc (u3 WC (c3 (.int 1))) qh))) (qc (ET (v3 0) (sp3 (c3 (.int 1))) (sp3 (c3 (.int 3)))) qh))))) (o3 ix3 (v3 0) (c3 (.int 0)))) (Jx 2 (zf (gn3 3) (zf (gn3 4) J9)))) (ze (lc3 (zW (qc (o3 ix3 (v3 0) (u3 WC (c3 (.int 1)))) qh)) (gn3 0) tt3 (Q0 (qc (o3 (iC Qm (· * ·)) (v3 0) (v3 1)) (qc (o3 (iC Qm (· * ·)) (v3 0) (v3 2)) qh))) [none,some 3,some 4])))))
noncomputable def jU : TS3 := (qK (YT (zW (qc (cb3 JO (qc (v3 0) qh)) qh)) (gn3 1) (YT (zW (qc (o3 je (v3 1) (c3 (.int 1))) (qc (cb3 JO (qc (v3 0) qh)) qh))) (gn3 2) (jX (tb3 (o3 (Qb false) (o3 ix3 (v3 0) (v3 1)) (o3 ix3 (v3 0) (v3 2)))) (ze (Q0 (qc (v3 1) (qc (v3 2) qh)))) qT))) (ze (c3 .non)))
theorem QK {G : Gp} {p : Addr} {xs : List T} (h : G p = some (.lst xs)) : getL G p = some xs := by unfold getL;rw [h]
theorem Lm {xs : List T} {d : Int} (h0 : 0 ≤ d) (h1 : d < (xs.length : Int)) : ∃ z,L2.atI xs d = some z∧z ∈ xs := by
 rw [DL h0 h1]
 have : d.toNat < xs.length := by omega
 exact ⟨xs[d.toNat],List.getElem?_eq_getElem this,List.getElem_mem this⟩
inductive Wk where
 | line (k m : Nat)
 | block (h w : Nat)
 | step (d a : Int) (m : Nat)
 | cells (ps : List (Int × Int))
noncomputable def Zj : Nat → Str
 | 0 => "row" | 1 => "column" | 2 => "slant" | _ => "back"
noncomputable def lnD : Nat → Int
 | 0 => 0 | _ => 1
noncomputable def lnA : Nat → Int
 | 0 => 1 | 1 => 0 | 2 => 1 | _ => -1
noncomputable def pT (p : Int × Int) : T := .tup [.int p.1,.int p.2]
noncomputable def Wk.t : Wk → T
 | .line k m => .tup [.str (Zj k),.int m]
 | .block h w => .tup [.str "block",.int h,.int w]
 | .step d a m => .tup [.str "step",.int d,.int a,.int m]
 | .cells ps => .tup [.str "cells",.tup (ps.map pT)]
noncomputable def jf (d a : Int) (m : Nat) : List (Int × Int) := (List.range m).map fun (t : Nat) => ((t : Int) * d,(t : Int) * a)
noncomputable def zx (h w : Nat) : List (Int × Int) := (List.range h).flatMap fun (p : Nat) => (List.range w).map fun (q : Nat) => ((p : Int),(q : Int))
noncomputable def Wk.pc : Wk → List (Int × Int)
 | .line k m => jf (lnD k) (lnA k) m
 | .block h w => zx h w
 | .step d a m => jf d a m
 | .cells ps => ps
noncomputable def Wk.Ok : Wk → Prop
 | .line k m => k < 4∧1 ≤ m∧m ≤ 16
 | .block h w => 1 ≤ h∧1 ≤ w∧h ≤ 16∧w ≤ 16∧h * w ≤ 16
 | .step d a m => (-16 ≤ d∧d ≤ 16)∧(-16 ≤ a∧a ≤ 16)∧1 ≤ m∧m ≤ 16
 | .cells ps => 1 ≤ ps.length∧ps.length ≤ 16∧ps.Nodup∧∀ p ∈ ps,(-16 ≤ p.1∧p.1 ≤ 16)∧(-16 ≤ p.2∧p.2 ≤ 16)
theorem JM (h w : Nat) : zx (h + 1) w = zx h w ++ (List.range w).map fun (q : Nat) => ((h : Int),(q : Int)) := by
 simp [zx,List.range_succ]
theorem zK (h w : Nat) : (zx h w).length = h * w := by
 induction h with
 | zero => simp [zx]
 | succ h ih => rw [JM,List.length_append,ih,List.length_map,List.length_range,Nat.succ_mul]
theorem SF {w : Wk} (ok : w.Ok) : 1 ≤ w.pc.length∧w.pc.length ≤ 16 := by
 cases w with
 | line k m => simp only [Wk.pc,jf,List.length_map,List.length_range];exact ok.2
 | block h v =>
  obtain ⟨h1,h2,h3,h4,h5⟩ := ok
  simp only [Wk.pc,zK]
  exact ⟨Nat.mul_le_mul h1 h2,h5⟩
 | step d a m => simp only [Wk.pc,jf,List.length_map,List.length_range];exact ok.2.2
 | cells ps => exact ⟨ok.1,ok.2.1⟩
end Bk
namespace Bk
open PySem L2 L3
noncomputable def Jc : Sp3 := fun ts G q => ∃ a n,ts = [.ref a]∧Lf G a n∧n < 10000000∧∀ (m : Nat) G',1 ≤ m → m ≤ 16 → Lf G' a (n + 2) → Ext a G G' → q (.int m) G'
theorem EM : ∀ ts G q,Jc ts G q → ts.length = 1∧Z9 qt (qch q) (qx ["_law_left_here"] ts) G := by
 rintro ts G q ⟨a,n,rfl,hL,hn,h⟩
 refine ⟨rfl,?_⟩
 simp only [Z9,ze,o3,c3,cb3,qc,v3,qx,List.map_cons,List.map_nil,List.length_cons,List.length_nil,Nat.zero_add,Nat.sub_self,List.replicate_zero,List.append_nil,Nat.lt_add_one,getElem?_pos,List.getElem_cons_zero,Zo,qh,Nat.reduceAdd,sizeLine_eq,Nat.reduceLeDiff,je,ne_eq,true_and]
 intro p hp
 have np := hL.ne hp
 refine Q5 (hL.new np) (by omega) (by omega) (by omega) fun d G1 d0 d1 L1 E1 => ?_
 have g := QK (E1 _ _ np qD)
 obtain ⟨z,hz,hm⟩ := Lm (xs := [T.int 5,.int 5,.int 5,.int 5,.int 5,.int 5,.int 8,.int 16]) d0 (by simpa using d1)
 simp only [L3.ixR,g,hz]
 have : ∃ k : Int,z = .int k∧1 ≤ k∧k ≤ 16 := by
  simp only [List.mem_cons,List.not_mem_nil,or_false] at hm
  rcases hm with rfl | rfl | rfl | rfl | rfl | rfl | rfl | rfl <;> exact ⟨_,rfl,by omega,by omega⟩
 obtain ⟨k,rfl,k1,k2⟩ := this
 refine Q5 L1 (by omega) (by omega) (by omega) fun e G2 e0 e1 L2' E2 => ?_
 simp
 obtain ⟨e',rfl⟩ := Int.eq_ofNat_of_zero_le e0
 have := h (e' + 1) G2 (by omega) (by omega) (L2'.mono (by omega)) ((Vi hp).trans (E1.trans E2))
 rw [show (1 : Int) + (e' : Int) = ((e' + 1 : Nat) : Int) by omega]
 exact this
noncomputable def pD (p : Int × Int) : PyData := .tuple [.int p.1,.int p.2]
theorem Np (G : Gp) (p : Int × Int) : Dp G (pT p) (pD p) := .tup (.cons (.int _) (.cons (.int _) .nil))
theorem Tp (G : Gp) : ∀ ps : List (Int × Int),Dps G (ps.map pT) (ps.map pD)
 | [] => .nil
 | p :: ps => .cons (Np G p) (Tp G ps)
theorem qf7 (p r : Int × Int) : Q1 (pD p) (pD r) = some (decide (p = r)) := by
 obtain ⟨a,b⟩ := p
 obtain ⟨c,d⟩ := r
 simp only [pD,Q1,Zn]
 by_cases h : a = c <;> by_cases h' : b = d <;> simp [h,h']
theorem pIn (r : Int × Int) : ∀ ps : List (Int × Int),CQ (pD r) (ps.map pD) = some (decide (r ∈ ps))
 | [] => by simp [CQ]
 | p :: ps => by
  simp only [List.map_cons,CQ,qf7,pIn r ps]
  by_cases h : p = r
  ·subst h;simp
  ·have h' : ¬ r = p := fun z => h z.symm
   simp [h,h']
theorem qbp (p : Int × Int) : dpt (pD p) ≤ 40 := by simp [pD,dpt,TW]
noncomputable def jj : Sp3 := fun ts G q => ∃ a n,ts = [.ref a]∧Lf G a n∧n < 1000000∧∀ (w : Wk) G',w.Ok → Lf G' a (n + 60) → Ext a G G' → q w.t G'
theorem Dv : ∀ ts G q,jj ts G q → ts.length = 1∧Z8 qt Jc (qch q) (qx ["_law_left_here","_law_way","_law_lying","_law_high","_law_wide","_law_down","_law_along","_law_pairs","_law_far","_law_turn","_law_pair"] ts) G := by
 rintro ts G q ⟨a,n,rfl,hL,hn,h⟩
 refine ⟨rfl,?_⟩
 unfold Z8
 refine Yj fun nx1 q1 => ?_
 simp only [zz,cb3,qc,v3,qx,List.map_cons,List.map_nil,List.length_cons,List.length_nil,Nat.zero_add,Nat.reduceAdd,Nat.add_one_sub_one,List.reduceReplicate,List.cons_append,List.nil_append,Nat.zero_lt_succ,getElem?_pos,List.getElem_cons_zero,c3,qh,gn3,List.set_cons_succ,List.set_cons_zero]
 refine Q5 hL (by omega) (by omega) (by omega) fun way G1 w0 w1 L1 E1 => ?_
 try simp
 rw [q1]
 clear q1
 refine Yj fun nx2 q2 => ?_
 by_cases lt : way < 4
 ·simp only [jX,tb3,o3,v3,List.length_cons,List.length_nil,Nat.zero_add,Nat.reduceAdd,Nat.reduceLT,getElem?_pos,List.getElem_cons_succ,List.getElem_cons_zero,c3,iB,lt,decide_true,↓reduceIte,ze,Q0,qc,Zo,qh,sizeLine_eq,Nat.reduceLeDiff,cb3,Nat.zero_lt_succ,true_and,ixR]
  intro p hp
  have np := L1.ne hp
  have L3' := L1.new np (ob := .lst [.str "row",.str "column",.str "slant",.str "back"])
  obtain ⟨k,rfl⟩ := Int.eq_ofNat_of_zero_le w0
  have hk : k < 4 := by omega
  have e1 : L2.atI [T.str (Str.ofString "row"),.str (Str.ofString "column"),.str (Str.ofString "slant"),.str (Str.ofString "back")] (k : Int) = some (.str (Zj k)) := by
   rcases k with _ | _ | _ | _ | k
   ·rfl
   ·rfl
   ·rfl
   ·rfl
   ·omega
  simp only [L3.ixR,QK qD,e1]
  refine ⟨a,_,rfl,L3',by omega,fun m G2 m1 m2 L4 E4 => ?_⟩
  exact h (.line k m) _ ⟨hk,m1,m2⟩ (L4.mono (by omega)) (E1.trans ((Vi hp).trans E4))
 simp only [jX,tb3,o3,v3,c3,iB,List.getElem?_cons_zero,List.getElem?_cons_succ,lt,decide_false,Bool.false_eq_true,if_false,qT]
 rw [q2]
 clear q2
 refine Yj fun nx3 q3 => ?_
 by_cases lt6 : way < 6
 ·simp only [jX,tb3,o3,v3,c3,iB,List.getElem?_cons_zero,List.getElem?_cons_succ,lt6,decide_true,if_true]
  refine Yj fun nx4 q4 => ?_
  simp only [CL,qc,cb3,v3,List.length_cons,List.length_nil,Nat.zero_add,Nat.reduceAdd,Nat.zero_lt_succ,getElem?_pos,List.getElem_cons_zero,c3,qh,o3,je,ne_eq,sizeLine_eq,List.set_cons_succ,List.set_cons_zero]
  refine Q5 L1 (by omega) (by omega) (by omega) fun ly G2 y0 y1 L2' E2 => ?_
  try simp
  refine Q5 L2' (by omega) (by omega) (by omega) fun hi G3 h0 h1 L3' E3 => ?_
  try simp
  rw [q4]
  clear q4
  obtain ⟨hh,rfl⟩ := Int.eq_ofNat_of_zero_le h0
  refine Yj fun nx5 q5 => ?_
  simp only [zz,o3,c3,cb3,qc,v3,List.length_cons,List.length_nil,Nat.zero_add,Nat.reduceAdd,Nat.zero_lt_succ,getElem?_pos,List.getElem_cons_zero,Nat.reduceLT,List.getElem_cons_succ,iC,qh,je,ne_eq,sizeLine_eq,gn3,List.set_cons_succ,List.set_cons_zero]
  have dv : 1 ≤ (16 : Int) / (1 + (hh : Int))∧(16 : Int) / (1 + (hh : Int)) ≤ 16 := by
   have : hh = 0 ∨ hh = 1 ∨ hh = 2 ∨ hh = 3 := by omega
   rcases this with rfl | rfl | rfl | rfl <;> decide
  refine ⟨⟨by omega,by omega⟩,Q5 L3' (by omega) (by omega) (by omega) fun wi G4 u0 u1 L4 E4 => ?_⟩
  try simp
  rw [q5]
  clear q5
  obtain ⟨ww,rfl⟩ := Int.eq_ofNat_of_zero_le u0
  have pr : (hh + 1) * (ww + 1) ≤ 16 := by
   have : hh = 0 ∨ hh = 1 ∨ hh = 2 ∨ hh = 3 := by omega
   rcases this with rfl | rfl | rfl | rfl <;> simp at u1 <;> omega
  simp only [ze,o3,Zo,qc,Q0,c3,v3,List.length_cons,List.length_nil,Nat.zero_add,Nat.reduceAdd,Nat.reduceLT,getElem?_pos,List.getElem_cons_succ,List.getElem_cons_zero,qh,sizeLine_eq,Nat.reduceLeDiff,ixR,true_and]
  intro p hp
  have np := L4.ne hp
  have X4 := E1.trans (E2.trans (E3.trans E4))
  have z1 : (1 : Int) + (hh : Int) = ((hh + 1 : Nat) : Int) := by omega
  have z2 : (1 : Int) + (ww : Int) = ((ww + 1 : Nat) : Int) := by omega
  rw [z1,z2]
  have hl : ly = 0 ∨ ly = 1 := by omega
  rcases hl with rfl | rfl
  ·simp only [L3.ixR,QK qD,qeu]
   exact h (.block (hh + 1) (ww + 1)) _ ⟨by omega,by omega,by omega,by omega,pr⟩ ((L4.new np).mono (by omega)) (X4.trans (Vi hp))
  ·simp only [L3.ixR,QK qD,qf9]
   exact h (.block (ww + 1) (hh + 1)) _ ⟨by omega,by omega,by omega,by omega,by rw [Nat.mul_comm];exact pr⟩ ((L4.new np).mono (by omega)) (X4.trans (Vi hp))
 simp only [jX,tb3,o3,v3,c3,iB,List.getElem?_cons_zero,List.getElem?_cons_succ,lt6,decide_false,Bool.false_eq_true,if_false,qT]
 rw [q3]
 clear q3
 refine Yj fun nx4 q4 => ?_
 by_cases lt8 : way < 8
 ·simp only [jX,tb3,o3,v3,c3,iB,List.getElem?_cons_zero,List.getElem?_cons_succ,lt8,decide_true,if_true]
  refine Yj fun nx5 q5 => ?_
  simp only [CL,qc,o3,cb3,v3,List.length_cons,List.length_nil,Nat.zero_add,Nat.reduceAdd,Nat.zero_lt_succ,getElem?_pos,List.getElem_cons_zero,c3,qh,iI,List.set_cons_succ,List.set_cons_zero]
  refine Q5 L1 (by omega) (by omega) (by omega) fun d G2 d0 d1 L2' E2 => ?_
  try simp
  refine Q5 L2' (by omega) (by omega) (by omega) fun al G3 a0 a1 L3' E3 => ?_
  try simp
  rw [q5]
  clear q5
  obtain ⟨D,hD⟩ : ∃ D,D = d - 3 := ⟨_,rfl⟩
  obtain ⟨A,hA⟩ : ∃ A,A = al - 4 := ⟨_,rfl⟩
  rw [← hD,← hA]
  refine Yj fun nx6 q6 => ?_
  simp only [jX,tb3,o3,cb3,qc,v3,List.length_cons,List.length_nil,Nat.zero_add,Nat.reduceAdd,Nat.zero_lt_succ,getElem?_pos,List.getElem_cons_zero,c3,qh,Qb,Uf,Bool.false_eq_true,↓reduceIte,ze,Q0,Nat.reduceLT,List.getElem_cons_succ,iC,JB,decide_eq_true_eq,Wu,je,ne_eq,sizeLine_eq,Nat.reduceLeDiff,true_and,Int.add_zero,qT,exists_and_left,Bool.exists_bool]
  refine Q5 L3' (by omega) (by omega) (by omega) fun six G4 s0 s1 L4 E4 => ?_
  have X4 := E1.trans (E2.trans (E3.trans E4))
  by_cases k0 : six = 0
  ·subst k0
   simp only [decide_true,↓reduceIte]
   refine ⟨cm (by omega) (by omega),cm (by omega) (by omega),?_⟩
   have fin : ∀ e : Int,0 ≤ e → e ≤ 1 → qt [.ref a,.int 4] G4 fun x G' => (match T.int 1,x with | .int i,.int j => q (.tup [.str (Str.ofString "step"),.int (5 * D),.int (3 * A + e),.int (i + j)]) G' | _,_ => False) := by
    intro e e0 e1
    refine Q5 L4 (by omega) (by omega) (by omega) fun m G5 m0 m1 L5 E5 => ?_
    obtain ⟨m',rfl⟩ := Int.eq_ofNat_of_zero_le m0
    have := h (.step (5 * D) (3 * A + e) (m' + 1)) G5 ⟨⟨by omega,by omega⟩,⟨by omega,by omega⟩,by omega,by omega⟩ (L5.mono (by omega)) (X4.trans E5)
    simp only [Wk.t] at this
    rw [show ((m' + 1 : Nat) : Int) = 1 + (m' : Int) by omega] at this
    exact this
   by_cases hD0 : D = 0
   ·by_cases hA0 : A = 0
    ·have := fin 1 (by omega) (by omega)
     simp only [hD0,Int.mul_zero,hA0,Int.zero_add,↓reduceIte] at this ⊢
     exact this
    ·have := fin 0 (by omega) (by omega)
     simp only [hD0,Int.mul_zero,Int.add_zero,↓reduceIte,hA0] at this ⊢
     exact this
   ·have := fin 0 (by omega) (by omega)
    simp only [Int.add_zero,hD0,↓reduceIte] at this ⊢
    exact this
  ·simp [k0]
   rw [q6]
   clear q6
   have fin : ∀ e : Int,0 ≤ e → e ≤ 1 → Jc [.ref a] G4 fun x G' => q (.tup [.str (Str.ofString "step"),.int D,.int (A + e),x]) G' := by
    intro e e0 e1
    refine ⟨a,_,rfl,L4,by omega,fun m G5 m0 m1 L5 E5 => ?_⟩
    exact h (.step D (A + e) m) G5 ⟨⟨by omega,by omega⟩,⟨by omega,by omega⟩,by omega,by omega⟩ (L5.mono (by omega)) (X4.trans E5)
   by_cases hD0 : D = 0
   ·by_cases hA0 : A = 0
    ·have := fin 1 (by omega) (by omega)
     simp only [hD0,hA0,Int.zero_add,ze,Q0,qc,c3,v3,List.length_cons,List.length_nil,Nat.zero_add,Nat.reduceAdd,Nat.reduceLT,getElem?_pos,List.getElem_cons_succ,List.getElem_cons_zero,o3,cb3,JB,Qb,Uf,decide_true,Bool.false_eq_true,↓reduceIte,qh,Wu,je,Nat.zero_lt_succ,sizeLine_eq,Nat.reduceLeDiff,true_and] at this ⊢
     exact this
    ·have := fin 0 (by omega) (by omega)
     simp only [hD0,Int.add_zero,ze,Q0,qc,c3,v3,List.length_cons,List.length_nil,Nat.zero_add,Nat.reduceAdd,Nat.reduceLT,getElem?_pos,List.getElem_cons_succ,List.getElem_cons_zero,o3,cb3,JB,Qb,Uf,decide_true,Bool.false_eq_true,↓reduceIte,hA0,decide_false,qh,Wu,je,Nat.zero_lt_succ,sizeLine_eq,Nat.reduceLeDiff,true_and] at this ⊢
     exact this
   ·have := fin 0 (by omega) (by omega)
    simp only [Int.add_zero,ze,Q0,qc,c3,v3,List.length_cons,List.length_nil,Nat.zero_add,Nat.reduceAdd,Nat.reduceLT,getElem?_pos,List.getElem_cons_succ,List.getElem_cons_zero,o3,cb3,JB,Qb,Uf,hD0,decide_false,Bool.false_eq_true,↓reduceIte,qh,Wu,je,Nat.zero_lt_succ,sizeLine_eq,Nat.reduceLeDiff,true_and] at this ⊢
    exact this
 simp only [jX,tb3,o3,v3,c3,iB,List.getElem?_cons_zero,List.getElem?_cons_succ,lt8,decide_false,Bool.false_eq_true,if_false,qT]
 rw [q4]
 clear q4
 refine Yj fun nx5 q5 => ?_
 simp only [CL,qc,Zo,qh,List.length_nil,sizeLine_eq,Nat.zero_le,o3,c3,cb3,v3,List.length_cons,Nat.zero_add,Nat.reduceAdd,Nat.zero_lt_succ,getElem?_pos,List.getElem_cons_zero,Qb,Uf,Wu,iC,Bool.false_eq_true,↓reduceIte,je,List.set_cons_succ,List.set_cons_zero,ne_eq,exists_and_left,Bool.exists_bool,Int.mul_zero,Int.add_zero,Int.mul_one,Int.reduceAdd,true_and]
 intro pp hpp
 have npp := L1.ne hpp
 have Lp := L1.new npp (ob := .lst [])
 refine Q5 Lp (by omega) (by omega) (by omega) fun fv G2 f0 f1 L2' E2 => ?_
 have gp2 := E2 _ _ npp qD
 have X2 : Ext a G G2 := E1.trans ((Vi hpp).trans E2)
 have hf : ∃ far : Int,(far = 1 ∨ far = 5)∧nx5 = nx5 := ⟨1,.inl rfl,rfl⟩
 clear hf
 have fin : ∀ far : Int,far = 1 ∨ far = 5 → nx5 [some (.ref a),some (.int way),none,none,none,none,none,some (.ref pp),some (.int far),none,none] G2 := by
  intro far hfar
  rw [q5]
  clear q5
  refine Yj fun nx6 q6 => ?_
  simp only [YT,zW,cb3,qc,qh,v3,List.getElem?_cons_zero,List.getElem?_cons_succ]
  refine ⟨a,_,rfl,L2',by omega,fun m G3 m1 m2 L3' E3 => ?_⟩
  have gp3 := E3 _ _ npp gp2
  refine ⟨⟨by omega,by omega⟩,?_⟩
  rw [Int.toNat_natCast]
  refine Eb _ (fun i τ G' => ∃ ps : List (Int × Int),G' pp = some (.lst (ps.map pT))∧(1 ≤ i → 1 ≤ ps.length)∧ps.length ≤ i∧ps.Nodup∧(∀ p ∈ ps,(-16 ≤ p.1∧p.1 ≤ 16)∧(-16 ≤ p.2∧p.2 ≤ 16))∧Lf G' a (n + 5 + 2 * i)∧Ext a G G'∧∃ x9 x10,τ = [some (.ref a),some (.int way),none,none,none,none,none,some (.ref pp),some (.int far),x9,x10])
   ⟨[],gp3,by omega,by simp,by simp,(by intro p hp;cases hp),by simpa using L3'.mono (by omega),X2.trans E3,none,none,rfl⟩ (fun _ _ _ _ _ => True.intro) ?_ ?_
  ·rintro i z τ G' nx hz ⟨ps,gp,i1,pl,nd,bd,L,E,x9,x10,rfl⟩ hnx
   obtain ⟨hi,rfl⟩ := Ch hz
   simp only [gn3,List.set_cons_succ,List.set_cons_zero]
   refine Yj fun nx7 q7 => ?_
   simp only [zz,Q0,qc,o3,v3,Int.zero_add,List.length_cons,List.length_nil,Nat.zero_add,Nat.reduceAdd,Nat.reduceLT,getElem?_pos,List.getElem_cons_succ,List.getElem_cons_zero,cb3,Nat.zero_lt_succ,c3,qh,iI,iC,sizeLine_eq,Nat.reduceLeDiff,gn3,List.set_cons_succ,List.set_cons_zero,true_and]
   refine Q5 L (by omega) (by omega) (by omega) fun u G4 u0 u1 L4 E4 => ?_
   try simp
   refine ⟨cm (by omega) (by omega),Q5 L4 (by omega) (by omega) (by omega) fun v G5 v0 v1 L5 E5 => ?_⟩
   try simp
   refine ⟨cm (by omega) (by omega),?_⟩
   rw [q7]
   clear q7
   have gp5 := E5 _ _ npp (E4 _ _ npp gp)
   have X5 := E.trans (E4.trans E5)
   have pe : T.tup [.int (far * (u - 2)),.int (far * (v - 2))] = pT (far * (u - 2),far * (v - 2)) := rfl
   rw [pe]
   have pb : (-16 ≤ far * (u - 2)∧far * (u - 2) ≤ 16)∧(-16 ≤ far * (v - 2)∧far * (v - 2) ≤ 16) := by rcases hfar with rfl | rfl <;> omega
   generalize hP : (far * (u - 2),far * (v - 2)) = P at *
   have pb' : (-16 ≤ P.1∧P.1 ≤ 16)∧(-16 ≤ P.2∧P.2 ≤ 16) := by rw [← hP];exact pb
   simp only [jX,tb3,o3,v3,List.getElem?_cons_zero,List.getElem?_cons_succ]
   refine ⟨_,_,_,_,QK gp5,Np _ _,Tp _ _,pIn _ _,fun d hd => ?_,?_⟩
   ·obtain ⟨p,_,rfl⟩ := List.mem_map.mp hd
    exact qbp p
   ·by_cases hm : P ∈ ps
    ·simp only [↓reduceIte,hm,decide_true,Bool.not_true,Bool.false_eq_true,qT]
     exact hnx _ _ ⟨ps,gp5,fun _ => List.length_pos_of_mem hm,by omega,nd,bd,L5.mono (by omega),X5,_,_,rfl⟩
    ·simp only [↓reduceIte,hm,decide_false,Bool.not_false,Vf,bm3,v3,List.length_cons,List.length_nil,Nat.zero_add,Nat.reduceAdd,Nat.reduceLT,getElem?_pos,List.getElem_cons_succ,List.getElem_cons_zero,qc,Nat.lt_add_one,qh,CO,gp5,List.length_map,sizeLine_eq]
     refine ⟨by rw [QK gp5];rfl,by omega,?_⟩
     refine hnx _ _ ⟨ps ++ [P],by rw [qD];simp,fun _ => by simp,by simp;omega,?_,fun p hp => ?_,L5.new npp |>.mono (by omega),fun b o hb eb => ?_,_,_,rfl⟩
     ·rw [List.nodup_append]
      exact ⟨nd,by simp,fun x hx y hy => by simp at hy;subst hy;rintro rfl;exact hm hx⟩
     ·rcases List.mem_append.mp hp with hp | hp
      ·exact bd p hp
      ·simp at hp;subst hp;exact pb'
     ·have : b ≠ pp := by
       rintro rfl
       have := E1 _ _ hb eb
       rw [hpp] at this;cases this
      rw [j9 this]
      exact X5 _ _ hb eb
  ·rintro τ G' ⟨ps,gp,i1,pl,nd,bd,L,E,x9,x10,rfl⟩
   rw [KO] at i1 pl L
   show nx6 _ _
   rw [q6]
   simp only [ze,Q0,qc,c3,cb3,v3,List.length_cons,List.length_nil,Nat.zero_add,Nat.reduceAdd,Nat.reduceLT,getElem?_pos,List.getElem_cons_succ,List.getElem_cons_zero,qh,Jq,QK gp,sizeLine_eq,Nat.reduceLeDiff,true_and]
   exact h (.cells ps) G' ⟨i1 m1,by omega,nd,bd⟩ (L.mono (by omega)) E
 by_cases k0 : fv = 0
 ·have := fin 5 (.inr rfl)
  simp only [k0,decide_true,↓reduceIte,Int.mul_one,Int.reduceAdd]
  exact ⟨cm (by omega) (by omega),this⟩
 ·have := fin 1 (.inl rfl)
  simp only [k0,decide_false,Bool.false_eq_true,↓reduceIte,Int.mul_zero,Int.add_zero]
  exact ⟨cm (by omega) (by omega),this⟩
end Bk
namespace Bk
open PySem L2 L3
end Bk
namespace Bk
open PySem L2 L3
noncomputable def al (cs : List (Int × Int)) : List Int := cs.map (·.2)
end Bk
namespace Bk
open PySem L2 L3
end Bk
namespace Bk
open PySem L2 L3
end Bk
namespace Bk
open PySem L2 L3
def Un2 (ns : List Int) (i : Nat) : Prop := ∀ a b,a < i → a < b → b < ns.length → ns[a]? ≠ ns[b]?
structure Fst (ns : List Int) (i j : Nat) : Prop where
 ij : i < j
 jl : j < ns.length
 un : Un2 ns i
 nb : ∀ b,i < b → b < j → ns[i]? ≠ ns[b]?
 eq : ns[i]? = ns[j]?
theorem Fst.uniq {ns : List Int} {i j i' j' : Nat} (F : Fst ns i j) (F' : Fst ns i' j') : i = i'∧j = j' := by
 have e : i = i' := by
  rcases Nat.lt_trichotomy i i' with z | z | z
  ·exact absurd F.eq (F'.un i j z F.ij F.jl)
  ·exact z
  ·exact absurd F'.eq (F.un i' j' z F'.ij F'.jl)
 subst e
 refine ⟨rfl,?_⟩
 rcases Nat.lt_trichotomy j j' with z | z | z
 ·exact absurd F.eq (F'.nb j F.ij z)
 ·exact z
 ·exact absurd F'.eq (F.nb j' F'.ij z)
open Classical in
noncomputable def faO (ns : List Int) : Option (Nat × Nat) := if h : ∃ ij : Nat × Nat,Fst ns ij.1 ij.2 then some h.choose else none
theorem Jz {ns : List Int} {i j : Nat} (F : Fst ns i j) : faO ns = some (i,j) := by
 have h : ∃ ij : Nat × Nat,Fst ns ij.1 ij.2 := ⟨(i,j),F⟩
 unfold faO
 rw [dif_pos h]
 have := h.choose_spec
 obtain ⟨e1,e2⟩ := this.uniq F
 exact congrArg some (Prod.ext e1 e2)
theorem Jr {ns : List Int} (h : Un2 ns ns.length) : faO ns = none := by
 unfold faO
 rw [dif_neg]
 rintro ⟨ij,F⟩
 exact h ij.1 ij.2 (Nat.lt_trans F.ij F.jl) F.ij F.jl F.eq
end Bk
namespace Bk
open PySem L2 L3
noncomputable def ZF (S_cells_of : Sp3) : TS3 := (qK (zz (v3 1) (Jx 2 (zf (gn3 3) (zf (gn3 4) J9)))) (ze (cb3 Jq (qc (lc3 (YM (cb3 S_cells_of (qc (v3 2) qh))) (Jx 2 (zf (gn3 0) (zf (gn3 1) J9))) tt3 (o3 (iC (fun _ j => 0 < j) (· % ·)) (o3 je (o3 (iC Qm (· * ·)) (v3 3) (v3 0)) (o3 (iC Qm (· * ·)) (v3 4) (v3 1))) (v3 2)) [none,none,some 0,some 3,some 4]) qh))))
noncomputable def jN : TS3 := (ze (qbq (zW (qc (v3 0) qh)) (gn3 0) tt3 (zW (qc (v3 2) qh)) (gn3 1) tt3 (Q0 (qc (v3 0) (qc (v3 1) qh))) [none,none,some 0]))
noncomputable def QT (S_rests_by : Sp3) (S_first_alike : Sp3) : TS3 := (qK (YT (VS (qc (v3 2) qh)) (Jx 2 (zf (gn3 3) (zf (gn3 4) J9))) (qK (zz (cb3 S_first_alike (qc (cb3 S_rests_by (qc (v3 0) (qc (v3 1) (qc (v3 4) qh)))) qh)) (gn3 5)) (jX (tb3 (o3 (Mc true) (v3 5) (c3 .non))) (ze (Q0 (qc (v3 3) (qc (o3 ix3 (v3 5) (c3 (.int 0))) (qc (o3 ix3 (v3 5) (c3 (.int 1))) qh))))) qT))) (ze (c3 .non)))
noncomputable def ZG (S_all_factors : Sp3) (S_first_bar : Sp3) : TS3 := (qK (zz (Zo qh) (gn3 2)) (qK (YT (YM (cb3 S_all_factors (qc (v3 0) qh))) (gn3 3) (qK (zz (cb3 S_first_bar (qc (v3 0) (qc (v3 3) (qc (v3 1) qh)))) (gn3 4)) (qK (jX (tb3 (o3 (Mc false) (v3 4) (c3 .non))) (ze (Q0 (qc (c3 (.str "skew")) (qc (o3 ix3 (v3 3) (c3 (.int 0))) (qc (o3 ix3 (v3 3) (c3 (.int 1))) qh))))) qT) (Vf (bm3 CO (v3 2) (qc (v3 4) qh)))))) (ze (Q0 (qc (c3 (.str "none")) (qc (v3 2) qh))))))
noncomputable def jy : TS3 := (ze (lc3 (YM (v3 0)) (Jx 2 (zf (gn3 0) (zf (gn3 1) J9))) tt3 (o3 (iC (fun _ j => 0 < j) (· % ·)) (o3 je (o3 (iC Qm (· * ·)) (v3 3) (v3 0)) (o3 (iC Qm (· * ·)) (v3 4) (v3 1))) (v3 2)) [none,none,some 1,some 2,some 3]))
noncomputable def QQ (S_law_pick : Sp3) (S_law_walk : Sp3) : TS3 := (ze (lc3 (zW (qc (o3 ix3 (Zo (qc (c3 (.int 1)) (qc (c3 (.int 2)) (qc (c3 (.int 2)) (qc (c3 (.int 3)) (qc (c3 (.int 3)) (qc (c3 (.int 4)) (qc (c3 (.int 5)) (qc (c3 (.int 0)) qh))))))))) (cb3 S_law_pick (qc (v3 0) (qc (c3 (.int 8)) qh)))) qh)) (gn3 0) tt3 (cb3 S_law_walk (qc (v3 1) qh)) [none,some 0]))
theorem Ee {ns : List Int} (h : ¬ Un2 ns ns.length) : ∃ i j,Fst ns i j := by
 have key : ∀ k,k ≤ ns.length → Un2 ns k ∨ ∃ i j,Fst ns i j := by
  intro k
  induction k with
  | zero => exact fun _ => .inl fun a b ha => by omega
  | succ k ih =>
   intro hk
   rcases ih (by omega) with hu | he
   ·have inner : ∀ n,(∀ b,k < b → b < k + 1 + n → b < ns.length → ns[k]? ≠ ns[b]?) ∨ ∃ j,Fst ns k j := by
     intro n
     induction n with
     | zero => exact .inl fun b h1 h2 => by omega
     | succ n ihn =>
      rcases ihn with hn | he
      ·by_cases hb : k + 1 + n < ns.length∧ns[k]? = ns[k + 1 + n]?
       ·exact .inr ⟨k + 1 + n,by omega,hb.1,hu,fun b h1 h2 => hn b h1 h2 (by omega),hb.2⟩
       ·refine .inl fun b h1 h2 h3 => ?_
        by_cases e : b = k + 1 + n
        ·subst e;exact fun z => hb ⟨h3,z⟩
        ·exact hn b h1 (by omega) h3
      ·exact .inr he
    rcases inner ns.length with hn | ⟨j,F⟩
    ·refine .inl fun a b ha hab hb => ?_
     by_cases e : a = k
     ·subst e;exact hn b hab (by omega) hb
     ·exact hu a b (by omega) hab hb
    ·exact .inr ⟨k,j,F⟩
   ·exact .inr he
 rcases key ns.length (Nat.le_refl _) with hu | he
 ·exact absurd hu h
 ·exact he
end Bk
namespace Bk
open PySem L2 L3
end Bk
namespace Bk
open PySem L2 L3
end Bk
namespace Bk
open PySem L2 L3
end Bk
namespace Bk
open PySem L2 L3
end Bk
namespace Pu
open PySem L2 L3
noncomputable def cif {α : Type} (P : Prop) (a b : α) : α := @ite α P (Classical.propDecidable P) a b
theorem zF {α : Type} {P : Prop} {a b : α} (h : P) : cif P a b = a := @if_pos P (Classical.propDecidable P) h α a b
theorem Dw {α : Type} {P : Prop} {a b : α} (h : ¬ P) : cif P a b = b := @if_neg P (Classical.propDecidable P) h α a b
structure Tru (b : Bool) : Prop where
 h : b = true
mutual
inductive Dq (G : Gp) : T → PyData → Prop
 | non : Dq G .non .none
 | bl (b : Bool) : Dq G (.bl b) (.bool b)
 | int (i : Int) : Dq G (.int i) (.int i)
 | str (x : Str) : Dq G (.str x) (.str x)
 | tup {xs : List T} {ds : List PyData} : Dqs G xs ds → Dq G (.tup xs) (.tuple ds)
 | lst {p : Addr} {xs : List T} {ds : List PyData} : G p = some (.lst xs) → Dqs G xs ds → Dq G (.ref p) (.list ds)
inductive Dqs (G : Gp) : List T → List PyData → Prop
 | nil : Dqs G [] []
 | cons {x : T} {d : PyData} {xs : List T} {ds : List PyData} : Dq G x d → Dqs G xs ds → Dqs G (x :: xs) (d :: ds)
end
mutual
theorem Dq.up {G G' : Gp} (e : Ex G G') : ∀ {x : T} {d : PyData},Dq G x d → Dq G' x d
 | _,_,.non => .non
 | _,_,.bl b => .bl b
 | _,_,.int i => .int i
 | _,_,.str x => .str x
 | _,_,.tup h => .tup (Dqs.up e h)
 | _,_,.lst h1 h2 => .lst (e _ _ h1) (Dqs.up e h2)
theorem Dqs.up {G G' : Gp} (e : Ex G G') : ∀ {x : List T} {d : List PyData},Dqs G x d → Dqs G' x d
 | _,_,.nil => .nil
 | _,_,.cons a b => .cons (Dq.up e a) (Dqs.up e b)
end
theorem zQ {G : Gp} {p : Addr} {xs : List T} (h : G p = some (.lst xs)) : getL G p = some xs := by unfold getL;rw [h]
mutual
theorem Dq.dp {G : Gp} : ∀ {x : T} {d : PyData},Dq G x d → Dp G x d
 | _,_,.non => .non
 | _,_,.bl b => .bl b
 | _,_,.int i => .int i
 | _,_,.str x => .str x
 | _,_,.tup h => .tup (Dqs.dp h)
 | _,_,.lst h1 h2 => .lst (zQ h1) (Dqs.dp h2)
theorem Dqs.dp {G : Gp} : ∀ {x : List T} {d : List PyData},Dqs G x d → Dps G x d
 | _,_,.nil => .nil
 | _,_,.cons a b => .cons (Dq.dp a) (Dqs.dp b)
end
theorem Dqs.length {G : Gp} : ∀ {xs : List T} {ds : List PyData},Dqs G xs ds → xs.length = ds.length
 | _,_,.nil => rfl
 | _,_,.cons _ b => by simp [Dqs.length b]
theorem Dqs.get {G : Gp} : ∀ {xs : List T} {ds : List PyData} {i : Nat} {d : PyData},Dqs G xs ds → ds[i]? = some d → ∃ x,xs[i]? = some x∧Dq G x d
 | _,_,_,_,.nil,e => by simp at e
 | _,_,0,_,.cons r _,e => by simp at e;subst e;exact ⟨_,rfl,r⟩
 | _,_,i + 1,d,.cons _ t,e => by
  obtain ⟨u,h1,h2⟩ := Dqs.get (i := i) (d := d) t (by simpa using e)
  exact ⟨u,by simpa using h1,h2⟩
theorem Dqs.append {G : Gp} : ∀ {xs : List T} {ds : List PyData} {ys : List T} {es : List PyData},Dqs G xs ds → Dqs G ys es → Dqs G (xs ++ ys) (ds ++ es)
 | _,_,_,_,.nil,h => h
 | _,_,_,_,.cons a b,h => .cons a (Dqs.append b h)
theorem Dqs.drop {G : Gp} : ∀ {xs : List T} {ds : List PyData} (n : Nat),Dqs G xs ds → Dqs G (xs.drop n) (ds.drop n)
 | _,_,0,h => h
 | _,_,_ + 1,.nil => .nil
 | _,_,n + 1,.cons _ b => Dqs.drop n b
theorem Dqs.take {G : Gp} : ∀ {xs : List T} {ds : List PyData} (n : Nat),Dqs G xs ds → Dqs G (xs.take n) (ds.take n)
 | _,_,0,h => by simp;exact .nil
 | _,_,_ + 1,.nil => .nil
 | _,_,n + 1,.cons a b => .cons a (Dqs.take n b)
theorem Dqs.rev {G : Gp} : ∀ {xs : List T} {ds : List PyData},Dqs G xs ds → Dqs G xs.reverse ds.reverse
 | _,_,.nil => .nil
 | _,_,.cons a b => by simp only [List.reverse_cons];exact (Dqs.rev b).append (.cons a .nil)
theorem Dqs.ints {G : Gp} : ∀ {ns : List Int} {xs : List T},Dqs G xs (ns.map PyData.int) → xs = ns.map T.int
 | [],_,.nil => rfl
 | n :: ns,_,.cons a b => by cases a;rw [Dqs.ints b];rfl
theorem Dqs.ofInts {G : Gp} : ∀ (ns : List Int),Dqs G (ns.map T.int) (ns.map PyData.int)
 | [] => .nil
 | n :: r => .cons (.int n) (Dqs.ofInts r)
noncomputable def rs (D : Addr → Prop) (G : Gp) : Gp := fun b => cif (D b) none (G b)
theorem q0 {D : Addr → Prop} {G : Gp} {b : Addr} {o : O} (h : rs D G b = some o) : ¬ D b∧G b = some o := by
 unfold rs cif at h
 split at h
 ·cases h
 ·rename_i n;exact ⟨n,h⟩
theorem jA {D : Addr → Prop} {G : Gp} {b : Addr} (n : ¬ D b) : rs D G b = G b := by unfold rs;exact Dw n
theorem Zz {D : Addr → Prop} {G : Gp} : Ex (rs D G) G := fun b o h => (q0 h).2
theorem ji {D : Addr → Prop} {G G' : Gp} (e : Ex G G') : Ex (rs D G) (rs D G') := fun b o h => by
 obtain ⟨n,h⟩ := q0 h
 rw [jA n];exact e _ _ h
theorem zt {D D' : Addr → Prop} {G : Gp} (h : ∀ b,D' b → D b) : Ex (rs D G) (rs D' G) := fun b o e => by
 obtain ⟨n,e⟩ := q0 e
 rw [jA fun z => n (h b z)];exact e
def Dom (D : Addr → Prop) (G : Gp) : Prop := ∀ b,D b → G b ≠ none
theorem Dom.up {D : Addr → Prop} {G G' : Gp} (h : Dom D G) (e : Ex G G') : Dom D G' := fun b d z => by
 cases g : G b with
 | none => exact h b d g
 | some o => rw [e _ _ g] at z;cases z
theorem M6 {D : Addr → Prop} {G : Gp} {p : Addr} {o : O} (hd : Dom D G) (hp : G p = none) : rs D (gu G p o) p = some o := by
 rw [jA fun z => hd p z hp,qD]
inductive Sl where
 | un | sh (d : PyData) | ow (ds : List PyData)
noncomputable abbrev Rho := List Sl
noncomputable def Sl.d : Sl → Option PyData
 | .un => none | .sh d => some d | .ow ds => some (.list ds)
noncomputable def vw (ρ : Rho) (i : Nat) : Option PyData := (ρ[i]?).bind Sl.d
def VB (fv : List Nat) (D : Addr → Prop) (G : Gp) (τ : St3) (ρ : Rho) : Prop := ∀ i ∈ fv,∀ d,vw ρ i = some d → ∃ t,τ[i]? = some (some t)∧Dq (rs D G) t d
theorem VB.up {fv : List Nat} {D : Addr → Prop} {G G' : Gp} {τ : St3} {ρ : Rho} (h : VB fv D G τ ρ) (e : Ex G G') : VB fv D G' τ ρ := fun i hi d hd =>
 let ⟨t,a,b⟩ := h i hi d hd;⟨t,a,b.up (ji e)⟩
theorem VB.l {fv gv : List Nat} {D : Addr → Prop} {G : Gp} {τ : St3} {ρ : Rho} (h : VB (fv ++ gv) D G τ ρ) : VB fv D G τ ρ := fun i hi => h i (by simp [hi])
theorem VB.r {fv gv : List Nat} {D : Addr → Prop} {G : Gp} {τ : St3} {ρ : Rho} (h : VB (fv ++ gv) D G τ ρ) : VB gv D G τ ρ := fun i hi => h i (by simp [hi])
def Nw (D : Addr → Prop) (G G' : Gp) (x : T) (d : PyData) : Prop := d = .none ∨ ∃ p xs ds,x = .ref p∧d = .list ds∧G p = none∧G' p = some (.lst xs)∧Dqs (rs (fun b => D b ∨ b = p) G') xs ds
theorem Nw.back {D : Addr → Prop} {G0 G G' : Gp} {x : T} {d : PyData} (h : Nw D G G' x d) (e : Ex G0 G) : Nw D G0 G' x d := by
 rcases h with h | ⟨p,xs,ds,a,b,c,r⟩
 ·exact .inl h
 refine .inr ⟨p,xs,ds,a,b,?_,r⟩
 cases z : G0 p with
 | none => rfl
 | some o => rw [e _ _ z] at c;cases c
structure PuE (t : TE3) where
 f : Rho → Option PyData
 fv : List Nat
 nw : Bool
 ok : ∀ {D τ ρ G} {q : Q3} {d},VB fv D G τ ρ → Dom D G → f ρ = some d → (∀ x G',Ex G G' → Dq (rs D G') x d → (nw = true → Nw D G G' x d) → q x G') → t τ G q
structure PuC (t : TT3) where
 f : Rho → Option Bool
 fv : List Nat
 ok : ∀ {D τ ρ G} {q : Bool → Gp → Prop} {k},VB fv D G τ ρ → Dom D G → f ρ = some k → (∀ G',Ex G G' → q k G') → t τ G q
structure PuA (t : TA3) where
 f : Rho → Option (List PyData)
 fv : List Nat
 n : Nat
 ln : ∀ {ρ d},f ρ = some d → d.length = n
 ok : ∀ {D τ ρ G} {q : List T → Gp → Prop} {d},VB fv D G τ ρ → Dom D G → f ρ = some d → (∀ x G',Ex G G' → Dqs (rs D G') x d → q x G') → t τ G q
structure PuO (t : TO3) where
 f : Rho → Option (Option Int)
 fv : List Nat
 ok : ∀ {D τ ρ G} {q : Option Int → Gp → Prop} {k},VB fv D G τ ρ → Dom D G → f ρ = some k → (∀ G',Ex G G' → q k G') → t τ G q
structure PuI (t : TI3) where
 f : Rho → Option (List PyData)
 fv : List Nat
 /-- numbers alone -/
 nm : Bool
 ok : ∀ {D τ ρ G} {r : List T → (Gp → Prop) → Gp → Prop} {ds},VB fv D G τ ρ → Dom D G → f ρ = some ds →
  (∀ items stay G',Ex G G' → Dqs (rs D G') items ds → (∀ G'',(nm = true ∨ Ex (rs D G') G'') → stay G'') → (nm = true → ∃ ns : List Int,ds = ns.map PyData.int) → r items stay G') → t τ G r
structure OpD (r : R3) where
 f : PyData → PyData → Option PyData
 nw : Bool
 ok : ∀ {D G x y d e v} {q : Q3},Dq (rs D G) x d → Dq (rs D G) y e → Dom D G → f d e = some v → (∀ z G',Ex G G' → Dq (rs D G') z v → (nw = true → Nw D G G' z v) → q z G') → r x y G q
structure FnD (r : List T → Gp → Q3 → Prop) where
 f : List PyData → Option PyData
 nw : Bool
 ok : ∀ {D G xs ds v} {q : Q3},Dqs (rs D G) xs ds → Dom D G → f ds = some v → (∀ z G',Ex G G' → Dq (rs D G') z v → (nw = true → Nw D G G' z v) → q z G') → r xs G q
noncomputable def bV (i : Nat) : PuE (v3 i) := ⟨fun ρ => vw ρ i,[i],false,fun hv hd hf k => by
 obtain ⟨t,e,h⟩ := hv i (by simp) _ hf
 unfold v3
 rw [e]
 exact k t _ Ex.refl h (fun z => by cases z)⟩
noncomputable def qN (i : Int) : PuE (c3 (.int i)) := ⟨fun _ => some (.int i),[],false,fun hv hd hf k => by cases hf;exact k _ _ Ex.refl (.int i) (fun z => by cases z)⟩
noncomputable def bBl (i : Bool) : PuE (c3 (.bl i)) := ⟨fun _ => some (.bool i),[],false,fun hv hd hf k => by cases hf;exact k _ _ Ex.refl (.bl i) (fun z => by cases z)⟩
noncomputable def WG (i : Str) : PuE (c3 (.str i)) := ⟨fun _ => some (.str i),[],false,fun hv hd hf k => by cases hf;exact k _ _ Ex.refl (.str i) (fun z => by cases z)⟩
noncomputable def Rz : PuE (c3 .non) := ⟨fun _ => some .none,[],false,fun hv hd hf k => by cases hf;exact k _ _ Ex.refl .non (fun z => by cases z)⟩
noncomputable def bO {r : R3} {ta tb : TE3} (R : OpD r) (a : PuE ta) (b : PuE tb) : PuE (o3 r ta tb) :=
 ⟨fun ρ => (a.f ρ).bind fun x => (b.f ρ).bind fun y => R.f x y,a.fv ++ b.fv,R.nw,fun hv hd hf k => by
  obtain ⟨x,e1,hf⟩ := Option.bind_eq_some_iff.mp hf
  obtain ⟨y,e2,hf⟩ := Option.bind_eq_some_iff.mp hf
  exact a.ok hv.l hd e1 fun x' G1 E1 D1 _ => b.ok (hv.r.up E1) (hd.up E1) e2 fun y' G2 E2 D2 _ => R.ok (D1.up (ji E2)) D2 ((hd.up E1).up E2) hf fun z G3 E3 D3 N3 => k z G3 ((E1.trans E2).trans E3) D3 fun h => (N3 h).back (E1.trans E2)⟩
noncomputable def qw : PuA qh := ⟨fun _ => some [],[],0,(fun h => by cases h;rfl),fun hv hd hf k => by cases hf;exact k _ _ Ex.refl .nil⟩
noncomputable def qf {ta : TE3} {tr : TA3} (a : PuE ta) (r : PuA tr) : PuA (qc ta tr) :=
 ⟨fun ρ => (a.f ρ).bind fun x => (r.f ρ).bind fun xs => some (x :: xs),a.fv ++ r.fv,r.n + 1,(fun hf => by
  obtain ⟨x,e1,hf⟩ := Option.bind_eq_some_iff.mp hf
  obtain ⟨xs,e2,hf⟩ := Option.bind_eq_some_iff.mp hf
  cases hf
  simp [r.ln e2]),fun hv hd hf k => by
  obtain ⟨x,e1,hf⟩ := Option.bind_eq_some_iff.mp hf
  obtain ⟨xs,e2,hf⟩ := Option.bind_eq_some_iff.mp hf
  cases hf
  exact a.ok hv.l hd e1 fun x' G1 E1 D1 _ => r.ok (hv.r.up E1) (hd.up E1) e2 fun y' G2 E2 D2 => k _ G2 (E1.trans E2) (.cons (D1.up (ji E2)) D2)⟩
theorem few {n : Nat} (h : Tru (Nat.ble n 1000)) : n ≤ sizeLine := Nat.le_trans (Nat.le_of_ble_eq_true h.h) (by rw [sizeLine_eq];omega)
noncomputable def Vs {t : TA3} (a : PuA t) (hn : Tru (Nat.ble a.n 1000)) : PuE (Q0 t) := ⟨fun ρ => (a.f ρ).map .tuple,a.fv,false,fun hv hd hf k => by
 obtain ⟨xs,e1,rfl⟩ := Option.map_eq_some_iff.mp hf
 exact a.ok hv hd e1 fun x G1 E1 D1 => ⟨by rw [D1.length,a.ln e1];exact few hn,k _ _ E1 (.tup D1) (fun z => by cases z)⟩⟩
theorem YI {D : Addr → Prop} {G : Gp} {p : Addr} {xs : List T} {ds : List PyData} (hp : G p = none) (h : Dqs (rs D G) xs ds) : Nw D G (gu G p (.lst xs)) (.ref p) (.list ds) :=
 .inr ⟨p,xs,ds,rfl,rfl,hp,qD,h.up fun b o e => by
  obtain ⟨n,e⟩ := q0 e
  have : b ≠ p := by rintro rfl;rw [hp] at e;cases e
  rw [jA (by rintro (z | z);exact n z;exact this z),j9 this];exact e⟩
theorem Zk {D : Addr → Prop} {G : Gp} {p : Addr} {xs : List T} {ds : List PyData} (hd : Dom D G) (hp : G p = none) (h : Dqs (rs D G) xs ds) : Dq (rs D (gu G p (.lst xs))) (.ref p) (.list ds) :=
 .lst (M6 hd hp) (h.up (ji (jE hp)))
noncomputable def ED {t : TA3} (a : PuA t) (hn : Tru (Nat.ble a.n 1000)) : PuE (Zo t) := ⟨fun ρ => (a.f ρ).map .list,a.fv,true,fun hv hd hf k => by
 obtain ⟨xs,e1,rfl⟩ := Option.map_eq_some_iff.mp hf
 exact a.ok hv hd e1 fun x G1 E1 D1 => ⟨by rw [D1.length,a.ln e1];exact few hn,fun p hp => k _ _ (E1.trans (jE hp)) (Zk (hd.up E1) hp D1) fun _ => (YI hp D1).back E1⟩⟩
noncomputable def qH {r : List T → Gp → Q3 → Prop} {t : TA3} (R : FnD r) (a : PuA t) : PuE (cb3 r t) :=
 ⟨fun ρ => (a.f ρ).bind R.f,a.fv,R.nw,fun hv hd hf k => by
  obtain ⟨x,e1,hf⟩ := Option.bind_eq_some_iff.mp hf
  exact a.ok hv hd e1 fun x' G1 E1 D1 => R.ok D1 (hd.up E1) hf fun z G3 E3 D3 N3 => k z G3 (E1.trans E3) D3 fun h => (N3 h).back E1⟩
noncomputable def asB : PyData → Option Bool
 | .bool b => some b
 | _ => none
noncomputable def asI : PyData → Option Int
 | .int b => some b
 | _ => none
theorem DZ {d : PyData} {b : Bool} (h : asB d = some b) : d = .bool b := by cases d <;> simp [asB] at h;subst h;rfl
theorem SS {d : PyData} {b : Int} (h : asI d = some b) : d = .int b := by cases d <;> simp [asI] at h;subst h;rfl
noncomputable def bTb {t : TE3} (a : PuE t) : PuC (tb3 t) := ⟨fun ρ => (a.f ρ).bind asB,a.fv,fun hv hd hf k => by
 obtain ⟨x,e1,hf⟩ := Option.bind_eq_some_iff.mp hf
 have := DZ hf;subst this
 exact a.ok hv hd e1 fun x' G1 E1 D1 _ => by cases D1;exact k G1 E1⟩
noncomputable def bOr {t u : TT3} (a : PuC t) (b : PuC u) : PuC (or3 t u) := ⟨fun ρ => (a.f ρ).bind fun k => if k then some true else b.f ρ,a.fv ++ b.fv,fun hv hd hf k => by
 obtain ⟨x,e1,hf⟩ := Option.bind_eq_some_iff.mp hf
 refine a.ok hv.l hd e1 fun G1 E1 => ?_
 cases x with
 | false => exact b.ok (hv.r.up E1) (hd.up E1) hf fun G2 E2 => k G2 (E1.trans E2)
 | true => cases hf;exact k G1 E1⟩
noncomputable def CK {t : TT3} (a : PuC t) : PuC (D9 t) := ⟨fun ρ => (a.f ρ).map (! ·),a.fv,fun hv hd hf k => by
 obtain ⟨x,e1,hf⟩ := Option.map_eq_some_iff.mp hf
 subst hf
 exact a.ok hv hd e1 fun G1 E1 => k G1 E1⟩
noncomputable def bTt : PuC tt3 := ⟨fun _ => some true,[],fun hv hd hf k => by cases hf;exact k _ Ex.refl⟩
noncomputable def EV {ta tb : TE3} (a : PuE ta) (b : PuE tb) : PuE (JB ta tb) := ⟨fun ρ => ((a.f ρ).bind asB).bind fun k => if k then b.f ρ else some (.bool false),a.fv ++ b.fv,false,fun hv hd hf k => by
 obtain ⟨x,e1,hf⟩ := Option.bind_eq_some_iff.mp hf
 obtain ⟨y,e1,e2⟩ := Option.bind_eq_some_iff.mp e1
 have := DZ e2;subst this
 refine a.ok hv.l hd e1 fun x' G1 E1 D1 _ => ?_
 cases D1
 cases x with
 | true => exact b.ok (hv.r.up E1) (hd.up E1) hf fun z G2 E2 D2 _ => k z G2 (E1.trans E2) D2 (fun z => by cases z)
 | false => cases hf;exact k _ G1 E1 (.bl false) (fun z => by cases z)⟩
noncomputable def KK {ta : TE3} (a : PuE ta) : PuE (Ck ta) := ⟨fun ρ => ((a.f ρ).bind asB).map fun k => .bool (!k),a.fv,false,fun hv hd hf k => by
 obtain ⟨x,e1,hf⟩ := Option.map_eq_some_iff.mp hf
 obtain ⟨y,e1,e2⟩ := Option.bind_eq_some_iff.mp e1
 have := DZ e2;subst this
 subst hf
 refine a.ok hv hd e1 fun x' G1 E1 D1 _ => ?_
 cases D1
 exact k _ G1 E1 (.bl _) (fun z => by cases z)⟩
noncomputable def bIf {t : TT3} {ta tb : TE3} (c : PuC t) (a : PuE ta) (b : PuE tb) : PuE (if3 t ta tb) := ⟨fun ρ => (c.f ρ).bind fun k => if k then a.f ρ else b.f ρ,c.fv ++ (a.fv ++ b.fv),false,fun hv hd hf k => by
 obtain ⟨x,e1,hf⟩ := Option.bind_eq_some_iff.mp hf
 refine c.ok hv.l hd e1 fun G1 E1 => ?_
 cases x with
 | true => exact a.ok (hv.r.l.up E1) (hd.up E1) hf fun z G2 E2 D2 _ => k z G2 (E1.trans E2) D2 (fun z => by cases z)
 | false => exact b.ok (hv.r.r.up E1) (hd.up E1) hf fun z G2 E2 D2 _ => k z G2 (E1.trans E2) D2 (fun z => by cases z)⟩
noncomputable def qc8 {ta : TE3} (a : PuE ta) : PuE (u3 WC ta) := ⟨fun ρ => ((a.f ρ).bind asI).map fun i => .int (-i),a.fv,false,fun hv hd hf k => by
 obtain ⟨x,e1,hf⟩ := Option.map_eq_some_iff.mp hf
 obtain ⟨y,e1,e2⟩ := Option.bind_eq_some_iff.mp e1
 have := SS e2;subst this
 subst hf
 refine a.ok hv hd e1 fun x' G1 E1 D1 _ => ?_
 cases D1
 exact k _ G1 E1 (.int _) (fun z => by cases z)⟩
noncomputable def bCh {r r' : R3} {ta tb tc : TE3} (R : OpD r) (R' : OpD r') (a : PuE ta) (b : PuE tb) (c : PuE tc) : PuE (ch3 r r' ta tb tc) :=
 ⟨fun ρ => (a.f ρ).bind fun x => (b.f ρ).bind fun y => ((R.f x y).bind asB).bind fun k => if k then (c.f ρ).bind fun z => R'.f y z else some (.bool false),a.fv ++ (b.fv ++ c.fv),false,fun {D τ ρ G q d} hv hd hf k => by
  obtain ⟨x,e1,hf⟩ := Option.bind_eq_some_iff.mp hf
  obtain ⟨y,e2,hf⟩ := Option.bind_eq_some_iff.mp hf
  obtain ⟨j,e3,hf⟩ := Option.bind_eq_some_iff.mp hf
  obtain ⟨v,e3,e4⟩ := Option.bind_eq_some_iff.mp e3
  have := DZ e4;subst this
  refine a.ok hv.l hd e1 fun x' G1 E1 D1 _ => b.ok (hv.r.l.up E1) (hd.up E1) e2 fun y' G2 E2 D2 _ => R.ok (D1.up (ji E2)) D2 ((hd.up E1).up E2) e3 fun z G3 E3 D3 _ => ?_
  cases D3
  have E := (E1.trans E2).trans E3
  cases j with
  | true =>
   obtain ⟨w,e5,hf⟩ := Option.bind_eq_some_iff.mp hf
   exact c.ok (hv.r.r.up E) (hd.up E) e5 fun w' G4 E4 D4 _ => R'.ok ((D2.up (ji E3)).up (ji E4)) D4 ((hd.up E).up E4) hf fun u G5 E5 D5 _ => k u G5 ((E.trans E4).trans E5) D5 (fun z => by cases z)
  | false => cases hf;exact k _ G3 E (.bl false) (fun z => by cases z)⟩
noncomputable def tyD : PyData → Option String
 | .none => some "NoneType" | .bool _ => some "bool" | .int _ => some "int" | .str _ => some "str" | .tuple _ => some "tuple" | .list _ => some "list" | .dict _ => none
noncomputable def WD {ta : TE3} (g : String → Bool) (a : PuE ta) : PuE (ER g ta) := ⟨fun ρ => (a.f ρ).bind fun d => (tyD d).map fun t => .bool (g t),a.fv,false,fun hv hd hf k => by
 obtain ⟨x,e1,hf⟩ := Option.bind_eq_some_iff.mp hf
 obtain ⟨y,e2,hf⟩ := Option.map_eq_some_iff.mp hf
 subst hf
 refine a.ok hv hd e1 fun x' G1 E1 D1 _ => ?_
 have : tyT G1 x' = some y := by
  cases D1 with
  | lst h _ => have g := zQ (q0 h).2;simp [tyT,g];simpa [tyD] using e2
  | _ => simpa [tyT,tyD] using e2
 simp only [this]
 exact k _ G1 E1 (.bl _) (fun z => by cases z)⟩
noncomputable def bNp : PuO np3 := ⟨fun _ => some none,[],fun hv hd hf k => by cases hf;exact k _ Ex.refl⟩
noncomputable def bSp {t : TE3} (a : PuE t) : PuO (sp3 t) := ⟨fun ρ => ((a.f ρ).bind asI).map some,a.fv,fun hv hd hf k => by
 obtain ⟨x,e1,hf⟩ := Option.map_eq_some_iff.mp hf
 obtain ⟨y,e1,e2⟩ := Option.bind_eq_some_iff.mp e1
 have := SS e2;subst this
 subst hf
 refine a.ok hv hd e1 fun x' G1 E1 D1 _ => ?_
 cases D1
 exact k G1 E1⟩
theorem Dqs.cut {G : Gp} {xs : List T} {ds : List PyData} (h : Dqs G xs ds) (lo hi : Option Int) : Dqs G (ZP xs lo hi) (ZP ds lo hi) := by
 unfold ZP
 rw [h.length]
 exact (h.drop _).take _
noncomputable def slD (d : PyData) (lo hi : Option Int) : Option PyData := match d with
 | .tuple xs => cif (HT.sIx xs.length 0 lo = 0∧HT.sIx xs.length xs.length hi = xs.length) none (some (.tuple (ZP xs lo hi)))
 | .list xs => some (.list (ZP xs lo hi))
 | _ => none
noncomputable def bSl {te : TE3} {tl th : TO3} (a : PuE te) (l : PuO tl) (h : PuO th) : PuE (ET te tl th) := ⟨fun ρ => (a.f ρ).bind fun d => (l.f ρ).bind fun lo => (h.f ρ).bind fun hi => slD d lo hi,a.fv ++ (l.fv ++ h.fv),false,fun hv hd hf k => by
 obtain ⟨d,e1,hf⟩ := Option.bind_eq_some_iff.mp hf
 obtain ⟨lo,e2,hf⟩ := Option.bind_eq_some_iff.mp hf
 obtain ⟨hi,e3,hf⟩ := Option.bind_eq_some_iff.mp hf
 refine a.ok hv.l hd e1 fun x' G1 E1 D1 _ => l.ok (hv.r.l.up E1) (hd.up E1) e2 fun G2 E2 => h.ok (hv.r.r.up (E1.trans E2)) (hd.up (E1.trans E2)) e3 fun G3 E3 => ?_
 have E := (E1.trans E2).trans E3
 have D3 := (D1.up (ji E2)).up (ji E3)
 unfold slD at hf
 cases D3 with
 | tup hs =>
  simp only [cif] at hf
  split at hf
  ·cases hf
  ·rename_i n
   cases hf
   exact ⟨by rw [hs.length];exact n,k _ _ E (.tup (hs.cut _ _)) (fun z => by cases z)⟩
 | lst g hs =>
  simp only at hf
  cases hf
  simp only [sl3,zQ (q0 g).2]
  intro p hp
  exact k _ _ (E.trans (jE hp)) (Zk (hd.up E) hp (hs.cut _ _)) (fun z => by cases z)
 | _ => simp at hf⟩
end Pu
namespace Pu
open PySem L2 L3
noncomputable def cI (C : Int → Int → Prop) (g : Int → Int → Int) (d e : PyData) : Option PyData := match d,e with | .int i,.int j => cif (C i j) (some (.int (g i j))) none | _,_ => none
noncomputable def opC (C : Int → Int → Prop) (g : Int → Int → Int) : OpD (iC C g) := ⟨cI C g,false,fun {D G x y d e v q} hx hy hd hf k => by
 unfold cI at hf
 cases hx <;> try (simp at hf;done)
 cases hy <;> try (simp at hf;done)
 simp only [cif] at hf
 split at hf
 ·rename_i c
  cases hf
  exact ⟨c,k _ _ Ex.refl (.int _) (fun z => by cases z)⟩
 ·cases hf⟩
noncomputable def opB (g : Int → Int → Bool) : OpD (iB g) := ⟨fun d e => match d,e with | .int i,.int j => some (.bool (g i j)) | _,_ => none,false,fun {D G x y d e v q} hx hy hd hf k => by
 cases hx <;> try (simp at hf;done)
 cases hy <;> try (simp at hf;done)
 cases hf
 exact k _ _ Ex.refl (.bl _) (fun z => by cases z)⟩
noncomputable def RJ : PyData → PyData → Option Bool
 | .none,.none => some true | .none,.int _ => some false | .int _,.none => some false | .none,.bool _ => some false | .bool _,.none => some false | .none,.str _ => some false | .str _,.none => some false
 | .int i,.int j => some (decide (i = j)) | .bool i,.bool j => some (decide (i = j)) | .str i,.str j => some (decide (i = j))
 | .int _,.str _ => some false | .str _,.int _ => some false | .bool _,.str _ => some false | .str _,.bool _ => some false
 | _,_ => none
theorem Ci {G : Gp} {x y : T} {d e : PyData} (hx : Dq G x d) (hy : Dq G y e) : Uf x y = RJ d e := by
 cases hx <;> cases hy <;> rfl
noncomputable def eqD (neg : Bool) (d e : PyData) : Option PyData := match RJ d e with
 | some k => some (.bool (if neg then !k else k))
 | none => cif (dpt d ≤ 40∧dpt d ≠ 0) ((Q1 d e).map fun b => .bool (if neg then !b else b)) none
noncomputable def JP (neg : Bool) : OpD (Qb neg) := ⟨eqD neg,false,fun {D G x y d e v q} hx hy hd hf k => by
 unfold Qb
 rw [Ci hx hy]
 unfold eqD at hf
 cases h : RJ d e with
 | some b => rw [h] at hf;cases hf;exact k _ _ Ex.refl (.bl _) (fun z => by cases z)
 | none =>
  rw [h] at hf
  simp only [cif] at hf ⊢
  split at hf
  ·rename_i c
   obtain ⟨b,e1,rfl⟩ := Option.map_eq_some_iff.mp hf
   exact ⟨d,e,b,(hx.up Zz).dp,(hy.up Zz).dp,e1,c.1,c.2,k _ _ Ex.refl (.bl _) (fun z => by cases z)⟩
  ·cases hf⟩
noncomputable def MW (neg : Bool) (d e : PyData) : Option PyData := match e with | .none => some (.bool (match d with | .none => !neg | _ => neg)) | _ => none
noncomputable def Lx (neg : Bool) : OpD (Mc neg) := ⟨MW neg,false,fun {D G x y d e v q} hx hy hd hf k => by
 unfold MW at hf
 cases hy <;> try (simp at hf;done)
 cases hf
 unfold Mc
 cases hx <;> exact k _ _ Ex.refl (.bl _) (fun z => by cases z)⟩
noncomputable def ixD (d e : PyData) : Option PyData := match d,e with
 | .tuple xs,.int i => atI xs i
 | .list xs,.int i => atI xs i
 | _,_ => none
theorem Dqs.atI {G : Gp} {xs : List T} {ds : List PyData} {i : Int} {d : PyData} (h : Dqs G xs ds) (e : L2.atI ds i = some d) : ∃ x,L2.atI xs i = some x∧Dq G x d := by
 unfold L2.atI at e ⊢
 rw [h.length]
 obtain ⟨j,e1,e2⟩ := Option.bind_eq_some_iff.mp e
 obtain ⟨x,hx,r⟩ := h.get e2
 exact ⟨x,by rw [e1];exact hx,r⟩
noncomputable def Qe : OpD ix3 := ⟨ixD,false,fun {D G x y d e v q} hx hy hd hf k => by
 unfold ixD at hf
 cases hx with
 | tup hs =>
  cases hy <;> try (simp at hf;done)
  obtain ⟨x,e1,r⟩ := hs.atI hf
  simp only [ix3,e1]
  exact k _ _ Ex.refl r (fun z => by cases z)
 | lst g hs =>
  cases hy <;> try (simp at hf;done)
  obtain ⟨x,e1,r⟩ := hs.atI hf
  simp only [ix3,zQ (q0 g).2,e1]
  exact k _ _ Ex.refl r (fun z => by cases z)
 | _ => simp at hf⟩
noncomputable def Ma (d e : PyData) : Option PyData := match d,e with
 | .tuple xs,.tuple ys => cif (xs ≠ []∧xs.length + ys.length ≤ sizeLine) (some (.tuple (xs ++ ys))) none
 | .list xs,.list ys => cif (xs.length + ys.length ≤ sizeLine) (some (.list (xs ++ ys))) none
 | .int i,.int j => some (.int (i + j))
 | _,_ => none
noncomputable def Zp : OpD je := ⟨Ma,false,fun {D G x y d e v q} hx hy hd hf k => by
  unfold Ma at hf
  cases hx with
  | int i => cases hy <;> try (simp at hf;done)
             cases hf
             exact k _ _ Ex.refl (.int _) (fun z => by cases z)
  | tup hs =>
    cases hy <;> try (simp at hf;done)
    rename_i hs2
    simp only [cif] at hf
    split at hf
    · rename_i c
      cases hf
      refine ⟨?_,by rw [hs.length,hs2.length];exact c.2,k _ _ Ex.refl (.tup (hs.append hs2)) (fun z => by cases z)⟩
      rintro rfl
      cases hs
      exact c.1 rfl
    · cases hf
  | lst g hs =>
    cases hy <;> try (simp at hf;done)
    rename_i g2 hs2
    simp only [cif] at hf
    split at hf
    · rename_i c
      cases hf
      simp only [je,(q0 g).2,(q0 g2).2]
      exact ⟨by rw [hs.length,hs2.length];exact c,fun p hp => k _ _ (jE hp) (Zk hd hp (hs.append hs2)) (fun z => by cases z)⟩
    · cases hf
  | _ => simp at hf⟩
noncomputable def qbc (d e : PyData) : Option PyData := match d,e with
 | .list xs,.list ys => cif (xs.length + ys.length ≤ sizeLine) (some (.list (xs ++ ys))) none
 | _,_ => none
noncomputable def UL : OpD je := ⟨qbc,true,fun {D G x y d e v q} hx hy hd hf k => by
 unfold qbc at hf
 cases hx with
 | lst g hs =>
  cases hy <;> try (simp at hf;done)
  rename_i g2 hs2
  simp only [cif] at hf
  split at hf
  ·rename_i c
   cases hf
   simp only [je,(q0 g).2,(q0 g2).2]
   exact ⟨by rw [hs.length,hs2.length];exact c,fun p hp => k _ _ (jE hp) (Zk hd hp (hs.append hs2)) fun _ => YI hp (hs.append hs2)⟩
  ·cases hf
 | _ => simp at hf⟩
noncomputable def KL : List PyData → Option PyData
 | [.tuple xs] => some (.int xs.length)
 | [.list xs] => some (.int xs.length)
 | _ => none
noncomputable def Eh : FnD JO := ⟨KL,false,fun {D G xs ds v q} hx hd hf k => by
 unfold KL at hf
 split at hf
 ·cases hx with
  | cons a b => cases b;cases a;rename_i hs;cases hf;simp only [JO];rw [hs.length];exact k _ _ Ex.refl (.int _) (fun z => by cases z)
 ·cases hx with
  | cons a b => cases b;cases a;rename_i g hs;cases hf;simp only [JO,zQ (q0 g).2];rw [hs.length];exact k _ _ Ex.refl (.int _) (fun z => by cases z)
 ·cases hf⟩
noncomputable def qdl : List PyData → Option PyData
 | [.int i] => some (.int i)
 | [.bool k] => some (.int (if k then 1 else 0))
 | _ => none
noncomputable def qgj : FnD Wu := ⟨qdl,false,fun {D G xs ds v q} hx hd hf k => by
 unfold qdl at hf
 split at hf
 ·cases hx with
  | cons a b => cases b;cases a;cases hf;exact k _ _ Ex.refl (.int _) (fun z => by cases z)
 ·cases hx with
  | cons a b => cases b;cases a;cases hf;exact k _ _ Ex.refl (.int _) (fun z => by cases z)
 ·cases hf⟩
noncomputable def qdb : List PyData → Option PyData
 | [.tuple xs] => some (.tuple xs)
 | [.list xs] => some (.tuple xs)
 | _ => none
noncomputable def qde : FnD Jq := ⟨qdb,false,fun {D G xs ds v q} hx hd hf k => by
 unfold qdb at hf
 split at hf
 ·cases hx with
  | cons a b => cases b;cases a;rename_i hs;cases hf;exact k _ _ Ex.refl (.tup hs) (fun z => by cases z)
 ·cases hx with
  | cons a b => cases b;cases a;rename_i g hs;cases hf;simp only [Jq,zQ (q0 g).2];exact k _ _ Ex.refl (.tup hs) (fun z => by cases z)
 ·cases hf⟩
noncomputable def qca : List PyData → Option PyData
 | [.tuple xs] => some (.list xs)
 | [.list xs] => some (.list xs)
 | _ => none
noncomputable def LY : FnD Um := ⟨qca,true,fun {D G xs ds v q} hx hd hf k => by
 unfold qca at hf
 split at hf
 ·cases hx with
  | cons a b => cases b;cases a;rename_i hs;cases hf;exact fun p hp => k _ _ (jE hp) (Zk hd hp hs) fun _ => YI hp hs
 ·cases hx with
  | cons a b => cases b;cases a;rename_i g hs;cases hf;simp only [Um,zQ (q0 g).2];exact fun p hp => k _ _ (jE hp) (Zk hd hp hs) fun _ => YI hp hs
 ·cases hf⟩
noncomputable def W8 : List PyData → Option (List Bool)
 | [] => some []
 | .bool i :: r => (W8 r).map (i :: ·)
 | _ => none
theorem RA (ns : List Bool) : W8 (ns.map PyData.bool) = some ns := by
 induction ns with
 | nil => rfl
 | cons n r ih => simp [W8,ih]
theorem CG {G : Gp} : ∀ {xs : List T} {ds : List PyData} {ns : List Bool},Dqs G xs ds → W8 ds = some ns → Md xs = some (ns.all id)∧qd5 xs = some (ns.any id)
 | _,_,_,.nil,h => by simp [W8] at h;subst h;exact ⟨rfl,rfl⟩
 | _,.bool i :: r,ns,.cons a b,h => by
  simp only [W8] at h
  obtain ⟨ms,e,rfl⟩ := Option.map_eq_some_iff.mp h
  obtain ⟨h1,h2⟩ := CG b e
  cases a
  simp [Md,qd5,h1,h2]
 | _,.int _ :: r,ns,_,h => by simp [W8] at h
 | _,.none :: r,ns,_,h => by simp [W8] at h
 | _,.str _ :: r,ns,_,h => by simp [W8] at h
 | _,.list _ :: r,ns,_,h => by simp [W8] at h
 | _,.tuple _ :: r,ns,_,h => by simp [W8] at h
 | _,.dict _ :: r,ns,_,h => by simp [W8] at h
noncomputable def MU : List PyData → Option PyData
 | [.list xs] => (W8 xs).map fun ns => .bool (ns.all id)
 | _ => none
noncomputable def qc4 : FnD WE := ⟨MU,false,fun {D G xs ds v q} hx hd hf k => by
 unfold MU at hf
 split at hf
 ·obtain ⟨ns,e,rfl⟩ := Option.map_eq_some_iff.mp hf
  cases hx with
  | cons a b => cases b;cases a;rename_i g hs;simp only [WE,zQ (q0 g).2,(CG hs e).1];exact k _ _ Ex.refl (.bl _) (fun z => by cases z)
 ·cases hf⟩
noncomputable def PSp (F : List PyData → Option PyData) (fr : Bool) : Sp3 := fun ts G q => ∃ (D : Addr → Prop) (ds : List PyData) (d : PyData),Dqs (rs D G) ts ds∧Dom D G∧F ds = some d∧∀ x G',Ex G G' → Dq (rs D G') x d → (fr = true → Nw D G G' x d) → q x G'
noncomputable def j6 (F : List PyData → Option PyData) (fr : Bool) : FnD (PSp F fr) := ⟨F,fr,fun {D G xs ds v q} hx hd hf k => ⟨D,ds,v,hx,hd,hf,k⟩⟩
noncomputable def W2 : PyData → Option (List PyData)
 | .tuple xs => some xs
 | .list xs => some xs
 | _ => none
noncomputable def RQ {t : TE3} (a : PuE t) : PuI (YM t) := ⟨fun ρ => (a.f ρ).bind W2,a.fv,false,fun {D τ ρ G r ds} hv hd hf k => by
 obtain ⟨d,e1,hf⟩ := Option.bind_eq_some_iff.mp hf
 refine a.ok hv hd e1 fun x G1 E1 D1 _ => ?_
 unfold W2 at hf
 cases D1 with
 | tup hs => cases hf;exact k _ _ _ E1 hs (fun _ _ => trivial) (fun z => by cases z)
 | lst g hs =>
  cases hf
  simp only [zQ (q0 g).2]
  refine k _ _ _ E1 hs (fun G2 h => ?_) (fun z => by cases z)
  rcases h with h | h
  ·cases h
  ·exact zQ (h _ _ g)
 | _ => simp at hf⟩
noncomputable def jW (lo : Int) (n : Nat) : List Int := (List.range n).map fun (i : Nat) => lo + (i : Int)
theorem DU (lo : Int) (n : Nat) : Wr lo n = (jW lo n).map T.int := by simp [Wr,jW,List.map_map,Function.comp_def]
noncomputable def CM : List PyData → Option (List PyData)
 | [.int j] => cif (-(2 ^ 62) ≤ j∧j < 2 ^ 62) (some ((jW 0 j.toNat).map PyData.int)) none
 | [.int i,.int j] => cif (-(2 ^ 62) ≤ i∧i < 2 ^ 62∧-(2 ^ 62) ≤ j∧j < 2 ^ 62) (some ((jW i (j - i).toNat).map PyData.int)) none
 | _ => none
noncomputable def UB {t : TA3} (a : PuA t) : PuI (zW t) := ⟨fun ρ => (a.f ρ).bind CM,a.fv,true,fun {D τ ρ G r ds} hv hd hf k => by
 obtain ⟨d,e1,hf⟩ := Option.bind_eq_some_iff.mp hf
 refine a.ok hv hd e1 fun x G1 E1 D1 => ?_
 unfold CM at hf
 split at hf
 ·unfold cif at hf
  split at hf
  ·rename_i c
   cases hf
   cases D1 with
   | cons a b => cases b;cases a;simp only;rw [DU];exact ⟨c,k _ _ _ E1 (Dqs.ofInts _) (fun _ _ => trivial) fun _ => ⟨_,rfl⟩⟩
  ·cases hf
 ·unfold cif at hf
  split at hf
  ·rename_i c
   cases hf
   cases D1 with
   | cons a b => cases b with
    | cons b c' => cases c';cases a;cases b;simp only;rw [DU];exact ⟨c,k _ _ _ E1 (Dqs.ofInts _) (fun _ _ => trivial) fun _ => ⟨_,rfl⟩⟩
  ·cases hf
 ·cases hf⟩
noncomputable def Kh (us vs : List PyData) : List PyData := (us.zip vs).map fun p => .tuple [p.1,p.2]
theorem Dqs.zip {G : Gp} : ∀ {xs : List T} {ds : List PyData} {ys : List T} {es : List PyData},Dqs G xs ds → Dqs G ys es → Dqs G (Rs xs ys) (Kh ds es)
 | _,_,_,_,.nil,_ => by simp [Rs,Kh];exact .nil
 | _,_,_,_,.cons _ _,.nil => by simp [Rs,Kh];exact .nil
 | _,_,_,_,.cons a b,.cons c d => .cons (.tup (.cons a (.cons c .nil))) (Dqs.zip b d)
theorem Ud {G : Gp} {x : T} {d : PyData} {ds : List PyData} (h : Dq G x d) (e : W2 d = some ds) : ∃ us,Qu G x = some us∧Dqs G us ds := by
 unfold W2 at e
 cases h with
 | tup hs => cases e;exact ⟨_,rfl,hs⟩
 | lst g hs => cases e;exact ⟨_,zQ g,hs⟩
 | _ => simp at e
theorem VI {G G' : Gp} {x : T} {us : List T} (e : Ex G G') (h : Qu G x = some us) : Qu G' x = some us := by
 cases x with
 | tup xs => exact h
 | ref p => exact e.getL h
 | _ => cases h
noncomputable def qg3 {t : TA3} (a : PuA t) : PuI (RK t) := ⟨fun ρ => (a.f ρ).bind fun ds => match ds with | [d,e] => (W2 d).bind fun us => (W2 e).bind fun vs => some (Kh us vs) | _ => none,a.fv,false,fun {D τ ρ G r ds} hv hd hf k => by
 obtain ⟨d,e1,hf⟩ := Option.bind_eq_some_iff.mp hf
 refine a.ok hv hd e1 fun x G1 E1 D1 => ?_
 split at hf
 ·obtain ⟨us,e2,hf⟩ := Option.bind_eq_some_iff.mp hf
  obtain ⟨vs,e3,hf⟩ := Option.bind_eq_some_iff.mp hf
  cases hf
  cases D1 with
  | cons a b => cases b with
   | cons b c =>
    cases c
    obtain ⟨us',h1,h2⟩ := Ud a e2
    obtain ⟨vs',h3,h4⟩ := Ud b e3
    simp only [VI Zz h1,VI Zz h3]
    refine k _ _ _ E1 (h2.zip h4) (fun G2 h => ?_) (fun z => by cases z)
    rcases h with h | h
    ·cases h
    ·exact ⟨VI h h1,VI h h3⟩
 ·cases hf⟩
noncomputable def enD (k : Nat) : List PyData → List PyData
 | [] => []
 | x :: r => .tuple [.int (k : Int),x] :: enD (k + 1) r
theorem Dqs.enum {G : Gp} : ∀ {xs : List T} {ds : List PyData} (k : Nat),Dqs G xs ds → Dqs G (jL k xs) (enD k ds)
 | _,_,_,.nil => .nil
 | _,_,k,.cons a b => .cons (.tup (.cons (.int _) (.cons a .nil))) (Dqs.enum (k + 1) b)
noncomputable def XF {t : TA3} (a : PuA t) : PuI (VS t) := ⟨fun ρ => (a.f ρ).bind fun ds => match ds with | [d] => (W2 d).map fun us => enD 0 us | _ => none,a.fv,false,fun {D τ ρ G r ds} hv hd hf k => by
 obtain ⟨d,e1,hf⟩ := Option.bind_eq_some_iff.mp hf
 refine a.ok hv hd e1 fun x G1 E1 D1 => ?_
 split at hf
 ·obtain ⟨us,e2,rfl⟩ := Option.map_eq_some_iff.mp hf
  cases D1 with
  | cons a b =>
   cases b
   obtain ⟨us',h1,h2⟩ := Ud a e2
   simp only [VI Zz h1]
   refine k _ _ _ E1 (h2.enum 0) (fun G2 h => ?_) (fun z => by cases z)
   rcases h with h | h
   ·cases h
   ·exact VI h h1
 ·cases hf⟩
inductive Bd (H : Gp) : List (Nat × T) → List (Nat × PyData) → Prop
 | nil : Bd H [] []
 | cons {i : Nat} {x : T} {d : PyData} {ts : List (Nat × T)} {bs : List (Nat × PyData)} : Dq H x d → Bd H ts bs → Bd H ((i,x) :: ts) ((i,d) :: bs)
theorem Bd.append {H : Gp} : ∀ {ts : List (Nat × T)} {bs : List (Nat × PyData)} {us : List (Nat × T)} {cs : List (Nat × PyData)},Bd H ts bs → Bd H us cs → Bd H (ts ++ us) (bs ++ cs)
 | _,_,_,_,.nil,h => h
 | _,_,_,_,.cons a b,h => .cons a (Bd.append b h)
theorem Bd.up {H H' : Gp} (e : Ex H H') : ∀ {ts : List (Nat × T)} {bs : List (Nat × PyData)},Bd H ts bs → Bd H' ts bs
 | _,_,.nil => .nil
 | _,_,.cons a b => .cons (a.up e) (Bd.up e b)
noncomputable def sets : St3 → List (Nat × T) → St3
 | τ,[] => τ
 | τ,p :: r => sets (τ.set p.1 (some p.2)) r
noncomputable def j4 : Rho → List (Nat × PyData) → Rho
 | ρ,[] => ρ
 | ρ,p :: r => j4 (ρ.set p.1 (.sh p.2)) r
theorem DB : ∀ (τ : St3) (a b : List (Nat × T)),sets τ (a ++ b) = sets (sets τ a) b
 | τ,[],b => rfl
 | τ,p :: a,b => by simp only [List.cons_append,sets];exact DB _ a b
structure PuG (g : TG3) where
 f : PyData → Option (List (Nat × PyData))
 tg : List Nat
 at' : ∀ {d bs},f d = some bs → ∀ p ∈ bs,p.1 ∈ tg
 ok : ∀ {H x d bs},Dq H x d → f d = some bs → ∃ ts,Bd H ts bs∧∀ τ G (q : St3 → Gp → Prop),q (sets τ ts) G → g x τ G q
structure PuGs (g : EB) where
 f : List PyData → Option (List (Nat × PyData))
 tg : List Nat
 at' : ∀ {d bs},f d = some bs → ∀ p ∈ bs,p.1 ∈ tg
 ok : ∀ {H x d bs},Dqs H x d → f d = some bs → ∃ ts,Bd H ts bs∧∀ τ G (q : St3 → Gp → Prop),q (sets τ ts) G → g x τ G q
noncomputable def gN (i : Nat) : PuG (gn3 i) := ⟨fun d => some [(i,d)],[i],fun h p hp => by cases h;simp at hp;subst hp;simp,fun hx h => by cases h;exact ⟨_,.cons hx .nil,fun τ G q hq => hq⟩⟩
noncomputable def DJ : PuGs J9 := ⟨fun ds => match ds with | [] => some [] | _ => none,[],(fun h p hp => by split at h;cases h;cases hp;cases h),fun hx h => by
 split at h
 ·cases h;cases hx;exact ⟨[],.nil,fun τ G q hq => hq⟩
 ·cases h⟩
noncomputable def jr {t : TG3} {u : EB} (a : PuG t) (b : PuGs u) : PuGs (zf t u) := ⟨fun ds => match ds with | d :: r => (a.f d).bind fun x => (b.f r).map fun y => x ++ y | [] => none,a.tg ++ b.tg,(fun h p hp => by
 split at h
 ·obtain ⟨x,e1,h⟩ := Option.bind_eq_some_iff.mp h
  obtain ⟨y,e2,rfl⟩ := Option.map_eq_some_iff.mp h
  rcases List.mem_append.mp hp with z | z
  ·exact List.mem_append.mpr (.inl (a.at' e1 p z))
  ·exact List.mem_append.mpr (.inr (b.at' e2 p z))
 ·cases h),fun hx h => by
 split at h
 ·obtain ⟨x,e1,h⟩ := Option.bind_eq_some_iff.mp h
  obtain ⟨y,e2,rfl⟩ := Option.map_eq_some_iff.mp h
  cases hx with
  | cons hx hr =>
   obtain ⟨ts,b1,k1⟩ := a.ok hx e1
   obtain ⟨us,b2,k2⟩ := b.ok hr e2
   refine ⟨ts ++ us,b1.append b2,fun τ G q hq => k1 τ G _ (k2 _ G q ?_)⟩
   rw [← DB];exact hq
 ·cases h⟩
noncomputable def DG {u : EB} (n : Nat) (b : PuGs u) : PuG (Jx n u) := ⟨fun d => match d with | .tuple ds => if ds.length = n then b.f ds else none | _ => none,b.tg,(fun h p hp => by
 split at h
 ·split at h
  ·exact b.at' h p hp
  ·cases h
 ·cases h),fun hx h => by
 split at h
 ·split at h
  ·rename_i c
   cases hx with
   | tup hs =>
    obtain ⟨ts,b1,k1⟩ := b.ok hs h
    exact ⟨ts,b1,fun τ G q hq => ⟨by rw [hs.length];exact c,k1 τ G q hq⟩⟩
  ·cases h
 ·cases h⟩
end Pu
namespace Pu
open PySem L2 L3
structure VA (D : Addr → Prop) (G : Gp) (τ : St3) (ρ : Rho) : Prop where
 len : ρ.length = τ.length
 vw : ∀ i d,vw ρ i = some d → ∃ t,τ[i]? = some (some t)∧Dq (rs D G) t d
theorem VA.view {D : Addr → Prop} {G : Gp} {τ : St3} {ρ : Rho} (h : VA D G τ ρ) (fv : List Nat) : VB fv D G τ ρ := fun i _ d e => h.vw i d e
theorem VA.upx {D : Addr → Prop} {G G' : Gp} {τ : St3} {ρ : Rho} (h : VA D G τ ρ) (e : Ex (rs D G) (rs D G')) : VA D G' τ ρ := ⟨h.len,fun i d hd => let ⟨t,a,b⟩ := h.vw i d hd;⟨t,a,b.up e⟩⟩
theorem VA.up {D : Addr → Prop} {G G' : Gp} {τ : St3} {ρ : Rho} (h : VA D G τ ρ) (e : Ex G G') : VA D G' τ ρ := h.upx (ji e)
theorem RZ {ρ : Rho} {i j : Nat} {s : Sl} : vw (ρ.set i s) j = if i = j then (if i < ρ.length then s.d else none) else vw ρ j := by
 unfold vw
 rw [List.getElem?_set]
 split
 ·subst j;split
  ·rfl
  ·rfl
 ·rfl
theorem VA.set {D : Addr → Prop} {G : Gp} {τ : St3} {ρ : Rho} (h : VA D G τ ρ) {i : Nat} {x : T} {d : PyData} (hx : Dq (rs D G) x d) : VA D G (τ.set i (some x)) (ρ.set i (.sh d)) := by
 refine ⟨by simp [h.len],fun j e he => ?_⟩
 rw [RZ] at he
 split at he
 ·subst j
  split at he
  ·rename_i l
   cases he
   refine ⟨x,?_,hx⟩
   rw [List.getElem?_set,if_pos rfl,if_pos (by rw [← h.len];exact l)]
  ·cases he
 ·rename_i n
  obtain ⟨t,a,b⟩ := h.vw j e he
  exact ⟨t,by rw [List.getElem?_set,if_neg n];exact a,b⟩
theorem VA.sets {D : Addr → Prop} {G : Gp} : ∀ {ts : List (Nat × T)} {bs : List (Nat × PyData)} {τ : St3} {ρ : Rho},VA D G τ ρ → Bd (rs D G) ts bs → VA D G (Pu.sets τ ts) (j4 ρ bs)
 | _,_,_,_,h,.nil => h
 | _,_,_,_,h,.cons a b => by unfold Pu.sets j4;exact VA.sets (h.set a) b
theorem VA.keep {D : Addr → Prop} {G : Gp} {ρ : Rho} : ∀ {ts : List (Nat × T)} {τ : St3},VA D G τ ρ → (∀ p ∈ ts,Pu.vw ρ p.1 = none) → VA D G (Pu.sets τ ts) ρ
 | [],_,h,_ => h
 | p :: r,τ,h,hn => VA.keep (ts := r) ⟨by rw [List.length_set];exact h.len,fun j d hd => by
   have : p.1 ≠ j := by rintro rfl;rw [hn p (by simp)] at hd;cases hd
   obtain ⟨t,a,b⟩ := h.vw j d hd
   exact ⟨t,by rw [List.getElem?_set,if_neg this];exact a,b⟩⟩ fun q hq => hn q (by simp [hq])
noncomputable def Vt (m : List (Option Nat)) (ρ : Rho) : Rho := m.map fun o => match o with | some j => (match vw ρ j with | some d => .sh d | none => .un) | none => .un
theorem VA.cap {m : List (Option Nat)} {D : Addr → Prop} {G : Gp} {τ : St3} {ρ : Rho} (h : VB (m.filterMap id) D G τ ρ) : VA D G (L3.cap m τ) (Vt m ρ) := by
 refine ⟨by simp [Vt,L3.cap],fun i d hd => ?_⟩
 unfold Pu.vw Vt at hd
 rw [List.getElem?_map] at hd
 cases e : m[i]? with
 | none => rw [e] at hd;cases hd
 | some o =>
  rw [e] at hd
  cases o with
  | none => cases hd
  | some j =>
   simp only [Option.map_some,Option.bind_some] at hd
   cases e2 : Pu.vw ρ j with
   | none => rw [e2] at hd;cases hd
   | some d' =>
    rw [e2] at hd
    have hd' : d' = d := by simpa [Sl.d] using hd
    subst hd'
    obtain ⟨t,a,b⟩ := h j (List.mem_filterMap.mpr ⟨some j,List.mem_of_getElem? e,rfl⟩) d' e2
    refine ⟨t,?_,b⟩
    unfold L3.cap
    rw [List.getElem?_map,e]
    simp [a]
theorem VX {m : List (Option Nat)} {ρ : Rho} {i : Nat} (h : m[i]? = some none) : vw (Vt m ρ) i = none := by
 unfold vw Vt
 rw [List.getElem?_map,h]
 rfl
noncomputable def lcP (h : PyData → Option (Option PyData)) : List PyData → Option (List PyData)
 | [] => some []
 | d :: r => (h d).bind fun o => (lcP h r).bind fun ys => some (match o with | some y => y :: ys | none => ys)
noncomputable def lcH (gf : PyData → Option (List (Nat × PyData))) (cf : Rho → Option Bool) (ef : Rho → Option PyData) (ρ : Rho) (d : PyData) : Option (Option PyData) :=
 (gf d).bind fun bs => (cf (j4 ρ bs)).bind fun k => if k then (ef (j4 ρ bs)).map some else some none
theorem j7 {h : PyData → Option (Option PyData)} {α : Type} {g : α → PyData} {k : α → PyData} {xs : List α} (hh : ∀ a ∈ xs,h (g a) = some (some (k a))) : lcP h (xs.map g) = some (xs.map k) := by
 induction xs with
 | nil => rfl
 | cons a r ih => simp only [List.map_cons,lcP,hh a (by simp),Option.bind_some,ih fun b hb => hh b (by simp [hb])]
theorem Wx {h : PyData → Option (Option PyData)} {α : Type} {g : α → PyData} {k : α → PyData} {c : α → Bool} {xs : List α} (hh : ∀ a ∈ xs,h (g a) = some (if c a then some (k a) else none)) : lcP h (xs.map g) = some ((xs.filter c).map k) := by
 induction xs with
 | nil => rfl
 | cons a r ih =>
  simp only [List.map_cons,lcP,hh a (by simp),Option.bind_some,ih fun b hb => hh b (by simp [hb])]
  cases e : c a with
  | true => simp [e]
  | false => simp [e]
theorem WN {H : Gp} : ∀ {ts : List (Nat × T)} {bs : List (Nat × PyData)},Bd H ts bs → ∀ p ∈ ts,∃ q ∈ bs,q.1 = p.1
 | _,_,.nil,p,hp => by cases hp
 | _,_,.cons a b,p,hp => by
  rcases List.mem_cons.mp hp with rfl | hp
  ·exact ⟨_,List.mem_cons_self,rfl⟩
  ·obtain ⟨q,hq,e⟩ := WN b p hp
   exact ⟨q,by simp [hq],e⟩
theorem Lw {stay : Gp → Prop} {g : TG3} {tif : TT3} {te : TE3} {q : Q3} (pg : PuG g) (pc : PuC tif) (pe : PuE te) {D : Addr → Prop} {ρ0 : Rho} {G0 : Gp} (hs : ∀ G,Ex G0 G → stay G) (hm : ∀ i ∈ pg.tg,vw ρ0 i = none) (fin : List PyData) (hfin : fin.length ≤ sizeLine)
  (k : ∀ G ys,Ex G0 G → Dqs (rs D G) ys fin → ∀ p,G p = none → q (.ref p) (gu G p (.lst ys))) :
  ∀ (ds : List PyData) (items ys : List T) (es fs : List PyData) (τ : St3) (G : Gp),Dqs (rs D G0) items ds → VA D G τ ρ0 → Ex G0 G → Dom D G → Dqs (rs D G) ys es → lcP (lcH pg.f pc.f pe.f ρ0) ds = some fs → es ++ fs = fin → Xz stay g tif te q items ys τ G
 | _,_,ys,es,fs,τ,G,.nil,va,E,hd,hy,hf,hl => by
  cases hf
  rw [List.append_nil] at hl
  subst hl
  exact ⟨hs G E,k G ys E hy⟩
 | d :: ds,x :: items,ys,es,fs,τ,G,.cons hx hr,va,E,hd,hy,hf,hl => by
  unfold lcP at hf
  obtain ⟨o,e1,hf⟩ := Option.bind_eq_some_iff.mp hf
  obtain ⟨ZI,e2,hf⟩ := Option.bind_eq_some_iff.mp hf
  unfold lcH at e1
  obtain ⟨bs,e3,e1⟩ := Option.bind_eq_some_iff.mp e1
  obtain ⟨c,e4,e1⟩ := Option.bind_eq_some_iff.mp e1
  obtain ⟨ts,bd,kg⟩ := pg.ok (hx.up (ji E)) e3
  refine ⟨hs G E,kg τ G _ ?_⟩
  have va1 := va.sets bd
  have va2 := va.keep (ts := ts) fun p hp => by
   obtain ⟨q,hq,e⟩ := WN bd p hp
   rw [← e];exact hm _ (pg.at' e3 q hq)
  refine pc.ok (va1.view _) hd e4 fun G1 E1 => ?_
  cases c with
  | true =>
   rw [if_pos rfl]
   rw [if_pos rfl] at e1
   obtain ⟨y,e5,rfl⟩ := Option.map_eq_some_iff.mp e1
   simp only [Option.some.injEq] at hf
   subst hf
   refine pe.ok ((va1.up E1).view _) (hd.up E1) e5 fun z G2 E2 D2 _ => ⟨?_,?_⟩
   ·rw [hy.length]
    rw [← hl] at hfin
    simp at hfin;omega
   ·refine Lw pg pc pe hs hm fin hfin k ds items (ys ++ [z]) (es ++ [y]) ZI _ G2 hr ((va2.up E1).up E2) (E.trans (E1.trans E2)) ((hd.up E1).up E2) (((hy.up (ji E1)).up (ji E2)).append (.cons D2 .nil)) e2 ?_
    rw [← hl];simp
  | false =>
   rw [if_neg Bool.false_ne_true]
   simp at e1
   subst e1
   simp only [Option.some.injEq] at hf
   subst hf
   exact Lw pg pc pe hs hm fin hfin k ds items ys es ZI _ G1 hr (va2.up E1) (E.trans E1) (hd.up E1) (hy.up (ji E1)) e2 hl
noncomputable def lcF (pi : Rho → Option (List PyData)) (h : Rho → PyData → Option (Option PyData)) (m : List (Option Nat)) (ρ : Rho) : Option PyData :=
 (pi ρ).bind fun ds => (lcP (h (Vt m ρ)) ds).bind fun fs => cif (fs.length ≤ sizeLine) (some (.list fs)) none
noncomputable def bLc {wi : TI3} {g : TG3} {tif : TT3} {te : TE3} (pi : PuI wi) (pg : PuG g) (pc : PuC tif) (pe : PuE te) (m : List (Option Nat)) (hm : Tru (pg.tg.all fun i => m[i]? == some none)) : PuE (lc3 wi g tif te m) :=
 ⟨lcF pi.f (lcH pg.f pc.f pe.f) m,pi.fv ++ m.filterMap id,true,fun {D τ ρ G q d} hv hd hf k => by
  unfold lcF at hf
  obtain ⟨ds,e1,hf⟩ := Option.bind_eq_some_iff.mp hf
  obtain ⟨fs,e2,hf⟩ := Option.bind_eq_some_iff.mp hf
  unfold cif at hf
  split at hf
  ·rename_i hl
   cases hf
   refine pi.ok hv.l hd e1 fun items stay G1 E1 D1 hs _ => ?_
   have va := (VA.cap (m := m) hv.r).up E1
   refine Lw pg pc pe (D := D) (ρ0 := Vt m ρ) (G0 := G1) (fun G2 E2 => hs G2 (.inr (Zz.trans E2))) (fun i hi => VX ?_) fs hl (fun G2 ys E2 D2 p hp => ?_) ds items [] [] fs _ G1 D1 va Ex.refl (hd.up E1) .nil e2 (by simp)
   ·have := List.all_eq_true.mp hm.h i hi
    simpa using this
   ·exact k _ _ ((E1.trans E2).trans (jE hp)) (Zk ((hd.up E1).up E2) hp D2) fun _ => (YI hp D2).back (E1.trans E2)
  ·cases hf⟩
def E0 (p : Addr) (G G' : Gp) : Prop := ∀ b o,b ≠ p → G b = some o → G' b = some o
theorem E0.refl {p : Addr} {G : Gp} : E0 p G G := fun _ _ _ e => e
theorem E0.trans {p : Addr} {G G1 G2 : Gp} (a : E0 p G G1) (b : E0 p G1 G2) : E0 p G G2 := fun x o n e => b x o n (a x o n e)
theorem E0.of {p : Addr} {G G1 : Gp} (a : Ex G G1) : E0 p G G1 := fun x o _ e => a x o e
theorem E0.wr {p : Addr} {G : Gp} {o : O} : E0 p G (gu G p o) := fun b ob n e => by rw [j9 n];exact e
theorem E0.rs {p : Addr} {D : Addr → Prop} {G G1 : Gp} (a : E0 p G G1) : Ex (rs (fun b => D b ∨ b = p) G) (rs (fun b => D b ∨ b = p) G1) := fun b o h => by
 obtain ⟨n,h⟩ := q0 h
 rw [jA n]
 exact a b o (fun z => n (.inr z)) h
theorem M7 {D : Addr → Prop} {G : Gp} {p : Addr} {o : O} (h : Dom D G) : Dom D (gu G p o) := fun b d z => by
 by_cases e : b = p
 ·subst e;rw [qD] at z;cases z
 ·rw [j9 e] at z;exact h b d z
theorem Km {p : Addr} {stay : Gp → Prop} {g : TG3} {tif : TT3} {te : TE3} {N : St3 → Gp → Prop} (pg : PuG g) (pc : PuC tif) (pe : PuE te) {D : Addr → Prop} {ρ0 : Rho} {G0 : Gp} (hs : ∀ G,Ex (rs (fun b => D b ∨ b = p) G0) G → stay G) (hm : ∀ i ∈ pg.tg,vw ρ0 i = none) (fin : List PyData) (hfin : fin.length ≤ sizeLine)
  (k : ∀ τ G ys,VA (fun b => D b ∨ b = p) G τ ρ0 → E0 p G0 G → Dom (fun b => D b ∨ b = p) G → G p = some (.lst ys) → Dqs (rs (fun b => D b ∨ b = p) G) ys fin → N τ G) :
  ∀ (ds : List PyData) (items ys : List T) (es fs : List PyData) (τ : St3) (G : Gp),Dqs (rs (fun b => D b ∨ b = p) G0) items ds → VA (fun b => D b ∨ b = p) G τ ρ0 → E0 p G0 G → Dom (fun b => D b ∨ b = p) G → G p = some (.lst ys) → Dqs (rs (fun b => D b ∨ b = p) G) ys es → lcP (lcH pg.f pc.f pe.f ρ0) ds = some fs → es ++ fs = fin → LZ p stay g tif te N items τ G
 | _,_,ys,es,fs,τ,G,.nil,va,E,hd,gp,hy,hf,hl => by
  cases hf
  rw [List.append_nil] at hl
  subst hl
  exact ⟨hs G (E.rs.trans Zz),k τ G ys va E hd gp hy⟩
 | d :: ds,x :: items,ys,es,fs,τ,G,.cons hx hr,va,E,hd,gp,hy,hf,hl => by
  unfold lcP at hf
  obtain ⟨o,e1,hf⟩ := Option.bind_eq_some_iff.mp hf
  obtain ⟨ZI,e2,hf⟩ := Option.bind_eq_some_iff.mp hf
  unfold lcH at e1
  obtain ⟨bs,e3,e1⟩ := Option.bind_eq_some_iff.mp e1
  obtain ⟨c,e4,e1⟩ := Option.bind_eq_some_iff.mp e1
  obtain ⟨ts,bd,kg⟩ := pg.ok (hx.up E.rs) e3
  refine ⟨hs G (E.rs.trans Zz),kg τ G _ ?_⟩
  have va1 := va.sets bd
  have va2 := va.keep (ts := ts) fun p hp => by
   obtain ⟨q,hq,e⟩ := WN bd p hp
   rw [← e];exact hm _ (pg.at' e3 q hq)
  refine pc.ok (va1.view _) hd e4 fun G1 E1 => ?_
  cases c with
  | true =>
   rw [if_pos rfl]
   rw [if_pos rfl] at e1
   obtain ⟨y,e5,rfl⟩ := Option.map_eq_some_iff.mp e1
   simp only [Option.some.injEq] at hf
   subst hf
   refine pe.ok ((va1.up E1).view _) (hd.up E1) e5 fun z G2 E2 D2 _ => ?_
   simp only [E2 _ _ (E1 _ _ gp)]
   have W : E0 p G2 (gu G2 p (.lst (ys ++ [z]))) := E0.wr
   refine ⟨?_,?_⟩
   ·rw [hy.length]
    rw [← hl] at hfin
    simp at hfin;omega
   ·refine Km pg pc pe hs hm fin hfin k ds items (ys ++ [z]) (es ++ [y]) ZI _ _ hr (((va2.up E1).up E2).upx W.rs) ((E.trans (E0.of (E1.trans E2))).trans W) (M7 ((hd.up E1).up E2)) qD ((((hy.up (ji E1)).up (ji E2)).append (.cons D2 .nil)).up W.rs) e2 ?_
    rw [← hl];simp
  | false =>
   rw [if_neg Bool.false_ne_true]
   simp at e1
   subst e1
   simp only [Option.some.injEq] at hf
   subst hf
   exact Km pg pc pe hs hm fin hfin k ds items ys es ZI _ G1 hr (va2.up E1) (E.trans (E0.of E1)) (hd.up E1) (E1 _ _ gp) (hy.up (ji E1)) e2 hl
noncomputable def KZ (h : PyData → Option (Option (List PyData))) : List PyData → Option (List PyData)
 | [] => some []
 | d :: r => (h d).bind fun o => (KZ h r).bind fun ys => some (match o with | some y => y ++ ys | none => ys)
noncomputable def qcr (gf : PyData → Option (List (Nat × PyData))) (cf : Rho → Option Bool) (it : Rho → Option (List PyData)) (h : Rho → PyData → Option (Option PyData)) (ρ : Rho) (d : PyData) : Option (Option (List PyData)) :=
 (gf d).bind fun bs => (cf (j4 ρ bs)).bind fun k => if k then ((it (j4 ρ bs)).bind fun ds => lcP (h (j4 ρ bs)) ds).map some else some none
theorem U8 : ∀ {bs : List (Nat × PyData)} {ρ : Rho} {i : Nat},(∀ p ∈ bs,p.1 ≠ i) → vw (j4 ρ bs) i = vw ρ i
 | [],_,_,_ => rfl
 | p :: r,ρ,i,h => by
  unfold j4
  rw [U8 (fun q hq => h q (by simp [hq])),RZ,if_neg (h p (by simp))]
theorem DA : ∀ (bs : List (Nat × PyData)) (ρ : Rho),(j4 ρ bs).length = ρ.length
 | [],τ => rfl
 | p :: r,τ => by unfold j4;rw [DA r];simp
theorem Xh {p : Addr} {stay : Gp → Prop} {g g2 : TG3} {tif tif2 : TT3} {wi2 : TI3} {te : TE3} {q : Q3} (pg : PuG g) (pc : PuC tif) (pi2 : PuI wi2) (pg2 : PuG g2) (pc2 : PuC tif2) (pe : PuE te) {D : Addr → Prop} {ρ0 : Rho} {G0 : Gp} (hs : ∀ G,Ex (rs (fun b => D b ∨ b = p) G0) G → stay G) (hm : ∀ i ∈ pg.tg,vw ρ0 i = none) (hm2 : ∀ i ∈ pg2.tg,vw ρ0 i = none) (hdj : ∀ i ∈ pg2.tg,i ∉ pg.tg) (fin : List PyData) (hfin : fin.length ≤ sizeLine)
  (k : ∀ G ys,E0 p G0 G → G p = some (.lst ys) → Dqs (rs (fun b => D b ∨ b = p) G) ys fin → q (.ref p) G) :
  ∀ (ds : List PyData) (items ys : List T) (es fs : List PyData) (τ : St3) (G : Gp),Dqs (rs (fun b => D b ∨ b = p) G0) items ds → VA (fun b => D b ∨ b = p) G τ ρ0 → E0 p G0 G → Dom (fun b => D b ∨ b = p) G → G p = some (.lst ys) → Dqs (rs (fun b => D b ∨ b = p) G) ys es → KZ (qcr pg.f pc.f pi2.f (lcH pg2.f pc2.f pe.f) ρ0) ds = some fs → es ++ fs = fin → XX p stay g tif wi2 g2 tif2 te q items τ G
 | _,_,ys,es,fs,τ,G,.nil,va,E,hd,gp,hy,hf,hl => by
  cases hf
  rw [List.append_nil] at hl
  subst hl
  exact ⟨hs G (E.rs.trans Zz),k G ys E gp hy⟩
 | d :: ds,x :: items,ys,es,fs,τ,G,.cons hx hr,va,E,hd,gp,hy,hf,hl => by
  unfold KZ at hf
  obtain ⟨o,e1,hf⟩ := Option.bind_eq_some_iff.mp hf
  obtain ⟨ZI,e2,hf⟩ := Option.bind_eq_some_iff.mp hf
  unfold qcr at e1
  obtain ⟨bs,e3,e1⟩ := Option.bind_eq_some_iff.mp e1
  obtain ⟨c,e4,e1⟩ := Option.bind_eq_some_iff.mp e1
  obtain ⟨ts,bd,kg⟩ := pg.ok (hx.up E.rs) e3
  refine ⟨hs G (E.rs.trans Zz),kg τ G _ ?_⟩
  have va1 := va.sets bd
  have va2 := va.keep (ts := ts) fun p hp => by
   obtain ⟨q,hq,e⟩ := WN bd p hp
   rw [← e];exact hm _ (pg.at' e3 q hq)
  refine pc.ok (va1.view _) hd e4 fun G1 E1 => ?_
  cases c with
  | true =>
   rw [if_pos rfl]
   rw [if_pos rfl] at e1
   obtain ⟨y,e5,rfl⟩ := Option.map_eq_some_iff.mp e1
   obtain ⟨ds2,e6,e5⟩ := Option.bind_eq_some_iff.mp e5
   simp only [Option.some.injEq] at hf
   subst hf
   refine pi2.ok ((va1.up E1).view _) (hd.up E1) e6 fun items2 stay2 G2 E2 D2 hs2 _ => ?_
   have l2 : (es ++ y).length ≤ sizeLine := by
    rw [← hl] at hfin
    simp at hfin ⊢;omega
   refine Km pg2 pc2 pe (ρ0 := j4 ρ0 bs) (G0 := G2) (fun G3 E3 => hs2 G3 (.inr E3)) (fun i hi => ?_) (es ++ y) l2 (fun τ3 G3 zs va3 E3 hd3 gp3 hz => ?_) ds2 items2 ys es y _ G2 D2 ((va1.up E1).up E2) E0.refl ((hd.up E1).up E2) (E2 _ _ (E1 _ _ gp)) ((hy.up (ji E1)).up (ji E2)) e5 rfl
   ·rw [U8 fun q hq e => hdj i hi (by rw [← e];exact pg.at' e3 q hq)];exact hm2 i hi
   ·have E4 : E0 p G G3 := (E0.of (E1.trans E2)).trans E3
    have va4 : VA (fun b => D b ∨ b = p) G3 τ3 ρ0 := ⟨by rw [← va3.len,DA],fun i d' hd' => va3.vw i d' (by
     rw [U8 fun q hq e => ?_];exact hd'
     rw [← e,hm _ (pg.at' e3 q hq)] at hd';cases hd')⟩
    exact Xh pg pc pi2 pg2 pc2 pe hs hm hm2 hdj fin hfin k ds items zs (es ++ y) ZI τ3 G3 hr va4 (E.trans E4) hd3 gp3 hz e2 (by rw [← hl];simp)
  | false =>
   rw [if_neg Bool.false_ne_true]
   simp at e1
   subst e1
   simp only [Option.some.injEq] at hf
   subst hf
   exact Xh pg pc pi2 pg2 pc2 pe hs hm hm2 hdj fin hfin k ds items ys es ZI _ G1 hr (va2.up E1) (E.trans (E0.of E1)) (hd.up E1) (E1 _ _ gp) (hy.up (ji E1)) e2 hl
noncomputable def NF (pi : Rho → Option (List PyData)) (h : Rho → PyData → Option (Option (List PyData))) (m : List (Option Nat)) (ρ : Rho) : Option PyData :=
 (pi ρ).bind fun ds => (KZ (h (Vt m ρ)) ds).bind fun fs => cif (fs.length ≤ sizeLine) (some (.list fs)) none
theorem DF {h : PyData → Option (Option (List PyData))} {α : Type} {g : α → PyData} {k : α → List PyData} {xs : List α} (hh : ∀ a ∈ xs,h (g a) = some (some (k a))) : KZ h (xs.map g) = some (xs.flatMap k) := by
 induction xs with
 | nil => rfl
 | cons a r ih => simp only [List.map_cons,KZ,hh a (by simp),Option.bind_some,ih fun b hb => hh b (by simp [hb]),List.flatMap_cons]
noncomputable def qdd {wi wi2 : TI3} {g g2 : TG3} {tif tif2 : TT3} {te : TE3} (pi : PuI wi) (pg : PuG g) (pc : PuC tif) (pi2 : PuI wi2) (pg2 : PuG g2) (pc2 : PuC tif2) (pe : PuE te) (m : List (Option Nat)) (hm : Tru (pg.tg.all fun i => m[i]? == some none)) (hm2 : Tru (pg2.tg.all fun i => m[i]? == some none)) (hdj : Tru (pg2.tg.all fun i => !pg.tg.contains i)) : PuE (qbq wi g tif wi2 g2 tif2 te m) :=
 ⟨NF pi.f (qcr pg.f pc.f pi2.f (lcH pg2.f pc2.f pe.f)) m,pi.fv ++ m.filterMap id,true,fun {D τ ρ G q d} hv hd hf k => by
  unfold NF at hf
  obtain ⟨ds,e1,hf⟩ := Option.bind_eq_some_iff.mp hf
  obtain ⟨fs,e2,hf⟩ := Option.bind_eq_some_iff.mp hf
  unfold cif at hf
  split at hf
  ·rename_i hl
   cases hf
   refine pi.ok hv.l hd e1 fun items stay G1 E1 D1 hs _ p hp => ?_
   have va := (VA.cap (m := m) hv.r).up E1
   have np : ∀ {b o},G1 b = some o → b ≠ p := fun e => by rintro rfl;rw [hp] at e;cases e
   have X1 : Ex (rs D G1) (rs (fun b => D b ∨ b = p) (gu G1 p (.lst []))) := fun b o e => by
    obtain ⟨n,e⟩ := q0 e
    rw [jA (by rintro (z | z);exact n z;exact np e z),j9 (np e)];exact e
   refine Xh pg pc pi2 pg2 pc2 pe (D := D) (ρ0 := Vt m ρ) (G0 := gu G1 p (.lst [])) (p := p) (fun G2 E2 => hs G2 (.inr (X1.trans E2))) (fun i hi => VX ?_) (fun i hi => VX ?_) (fun i hi hj => ?_) fs hl (fun G2 ys E2 gp D2 => ?_) ds items [] [] fs _ _ (D1.up X1) ⟨va.len,fun i d hd => let ⟨t,a,b⟩ := va.vw i d hd;⟨t,a,b.up X1⟩⟩ E0.refl ?_ qD .nil e2 (by simp)
   ·simpa using List.all_eq_true.mp hm.h i hi
   ·simpa using List.all_eq_true.mp hm2.h i hi
   ·have := List.all_eq_true.mp hdj.h i hi
    simp at this
    exact this hj
   ·have EE : Ex G1 G2 := fun b o e => E2 b o (np e) (by rw [j9 (np e)];exact e)
    have hdp : ¬ D p := fun z => (hd.up E1) p z hp
    refine k _ _ (E1.trans EE) (.lst (by rw [jA hdp];exact gp) (D2.up (zt fun b z => .inl z))) fun _ => Nw.back (.inr ⟨p,ys,fs,rfl,rfl,hp,gp,D2⟩) E1
   ·intro b hb z
    by_cases e : b = p
    ·subst e;rw [qD] at z;cases z
    ·rw [j9 e] at z
     rcases hb with hb | hb
     ·exact (hd.up E1) b hb z
     ·exact e hb
  ·cases hf⟩
end Pu
namespace Pu
open PySem L2 L3
def AD (D : Addr → Prop) (A : Nat → Option Addr) (b : Addr) : Prop := D b ∨ ∃ i,A i = some b
structure RS (D : Addr → Prop) (G0 : Gp) (A : Nat → Option Addr) (τ : St3) (ρ : Rho) (G : Gp) : Prop where
 ex : Ex G0 G
 dm : Dom D G0
 fr : ∀ i p,A i = some p → G0 p = none
 da : ∀ i p,A i = some p → G p ≠ none
 inj : ∀ i j p,A i = some p → A j = some p → i = j
 len : ρ.length = τ.length
 sh : ∀ (i : Nat) (d : PyData),ρ[i]? = some (Sl.sh d) → ∃ t,τ[i]? = some (some t)∧Dq (rs (AD D A) G) t d
 ow : ∀ (i : Nat) (ds : List PyData),ρ[i]? = some (Sl.ow ds) → ∃ p xs,A i = some p∧τ[i]? = some (some (.ref p))∧G p = some (.lst xs)∧Dqs (rs (AD D A) G) xs ds
section
variable {D : Addr → Prop} {G0 G G' : Gp} {A A' : Nat → Option Addr} {τ : St3} {ρ : Rho}
theorem RS.nd (h : RS D G0 A τ ρ G) {i : Nat} {p : Addr} (e : A i = some p) : ¬ D p := fun z => h.dm p z (h.fr i p e)
theorem RS.dom (h : RS D G0 A τ ρ G) : Dom (AD D A) G := fun b hb => by
 rcases hb with hb | ⟨i,hi⟩
 ·exact (h.dm.up h.ex) b hb
 ·exact h.da i b hi
theorem RS.domD (h : RS D G0 A τ ρ G) : Dom D G := h.dm.up h.ex
theorem RS.up (h : RS D G0 A τ ρ G) (e : Ex G G') : RS D G0 A τ ρ G' :=
 ⟨h.ex.trans e,h.dm,h.fr,fun i p a z => (h.da i p a) (by
  cases g : G p with
  | none => rfl
  | some o => rw [e _ _ g] at z;cases z),h.inj,h.len,fun i d a => let ⟨t,b,c⟩ := h.sh i d a;⟨t,b,c.up (ji e)⟩,fun i ds a => let ⟨p,xs,b,c,d,f⟩ := h.ow i ds a;⟨p,xs,b,c,e _ _ d,f.up (ji e)⟩⟩
theorem RS.viewAll (h : RS D G0 A τ ρ G) (fv : List Nat) : VB fv D G τ ρ := fun i _ d hd => by
 unfold vw at hd
 obtain ⟨s,e,hd⟩ := Option.bind_eq_some_iff.mp hd
 have less : Ex (rs (AD D A) G) (rs D G) := zt fun b z => .inl z
 cases s with
 | un => cases hd
 | sh d' =>
  cases hd
  obtain ⟨t,b,c⟩ := h.sh i _ e
  exact ⟨t,b,c.up less⟩
 | ow ds =>
  cases hd
  obtain ⟨p,xs,b,c,g,f⟩ := h.ow i _ e
  exact ⟨_,c,.lst (by rw [jA (h.nd b)];exact g) (f.up less)⟩
theorem RS.view (h : RS D G0 A τ ρ G) {fv : List Nat} (hn : ∀ i ∈ fv,A i = none) : VB fv (AD D A) G τ ρ := fun i hi d hd => by
 unfold vw at hd
 obtain ⟨s,e,hd⟩ := Option.bind_eq_some_iff.mp hd
 cases s with
 | un => cases hd
 | sh d' =>
  cases hd
  exact h.sh i _ e
 | ow ds =>
  obtain ⟨p,xs,b,_⟩ := h.ow i _ e
  rw [hn i hi] at b;cases b
noncomputable def Sl.dem : Sl → Sl
 | .ow ds => .sh (.list ds)
 | s => s
noncomputable def dm : List Bool → Rho → Rho
 | b :: m,s :: r => (match b with | true => s.dem | false => s) :: dm m r
 | _,r => r
noncomputable def mkb (m : List Bool) (i : Nat) : Bool := (m[i]?).getD false
theorem C4 : ∀ (m : List Bool) (ρ : Rho) (i : Nat),(dm m ρ)[i]? = (ρ[i]?).map fun s => if mkb m i = true then s.dem else s
 | [],ρ,i => by simp [dm,mkb]
 | b :: m,[],i => by simp [dm]
 | b :: m,s :: r,0 => by cases b <;> simp [dm,mkb]
 | b :: m,s :: r,i + 1 => by
  have := C4 m r i
  simp only [dm,List.getElem?_cons_succ,mkb] at this ⊢
  exact this
theorem qes (s : Sl) : s.dem.d = s.d := by cases s <;> rfl
theorem qet (m : List Bool) (ρ : Rho) (i : Nat) : vw (dm m ρ) i = vw ρ i := by
 unfold vw
 rw [C4]
 cases ρ[i]? with
 | none => rfl
 | some s =>
  simp only [Option.map_some,Option.bind_some]
  split
  ·exact qes s
  ·rfl
theorem SA : ∀ (m : List Bool) (ρ : Rho),(dm m ρ).length = ρ.length
 | [],ρ => rfl
 | b :: m,[] => rfl
 | b :: m,s :: r => by simp [dm,SA m r]
noncomputable def Ad (m : List Bool) (A : Nat → Option Addr) : Nat → Option Addr := fun i => if mkb m i = true then none else A i
theorem YO {m : List Bool} {i : Nat} {p : Addr} (h : Ad m A i = some p) : A i = some p∧mkb m i = false := by
 unfold Ad at h
 split at h
 ·cases h
 ·rename_i n;exact ⟨h,by simpa using n⟩
theorem RS.dem (h : RS D G0 A τ ρ G) (m : List Bool) : RS D G0 (Ad m A) τ (Pu.dm m ρ) G := by
 have less : Ex (rs (AD D A) G) (rs (AD D (Ad m A)) G) := zt fun b z => by
  rcases z with z | ⟨i,z⟩
  ·exact .inl z
  ·exact .inr ⟨i,(YO z).1⟩
 refine ⟨h.ex,h.dm,fun i p e => h.fr i p (YO e).1,fun i p e => h.da i p (YO e).1,fun i j p a b => h.inj i j p (YO a).1 (YO b).1,by rw [SA];exact h.len,fun i d e => ?_,fun i ds e => ?_⟩
 ·rw [C4] at e
  obtain ⟨s,e1,e2⟩ := Option.map_eq_some_iff.mp e
  cases s with
  | un => split at e2 <;> cases e2
  | sh d' =>
   have : d' = d := by split at e2 <;> (cases e2;rfl)
   subst this
   obtain ⟨t,b,c⟩ := h.sh i _ e1
   exact ⟨t,b,c.up less⟩
  | ow ds =>
   split at e2
   ·rename_i hm
    cases e2
    obtain ⟨p,xs,b,c,g,f⟩ := h.ow i _ e1
    refine ⟨_,c,.lst ?_ (f.up less)⟩
    rw [jA]
    ·exact g
    ·rintro (z | ⟨j,z⟩)
     ·exact h.nd b z
     ·have := h.inj i j p b (YO z).1
      subst this
      rw [(YO z).2] at hm;cases hm
   ·cases e2
 ·rw [C4] at e
  obtain ⟨s,e1,e2⟩ := Option.map_eq_some_iff.mp e
  cases s with
  | un => split at e2 <;> cases e2
  | sh d' => split at e2 <;> cases e2
  | ow ds' =>
   split at e2
   ·cases e2
   ·rename_i hm
    cases e2
    obtain ⟨p,xs,b,c,g,f⟩ := h.ow i _ e1
    exact ⟨p,xs,by unfold Ad;rw [if_neg hm];exact b,c,g,f.up less⟩
theorem RS.viewD (h : RS D G0 A τ ρ G) {m : List Bool} {fv : List Nat} (hm : Tru (fv.all (mkb m))) : VB fv (AD D (Ad m A)) G τ ρ := by
 have := (h.dem m).view (fv := fv) fun i hi => by unfold Ad;rw [if_pos (List.all_eq_true.mp hm.h i hi)]
 intro i hi d hd
 exact this i hi d (by rw [qet];exact hd)
noncomputable def Er (A : Nat → Option Addr) (i : Nat) : Nat → Option Addr := fun j => if j = i then none else A j
theorem YX {i j : Nat} {p : Addr} (h : Er A i j = some p) : A j = some p∧j ≠ i := by
 unfold Er at h
 split at h
 ·cases h
 ·rename_i n;exact ⟨h,n⟩
theorem RS.put (h : RS D G0 A τ ρ G) (i : Nat) {x : T} {d : PyData} (hx : Dq (rs (AD D A) G) x d) : RS D G0 (Er A i) (τ.set i (some x)) (ρ.set i (.sh d)) G := by
 have less : Ex (rs (AD D A) G) (rs (AD D (Er A i)) G) := zt fun b z => by
  rcases z with z | ⟨j,z⟩
  ·exact .inl z
  ·exact .inr ⟨j,(YX z).1⟩
 refine ⟨h.ex,h.dm,fun j p e => h.fr j p (YX e).1,fun j p e => h.da j p (YX e).1,fun j k p a b => h.inj j k p (YX a).1 (YX b).1,by simp [h.len],fun j e he => ?_,fun j ds e => ?_⟩
 ·rw [List.getElem?_set] at he ⊢
  split at he
  ·rename_i hj
   rw [if_pos hj]
   split at he
   ·rename_i hl
    cases he
    exact ⟨x,by rw [if_pos (by rw [← h.len];exact hl)],hx.up less⟩
   ·cases he
  ·rename_i hj
   rw [if_neg hj]
   obtain ⟨t,b,c⟩ := h.sh j _ he
   exact ⟨t,b,c.up less⟩
 ·rw [List.getElem?_set] at e ⊢
  split at e
  ·split at e <;> cases e
  ·rename_i hj
   rw [if_neg hj]
   obtain ⟨p,xs,b,c,g,f⟩ := h.ow j _ e
   exact ⟨p,xs,by unfold Er;rw [if_neg (fun z => hj z.symm)];exact b,c,g,f.up less⟩
theorem RS.puts : ∀ {ts : List (Nat × T)} {bs : List (Nat × PyData)} {A : Nat → Option Addr} {τ : St3} {ρ : Rho},RS D G0 A τ ρ G → Bd (rs (AD D A) G) ts bs → ∃ A',RS D G0 A' (sets τ ts) (j4 ρ bs) G
 | _,_,A,_,_,h,.nil => ⟨A,h⟩
 | _,_,A,_,_,h,.cons (i := i) a b => by
  unfold sets j4
  exact RS.puts (h.put i a) (b.up (zt fun b z => by
   rcases z with z | ⟨j,z⟩
   ·exact .inl z
   ·exact .inr ⟨j,(YX z).1⟩))
theorem RS.putN (h : RS D G0 A τ ρ G) (i : Nat) {x : T} {d : PyData} {ds : List PyData} (hd : d = .list ds) (E : Ex G G') (hx : Nw (AD D A) G G' x d) : RS D G0 (fun j => if j = i then (match x with | .ref p => some p | _ => none) else A j) (τ.set i (some x)) (ρ.set i (.ow ds)) G' := by
 rcases hx with hx | ⟨p,xs,ds',rfl,e',gp,gp',hs⟩
 ·rw [hd] at hx;cases hx
 rw [hd] at e'
 cases e'
 have np : ∀ {j q},A j = some q → q ≠ p := fun e => by rintro rfl;exact h.da _ _ e gp
 have X1 : Ex (rs (AD D A) G) (rs (AD D (fun j => if j = i then some p else A j)) G') := fun b o e => by
  obtain ⟨n,e⟩ := q0 e
  rw [jA]
  ·exact E _ _ e
  ·rintro (z | ⟨j,z⟩)
   ·exact n (.inl z)
   ·simp only at z
    split at z
    ·cases z;rw [gp] at e;cases e
    ·exact n (.inr ⟨j,z⟩)
 refine ⟨h.ex.trans E,h.dm,fun j q e => ?_,fun j q e => ?_,fun j k q a b => ?_,by simp [h.len],fun j e he => ?_,fun j es e => ?_⟩
 ·simp only at e
  split at e
  ·cases e
   cases z : G0 p with
   | none => rfl
   | some o => rw [h.ex _ _ z] at gp;cases gp
  ·exact h.fr j q e
 ·simp only at e
  split at e
  ·cases e;rw [gp'];simp
  ·exact (h.up E).da j q e
 ·simp only at a b
  split at a
  ·cases a
   split at b
   ·rename_i h1 h2;rw [h1,h2]
   ·exact absurd rfl (np b)
  ·split at b
   ·cases b;exact absurd rfl (np a)
   ·exact h.inj j k q a b
 ·rw [List.getElem?_set] at he ⊢
  split at he
  ·split at he <;> cases he
  ·rename_i hj
   rw [if_neg hj]
   obtain ⟨t,b,c⟩ := h.sh j _ he
   exact ⟨t,b,c.up X1⟩
 ·rw [List.getElem?_set] at e ⊢
  split at e
  ·rename_i hj
   subst hj
   split at e
   ·rename_i hl
    cases e
    refine ⟨p,xs,by simp,by rw [if_pos rfl,if_pos (by rw [← h.len];exact hl)],gp',hs.up (zt fun b z => ?_)⟩
    rcases z with z | ⟨j,z⟩
    ·exact .inl (.inl z)
    ·simp only at z
     split at z
     ·cases z;exact .inr rfl
     ·exact .inl (.inr ⟨j,z⟩)
   ·cases e
  ·rename_i hj
   rw [if_neg hj]
   obtain ⟨q,ys,b,c,g,f⟩ := h.ow j _ e
   exact ⟨q,ys,by rw [if_neg (fun z => hj z.symm)];exact b,c,E _ _ g,f.up X1⟩
theorem RS.wr (h : RS D G0 A τ ρ G) {i : Nat} {p : Addr} {xs : List T} {ds : List PyData} (hi : A i = some p) (ht : τ[i]? = some (some (.ref p))) (hs : Dqs (rs (AD D A) G) xs ds) : RS D G0 A τ (ρ.set i (.ow ds)) (gu G p (.lst xs)) := by
 have X1 : Ex (rs (AD D A) G) (rs (AD D A) (gu G p (.lst xs))) := fun b o e => by
  obtain ⟨n,e⟩ := q0 e
  rw [jA n,j9 (by rintro rfl;exact n (.inr ⟨i,hi⟩))];exact e
 refine ⟨fun b o e => ?_,h.dm,h.fr,fun j q e => ?_,h.inj,by simp [h.len],fun j e he => ?_,fun j es e => ?_⟩
 ·rw [j9 (by rintro rfl;rw [h.fr i _ hi] at e;cases e)];exact h.ex _ _ e
 ·by_cases z : q = p
  ·subst z;rw [qD];simp
  ·rw [j9 z];exact h.da j q e
 ·rw [List.getElem?_set] at he
  split at he
  ·split at he <;> cases he
  ·obtain ⟨t,b,c⟩ := h.sh j _ he
   exact ⟨t,b,c.up X1⟩
 ·rw [List.getElem?_set] at e
  split at e
  ·rename_i hj
   subst hj
   split at e
   ·cases e
    exact ⟨p,xs,hi,ht,qD,hs.up X1⟩
   ·cases e
  ·rename_i hj
   obtain ⟨q,ys,b,c,g,f⟩ := h.ow j _ e
   exact ⟨q,ys,b,c,by rw [j9 (by rintro rfl;exact hj (h.inj i j _ hi b))];exact g,f.up X1⟩
theorem RS.base {Gb : Gp} (h : RS D Gb A τ ρ G) (e : Ex G0 Gb) (hd : Dom D G0) : RS D G0 A τ ρ G :=
 ⟨e.trans h.ex,hd,(fun i p a => by
  cases z : G0 p with
  | none => rfl
  | some o => have := h.fr i p a;rw [e _ _ z] at this;cases this),h.da,h.inj,h.len,h.sh,h.ow⟩
end
inductive Ot where
 | nx (ρ : Rho) | bk (ρ : Rho) | ct (ρ : Rho) | rt (d : PyData) (fr : Bool)
noncomputable def qaj (D : Addr → Prop) (G0 : Gp) (e : Ends3) : Ot → Prop
 | .nx ρ => ∀ A τ G,RS D G0 A τ ρ G → e.nx τ G
 | .bk ρ => ∀ A τ G,RS D G0 A τ ρ G → e.bk τ G
 | .ct ρ => ∀ A τ G,RS D G0 A τ ρ G → e.ct τ G
 | .rt d fr => ∀ x G,Ex G0 G → Dq (rs D G) x d → (fr = true → Nw D G0 G x d) → e.rt x G
theorem qaj.base {D : Addr → Prop} {G0 Gb : Gp} {e : Ends3} {o : Ot} (h : qaj D G0 e o) (x : Ex G0 Gb) (hd : Dom D G0) : qaj D Gb e o := by
 cases o with
 | nx ρ => exact fun A τ G r => h A τ G (r.base x hd)
 | bk ρ => exact fun A τ G r => h A τ G (r.base x hd)
 | ct ρ => exact fun A τ G r => h A τ G (r.base x hd)
 | rt d fr => exact fun y G a b c => h y G (x.trans a) b fun z => (c z).back x
structure PuS (t : TS3) where
 f : Nat → Rho → Option Ot
 ok : ∀ {D G0 A τ ρ G n o} {e : Ends3},RS D G0 A τ ρ G → f n ρ = some o → qaj D G0 e o → t e τ G
noncomputable def Zm : PuS qT := ⟨fun _ ρ => some (.nx ρ),fun h hf k => by cases hf;exact k _ _ _ h⟩
noncomputable def qc9 (a b : Nat → Rho → Option Ot) (n : Nat) (ρ : Rho) : Option Ot := (a n ρ).bind fun o => match o with | .nx ρ' => b n ρ' | o => some o
noncomputable def Q7 {t u : TS3} (a : PuS t) (b : PuS u) : PuS (qK t u) := ⟨qc9 a.f b.f,fun {D G0 A τ ρ G n o e} h hf k => by
 unfold qc9 at hf
 obtain ⟨o1,e1,hf⟩ := Option.bind_eq_some_iff.mp hf
 refine a.ok h e1 ?_
 cases o1 with
 | nx ρ' => exact fun A' τ' G' h' => b.ok h' hf k
 | bk ρ' => cases hf;exact k
 | ct ρ' => cases hf;exact k
 | rt d fr => cases hf;exact k⟩
noncomputable def sIf {c : TT3} {t u : TS3} (pc : PuC c) (a : PuS t) (b : PuS u) : PuS (jX c t u) := ⟨fun n ρ => (pc.f ρ).bind fun k => if k then a.f n ρ else b.f n ρ,fun h hf k => by
 obtain ⟨o1,e1,hf⟩ := Option.bind_eq_some_iff.mp hf
 refine pc.ok (h.viewAll _) h.domD e1 fun G1 E1 => ?_
 cases o1 with
 | true => exact a.ok (h.up E1) hf k
 | false => exact b.ok (h.up E1) hf k⟩
noncomputable def ZT {t : TE3} (a : PuE t) : PuS (ze t) := ⟨fun _ ρ => (a.f ρ).map fun d => .rt d a.nw,fun h hf k => by
 obtain ⟨d,e1,rfl⟩ := Option.map_eq_some_iff.mp hf
 exact a.ok (h.viewAll _) h.domD e1 fun x G1 E1 D1 N1 => k x G1 (h.ex.trans E1) D1 fun z => (N1 z).back h.ex⟩
noncomputable def CN (ρ : Rho) (i : Nat) : Option Ot := match ρ[i]? with | some (.ow ds) => some (.rt (.list ds) true) | some (.sh d) => some (.rt d false) | _ => none
noncomputable def LT (i : Nat) : PuS (ze (v3 i)) := ⟨fun _ ρ => CN ρ i,fun h hf k => by
 unfold CN at hf
 split at hf
 ·rename_i ds e
  cases hf
  obtain ⟨p,xs,b,c,g,f⟩ := h.ow i _ e
  simp only [ze,v3,c]
  refine k _ _ h.ex (.lst (by rw [jA (h.nd b)];exact g) (f.up (zt fun b z => .inl z))) fun _ => .inr ⟨p,xs,ds,rfl,rfl,h.fr i p b,g,f.up (zt fun q z => ?_)⟩
  rcases z with z | z
  ·exact .inl z
  ·subst z;exact .inr ⟨i,b⟩
 ·rename_i d e
  cases hf
  obtain ⟨t,b,c⟩ := h.sh i _ e
  simp only [ze,v3,b]
  exact k _ _ h.ex (c.up (zt fun b z => .inl z)) (fun z => by cases z)
 ·cases hf⟩
noncomputable def TZ : PyData → Bool
 | .none => true | .bool _ => true | .int _ => true | .str _ => true | _ => false
theorem VP {H H' : Gp} {x : T} {d : PyData} (h : Dq H x d) (s : TZ d = true) : Dq H' x d := by
 cases h <;> first | (constructor;done) | (simp [TZ] at s;done)
noncomputable def qhq : PyData → Sl
 | .list ds => .ow ds
 | d => .sh d
noncomputable def Wo (m : List Bool) (nw : Bool) (i : Nat) (d : PyData) (ρ : Rho) : Rho := if TZ d then ρ.set i (.sh d) else (dm m ρ).set i (if nw then qhq d else .sh d)
noncomputable def EO {t : TE3} (a : PuE t) (i : Nat) (m : List Bool) (hm : Tru (a.fv.all (mkb m))) : PuS (zz t (gn3 i)) := ⟨fun _ ρ => (a.f ρ).map fun d => .nx (Wo m a.nw i d ρ),fun {D G0 A τ ρ G n o e} h hf k => by
 obtain ⟨d,e1,rfl⟩ := Option.map_eq_some_iff.mp hf
 refine a.ok (h.viewD hm) (h.dem m).dom e1 fun x G1 E1 D1 N1 => ?_
 unfold Wo at k
 show e.nx (τ.set i (some x)) G1
 split at k
 ·rename_i hs
  exact k _ _ _ ((h.up E1).put i (VP D1 hs))
 ·split at k
  ·rename_i hn
   have N := N1 hn
   rcases id N with h2 | ⟨p,xs,ds,h1,h2,_⟩
   ·subst h2;rename_i hs;exact absurd rfl hs
   subst h2
   exact k _ _ _ ((h.dem m).putN i rfl E1 N)
  ·exact k _ _ _ (((h.dem m).up E1).put i D1)⟩
noncomputable def Wv {t : TE3} {g : TG3} (a : PuE t) (pg : PuG g) (m : List Bool) (hm : Tru (a.fv.all (mkb m))) : PuS (zz t g) := ⟨fun _ ρ => (a.f ρ).bind fun d => (pg.f d).map fun bs => .nx (j4 (dm m ρ) bs),fun {D G0 A τ ρ G n o e} h hf k => by
 obtain ⟨d,e1,hf⟩ := Option.bind_eq_some_iff.mp hf
 obtain ⟨bs,e2,rfl⟩ := Option.map_eq_some_iff.mp hf
 refine a.ok (h.viewD hm) (h.dem m).dom e1 fun x G1 E1 D1 N1 => ?_
 obtain ⟨ts,bd,kg⟩ := pg.ok D1 e2
 refine kg _ _ _ ?_
 obtain ⟨A',h'⟩ := ((h.dem m).up E1).puts bd
 exact k _ _ _ h'⟩
noncomputable def qdi (i j : Nat) (m : List Bool) (ds : List PyData) (ρ : Rho) : Option Ot := match ds with
 | [d,e] => if TZ d && TZ e then some (.nx ((ρ.set i (.sh d)).set j (.sh e))) else some (.nx (((dm m ρ).set i (.sh d)).set j (.sh e)))
 | _ => none
theorem qb6 {D : Addr → Prop} {A : Nat → Option Addr} {G : Gp} {i : Nat} : Ex (rs (AD D A) G) (rs (AD D (Er A i)) G) := zt fun b z => by
 rcases z with z | ⟨j,z⟩
 ·exact .inl z
 ·exact .inr ⟨j,(YX z).1⟩
noncomputable def slot (ρ : Rho) (i : Nat) : Option (List PyData) := match ρ[i]? with | some (.ow ds) => some ds | _ => none
theorem Xj {ρ : Rho} {i : Nat} {ds : List PyData} (h : slot ρ i = some ds) : ρ[i]? = some (.ow ds) := by
 unfold slot at h
 split at h
 ·rename_i e;cases h;exact e
 ·cases h
noncomputable def dmS (m : List Bool) (d : PyData) (ρ : Rho) : Rho := if TZ d then ρ else dm m ρ
theorem RS.evalS {D : Addr → Prop} {G0 G : Gp} {A : Nat → Option Addr} {τ : St3} {ρ : Rho} (h : RS D G0 A τ ρ G) {t : TE3} (a : PuE t) (m : List Bool) (hm : Tru (a.fv.all (mkb m))) {d : PyData} (hf : a.f ρ = some d) : ∃ A1,RS D G0 A1 τ (dmS m d ρ) G∧∀ q : Q3,(∀ x G',Ex G G' → Dq (rs (AD D A1) G') x d → q x G') → t τ G q := by
 unfold dmS
 by_cases hs : TZ d = true
 ·rw [if_pos hs]
  exact ⟨A,h,fun q k => a.ok (h.viewAll _) h.domD hf fun x G1 E1 D1 _ => k x G1 E1 (VP D1 hs)⟩
 ·rw [if_neg hs]
  exact ⟨Ad m A,h.dem m,fun q k => a.ok (h.viewD hm) (h.dem m).dom hf fun x G1 E1 D1 _ => k x G1 E1 D1⟩
noncomputable def Mq (i : Nat) (d : PyData) (ρ : Rho) : Option Ot := (slot ρ i).bind fun ds => cif (ds.length < sizeLine) (some (.nx (ρ.set i (.ow (ds ++ [d]))))) none
noncomputable def qd2 {t : TE3} (a : PuE t) (i : Nat) (m : List Bool) (hm : Tru (a.fv.all (mkb m))) : PuS (Vf (bm3 CO (v3 i) (qc t qh))) := ⟨fun _ ρ => (a.f ρ).bind fun d => Mq i d (dmS m d ρ),fun {D G0 A τ ρ G n o e} h hf k => by
 obtain ⟨d,e1,hf⟩ := Option.bind_eq_some_iff.mp hf
 obtain ⟨A1,h1,ev⟩ := h.evalS a m hm e1
 unfold Mq at hf
 obtain ⟨ds,e2,hf⟩ := Option.bind_eq_some_iff.mp hf
 unfold cif at hf
 split at hf
 ·rename_i hl
  cases hf
  obtain ⟨p,xs,b,c,g,f⟩ := h1.ow i _ (Xj e2)
  simp only [Vf,bm3,v3,c,zQ g]
  refine ⟨rfl,ev _ fun x G1 E1 D1 => ?_⟩
  simp only [qh,CO,E1 _ _ g]
  exact ⟨by rw [f.length];exact hl,k _ _ _ ((h1.up E1).wr b c ((f.up (ji E1)).append (.cons D1 .nil)))⟩
 ·cases hf⟩
noncomputable def qab (i : Nat) (d : PyData) (ρ : Rho) : Option Ot := match d with | .list es => (slot ρ i).bind fun ds => cif (ds.length + es.length ≤ sizeLine) (some (.nx (ρ.set i (.ow (ds ++ es))))) none | _ => none
noncomputable def qg2 {t : TE3} (a : PuE t) (i : Nat) (m : List Bool) (hm : Tru (a.fv.all (mkb m))) : PuS (Vf (bm3 KY (v3 i) (qc t qh))) := ⟨fun _ ρ => (a.f ρ).bind fun d => qab i d (dmS m d ρ),fun {D G0 A τ ρ G n o e} h hf k => by
 obtain ⟨d,e1,hf⟩ := Option.bind_eq_some_iff.mp hf
 obtain ⟨A1,h1,ev⟩ := h.evalS a m hm e1
 unfold qab at hf
 split at hf
 ·obtain ⟨ds,e2,hf⟩ := Option.bind_eq_some_iff.mp hf
  unfold cif at hf
  split at hf
  ·rename_i hl
   cases hf
   obtain ⟨p,xs,b,c,g,f⟩ := h1.ow i _ (Xj e2)
   simp only [Vf,bm3,v3,c,zQ g]
   refine ⟨rfl,ev _ fun x G1 E1 D1 => ?_⟩
   cases D1 with
   | lst g2 hs2 =>
    simp only [qh,KY,E1 _ _ g,(q0 g2).2]
    exact ⟨by rw [f.length,hs2.length];exact hl,k _ _ _ ((h1.up E1).wr b c ((f.up (ji E1)).append hs2))⟩
  ·cases hf
 ·cases hf⟩
noncomputable def JD (gf : PyData → Option (List (Nat × PyData))) (bf : Rho → Option Ot) : List PyData → Rho → Option Ot
 | [],ρ => some (.nx ρ)
 | d :: r,ρ => (gf d).bind fun bs => (bf (j4 ρ bs)).bind fun o => match o with
  | .nx ρ' => JD gf bf r ρ'
  | .ct ρ' => JD gf bf r ρ'
  | .bk ρ' => some (.nx ρ')
  | .rt d b => some (.rt d b)
theorem Wc {stay : Gp → Prop} {g : TG3} {tb : TS3} {e : Ends3} (pg : PuG g) (pb : PuS tb) {D : Addr → Prop} {G0 : Gp} {n : Nat} {o : Ot} {items0 : List T} (hs : ∀ A τ ρ G,RS D G0 A τ ρ G → stay G) (k : qaj D G0 e o) :
  ∀ (ds : List PyData) (items : List T),(∀ A τ ρ G,RS D G0 A τ ρ G → Dqs (rs (AD D A) G) items ds) → ∀ A τ ρ G,RS D G0 A τ ρ G → JD pg.f (pb.f n) ds ρ = some o → Ul stay g tb e items τ G
 | [],items,hi,A,τ,ρ,G,h,hf => by
  cases hf
  have := hi _ _ _ _ h
  cases this
  exact ⟨hs _ _ _ _ h,k _ _ _ h⟩
 | d :: ds,items,hi,A,τ,ρ,G,h,hf => by
  have hh := hi _ _ _ _ h
  cases hh with
  | cons hx hr =>
   rename_i x items
   unfold JD at hf
   obtain ⟨bs,e1,hf⟩ := Option.bind_eq_some_iff.mp hf
   obtain ⟨o1,e2,hf⟩ := Option.bind_eq_some_iff.mp hf
   obtain ⟨ts,bd,kg⟩ := pg.ok hx e1
   refine ⟨hs _ _ _ _ h,kg _ _ _ ?_⟩
   obtain ⟨A',h'⟩ := h.puts bd
   refine pb.ok h' e2 ?_
   have hi' : ∀ A τ ρ G,RS D G0 A τ ρ G → Dqs (rs (AD D A) G) items ds := fun A τ ρ G h => by
    have := hi _ _ _ _ h
    cases this with
    | cons a b => exact b
   cases o1 with
   | nx ρ' => exact fun A2 τ2 G2 h2 => Wc (items0 := items0) pg pb hs k ds items hi' _ _ _ _ h2 hf
   | ct ρ' => exact fun A2 τ2 G2 h2 => Wc (items0 := items0) pg pb hs k ds items hi' _ _ _ _ h2 hf
   | bk ρ' => cases hf;exact k
   | rt d fr => cases hf;exact k
noncomputable def NE (pi : Rho → Option (List PyData)) (nm : Bool) (m : List Bool) (gf : PyData → Option (List (Nat × PyData))) (bf : Nat → Rho → Option Ot) (n : Nat) (ρ : Rho) : Option Ot := (pi ρ).bind fun ds => JD gf (bf n) ds (if nm then ρ else dm m ρ)
noncomputable def RG {wi : TI3} {g : TG3} {tb : TS3} (pi : PuI wi) (pg : PuG g) (pb : PuS tb) (m : List Bool) (hm : Tru (pi.fv.all (mkb m))) : PuS (YT wi g tb) := ⟨NE pi.f pi.nm m pg.f pb.f,fun {D G0 A τ ρ G n o e} h hf k => by
 unfold NE at hf
 obtain ⟨ds,e1,hf⟩ := Option.bind_eq_some_iff.mp hf
 refine pi.ok (h.viewD hm) (h.dem m).dom e1 fun items stay G1 E1 D1 hs hnm => ?_
 cases hb : pi.nm with
 | true =>
  rw [hb,if_pos rfl] at hf
  obtain ⟨ns,rfl⟩ := hnm hb
  have := D1.ints
  subst this
  exact Wc (items0 := []) pg pb (fun _ _ _ _ _ => hs _ (.inl hb)) k _ _ (fun A τ ρ G _ => Dqs.ofInts _) _ _ _ _ (h.up E1) hf
 | false =>
  rw [hb,if_neg Bool.false_ne_true] at hf
  have h1 := (h.dem m).up E1
  have b1 : Ex G0 (rs (fun b => ∃ i,Ad m A i = some b) G1) := fun b o e => by
   rw [jA]
   ·exact h1.ex _ _ e
   ·rintro ⟨i,z⟩;rw [h1.fr i _ z] at e;cases e
  have h2 : RS D (rs (fun b => ∃ i,Ad m A i = some b) G1) (Ad m A) τ (dm m ρ) G1 := ⟨Zz,h.dm.up b1,fun i p z => by unfold rs;exact zF ⟨i,z⟩,h1.da,h1.inj,h1.len,h1.sh,h1.ow⟩
  have X : ∀ A2 τ2 ρ2 G2,RS D (rs (fun b => ∃ i,Ad m A i = some b) G1) A2 τ2 ρ2 G2 → Ex (rs (AD D (Ad m A)) G1) (rs (AD D A2) G2) := fun A2 τ2 ρ2 G2 r b o e => by
   obtain ⟨n1,e⟩ := q0 e
   have eb : rs (fun b => ∃ i,Ad m A i = some b) G1 b = some o := by rw [jA (fun z => n1 (.inr z))];exact e
   rw [jA]
   ·exact r.ex _ _ eb
   ·rintro (z | ⟨i,z⟩)
    ·exact n1 (.inl z)
    ·rw [r.fr i _ z] at eb;cases eb
  exact Wc (items0 := []) pg pb (fun A2 τ2 ρ2 G2 r => hs _ (.inr ((X _ _ _ _ r).trans Zz))) (k.base b1 h.dm) _ _ (fun A2 τ2 ρ2 G2 r => D1.up (X _ _ _ _ r)) _ _ _ _ h2 hf⟩
noncomputable def Jm (fr : Bool) : Option Ot → Option PyData
 | some (.rt d b) => if fr = true∧b = false then (match d with | .none => some .none | _ => none) else some d
 | some (.nx _) => if fr then none else some .none
 | _ => none
noncomputable def st (ds : List PyData) (N : Nat) : Rho := ds.map Sl.sh ++ List.replicate (N - ds.length) .un
noncomputable def run (f : Nat → Rho → Option Ot) (k N n : Nat) (fr : Bool) (ds : List PyData) : Option PyData := if ds.length = k then Jm fr (f n (st ds N)) else none
theorem zG {t : TS3} (b : PuS t) (N : List Str) (k n : Nat) (fr : Bool) : ∀ ts G q,PSp (run b.f k N.length n fr) fr ts G q → ts.length = k∧t { nx := fun _ G' => q .non G',rt := q } (qx N ts) G := by
 rintro ts G q ⟨D,ds,d,hs,hd,hf,h⟩
 unfold run at hf
 split at hf
 ·rename_i hk
  refine ⟨by rw [hs.length];exact hk,?_⟩
  have r : RS D G (fun _ => none) (qx N ts) (st ds N.length) G := by
   refine ⟨Ex.refl,hd,(fun i p e => by cases e),(fun i p e => by cases e),(fun i j p e => by cases e),(by simp [st,qx,hs.length]),fun i d' e => ?_,fun i es e => ?_⟩
   ·unfold st at e
    unfold qx
    by_cases hi : i < ds.length
    ·rw [List.getElem?_append_left (by simpa using hi),List.getElem?_map] at e
     obtain ⟨d2,e3,e4⟩ := Option.map_eq_some_iff.mp e
     cases e4
     obtain ⟨x,e5,hx⟩ := hs.get e3
     refine ⟨x,?_,hx.up (zt fun b z => ?_)⟩
     ·rw [List.getElem?_append_left (by simp [hs.length];exact hi),List.getElem?_map,e5];rfl
     ·rcases z with z | ⟨i,z⟩
      ·exact z
      ·cases z
    ·rw [List.getElem?_append_right (by simpa using hi),List.getElem?_replicate] at e
     split at e <;> cases e
   ·unfold st at e
    by_cases hi : i < ds.length
    ·rw [List.getElem?_append_left (by simpa using hi),List.getElem?_map] at e
     obtain ⟨d2,e3,e4⟩ := Option.map_eq_some_iff.mp e
     cases e4
    ·rw [List.getElem?_append_right (by simpa using hi),List.getElem?_replicate] at e
     split at e <;> cases e
  unfold Jm at hf
  split at hf
  ·rename_i d' b' e
   split at hf
   ·split at hf
    ·cases hf
     exact b.ok r e fun x G' a c z => h x G' a c fun _ => .inl rfl
    ·cases hf
   ·rename_i hb
    cases hf
    exact b.ok r e fun x G' a c z => h x G' a c fun w => z (by
     cases b' with
     | true => rfl
     | false => exact absurd ⟨w,rfl⟩ hb)
  ·rename_i ρ' e
   split at hf
   ·cases hf
   ·rename_i hb
    cases hf
    exact b.ok r e fun A τ G' r' => h .non G' r'.ex .non fun w => absurd w hb
  ·cases hf
 ·cases hf
end Pu
namespace Pu
open PySem L2 L3
mutual
noncomputable def tD : T → Option PyData
 | .non => some .none | .bl b => some (.bool b) | .int i => some (.int i) | .str x => some (.str x) | .tup xs => (tDs xs).map .tuple | .ref _ => none
noncomputable def tDs : List T → Option (List PyData)
 | [] => some []
 | x :: r => (tD x).bind fun d => (tDs r).map (d :: ·)
end
mutual
theorem qcz {G : Gp} : ∀ (t : T) {d : PyData},tD t = some d → Dq G t d
 | .non,_,h => by cases h;exact .non
 | .bl b,_,h => by cases h;exact .bl b
 | .int b,_,h => by cases h;exact .int b
 | .str b,_,h => by cases h;exact .str b
 | .tup xs,_,h => by
  unfold tD at h
  obtain ⟨ds,e,rfl⟩ := Option.map_eq_some_iff.mp h
  exact .tup (Tg xs e)
 | .ref _,_,h => by cases h
theorem Tg {G : Gp} : ∀ (t : List T) {d : List PyData},tDs t = some d → Dqs G t d
 | [],_,h => by cases h;exact .nil
 | x :: r,_,h => by
  unfold tDs at h
  obtain ⟨d,e,h⟩ := Option.bind_eq_some_iff.mp h
  obtain ⟨ds,e2,rfl⟩ := Option.map_eq_some_iff.mp h
  exact .cons (qcz x e) (Tg r e2)
end
noncomputable def asS : PyData → Option Str
 | .str s => some s
 | _ => none
theorem Sr {d : PyData} {b : Str} (h : asS d = some b) : d = .str b := by cases d <;> simp [asS] at h;subst h;rfl
noncomputable def qbf (tab : List (Str × T)) {te : TE3} (a : PuE te) : PuE (RT tab te) := ⟨fun ρ => ((a.f ρ).bind asS).bind fun s => (jg tab s).bind tD,a.fv,false,fun hv hd hf k => by
 obtain ⟨s,e1,hf⟩ := Option.bind_eq_some_iff.mp hf
 obtain ⟨d,e1,e2⟩ := Option.bind_eq_some_iff.mp e1
 have := Sr e2;subst this
 obtain ⟨t,e3,hf⟩ := Option.bind_eq_some_iff.mp hf
 refine a.ok hv hd e1 fun x' G1 E1 D1 _ => ?_
 cases D1
 simp only [e3]
 exact k _ _ E1 (qcz t hf) (fun z => by cases z)⟩
noncomputable def RF : List Str → List PyData → Str → Option PyData
 | k :: ks,x :: xs,s => if k = s then some x else RF ks xs s
 | _,_,_ => none
theorem C1 {G : Gp} : ∀ (ks : List Str) {xs : List T} {ds : List PyData} {s : Str} {d : PyData},Dqs G xs ds → RF ks ds s = some d → ∃ x,jg (ks.zip xs) s = some x∧Dq G x d
 | [],_,_,_,_,_,h => by simp [RF] at h
 | k :: ks,_,_,_,_,.nil,h => by simp [RF] at h
 | k :: ks,_,_,s,d,.cons a b,h => by
  unfold RF at h
  simp only [List.zip_cons_cons,jg]
  split at h
  ·rename_i e
   cases h
   exact ⟨_,by rw [if_pos e],a⟩
  ·rename_i e
   obtain ⟨x,h1,h2⟩ := C1 ks b h
   exact ⟨x,by rw [if_neg e];exact h1,h2⟩
noncomputable def Nv (ks : List Str) {t : TA3} {te : TE3} (a : PuA t) (b : PuE te) : PuE (Lb ks t te) := ⟨fun ρ => (a.f ρ).bind fun ds => ((b.f ρ).bind asS).bind fun s => RF ks ds s,a.fv ++ b.fv,false,fun hv hd hf k => by
 obtain ⟨ds,e1,hf⟩ := Option.bind_eq_some_iff.mp hf
 obtain ⟨s,e2,hf⟩ := Option.bind_eq_some_iff.mp hf
 obtain ⟨d,e2,e3⟩ := Option.bind_eq_some_iff.mp e2
 have := Sr e3;subst this
 refine a.ok hv.l hd e1 fun xs G1 E1 D1 => b.ok (hv.r.up E1) (hd.up E1) e2 fun y G2 E2 D2 _ => ?_
 cases D2
 obtain ⟨x,h1,h2⟩ := C1 ks (D1.up (ji E2)) hf
 simp only [h1]
 exact k _ _ (E1.trans E2) h2 (fun z => by cases z)⟩
end Pu
namespace Pu
open PySem L2 L3
theorem qgm {i : Nat} : (bV i).f = fun ρ => vw ρ i := id rfl
theorem SN {i : Int} : (qN i).f = fun _ => some (.int i) := id rfl
theorem NG {i : Bool} : (bBl i).f = fun _ => some (.bool i) := id rfl
theorem TR {i : Str} : (WG i).f = fun _ => some (.str i) := id rfl
theorem Ka : Rz.f = fun _ => some .none := id rfl
theorem qgg {r : R3} {ta tb : TE3} {R : OpD r} {a : PuE ta} {b : PuE tb} : (bO R a b).f = fun ρ => (a.f ρ).bind fun x => (b.f ρ).bind fun y => R.f x y := id rfl
theorem SI : qw.f = fun _ => some [] := id rfl
theorem Cs {ta : TE3} {tr : TA3} {a : PuE ta} {r : PuA tr} : (qf a r).f = fun ρ => (a.f ρ).bind fun x => (r.f ρ).bind fun xs => some (x :: xs) := id rfl
theorem Ts {t : TA3} {a : PuA t} {hn : Tru (Nat.ble a.n 1000)} : (Vs a hn).f = fun ρ => (a.f ρ).map .tuple := id rfl
theorem Tq {t : TA3} {a : PuA t} {hn : Tru (Nat.ble a.n 1000)} : (ED a hn).f = fun ρ => (a.f ρ).map .list := id rfl
theorem Xl {r : List T → Gp → Q3 → Prop} {t : TA3} {R : FnD r} {a : PuA t} : (qH R a).f = fun ρ => (a.f ρ).bind R.f := id rfl
theorem NH {t : TE3} {a : PuE t} : (bTb a).f = fun ρ => (a.f ρ).bind asB := id rfl
theorem NQ {t u : TT3} {a : PuC t} {b : PuC u} : (bOr a b).f = fun ρ => (a.f ρ).bind fun k => if k then some true else b.f ρ := id rfl
theorem Sv {t : TT3} {a : PuC t} : (CK a).f = fun ρ => (a.f ρ).map (! ·) := id rfl
theorem qaf : bTt.f = fun _ => some true := id rfl
theorem WZ {ta tb : TE3} {a : PuE ta} {b : PuE tb} : (EV a b).f = fun ρ => ((a.f ρ).bind asB).bind fun k => if k then b.f ρ else some (.bool false) := id rfl
theorem Xx {ta : TE3} {a : PuE ta} : (KK a).f = fun ρ => ((a.f ρ).bind asB).map fun k => .bool (!k) := id rfl
theorem qb8 {t : TT3} {ta tb : TE3} {c : PuC t} {a : PuE ta} {b : PuE tb} : (bIf c a b).f = fun ρ => (c.f ρ).bind fun k => if k then a.f ρ else b.f ρ := id rfl
theorem Tz {ta : TE3} {a : PuE ta} : (qc8 a).f = fun ρ => ((a.f ρ).bind asI).map fun i => .int (-i) := id rfl
theorem qb9 {r r' : R3} {ta tb tc : TE3} {R : OpD r} {R' : OpD r'} {a : PuE ta} {b : PuE tb} {c : PuE tc} : (bCh R R' a b c).f = fun ρ => (a.f ρ).bind fun x => (b.f ρ).bind fun y => ((R.f x y).bind asB).bind fun k => if k then (c.f ρ).bind fun z => R'.f y z else some (.bool false) := id rfl
theorem Sn {ta : TE3} {g : String → Bool} {a : PuE ta} : (WD g a).f = fun ρ => (a.f ρ).bind fun d => (tyD d).map fun t => .bool (g t) := id rfl
theorem Mm : bNp.f = fun _ => some none := id rfl
theorem MQ {t : TE3} {a : PuE t} : (bSp a).f = fun ρ => ((a.f ρ).bind asI).map some := id rfl
theorem MX {te : TE3} {tl th : TO3} {a : PuE te} {l : PuO tl} {h : PuO th} : (bSl a l h).f = fun ρ => (a.f ρ).bind fun d => (l.f ρ).bind fun lo => (h.f ρ).bind fun hi => slD d lo hi := id rfl
theorem XM {tab : List (Str × T)} {te : TE3} {a : PuE te} : (qbf tab a).f = fun ρ => ((a.f ρ).bind asS).bind fun s => (jg tab s).bind tD := id rfl
theorem XD {ks : List Str} {t : TA3} {te : TE3} {a : PuA t} {b : PuE te} : (Nv ks a b).f = fun ρ => (a.f ρ).bind fun ds => ((b.f ρ).bind asS).bind fun s => RF ks ds s := id rfl
theorem MC {wi : TI3} {g : TG3} {tif : TT3} {te : TE3} {pi : PuI wi} {pg : PuG g} {pc : PuC tif} {pe : PuE te} {m : List (Option Nat)} {hm : Tru (pg.tg.all fun i => m[i]? == some none)} : (bLc pi pg pc pe m hm).f = lcF pi.f (lcH pg.f pc.f pe.f) m := id rfl
theorem Sg {wi wi2 : TI3} {g g2 : TG3} {tif tif2 : TT3} {te : TE3} {pi : PuI wi} {pg : PuG g} {pc : PuC tif} {pi2 : PuI wi2} {pg2 : PuG g2} {pc2 : PuC tif2} {pe : PuE te} {m : List (Option Nat)} {hm : Tru (pg.tg.all fun i => m[i]? == some none)} {hm2 : Tru (pg2.tg.all fun i => m[i]? == some none)} {hdj : Tru (pg2.tg.all fun i => !pg.tg.contains i)} : (qdd pi pg pc pi2 pg2 pc2 pe m hm hm2 hdj).f = NF pi.f (qcr pg.f pc.f pi2.f (lcH pg2.f pc2.f pe.f)) m := id rfl
theorem SH : Eh.f = KL := id rfl
theorem Tc : qgj.f = qdl := id rfl
theorem TN : qde.f = qdb := id rfl
theorem S9 : LY.f = qca := id rfl
theorem So : qc4.f = MU := id rfl
theorem Xv {F : List PyData → Option PyData} {fr : Bool} : (j6 F fr).f = F := id rfl
theorem qbn {g : Int → Int → Bool} {i j : Int} : (opB g).f (.int i) (.int j) = some (.bool (g i j)) := id rfl
theorem MO {C : Int → Int → Prop} {g : Int → Int → Int} : (opC C g).f = cI C g := id rfl
theorem S8 {n : Bool} : (JP n).f = eqD n := id rfl
theorem C6 {n : Bool} : (Lx n).f = MW n := id rfl
theorem Sh : Qe.f = ixD := id rfl
theorem XG : Zp.f = Ma := id rfl
theorem DE : UL.f = qbc := id rfl
theorem To {t : TE3} {a : PuE t} : (RQ a).f = fun ρ => (a.f ρ).bind W2 := id rfl
theorem Tj {t : TA3} {a : PuA t} : (UB a).f = fun ρ => (a.f ρ).bind CM := id rfl
theorem Tk {t : TA3} {a : PuA t} : (qg3 a).f = fun ρ => (a.f ρ).bind fun ds => match ds with | [d,e] => (W2 d).bind fun us => (W2 e).bind fun vs => some (Kh us vs) | _ => none := id rfl
theorem XY {t : TA3} {a : PuA t} : (XF a).f = fun ρ => (a.f ρ).bind fun ds => match ds with | [d] => (W2 d).map fun us => enD 0 us | _ => none := id rfl
theorem XR {t : TE3} {a : PuE t} : (RQ a).nm = false := id rfl
theorem Wf {t : TA3} {a : PuA t} : (XF a).nm = false := id rfl
theorem XI {t : TA3} {a : PuA t} : (UB a).nm = true := id rfl
theorem qgt {i : Nat} : (gN i).f = fun d => some [(i,d)] := id rfl
theorem Tv : DJ.f [] = some [] := id rfl
theorem XA {t : TG3} {u : EB} {a : PuG t} {b : PuGs u} {d : PyData} {r : List PyData} : (jr a b).f (d :: r) = (a.f d).bind fun x => (b.f r).map fun y => x ++ y := id rfl
theorem Sd {u : EB} {n : Nat} {b : PuGs u} {ds : List PyData} : (DG n b).f (.tuple ds) = if ds.length = n then b.f ds else none := id rfl
theorem XN : Zm.f = fun _ ρ => some (.nx ρ) := id rfl
theorem SW {t u : TS3} {a : PuS t} {b : PuS u} : (Q7 a b).f = qc9 a.f b.f := id rfl
theorem NP {c : TT3} {t u : TS3} {pc : PuC c} {a : PuS t} {b : PuS u} : (sIf pc a b).f = fun n ρ => (pc.f ρ).bind fun k => if k then a.f n ρ else b.f n ρ := id rfl
theorem Ke {t : TE3} {a : PuE t} : (ZT a).f = fun _ ρ => (a.f ρ).map fun d => .rt d a.nw := id rfl
theorem Xi {i : Nat} : (LT i).f = fun _ ρ => CN ρ i := id rfl
theorem S4 {t : TE3} {a : PuE t} {i : Nat} {m : List Bool} {hm : Tru (a.fv.all (mkb m))} : (EO a i m hm).f = fun _ ρ => (a.f ρ).map fun d => .nx (Wo m a.nw i d ρ) := id rfl
theorem Cg {t : TE3} {g : TG3} {a : PuE t} {pg : PuG g} {m : List Bool} {hm : Tru (a.fv.all (mkb m))} : (Wv a pg m hm).f = fun _ ρ => (a.f ρ).bind fun d => (pg.f d).map fun bs => .nx (j4 (dm m ρ) bs) := id rfl
theorem Sz {t : TE3} {a : PuE t} {i : Nat} {m : List Bool} {hm : Tru (a.fv.all (mkb m))} : (qd2 a i m hm).f = fun _ ρ => (a.f ρ).bind fun d => Mq i d (dmS m d ρ) := id rfl
theorem Ki {t : TE3} {a : PuE t} {i : Nat} {m : List Bool} {hm : Tru (a.fv.all (mkb m))} : (qg2 a i m hm).f = fun _ ρ => (a.f ρ).bind fun d => qab i d (dmS m d ρ) := id rfl
theorem SR {wi : TI3} {g : TG3} {tb : TS3} {pi : PuI wi} {pg : PuG g} {pb : PuS tb} {m : List Bool} {hm : Tru (pi.fv.all (mkb m))} : (RG pi pg pb m hm).f = NE pi.f pi.nm m pg.f pb.f := id rfl
theorem Cp {i : Int} : (qN i).nw = false := id rfl
theorem T4 {i : Bool} : (bBl i).nw = false := id rfl
theorem X8 : Rz.nw = false := id rfl
theorem qak {r : R3} {ta tb : TE3} {R : OpD r} {a : PuE ta} {b : PuE tb} : (bO R a b).nw = R.nw := id rfl
theorem Xm {t : TA3} {a : PuA t} {hn : Tru (Nat.ble a.n 1000)} : (Vs a hn).nw = false := id rfl
theorem WK {t : TA3} {a : PuA t} {hn : Tru (Nat.ble a.n 1000)} : (ED a hn).nw = true := id rfl
theorem DX {r : List T → Gp → Q3 → Prop} {t : TA3} {R : FnD r} {a : PuA t} : (qH R a).nw = R.nw := id rfl
theorem Wi {F : List PyData → Option PyData} {fr : Bool} : (j6 F fr).nw = fr := id rfl
theorem Wg {ta tb : TE3} {a : PuE ta} {b : PuE tb} : (EV a b).nw = false := id rfl
theorem Su {t : TT3} {ta tb : TE3} {c : PuC t} {a : PuE ta} {b : PuE tb} : (bIf c a b).nw = false := id rfl
theorem T3 {te : TE3} {tl th : TO3} {a : PuE te} {l : PuO tl} {h : PuO th} : (bSl a l h).nw = false := id rfl
theorem Kk {wi : TI3} {g : TG3} {tif : TT3} {te : TE3} {pi : PuI wi} {pg : PuG g} {pc : PuC tif} {pe : PuE te} {m : List (Option Nat)} {hm : Tru (pg.tg.all fun i => m[i]? == some none)} : (bLc pi pg pc pe m hm).nw = true := id rfl
theorem Ce {wi wi2 : TI3} {g g2 : TG3} {tif tif2 : TT3} {te : TE3} {pi : PuI wi} {pg : PuG g} {pc : PuC tif} {pi2 : PuI wi2} {pg2 : PuG g2} {pc2 : PuC tif2} {pe : PuE te} {m : List (Option Nat)} {hm : Tru (pg.tg.all fun i => m[i]? == some none)} {hm2 : Tru (pg2.tg.all fun i => m[i]? == some none)} {hdj : Tru (pg2.tg.all fun i => !pg.tg.contains i)} : (qdd pi pg pc pi2 pg2 pc2 pe m hm hm2 hdj).nw = true := id rfl
theorem Xy : qde.nw = false := id rfl
theorem Cl : qc4.nw = false := id rfl
theorem Xp : LY.nw = true := id rfl
theorem XH : Qe.nw = false := id rfl
theorem Dz : Zp.nw = false := id rfl
theorem UR : UL.nw = true := id rfl
theorem Kg {C : Int → Int → Prop} {g : Int → Int → Int} : (opC C g).nw = false := id rfl
theorem qgq {s : Sl} {r : Rho} : vw (s :: r) 0 = s.d := id rfl
theorem qgs {s : Sl} {r : Rho} {i : Nat} : vw (s :: r) (i + 1) = vw r i := id rfl
theorem Ni {d : PyData} : (Sl.sh d).d = some d := id rfl
theorem NY {ds : List PyData} : (Sl.ow ds).d = some (.list ds) := id rfl
theorem NB : Sl.un.d = none := id rfl
theorem Cr {r : Rho} {ds : List PyData} : CN (.ow ds :: r) 0 = some (.rt (.list ds) true) := id rfl
theorem Xn {r : Rho} {d : PyData} : CN (.sh d :: r) 0 = some (.rt d false) := id rfl
theorem Tm {s : Sl} {r : Rho} {i : Nat} : CN (s :: r) (i + 1) = CN r i := id rfl
theorem qcm {xs : List PyData} {i : Int} : ixD (.tuple xs) (.int i) = L2.atI xs i := id rfl
theorem qa0 {xs : List PyData} {i : Int} : ixD (.list xs) (.int i) = L2.atI xs i := id rfl
theorem at0 {α : Type} {a : α} {r : List α} : L2.atI (a :: r) 0 = some a := by simp [L2.atI,ixN]
theorem at1 {α : Type} {a b : α} {r : List α} : L2.atI (a :: b :: r) 1 = some b := by
 have h : ixN (a :: b :: r).length 1 = some 1 := by unfold ixN;rw [if_pos (by omega),if_pos (by simp;omega)];rfl
 unfold L2.atI;rw [h];rfl
theorem at2 {α : Type} {a b c : α} {r : List α} : L2.atI (a :: b :: c :: r) 2 = some c := by
 have h : ixN (a :: b :: c :: r).length 2 = some 2 := by unfold ixN;rw [if_pos (by omega),if_pos (by simp;omega)];rfl
 unfold L2.atI;rw [h];rfl
theorem at3 {α : Type} {a b c d : α} {r : List α} : L2.atI (a :: b :: c :: d :: r) 3 = some d := by
 have h : ixN (a :: b :: c :: d :: r).length 3 = some 3 := by unfold ixN;rw [if_pos (by omega),if_pos (by simp;omega)];rfl
 unfold L2.atI;rw [h];rfl
theorem atN {α : Type} {xs : List α} {k : Nat} (h : k < xs.length) : L2.atI xs (k : Int) = xs[k]? := by
 have e : ixN xs.length (k : Int) = some k := by unfold ixN;rw [if_pos (by omega),if_pos (by omega)];rfl
 unfold L2.atI;rw [e];rfl
theorem eqS {n : Bool} {a b : Str} : eqD n (.str a) (.str b) = some (.bool (if n then !decide (a = b) else decide (a = b))) := id rfl
theorem eqI {n : Bool} {a b : Int} : eqD n (.int a) (.int b) = some (.bool (if n then !decide (a = b) else decide (a = b))) := id rfl
theorem eqB {n : Bool} {a b : Bool} : eqD n (.bool a) (.bool b) = some (.bool (if n then !decide (a = b) else decide (a = b))) := id rfl
theorem Me {n : Bool} : MW n .none .none = some (.bool !n) := id rfl
theorem qag {n : Bool} {xs : List PyData} : MW n (.tuple xs) .none = some (.bool n) := id rfl
theorem RV {C : Int → Int → Prop} {g : Int → Int → Int} {i j : Int} (h : C i j) : cI C g (.int i) (.int j) = some (.int (g i j)) := by simp only [cI];exact zF h
theorem DM {i j : Int} (h : -1000000 < j∧j < 1000000) : cI Qm (· * ·) (.int i) (.int j) = some (.int (i * j)) := RV (.inr ⟨by omega,by omega⟩)
theorem U9 {i j : Int} (h : -1000000 < i∧i < 1000000) : cI Qm (· * ·) (.int i) (.int j) = some (.int (i * j)) := RV (.inl ⟨by omega,by omega⟩)
theorem UG {i j : Int} (h : 0 < j) : cI (fun _ j => 0 < j) (· % ·) (.int i) (.int j) = some (.int (i % j)) := RV h
theorem TV {i j : Int} (h : 0 < j∧j < 1073741824) : cI W5 (· / ·) (.int i) (.int j) = some (.int (i / j)) := RV h
theorem qgh {i j : Int} : Ma (.int i) (.int j) = some (.int (i + j)) := id rfl
theorem Du {j : Int} (h : -1000000000 ≤ j∧j < 1000000000) : CM [.int j] = some ((jW 0 j.toNat).map PyData.int) := by simp only [CM];exact zF ⟨by omega,by omega⟩
theorem qdg {i j : Int} (h : -1000000000 ≤ i∧i < 1000000000∧-1000000000 ≤ j∧j < 1000000000) : CM [.int i,.int j] = some ((jW i (j - i).toNat).map PyData.int) := by simp only [CM];exact zF ⟨by omega,by omega,by omega,by omega⟩
theorem Zy {pi : Rho → Option (List PyData)} {h : Rho → PyData → Option (Option PyData)} {m : List (Option Nat)} {ρ : Rho} {ds fs : List PyData} (h1 : pi ρ = some ds) (h2 : lcP (h (Vt m ρ)) ds = some fs) (h3 : fs.length ≤ 16777216) : lcF pi h m ρ = some (.list fs) := by unfold lcF;rw [h1];simp only [Option.bind_some,h2];exact zF h3
theorem Xc {pi : Rho → Option (List PyData)} {h : Rho → PyData → Option (Option (List PyData))} {m : List (Option Nat)} {ρ : Rho} {ds fs : List PyData} (h1 : pi ρ = some ds) (h2 : KZ (h (Vt m ρ)) ds = some fs) (h3 : fs.length ≤ 16777216) : NF pi h m ρ = some (.list fs) := by unfold NF;rw [h1];simp only [Option.bind_some,h2];exact zF h3
theorem WL {i : Nat} {d : PyData} {ρ : Rho} {ds : List PyData} (h : slot ρ i = some ds) (hl : ds.length < 16777216) : Mq i d ρ = some (.nx (ρ.set i (.ow (ds ++ [d])))) := by unfold Mq;rw [h];simp only [Option.bind_some];exact zF hl
theorem Rb {gf : PyData → Option (List (Nat × PyData))} {bf : Rho → Option Ot} {α : Type} {g : α → PyData} (xs : List α) (I : Nat → Rho → Prop) {ρ : Rho} (h0 : I 0 ρ)
  (hs : ∀ i x ρ,xs[i]? = some x → I i ρ → ∃ bs ρ',gf (g x) = some bs∧(bf (j4 ρ bs) = some (.nx ρ') ∨ bf (j4 ρ bs) = some (.ct ρ'))∧I (i + 1) ρ') : ∃ ρ',JD gf bf (xs.map g) ρ = some (.nx ρ')∧I xs.length ρ' := by
 have key : ∀ (r : List α) (i : Nat) (ρ : Rho),xs.drop i = r → i ≤ xs.length → I i ρ → ∃ ρ',JD gf bf (r.map g) ρ = some (.nx ρ')∧I xs.length ρ' := by
  intro r
  induction r with
  | nil =>
   intro i ρ e hi h
   have : i = xs.length := by
    have := congrArg List.length e
    simp at this;omega
   subst this
   exact ⟨ρ,rfl,h⟩
  | cons x r ih =>
   intro i ρ e hi h
   have hl : i < xs.length := by
    have := congrArg List.length e
    simp at this;omega
   have e' := List.drop_eq_getElem_cons hl
   rw [e] at e'
   injection e' with e1 e2
   obtain ⟨bs,ρ',h1,h2,h3⟩ := hs i x ρ (by rw [List.getElem?_eq_getElem hl,e1]) h
   obtain ⟨ρ2,h4,h5⟩ := ih (i + 1) ρ' e2.symm hl h3
   refine ⟨ρ2,?_,h5⟩
   simp only [List.map_cons,JD,h1,Option.bind_some]
   rcases h2 with h2 | h2 <;> (rw [h2];exact h4)
 exact key xs 0 ρ (by simp) (Nat.zero_le _) h0
theorem WP {gf : PyData → Option (List (Nat × PyData))} {bf : Rho → Option Ot} {α : Type} {g : α → PyData} (xs : List α) (n : Nat) (x : α) (hn : xs[n]? = some x) (I : Nat → Rho → Prop) {ρ : Rho} {o : Ot} (h0 : I 0 ρ)
  (hs : ∀ i x ρ,i < n → xs[i]? = some x → I i ρ → ∃ bs ρ',gf (g x) = some bs∧(bf (j4 ρ bs) = some (.nx ρ') ∨ bf (j4 ρ bs) = some (.ct ρ'))∧I (i + 1) ρ')
  (he : ∀ ρ,I n ρ → ∃ bs,gf (g x) = some bs∧((∃ d b,o = .rt d b∧bf (j4 ρ bs) = some (.rt d b)) ∨ ∃ ρ',o = .nx ρ'∧bf (j4 ρ bs) = some (.bk ρ'))) : JD gf bf (xs.map g) ρ = some o := by
 have hl := (List.getElem?_eq_some_iff.mp hn).1
 have key : ∀ (k i : Nat) (ρ : Rho),i + k = n → I i ρ → JD gf bf ((xs.drop i).map g) ρ = some o := by
  intro k
  induction k with
  | zero =>
   intro i ρ e h
   have : i = n := by omega
   subst this
   obtain ⟨bs,h1,h2⟩ := he ρ h
   rw [List.drop_eq_getElem_cons hl]
   have ex : xs[i] = x := by
    rw [List.getElem?_eq_getElem hl] at hn
    exact Option.some.inj hn
   rw [ex]
   simp only [List.map_cons,JD,h1,Option.bind_some]
   rcases h2 with ⟨d,b,rfl,h2⟩ | ⟨ρ',rfl,h2⟩ <;> (rw [h2];rfl)
  | succ k ih =>
   intro i ρ e h
   have hi : i < xs.length := by omega
   obtain ⟨bs,ρ',h1,h2,h3⟩ := hs i xs[i] ρ (by omega) (List.getElem?_eq_getElem hi) h
   rw [List.drop_eq_getElem_cons hi]
   simp only [List.map_cons,JD,h1,Option.bind_some]
   rcases h2 with h2 | h2 <;> (rw [h2];exact ih (i + 1) ρ' (by omega) h3)
 exact key n 0 ρ (by omega) h0
noncomputable def sqk (b : Nat → Rho → Option Ot) (n : Nat) (o : Ot) : Option Ot := match o with | .nx ρ' => b n ρ' | o => some o
theorem SX {a b : Nat → Rho → Option Ot} {n : Nat} {ρ : Rho} : qc9 a b n ρ = (a n ρ).bind (sqk b n) := id rfl
theorem S6 {b : Nat → Rho → Option Ot} {n : Nat} {ρ : Rho} : sqk b n (.nx ρ) = b n ρ := id rfl
theorem Tw {b : Nat → Rho → Option Ot} {n : Nat} {d : PyData} {f : Bool} : sqk b n (.rt d f) = some (.rt d f) := id rfl
theorem XC {d : PyData} : Jm true (some (.rt d true)) = some d := id rfl
theorem SO {d : PyData} {b : Bool} : Jm false (some (.rt d b)) = some d := by simp [Jm]
theorem Nj {b : Bool} : asB (.bool b) = some b := id rfl
theorem Mv {b : Int} : asI (.int b) = some b := id rfl
theorem M2 {b : Str} : asS (.str b) = some b := id rfl
theorem Tt {xs : List PyData} : KL [.tuple xs] = some (.int xs.length) := id rfl
theorem SU {xs : List PyData} : KL [.list xs] = some (.int xs.length) := id rfl
theorem TX {i : Bool} : qdl [.bool i] = some (.int (if i then 1 else 0)) := id rfl
theorem Sf {xs : List PyData} : qdb [.list xs] = some (.tuple xs) := id rfl
theorem TM {xs : List PyData} : qca [.tuple xs] = some (.list xs) := id rfl
theorem TQ {xs : List PyData} : qca [.list xs] = some (.list xs) := id rfl
theorem Wd {xs : List Bool} : MU [.list (xs.map PyData.bool)] = some (.bool (xs.all id)) := by simp only [MU,RA,Option.map_some]
theorem Ty {xs : List PyData} : W2 (.tuple xs) = some xs := id rfl
theorem Sj {xs : List PyData} : W2 (.list xs) = some xs := id rfl
theorem Mh {i : Int} : tyD (.int i) = some "int" := id rfl
theorem qbl {i : Bool} : tyD (.bool i) = some "bool" := id rfl
theorem qa3 : tyD .none = some "NoneType" := id rfl
theorem M5 {i : Str} : tyD (.str i) = some "str" := id rfl
theorem qce {i : List PyData} : tyD (.tuple i) = some "tuple" := id rfl
theorem MJ {i : List PyData} : tyD (.list i) = some "list" := id rfl
theorem qcy {m : List Bool} {nw : Bool} {i : Nat} {v : Int} {ρ : Rho} : Wo m nw i (.int v) ρ = ρ.set i (.sh (.int v)) := id rfl
theorem Nk {m : List Bool} {nw : Bool} {i : Nat} {v : Bool} {ρ : Rho} : Wo m nw i (.bool v) ρ = ρ.set i (.sh (.bool v)) := id rfl
theorem qax {m : List Bool} {nw : Bool} {i : Nat} {v : Str} {ρ : Rho} : Wo m nw i (.str v) ρ = ρ.set i (.sh (.str v)) := id rfl
theorem qae {m : List Bool} {nw : Bool} {i : Nat} {ρ : Rho} : Wo m nw i .none ρ = ρ.set i (.sh .none) := id rfl
theorem Mg {m : List Bool} {nw : Bool} {i : Nat} {v : List PyData} {ρ : Rho} : Wo m nw i (.tuple v) ρ = (dm m ρ).set i (.sh (.tuple v)) := by cases nw <;> rfl
theorem Tn {m : List Bool} {i : Nat} {v : List PyData} {ρ : Rho} : Wo m true i (.list v) ρ = (dm m ρ).set i (.ow v) := id rfl
theorem SB {m : List Bool} {i : Nat} {v : List PyData} {ρ : Rho} : Wo m false i (.list v) ρ = (dm m ρ).set i (.sh (.list v)) := id rfl
theorem Mx {m : List Bool} {v : List PyData} {ρ : Rho} : dmS m (.tuple v) ρ = dm m ρ := id rfl
theorem N0 {m : List Bool} {v : List PyData} {ρ : Rho} : dmS m (.list v) ρ = dm m ρ := id rfl
theorem qgw {ρ : Rho} : dm [] ρ = ρ := id rfl
theorem qgo {m : List Bool} {s : Sl} {ρ : Rho} : dm (true :: m) (s :: ρ) = s.dem :: dm m ρ := id rfl
theorem qgv {m : List Bool} {s : Sl} {ρ : Rho} : dm (false :: m) (s :: ρ) = s :: dm m ρ := id rfl
theorem N4 {ds : List PyData} : (Sl.ow ds).dem = .sh (.list ds) := id rfl
theorem NW {d : PyData} : (Sl.sh d).dem = .sh d := id rfl
theorem qal {ρ : Rho} : Vt [] ρ = [] := id rfl
theorem qb5 {m : List (Option Nat)} {ρ : Rho} : Vt (none :: m) ρ = .un :: Vt m ρ := id rfl
noncomputable def cp (o : Option PyData) : Sl := match o with | some d => .sh d | none => .un
theorem qam {m : List (Option Nat)} {j : Nat} {ρ : Rho} : Vt (some j :: m) ρ = cp (vw ρ j) :: Vt m ρ := id rfl
theorem qha {d : PyData} : cp (some d) = .sh d := id rfl
theorem qah {i j : Nat} {m : List Bool} {x y : Int} {ρ : Rho} : qdi i j m [.int x,.int y] ρ = some (.nx ((ρ.set i (.sh (.int x))).set j (.sh (.int y)))) := id rfl
theorem S0 {pi : Rho → Option (List PyData)} {m : List Bool} {gf : PyData → Option (List (Nat × PyData))} {bf : Nat → Rho → Option Ot} {n : Nat} {ρ : Rho} : NE pi true m gf bf n ρ = (pi ρ).bind fun ds => JD gf (bf n) ds ρ := id rfl
theorem Th {pi : Rho → Option (List PyData)} {m : List Bool} {gf : PyData → Option (List (Nat × PyData))} {bf : Nat → Rho → Option Ot} {n : Nat} {ρ : Rho} : NE pi false m gf bf n ρ = (pi ρ).bind fun ds => JD gf (bf n) ds (dm m ρ) := id rfl
theorem Tx {ρ : Rho} : j4 ρ [] = ρ := id rfl
theorem TD {ρ : Rho} {i : Nat} {d : PyData} {r : List (Nat × PyData)} : j4 ρ ((i,d) :: r) = j4 (ρ.set i (.sh d)) r := id rfl
theorem JQ {gf : PyData → Option (List (Nat × PyData))} {cf : Rho → Option Bool} {ef : Rho → Option PyData} {ρ : Rho} {d : PyData} : lcH gf cf ef ρ d = (gf d).bind fun bs => (cf (j4 ρ bs)).bind fun k => if k then (ef (j4 ρ bs)).map some else some none := id rfl
theorem TK {gf : PyData → Option (List (Nat × PyData))} {cf : Rho → Option Bool} {it : Rho → Option (List PyData)} {h : Rho → PyData → Option (Option PyData)} {ρ : Rho} {d : PyData} : qcr gf cf it h ρ d = (gf d).bind fun bs => (cf (j4 ρ bs)).bind fun k => if k then ((it (j4 ρ bs)).bind fun ds => lcP (h (j4 ρ bs)) ds).map some else some none := id rfl
def Nx (o : Option Ot) (P : Rho → Prop) : Prop := match o with | some (.nx ρ) => P ρ | some (.ct ρ) => P ρ | _ => False
theorem qay {ρ : Rho} {P : Rho → Prop} : Nx (some (.nx ρ)) P = P ρ := id rfl
theorem Nf {o : Option Ot} {P : Rho → Prop} (h : Nx o P) : ∃ ρ,(o = some (.nx ρ) ∨ o = some (.ct ρ))∧P ρ := by
 unfold Nx at h
 split at h
 ·exact ⟨_,.inl rfl,h⟩
 ·exact ⟨_,.inr rfl,h⟩
 ·exact h.elim
section
variable {gf : PyData → Option (List (Nat × PyData))} {bf : Rho → Option Ot} {α : Type} {g : α → PyData} {ρ : Rho} {Q : Option Ot → Prop} {F : Ot → Option Ot}
theorem U4 (xs : List α) (I : Nat → Rho → Prop) (h0 : I 0 ρ) (hs : ∀ i x ρ,xs[i]? = some x → I i ρ → Nx ((gf (g x)).bind fun bs => bf (j4 ρ bs)) (I (i + 1))) (k : ∀ ρ',I xs.length ρ' → Q (some (.nx ρ'))) : Q (JD gf bf (xs.map g) ρ) := by
 obtain ⟨ρ',e,h⟩ := Rb (gf := gf) (bf := bf) (g := g) xs I h0 fun i x ρ hx hi => by
  obtain ⟨ρ2,e,h⟩ := Nf (hs i x ρ hx hi)
  cases e1 : gf (g x) with
  | none => rw [e1] at e;rcases e with e | e <;> cases e
  | some bs => rw [e1] at e;exact ⟨bs,ρ2,rfl,e,h⟩
 rw [e]
 exact k ρ' h
theorem Ut (xs : List α) (I : Nat → Rho → Prop) (h0 : I 0 ρ) (hs : ∀ i x ρ,xs[i]? = some x → I i ρ → Nx ((gf (g x)).bind fun bs => bf (j4 ρ bs)) (I (i + 1))) (k : ∀ ρ',I xs.length ρ' → Q (F (.nx ρ'))) : Q ((JD gf bf (xs.map g) ρ).bind F) :=
 U4 (Q := fun o => Q (o.bind F)) xs I h0 hs k
theorem Ym (xs : List α) (n : Nat) (x : α) (d : PyData) (b : Bool) (hn : xs[n]? = some x) (I : Nat → Rho → Prop) (h0 : I 0 ρ) (hs : ∀ i x ρ,i < n → xs[i]? = some x → I i ρ → Nx ((gf (g x)).bind fun bs => bf (j4 ρ bs)) (I (i + 1))) (he : ∀ ρ,I n ρ → ((gf (g x)).bind fun bs => bf (j4 ρ bs)) = some (.rt d b)) (k : Q (some (.rt d b))) : Q (JD gf bf (xs.map g) ρ) := by
 rw [WP (gf := gf) (bf := bf) (g := g) xs n x hn I h0 (fun i x ρ hi hx hI => by
  obtain ⟨ρ2,e,h⟩ := Nf (hs i x ρ hi hx hI)
  cases e1 : gf (g x) with
  | none => rw [e1] at e;rcases e with e | e <;> cases e
  | some bs => rw [e1] at e;exact ⟨bs,ρ2,rfl,e,h⟩) (o := .rt d b) fun ρ hI => by
  have := he ρ hI
  cases e1 : gf (g x) with
  | none => rw [e1] at this;cases this
  | some bs => rw [e1] at this;exact ⟨bs,rfl,.inl ⟨d,b,rfl,this⟩⟩]
 exact k
theorem KP (xs : List α) (n : Nat) (x : α) (d : PyData) (b : Bool) (hn : xs[n]? = some x) (I : Nat → Rho → Prop) (h0 : I 0 ρ) (hs : ∀ i x ρ,i < n → xs[i]? = some x → I i ρ → Nx ((gf (g x)).bind fun bs => bf (j4 ρ bs)) (I (i + 1))) (he : ∀ ρ,I n ρ → ((gf (g x)).bind fun bs => bf (j4 ρ bs)) = some (.rt d b)) (k : Q (F (.rt d b))) : Q ((JD gf bf (xs.map g) ρ).bind F) :=
 Ym (Q := fun o => Q (o.bind F)) xs n x d b hn I h0 hs he k
end
theorem R4 {α : Type} {us : List α} (h : us.length = 1) : ∃ a0,us = [a0] := List.length_eq_one_iff.mp h
theorem Te {α : Type} {us : List α} (h : us.length = 2) : ∃ a0 a1,us = [a0,a1] := by
 obtain ⟨a0,r,rfl⟩ := List.exists_cons_of_length_pos (show 0 < us.length by omega)
 obtain ⟨a1,rfl⟩ := R4 (show r.length = 1 by simpa using h)
 exact ⟨a0,a1,rfl⟩
theorem WA {α : Type} {us : List α} (h : us.length = 3) : ∃ a0 a1 a2,us = [a0,a1,a2] := by
 obtain ⟨a0,r,rfl⟩ := List.exists_cons_of_length_pos (show 0 < us.length by omega)
 obtain ⟨a1,a2,rfl⟩ := Te (show r.length = 2 by simpa using h)
 exact ⟨a0,a1,a2,rfl⟩
theorem qg7 {α : Type} {us : List α} (h : us.length = 4) : ∃ a0 a1 a2 a3,us = [a0,a1,a2,a3] := by
 obtain ⟨a0,r,rfl⟩ := List.exists_cons_of_length_pos (show 0 < us.length by omega)
 obtain ⟨a1,a2,a3,rfl⟩ := WA (show r.length = 3 by simpa using h)
 exact ⟨a0,a1,a2,a3,rfl⟩
end Pu
namespace Pu
open PySem L2 L3
end Pu
namespace Pu
open PySem L2 L3
end Pu
namespace Pu
open PySem L2 L3
noncomputable def qdc (d : PyData) : Option PyData := match d with | .list xs => some (.list xs.reverse) | .tuple xs => some (.tuple xs.reverse) | _ => none
noncomputable def qc5 {te : TE3} (a : PuE te) : PuE (qc3 te (sp3 (u3 WC (c3 (.int 1))))) := ⟨fun ρ => (a.f ρ).bind qdc,a.fv,false,fun {D τ ρ G q d} hv hd hf k => by
 obtain ⟨v,e1,hf⟩ := Option.bind_eq_some_iff.mp hf
 unfold qdc at hf
 split at hf
 ·cases hf
  refine a.ok hv hd e1 fun x G1 E1 D1 _ => ?_
  cases D1 with
  | lst g hs =>
   simp only [sp3,u3,WC,c3,zQ (q0 g).2]
   exact ⟨trivial,fun p hp => k _ _ (E1.trans (jE hp)) (Zk (hd.up E1) hp hs.rev) (fun z => by cases z)⟩
 ·cases hf
  refine a.ok hv hd e1 fun x G1 E1 D1 _ => ?_
  cases D1 with
  | tup hs =>
   simp only [sp3,u3,WC,c3]
   exact ⟨trivial,k _ _ E1 (.tup hs.rev) (fun z => by cases z)⟩
 ·cases hf⟩
theorem N9 {te : TE3} {a : PuE te} : (qc5 a).f = fun ρ => (a.f ρ).bind qdc := id rfl
noncomputable def qa9 (d e : PyData) : Option PyData := match d,e with
 | .tuple xs,.tuple ys => cif (xs.length + ys.length ≤ sizeLine) (some (.tuple (xs ++ ys))) none
 | .list xs,.list ys => cif (xs.length + ys.length ≤ sizeLine) (some (.list (xs ++ ys))) none
 | .int i,.int j => some (.int (i + j))
 | _,_ => none
noncomputable def ZW : OpD Yo := ⟨qa9,false,fun {D G x y d e v q} hx hy hd hf k => by
  unfold qa9 at hf
  cases hx with
  | int i => cases hy <;> try (simp at hf;done)
             cases hf
             exact k _ _ Ex.refl (.int _) (fun z => by cases z)
  | tup hs =>
    cases hy <;> try (simp at hf;done)
    rename_i hs2
    simp only [cif] at hf
    split at hf
    · rename_i c
      cases hf
      exact ⟨by rw [hs.length,hs2.length];exact c,k _ _ Ex.refl (.tup (hs.append hs2)) (fun z => by cases z)⟩
    · cases hf
  | lst g hs =>
    cases hy <;> try (simp at hf;done)
    rename_i g2 hs2
    simp only [cif] at hf
    split at hf
    · rename_i c
      cases hf
      simp only [Yo,(q0 g).2,(q0 g2).2]
      exact ⟨by rw [hs.length,hs2.length];exact c,fun p hp => k _ _ (jE hp) (Zk hd hp (hs.append hs2)) (fun z => by cases z)⟩
    · cases hf
  | _ => simp at hf⟩
noncomputable def slA (d : PyData) (lo hi : Option Int) : Option PyData := match d with
 | .tuple xs => some (.tuple (ZP xs lo hi))
 | .list xs => some (.list (ZP xs lo hi))
 | _ => none
noncomputable def SE {te : TE3} {tl th : TO3} (a : PuE te) (l : PuO tl) (h : PuO th) : PuE (UH te tl th) := ⟨fun ρ => (a.f ρ).bind fun d => (l.f ρ).bind fun lo => (h.f ρ).bind fun hi => slA d lo hi,a.fv ++ (l.fv ++ h.fv),false,fun hv hd hf k => by
 obtain ⟨d,e1,hf⟩ := Option.bind_eq_some_iff.mp hf
 obtain ⟨lo,e2,hf⟩ := Option.bind_eq_some_iff.mp hf
 obtain ⟨hi,e3,hf⟩ := Option.bind_eq_some_iff.mp hf
 refine a.ok hv.l hd e1 fun x' G1 E1 D1 _ => l.ok (hv.r.l.up E1) (hd.up E1) e2 fun G2 E2 => h.ok (hv.r.r.up (E1.trans E2)) (hd.up (E1.trans E2)) e3 fun G3 E3 => ?_
 have E := (E1.trans E2).trans E3
 have D3 := (D1.up (ji E2)).up (ji E3)
 unfold slA at hf
 cases D3 with
 | tup hs =>
  simp only at hf
  cases hf
  exact k _ _ E (.tup (hs.cut _ _)) (fun z => by cases z)
 | lst g hs =>
  simp only at hf
  cases hf
  simp only [qd6,zQ (q0 g).2]
  intro p hp
  exact k _ _ (E.trans (jE hp)) (Zk (hd.up E) hp (hs.cut _ _)) (fun z => by cases z)
 | _ => simp at hf⟩
theorem Uq : ZW.f = qa9 := id rfl
theorem Vg : ZW.nw = false := id rfl
theorem CD {te : TE3} {tl th : TO3} {a : PuE te} {l : PuO tl} {h : PuO th} : (SE a l h).f = fun ρ => (a.f ρ).bind fun d => (l.f ρ).bind fun lo => (h.f ρ).bind fun hi => slA d lo hi := id rfl
theorem Ds {te : TE3} {tl th : TO3} {a : PuE te} {l : PuO tl} {h : PuO th} : (SE a l h).nw = false := id rfl
theorem KM {xs : List PyData} {lo hi : Option Int} : slA (.tuple xs) lo hi = some (.tuple (ZP xs lo hi)) := id rfl
theorem UI {xs ys : List PyData} (h : xs.length + ys.length ≤ 16777216) : qa9 (.tuple xs) (.tuple ys) = some (.tuple (xs ++ ys)) := zF h
end Pu
namespace Pv
open PySem L2 L3 Pu
noncomputable def Y0 : PuS (Bk.Y8) := (ZT (bLc (UB (qf (bV 2) qw)) (gN 0) bTt (Vs (qf (bO (opC Qm (· * ·)) (bV 0) (bV 1)) (qf (bO (opC Qm (· * ·)) (bV 0) (bV 2)) qw)) ⟨rfl⟩) [none,some 0,some 1] ⟨rfl⟩))
noncomputable def zm : List PyData → Option PyData := run (Y0).f 3 3 1000000000 true
theorem Cw : ∀ ts G q,PSp (zm) true ts G q → ts.length = 3∧Bk.Y8 { nx := fun _ G' => q .non G',rt := q } (qx ["down","along","many"] ts) G := zG (Y0) ["down","along","many"] 3 1000000000 true
theorem XO {x0 x1 x2 : PyData} : zm [x0,x1,x2] = Jm true ((Y0).f 1000000000 [.sh x0,.sh x1,.sh x2]) := id rfl
noncomputable def jq (zm : List PyData → Option PyData) : PuS (Bk.ZH (PSp zm true)) := (Q7 (EO (bO Qe (bV 0) (qN 0)) 1 [true] ⟨rfl⟩) (Q7 (sIf (bTb (bO (JP false) (bV 1) (WG "cells"))) (ZT (qH LY (qf (bO Qe (bV 0) (qN 1)) qw))) Zm) (Q7 (sIf (bTb (bO (JP false) (bV 1) (WG "block"))) (ZT (qdd (UB (qf (bO Qe (bV 0) (qN 1)) qw)) (gN 0) bTt (UB (qf (bO Qe (bV 2) (qN 2)) qw)) (gN 1) bTt (Vs (qf (bV 0) (qf (bV 1) qw)) ⟨rfl⟩) [none,none,some 0] ⟨rfl⟩ ⟨rfl⟩ ⟨rfl⟩)) Zm) (Q7 (sIf (bTb (bO (JP false) (bV 1) (WG "step"))) (ZT (qH (j6 zm true) (qf (bO Qe (bV 0) (qN 1)) (qf (bO Qe (bV 0) (qN 2)) (qf (bO Qe (bV 0) (qN 3)) qw))))) Zm) (Q7 (Wv (qbf J4 (bV 1)) (DG 2 (jr (gN 2) (jr (gN 3) DJ))) [false,true] ⟨rfl⟩) (ZT (qH (j6 zm true) (qf (bV 2) (qf (bV 3) (qf (bO Qe (bV 0) (qN 1)) qw))))))))))
noncomputable def qS : List PyData → Option PyData := run (jq zm).f 1 4 1000000000 true
theorem EH : ∀ ts G q,PSp (qS) true ts G q → ts.length = 1∧Bk.ZH (PSp zm true) { nx := fun _ G' => q .non G',rt := q } (qx ["walk","kind","down","along"] ts) G := zG (jq zm) ["walk","kind","down","along"] 1 1000000000 true
theorem Zb {x0 : PyData} : qS [x0] = Jm true ((jq zm).f 1000000000 [.sh x0,.un,.un,.un]) := id rfl
noncomputable def jS : PuS (Bk.jU) := (Q7 (RG (UB (qf (qH Eh (qf (bV 0) qw)) qw)) (gN 1) (RG (UB (qf (bO Zp (bV 1) (qN 1)) (qf (qH Eh (qf (bV 0) qw)) qw))) (gN 2) (sIf (bTb (bO (JP false) (bO Qe (bV 0) (bV 1)) (bO Qe (bV 0) (bV 2)))) (ZT (Vs (qf (bV 1) (qf (bV 2) qw)) ⟨rfl⟩)) Zm) [true,true] ⟨rfl⟩) [true] ⟨rfl⟩) (ZT Rz))
noncomputable def qO : List PyData → Option PyData := run (jS).f 1 3 1000000000 false
theorem Vz : ∀ ts G q,PSp (qO) false ts G q → ts.length = 1∧Bk.jU { nx := fun _ G' => q .non G',rt := q } (qx ["things","k","l"] ts) G := zG (jS) ["things","k","l"] 1 1000000000 false
theorem Vu {x0 : PyData} : qO [x0] = Jm false ((jS).f 1000000000 [.sh x0,.un,.un]) := id rfl
noncomputable def ZD (qS : List PyData → Option PyData) : PuS (Bk.ZF (PSp qS true)) := (Q7 (Wv (bV 1) (DG 2 (jr (gN 3) (jr (gN 4) DJ))) [false,true] ⟨rfl⟩) (ZT (qH qde (qf (bLc (RQ (qH (j6 qS true) (qf (bV 2) qw))) (DG 2 (jr (gN 0) (jr (gN 1) DJ))) bTt (bO (opC (fun _ j => 0 < j) (· % ·)) (bO Zp (bO (opC Qm (· * ·)) (bV 3) (bV 0)) (bO (opC Qm (· * ·)) (bV 4) (bV 1))) (bV 2)) [none,none,some 0,some 3,some 4] ⟨rfl⟩) qw))))
noncomputable def qR : List PyData → Option PyData := run (ZD qS).f 3 5 1000000000 false
theorem EX : ∀ ts G q,PSp (qR) false ts G q → ts.length = 3∧Bk.ZF (PSp qS true) { nx := fun _ G' => q .non G',rt := q } (qx ["banks","factors","walk","a","b"] ts) G := zG (ZD qS) ["banks","factors","walk","a","b"] 3 1000000000 false
theorem EG {x0 x1 x2 : PyData} : qR [x0,x1,x2] = Jm false ((ZD qS).f 1000000000 [.sh x0,.sh x1,.sh x2,.un,.un]) := id rfl
end Pv
namespace Pv
open PySem L2 L3 Pu
open Bk (Wk jf zx Zj lnD lnA)
noncomputable def pD (p : Int × Int) : PyData := .tuple [.int p.1,.int p.2]
noncomputable def Wk.d : Wk → PyData
 | .line k m => .tuple [.str (Zj k),.int m]
 | .block h w => .tuple [.str "block",.int h,.int w]
 | .step d a m => .tuple [.str "step",.int d,.int a,.int m]
 | .cells ps => .tuple [.str "cells",.tuple (ps.map pD)]
theorem DY (G : Gp) : ∀ (cs : List (Int × Int)),Dqs G (cs.map Bk.pT) (cs.map pD)
 | [] => .nil
 | p :: cs => .cons (.tup (.cons (.int _) (.cons (.int _) .nil))) (DY G cs)
theorem qdo (G : Gp) : ∀ (w : Wk),Dq G w.t (Wk.d w)
 | .line k m => .tup (.cons (.str _) (.cons (.int _) .nil))
 | .block h v => .tup (.cons (.str _) (.cons (.int _) (.cons (.int _) .nil)))
 | .step d a m => .tup (.cons (.str _) (.cons (.int _) (.cons (.int _) (.cons (.int _) .nil))))
 | .cells ps => .tup (.cons (.str _) (.cons (.tup (DY G ps)) .nil))
end Pv
namespace Pu
open PySem L2 L3
open Bk (Lf Ext)
section
variable {D : Addr → Prop} {a : Addr} {G G' G0 : Gp} {n n' : Nat} {fv gv : List Nat} {l : Nat} {τ : St3} {ρ : Rho}
theorem ZS (e : Ext a G G') (h : D a) : Ex (rs D G) (rs D G') := fun b o x => by
 obtain ⟨n,x⟩ := q0 x
 rw [jA n];exact e b o (by rintro rfl;exact n h) x
theorem YL {k : Int} (h : Lf G a k) : G a ≠ none := by
 obtain ⟨o,c,m,e,_⟩ := h
 rw [e];simp
theorem jB {k : Int} (hd : Dom D G) (e : Ext a G G') (lf : Lf G' a k) : Dom D G' := fun b hb z => by
 by_cases h : b = a
 ·subst h;exact YL lf z
 ·cases g : G b with
  | none => exact hd b hb g
  | some o => rw [e b o h g] at z;cases z
theorem Nw.backx {x : T} {d : PyData} {k : Int} (h : Nw D G G' x d) (e : Ext a G0 G) (lf : Lf G a k) : Nw D G0 G' x d := by
 rcases h with h | ⟨p,xs,ds,h1,h2,c,r⟩
 ·exact .inl h
 refine .inr ⟨p,xs,ds,h1,h2,?_,r⟩
 cases z : G0 p with
 | none => rfl
 | some o =>
  by_cases hp : p = a
  ·subst hp;exact absurd c (YL lf)
  ·rw [e p o hp z] at c;cases c
structure Ln (fv : List Nat) (l : Nat) (D : Addr → Prop) (G : Gp) (τ : St3) (ρ : Rho) (a : Addr) (n : Nat) : Prop where
 v : VB fv D G τ ρ
 d : Dom D G
 da : D a
 tl : τ[l]? = some (some (.ref a))
 ul : vw ρ l = none
 lf : Lf G a n
theorem Ln.up (h : Ln fv l D G τ ρ a n) (e : Ext a G G') (lf : Lf G' a n') : Ln fv l D G' τ ρ a n' :=
 ⟨fun i hi d hd => let ⟨t,x,y⟩ := h.v i hi d hd;⟨t,x,y.up (ZS e h.da)⟩,jB h.d e lf,h.da,h.tl,h.ul,lf⟩
theorem Ln.fst (h : Ln (fv ++ gv) l D G τ ρ a n) : Ln fv l D G τ ρ a n := ⟨h.v.l,h.d,h.da,h.tl,h.ul,h.lf⟩
theorem Ln.snd (h : Ln (fv ++ gv) l D G τ ρ a n) : Ln gv l D G τ ρ a n := ⟨h.v.r,h.d,h.da,h.tl,h.ul,h.lf⟩
end
noncomputable abbrev QD := PyData → Nat → Prop
structure PwE (l : Nat) (t : TE3) where
 w : Rho → Nat → QD → Prop
 fv : List Nat
 nw : Bool
 mono : ∀ {ρ n} {Q Q' : QD},w ρ n Q → (∀ d m,Q d m → Q' d m) → w ρ n Q'
 ok : ∀ {D τ ρ G a n} {q : Q3} {Q : QD},Ln fv l D G τ ρ a n → w ρ n Q → (∀ x d G' n',Q d n' → Ext a G G' → Lf G' a n' → Dq (rs D G') x d → (nw = true → Nw D G G' x d) → q x G') → t τ G q
structure PwC (l : Nat) (t : TT3) where
 w : Rho → Nat → (Bool → Nat → Prop) → Prop
 fv : List Nat
 mono : ∀ {ρ n} {Q Q' : Bool → Nat → Prop},w ρ n Q → (∀ d m,Q d m → Q' d m) → w ρ n Q'
 ok : ∀ {D τ ρ G a n} {q : Bool → Gp → Prop} {Q : Bool → Nat → Prop},Ln fv l D G τ ρ a n → w ρ n Q → (∀ k G' n',Q k n' → Ext a G G' → Lf G' a n' → q k G') → t τ G q
structure PwA (l : Nat) (t : TA3) where
 w : Rho → Nat → (List PyData → Nat → Prop) → Prop
 fv : List Nat
 k : Nat
 mono : ∀ {ρ n} {Q Q' : List PyData → Nat → Prop},w ρ n Q → (∀ d m,Q d m → Q' d m) → w ρ n Q'
 ok : ∀ {D τ ρ G a n} {q : List T → Gp → Prop} {Q : List PyData → Nat → Prop},Ln fv l D G τ ρ a n → w ρ n Q → (∀ x d G' n',Q d n' → d.length = k → Ext a G G' → Lf G' a n' → Dqs (rs D G') x d → q x G') → t τ G q
structure PwI (l : Nat) (t : TI3) where
 w : Rho → Nat → (List PyData → Nat → Prop) → Prop
 fv : List Nat
 nm : Bool
 mono : ∀ {ρ n} {Q Q' : List PyData → Nat → Prop},w ρ n Q → (∀ d m,Q d m → Q' d m) → w ρ n Q'
 ok : ∀ {D τ ρ G a n} {r : List T → (Gp → Prop) → Gp → Prop} {Q : List PyData → Nat → Prop},Ln fv l D G τ ρ a n → w ρ n Q →
  (∀ items stay ds G' n',Q ds n' → Ext a G G' → Lf G' a n' → Dqs (rs D G') items ds → (∀ G'',(nm = true ∨ Ex (rs D G') G'') → stay G'') → (nm = true → ∃ ns : List Int,ds = ns.map PyData.int) → r items stay G') → t τ G r
structure DrD (r : List T → Gp → Q3 → Prop) where
 W : List PyData → Nat → QD → Prop
 nw : Bool
 mono : ∀ {ds n} {Q Q' : QD},W ds n Q → (∀ d m,Q d m → Q' d m) → W ds n Q'
 ok : ∀ {D : Addr → Prop} {G : Gp} {a : Addr} {n : Nat} {ts : List T} {ds : List PyData} {q : Q3} {Q : QD},Lf G a n → D a → Dom D G → Dqs (rs D G) ts ds → W ds n Q → (∀ x d G' n',Q d n' → Ext a G G' → Lf G' a n' → Dq (rs D G') x d → (nw = true → Nw D G G' x d) → q x G') → r (.ref a :: ts) G q
section
variable {l : Nat}
noncomputable def eOf {t : TE3} (b : PuE t) : PwE l t := ⟨fun ρ n Q => ∃ d,b.f ρ = some d∧Q d n,b.fv,b.nw,fun ⟨d,h1,h2⟩ h => ⟨d,h1,h _ _ h2⟩,fun h ⟨d,h1,h2⟩ k =>
 b.ok h.v h.d h1 fun x G1 E1 D1 N1 => k x d G1 _ h2 (Bk.YK E1) (h.lf.ex E1) D1 N1⟩
noncomputable def cOf {t : TT3} (b : PuC t) : PwC l t := ⟨fun ρ n Q => ∃ d,b.f ρ = some d∧Q d n,b.fv,fun ⟨d,h1,h2⟩ h => ⟨d,h1,h _ _ h2⟩,fun h ⟨d,h1,h2⟩ k =>
 b.ok h.v h.d h1 fun G1 E1 => k d G1 _ h2 (Bk.YK E1) (h.lf.ex E1)⟩
noncomputable def aOf {t : TA3} (b : PuA t) : PwA l t := ⟨fun ρ n Q => ∃ d,b.f ρ = some d∧Q d n,b.fv,b.n,fun ⟨d,h1,h2⟩ h => ⟨d,h1,h _ _ h2⟩,fun h ⟨d,h1,h2⟩ k =>
 b.ok h.v h.d h1 fun x G1 E1 D1 => k x d G1 _ h2 (b.ln h1) (Bk.YK E1) (h.lf.ex E1) D1⟩
noncomputable def iOf {t : TI3} (b : PuI t) : PwI l t := ⟨fun ρ n Q => ∃ d,b.f ρ = some d∧Q d n,b.fv,b.nm,fun ⟨d,h1,h2⟩ h => ⟨d,h1,h _ _ h2⟩,fun h ⟨d,h1,h2⟩ k =>
 b.ok h.v h.d h1 fun items stay G1 E1 D1 s nm => k items stay d G1 _ h2 (Bk.YK E1) (h.lf.ex E1) D1 s nm⟩
noncomputable def eO {r : R3} {ta tb : TE3} (R : OpD r) (a : PwE l ta) (b : PwE l tb) : PwE l (o3 r ta tb) :=
 ⟨fun ρ n Q => a.w ρ n fun x n1 => b.w ρ n1 fun y n2 => ∃ v,R.f x y = some v∧Q v n2,a.fv ++ b.fv,R.nw,fun h k => a.mono h fun x n1 h => b.mono h fun y n2 ⟨v,h1,h2⟩ => ⟨v,h1,k _ _ h2⟩,fun h hw k =>
  a.ok h.fst hw fun x dx G1 n1 h1 E1 L1 D1 _ => b.ok (h.snd.up E1 L1) h1 fun y dy G2 n2 ⟨v,e,hq⟩ E2 L2 D2 _ => R.ok (D1.up (ZS E2 h.da)) D2 (jB (jB h.d E1 L1) E2 L2) e fun z G3 E3 D3 N3 => k z v G3 n2 hq ((E1.trans E2).trans (Bk.YK E3)) (L2.ex E3) D3 fun z => (N3 z).backx (E1.trans E2) L2⟩
noncomputable def Yt {ta : TE3} {tr : TA3} (a : PwE l ta) (r : PwA l tr) : PwA l (qc ta tr) :=
 ⟨fun ρ n Q => a.w ρ n fun x n1 => r.w ρ n1 fun xs n2 => Q (x :: xs) n2,a.fv ++ r.fv,r.k + 1,fun h k => a.mono h fun x n1 h => r.mono h fun xs n2 h => k _ _ h,fun h hw k =>
  a.ok h.fst hw fun x dx G1 n1 h1 E1 L1 D1 _ => r.ok (h.snd.up E1 L1) h1 fun y dy G2 n2 hq hl E2 L2 D2 => k _ _ G2 n2 hq (by simp [hl]) (E1.trans E2) L2 (.cons (D1.up (ZS E2 h.da)) D2)⟩
noncomputable def qdf {t : TA3} (b : PwA l t) (hn : Tru (Nat.ble b.k 1000)) : PwE l (Q0 t) := ⟨fun ρ n Q => b.w ρ n fun xs n1 => Q (.tuple xs) n1,b.fv,false,fun h k => b.mono h fun xs n1 h => k _ _ h,fun h hw k =>
 b.ok h hw fun x dx G1 n1 h1 hl E1 L1 D1 => ⟨by rw [D1.length,hl];exact few hn,k _ _ _ _ h1 E1 L1 (.tup D1) (fun z => by cases z)⟩⟩
noncomputable def qfd {t : TA3} (b : PwA l t) (hn : Tru (Nat.ble b.k 1000)) : PwE l (Zo t) := ⟨fun ρ n Q => b.w ρ n fun xs n1 => Q (.list xs) n1,b.fv,true,fun h k => b.mono h fun xs n1 h => k _ _ h,fun h hw k =>
 b.ok h hw fun x dx G1 n1 h1 hl E1 L1 D1 => ⟨by rw [D1.length,hl];exact few hn,fun p hp => k _ _ _ _ h1 (E1.trans (Bk.YK (jE hp))) (L1.ex (jE hp)) (Zk (jB h.d E1 L1) hp D1) fun _ => (YI hp D1).backx E1 L1⟩⟩
noncomputable def eDr {r : List T → Gp → Q3 → Prop} {t : TA3} (R : DrD r) (b : PwA l t) : PwE l (cb3 r (qc (v3 l) t)) := ⟨fun ρ n Q => b.w ρ n fun xs n1 => R.W xs n1 Q,b.fv,R.nw,fun h k => b.mono h fun xs n1 h => R.mono h k,fun {D τ ρ G a n q Q} h hw k => by
 simp only [cb3,qc,v3,h.tl]
 exact b.ok h hw fun x dx G1 n1 hW hl E1 L1 D1 => R.ok L1 h.da (jB h.d E1 L1) D1 hW fun z d G3 n3 hq E3 L3 D3 N3 => k z d G3 n3 hq (E1.trans E3) L3 D3 fun z => (N3 z).backx E1 L1⟩
noncomputable def iR {t : TA3} (b : PwA l t) : PwI l (zW t) := ⟨fun ρ n Q => b.w ρ n fun xs n1 => ∃ ds,CM xs = some ds∧Q ds n1,b.fv,true,fun h k => b.mono h fun xs n1 ⟨v,h1,h2⟩ => ⟨v,h1,k _ _ h2⟩,fun h hw k => b.ok h hw fun x dx G1 n1 ⟨ds,e,hq⟩ hl E1 L1 D1 => by
 unfold CM at e
 split at e
 ·unfold cif at e
  split at e
  ·rename_i c
   cases e
   cases D1 with
   | cons a b => cases b;cases a;simp only;rw [DU];exact ⟨c,k _ _ _ _ _ hq E1 L1 (Dqs.ofInts _) (fun _ _ => trivial) fun _ => ⟨_,rfl⟩⟩
  ·cases e
 ·unfold cif at e
  split at e
  ·rename_i c
   cases e
   cases D1 with
   | cons a b => cases b with
    | cons b c' => cases c';cases a;cases b;simp only;rw [DU];exact ⟨c,k _ _ _ _ _ hq E1 L1 (Dqs.ofInts _) (fun _ _ => trivial) fun _ => ⟨_,rfl⟩⟩
  ·cases e
 ·cases e⟩
end
noncomputable def lcW (gf : PyData → Option (List (Nat × PyData))) (cw : Rho → Nat → (Bool → Nat → Prop) → Prop) (ew : Rho → Nat → QD → Prop) (ρ : Rho) : List PyData → Nat → (List PyData → Nat → Prop) → Prop
 | [],n,Q => Q [] n
 | d :: r,n,Q => ∃ bs,gf d = some bs∧cw (j4 ρ bs) n fun k n1 => if k then ew (j4 ρ bs) n1 fun y n2 => lcW gf cw ew ρ r n2 fun ys n3 => Q (y :: ys) n3 else lcW gf cw ew ρ r n1 Q
theorem Jo {l : Nat} {g : TG3} {tif : TT3} {te : TE3} (pg : PuG g) (pc : PwC l tif) (pe : PwE l te) {ρ : Rho} : ∀ {ds : List PyData} {n : Nat} {Q Q' : List PyData → Nat → Prop},lcW pg.f pc.w pe.w ρ ds n Q → (∀ d m,Q d m → Q' d m) → lcW pg.f pc.w pe.w ρ ds n Q'
 | [],n,Q,Q',h,k => k _ _ h
 | d :: r,n,Q,Q',⟨bs,e,h⟩,k => ⟨bs,e,pc.mono h fun j m h => by
   cases j with
   | true => rw [if_pos rfl] at h ⊢;exact pe.mono h fun y m2 h => Jo pg pc pe h fun ys m3 h => k _ _ h
   | false => exact Jo pg pc pe h k⟩
theorem VA.ext {D : Addr → Prop} {a : Addr} {G G' : Gp} {τ : St3} {ρ : Rho} (h : VA D G τ ρ) (e : Ext a G G') (da : D a) : VA D G' τ ρ := h.upx (ZS e da)
theorem Cb : ∀ {ts : List (Nat × T)} {τ : St3} {i : Nat},(∀ p ∈ ts,p.1 ≠ i) → (sets τ ts)[i]? = τ[i]?
 | [],_,_,_ => rfl
 | p :: r,τ,i,h => by
  unfold sets
  rw [Cb fun q hq => h q (by simp [hq]),List.getElem?_set,if_neg (h p (by simp))]
theorem CF {l : Nat} {stay : Gp → Prop} {g : TG3} {tif : TT3} {te : TE3} {q : Q3} (pg : PuG g) (pc : PwC l tif) (pe : PwE l te) {D : Addr → Prop} {a : Addr} {ρ0 : Rho} {G0 : Gp} (da : D a) (hs : ∀ G,Ext a G0 G → stay G) (hm : ∀ i ∈ pg.tg,vw ρ0 i = none) (hl : ∀ i ∈ pg.tg,i ≠ l) {Q : List PyData → Nat → Prop}
  (k : ∀ G ys fs n,Q fs n → fs.length ≤ sizeLine → Ext a G0 G → Lf G a n → Dqs (rs D G) ys fs → ∀ p,G p = none → q (.ref p) (gu G p (.lst ys))) :
  vw ρ0 l = none → ∀ (ds : List PyData) (items ys : List T) (es : List PyData) (τ : St3) (G : Gp) (n : Nat),Dqs (rs D G0) items ds → VA D G τ ρ0 → τ[l]? = some (some (.ref a)) → Ext a G0 G → Dom D G → Lf G a n → Dqs (rs D G) ys es → lcW pg.f pc.w pe.w ρ0 ds n (fun fs n => (es ++ fs).length ≤ sizeLine∧Q (es ++ fs) n) → ds.length + es.length ≤ sizeLine → Xz stay g tif te q items ys τ G
 | _,_,_,ys,es,τ,G,n,.nil,va,tl,E,hd,lf,hy,hw,_ => by
  obtain ⟨h1,h2⟩ := hw
  rw [List.append_nil] at h1 h2
  exact ⟨hs G E,k G ys es n h2 h1 E lf hy⟩
 | ul,d :: ds,x :: items,ys,es,τ,G,n,.cons hx hr,va,tl,E,hd,lf,hy,⟨bs,e3,hw⟩,hz => by
  obtain ⟨ts,bd,kg⟩ := pg.ok (hx.up (ZS E da)) e3
  refine ⟨hs G E,kg τ G _ ?_⟩
  have va1 := va.sets bd
  have at1 : ∀ p ∈ ts,p.1 ∈ pg.tg := fun p hp => by
   obtain ⟨q,hq,e⟩ := WN bd p hp
   rw [← e];exact pg.at' e3 q hq
  have va2 := va.keep (ts := ts) fun p hp => hm _ (at1 p hp)
  have tl1 : (sets τ ts)[l]? = some (some (.ref a)) := by rw [Cb fun p hp => hl _ (at1 p hp)];exact tl
  have ul1 : vw (j4 ρ0 bs) l = none := by rw [U8 fun p hp => hl _ (pg.at' e3 p hp)];exact ul
  refine pc.ok ⟨va1.view _,hd,da,tl1,ul1,lf⟩ hw fun c G1 n1 hc E1 L1 => ?_
  cases c with
  | true =>
   rw [if_pos rfl] at hc ⊢
   refine pe.ok ⟨(va1.ext E1 da).view _,jB hd E1 L1,da,tl1,ul1,L1⟩ hc fun z y G2 n2 hq E2 L2 D2 _ => ⟨?_,?_⟩
   ·rw [hy.length];simp at hz;omega
   ·refine CF pg pc pe da hs hm hl k ul ds items (ys ++ [z]) (es ++ [y]) _ G2 n2 hr ((va2.ext E1 da).ext E2 da) tl1 ((E.trans E1).trans E2) (jB (jB hd E1 L1) E2 L2) L2 (((hy.up (ZS E1 da)).up (ZS E2 da)).append (.cons D2 .nil)) ?_ (by simp at hz ⊢;omega)
    refine Jo pg pc pe hq fun fs m h => ?_
    rw [List.append_assoc];exact h
  | false =>
   rw [if_neg Bool.false_ne_true] at hc ⊢
   exact CF pg pc pe da hs hm hl k ul ds items ys es _ G1 n1 hr (va2.ext E1 da) tl1 (E.trans E1) (jB hd E1 L1) L1 (hy.up (ZS E1 da)) hc (by simp at hz;omega)
def qhx {l : Nat} (it : Rho → Nat → (List PyData → Nat → Prop) → Prop) (h : Rho → List PyData → Nat → (List PyData → Nat → Prop) → Prop) (m : List (Option Nat)) (ρ : Rho) (n : Nat) (Q : QD) : Prop :=
 it ρ n fun ds n1 => ds.length ≤ 16777216∧h (Vt m ρ) ds n1 fun fs n2 => fs.length ≤ 16777216∧Q (.list fs) n2
noncomputable def eLc {l : Nat} {wi : TI3} {g : TG3} {tif : TT3} {te : TE3} (l2 : Nat) (pi : PwI l wi) (pg : PuG g) (pc : PwC l2 tif) (pe : PwE l2 te) (m : List (Option Nat)) (hm : Tru (pg.tg.all fun i => m[i]? == some none)) (hl : Tru (m[l2]? == some (some l))) : PwE l (lc3 wi g tif te m) :=
 ⟨qhx (l := l) pi.w (lcW pg.f pc.w pe.w) m,pi.fv ++ (m.filterMap id).filter (· != l),true,fun h k => pi.mono h fun ds n1 ⟨h1,h⟩ => ⟨h1,Jo pg pc pe h fun fs n2 ⟨h2,h⟩ => ⟨h2,k _ _ h⟩⟩,fun {D τ ρ G a n q Q} h hw k => by
  have hl' : m[l2]? = some (some l) := by simpa using hl.h
  refine pi.ok h.fst hw fun items stay ds G1 n1 ⟨h1,hw1⟩ E1 L1 D1 hs _ => ?_
  have hv : VB (m.filterMap id) D G τ ρ := fun i hi d hd => by
   by_cases e : i = l
   ·subst e;rw [h.ul] at hd;cases hd
   ·exact h.snd.v i (List.mem_filter.mpr ⟨hi,by simpa using e⟩) d hd
  have va := (VA.cap (m := m) hv).ext E1 h.da
  refine CF pg pc pe (D := D) (a := a) (ρ0 := Vt m ρ) (G0 := G1) h.da (fun G2 E2 => hs G2 (.inr ((ZS E2 h.da).trans Zz))) (fun i hi => VX ?_) (fun i hi e => ?_) (Q := fun fs n => Q (.list fs) n) (fun G2 ys fs n2 hq hlen E2 L2 D2 p hp => ?_) ?_ ds items [] [] _ G1 n1 D1 va ?_ Bk.Ext.refl (jB h.d E1 L1) L1 .nil ?_ ?_
  ·simpa using List.all_eq_true.mp hm.h i hi
  ·subst e
   have := List.all_eq_true.mp hm.h i hi
   rw [hl'] at this;simp at this
  ·exact k _ _ _ _ hq ((E1.trans E2).trans (Bk.YK (jE hp))) (L2.ex (jE hp)) (Zk (jB (jB h.d E1 L1) E2 L2) hp D2) fun _ => (YI hp D2).backx (E1.trans E2) L2
  ·unfold vw Vt
   rw [List.getElem?_map,hl']
   simp only [Option.map_some,Option.bind_some,h.ul]
   rfl
  ·unfold L3.cap
   rw [List.getElem?_map,hl']
   simp [h.tl]
  ·refine Jo pg pc pe hw1 fun fs m ⟨h2,h3⟩ => ⟨?_,by simpa using h3⟩
   rw [sizeLine_eq];simpa using h2
  ·rw [sizeLine_eq];simpa using h1⟩
end Pu
namespace Pu
open PySem L2 L3
open Bk (Lf Ext)
structure RL (l : Nat) (a : Addr) (z0 : Option (Option T) × Nat) (D : Addr → Prop) (G0 : Gp) (A : Nat → Option Addr) (τ : St3) (ρ : Rho) (G : Gp) (n : Nat) : Prop where
 r : RS D G0 A τ ρ G
 al : A l = some a
 tl : τ[l]? = some (some (.ref a))
 ul : ρ[l]? = some Sl.un
 lf : Lf G a n
 tz : τ[0]? = z0.1∧τ.length = z0.2
section
variable {l : Nat} {a : Addr} {z0 : Option (Option T) × Nat} {D : Addr → Prop} {G0 G G' : Gp} {A : Nat → Option Addr} {τ : St3} {ρ : Rho} {n n' : Nat}
theorem RL.vl (h : RL l a z0 D G0 A τ ρ G n) : vw ρ l = none := by unfold vw;rw [h.ul];rfl
theorem RL.up (h : RL l a z0 D G0 A τ ρ G n) (e : Ext a G G') (lf : Lf G' a n') : RL l a z0 D G0 A τ ρ G' n' := by
 have X : Ex (rs (AD D A) G) (rs (AD D A) G') := ZS e (.inr ⟨l,h.al⟩)
 refine ⟨⟨fun b o x => e b o (by rintro rfl;rw [h.r.fr l _ h.al] at x;cases x) (h.r.ex b o x),h.r.dm,h.r.fr,fun i p hp z => ?_,h.r.inj,h.r.len,fun i d x => let ⟨t,y,z⟩ := h.r.sh i d x;⟨t,y,z.up X⟩,fun i ds x => ?_⟩,h.al,h.tl,h.ul,lf,h.tz⟩
 ·by_cases c : p = a
  ·subst c;exact YL lf z
  ·cases g : G p with
   | none => exact h.r.da i p hp g
   | some o => rw [e p o c g] at z;cases z
 ·obtain ⟨p,xs,y1,y2,y3,y4⟩ := h.r.ow i ds x
  refine ⟨p,xs,y1,y2,e p _ ?_ y3,y4.up X⟩
  rintro rfl
  have := h.r.inj i l _ y1 h.al
  subst this
  rw [h.ul] at x;cases x
theorem RL.all (h : RL l a z0 D G0 A τ ρ G n) (fv : List Nat) : Ln fv l (fun b => D b ∨ b = a) G τ ρ a n := by
 refine ⟨fun i _ d hd => ?_,fun b hb => ?_,.inr rfl,h.tl,h.vl,h.lf⟩
 ·unfold vw at hd
  obtain ⟨s,e,hd⟩ := Option.bind_eq_some_iff.mp hd
  have less : Ex (rs (AD D A) G) (rs (fun b => D b ∨ b = a) G) := zt fun b z => by
   rcases z with z | z
   ·exact .inl z
   ·subst z;exact .inr ⟨l,h.al⟩
  cases s with
  | un => cases hd
  | sh d' =>
   cases hd
   obtain ⟨t,b,c⟩ := h.r.sh i _ e
   exact ⟨t,b,c.up less⟩
  | ow ds =>
   cases hd
   obtain ⟨p,xs,b,c,g,f⟩ := h.r.ow i _ e
   refine ⟨_,c,.lst ?_ (f.up less)⟩
   rw [jA]
   ·exact g
   ·rintro (z | z)
    ·exact h.r.nd b z
    ·subst z
     have := h.r.inj i l _ b h.al
     subst this
     rw [h.ul] at e;cases e
 ·rcases hb with hb | hb
  ·exact h.r.domD b hb
  ·subst hb;exact YL h.lf
theorem qg6 {m : List Bool} (hm : mkb m l = false) (al : A l = some a) : Ad m A l = some a := by unfold Ad;rw [if_neg (by rw [hm];simp)];exact al
theorem RL.dem (h : RL l a z0 D G0 A τ ρ G n) {m : List Bool} (hm : mkb m l = false) : RL l a z0 D G0 (Ad m A) τ (Pu.dm m ρ) G n :=
 ⟨h.r.dem m,qg6 hm h.al,h.tl,by rw [C4,h.ul];simp [hm],h.lf,h.tz⟩
theorem RL.ln (h : RL l a z0 D G0 A τ ρ G n) {m : List Bool} {fv : List Nat} (hm : mkb m l = false) (hf : Tru (fv.all (mkb m))) : Ln fv l (AD D (Ad m A)) G τ ρ a n :=
 ⟨h.r.viewD hf,(h.r.dem m).dom,.inr ⟨l,qg6 hm h.al⟩,h.tl,h.vl,h.lf⟩
theorem RL.put (h : RL l a z0 D G0 A τ ρ G n) {i : Nat} (hi : i ≠ l) (h0 : i ≠ 0) {x : T} {d : PyData} (hx : Dq (rs (AD D A) G) x d) : RL l a z0 D G0 (Er A i) (τ.set i (some x)) (ρ.set i (.sh d)) G n :=
 ⟨h.r.put i hx,by unfold Er;rw [if_neg (fun z => hi z.symm)];exact h.al,by rw [List.getElem?_set,if_neg hi];exact h.tl,by rw [List.getElem?_set,if_neg hi];exact h.ul,h.lf,⟨by rw [List.getElem?_set,if_neg h0];exact h.tz.1,by rw [List.length_set];exact h.tz.2⟩⟩
theorem RL.puts : ∀ {ts : List (Nat × T)} {bs : List (Nat × PyData)} {A : Nat → Option Addr} {τ : St3} {ρ : Rho},RL l a z0 D G0 A τ ρ G n → Bd (rs (AD D A) G) ts bs → (∀ p ∈ bs,p.1 ≠ l∧p.1 ≠ 0) → ∃ A',RL l a z0 D G0 A' (sets τ ts) (j4 ρ bs) G n
 | _,_,A,_,_,h,.nil,_ => ⟨A,h⟩
 | _,_,A,_,_,h,.cons x b,hn => by
  unfold sets j4
  exact RL.puts (h.put (hn _ List.mem_cons_self).1 (hn _ List.mem_cons_self).2 x) (b.up qb6) (fun p hp => hn p (List.mem_cons_of_mem _ hp))
theorem RL.putN (h : RL l a z0 D G0 A τ ρ G n) {i : Nat} (hi : i ≠ l) (h0 : i ≠ 0) {x : T} {d : PyData} {ds : List PyData} (hd : d = .list ds) (E : Ext a G G') (lf : Lf G' a n') (hx : Nw (AD D A) G G' x d) : ∃ A',RL l a z0 D G0 A' (τ.set i (some x)) (ρ.set i (.ow ds)) G' n' := by
 have h1 := h.up E lf
 rcases hx with hx | ⟨p,xs,ds',rfl,e',gp,gp',hs⟩
 ·rw [hd] at hx;cases hx
 rw [hd] at e'
 cases e'
 have np : ∀ {j q},A j = some q → q ≠ p := fun e => by rintro rfl;exact h.r.da _ _ e gp
 have X1 : Ex (rs (AD D A) G) (rs (AD D (fun j => if j = i then some p else A j)) G') := fun b o e => by
  obtain ⟨n,e⟩ := q0 e
  rw [jA]
  ·exact E b o (by rintro rfl;exact n (.inr ⟨l,h.al⟩)) e
  ·rintro (z | ⟨j,z⟩)
   ·exact n (.inl z)
   ·simp only at z
    split at z
    ·cases z;rw [gp] at e;cases e
    ·exact n (.inr ⟨j,z⟩)
 refine ⟨fun j => if j = i then some p else A j,⟨h1.r.ex,h.r.dm,fun j q e => ?_,fun j q e => ?_,fun j k q x y => ?_,by simp [h.r.len],fun j e he => ?_,fun j es e => ?_⟩,by rw [if_neg (fun z => hi z.symm)];exact h.al,by rw [List.getElem?_set,if_neg hi];exact h.tl,by rw [List.getElem?_set,if_neg hi];exact h.ul,lf,⟨by rw [List.getElem?_set,if_neg h0];exact h.tz.1,by rw [List.length_set];exact h.tz.2⟩⟩
 ·split at e
  ·cases e
   cases z : G0 p with
   | none => rfl
   | some o => rw [h.r.ex _ _ z] at gp;cases gp
  ·exact h.r.fr j q e
 ·split at e
  ·cases e;rw [gp'];simp
  ·exact h1.r.da j q e
 ·split at x
  ·cases x
   split at y
   ·rename_i h1 h2;rw [h1,h2]
   ·exact absurd rfl (np y)
  ·split at y
   ·cases y;exact absurd rfl (np x)
   ·exact h.r.inj j k q x y
 ·rw [List.getElem?_set] at he ⊢
  split at he
  ·split at he <;> cases he
  ·rename_i hj
   rw [if_neg hj]
   obtain ⟨t,b,c⟩ := h.r.sh j _ he
   exact ⟨t,b,c.up X1⟩
 ·rw [List.getElem?_set] at e ⊢
  split at e
  ·rename_i hj
   subst hj
   split at e
   ·rename_i hl
    cases e
    refine ⟨p,xs,by simp,by rw [if_pos rfl,if_pos (by rw [← h.r.len];exact hl)],gp',hs.up (zt fun b z => ?_)⟩
    rcases z with z | ⟨j,z⟩
    ·exact .inl (.inl z)
    ·simp only at z
     split at z
     ·cases z;exact .inr rfl
     ·exact .inl (.inr ⟨j,z⟩)
   ·cases e
  ·rename_i hj
   rw [if_neg hj]
   obtain ⟨q,ys,b,c,g,f⟩ := h1.r.ow j _ e
   obtain ⟨q',ys',b',c',g',f'⟩ := h.r.ow j _ e
   rw [b] at b';cases b'
   have : G' q = some (.lst ys') := E q _ (by rintro rfl;have := h.r.inj j l _ b h.al;subst this;rw [h.ul] at e;cases e) g'
   exact ⟨q,ys',by rw [if_neg (fun z => hj z.symm)];exact b,c,this,f'.up X1⟩
theorem RL.wr (h : RL l a z0 D G0 A τ ρ G n) {i : Nat} {p : Addr} {xs : List T} {ds ds0 : List PyData} (ho : ρ[i]? = some (Sl.ow ds0)) (hi : A i = some p) (ht : τ[i]? = some (some (.ref p))) (hs : Dqs (rs (AD D A) G) xs ds) : RL l a z0 D G0 A τ (ρ.set i (.ow ds)) (gu G p (.lst xs)) n := by
 have il : i ≠ l := by rintro rfl;rw [h.ul] at ho;cases ho
 have pa : p ≠ a := by rintro rfl;exact il (h.r.inj i l _ hi h.al)
 exact ⟨h.r.wr hi ht hs,h.al,h.tl,by rw [List.getElem?_set,if_neg il];exact h.ul,h.lf.new pa,h.tz⟩
end
noncomputable abbrev QO := Ot → Nat → Prop
noncomputable def WJ (l : Nat) (a : Addr) (z0 : Option (Option T) × Nat) (D : Addr → Prop) (G0 : Gp) (e : Ends3) : Ot → Nat → Prop
 | .nx ρ,n => ∀ A τ G,RL l a z0 D G0 A τ ρ G n → e.nx τ G
 | .bk ρ,n => ∀ A τ G,RL l a z0 D G0 A τ ρ G n → e.bk τ G
 | .ct ρ,n => ∀ A τ G,RL l a z0 D G0 A τ ρ G n → e.ct τ G
 | .rt d fr,n => ∀ x G,Ex G0 G → Lf G a n → Dq (rs (fun b => D b ∨ b = a) G) x d → (fr = true → Nw (fun b => D b ∨ b = a) G0 G x d) → e.rt x G
structure PwS (l : Nat) (t : TS3) where
 w : Rho → Nat → QO → Prop
 mono : ∀ {ρ n} {Q Q' : QO},w ρ n Q → (∀ o m,Q o m → Q' o m) → w ρ n Q'
 ok : ∀ {a z0 D G0 A τ ρ G n} {e : Ends3} {Q : QO},RL l a z0 D G0 A τ ρ G n → w ρ n Q → (∀ o m,Q o m → WJ l a z0 D G0 e o m) → t e τ G
section
variable {l : Nat}
noncomputable def Yr : PwS l qT := ⟨fun ρ n Q => Q (.nx ρ) n,fun h k => k _ _ h,fun h hw k => k _ _ hw _ _ _ h⟩
noncomputable def sqw (b : Rho → Nat → QO → Prop) (Q : QO) : QO := fun o n => match o with | .nx ρ' => b ρ' n Q | o => Q o n
noncomputable def Yz {t u : TS3} (x : PwS l t) (y : PwS l u) : PwS l (qK t u) := ⟨fun ρ n Q => x.w ρ n (sqw y.w Q),fun h k => x.mono h fun o m h => by
  cases o with
  | nx ρ => exact y.mono h k
  | bk ρ => exact k _ _ h
  | ct ρ => exact k _ _ h
  | rt d f => exact k _ _ h,fun h hw k => x.ok h hw fun o m h => by
  cases o with
  | nx ρ => exact fun A τ G r => y.ok r h k
  | bk ρ => exact k _ _ h
  | ct ρ => exact k _ _ h
  | rt d f => exact k _ _ h⟩
noncomputable def wIf {c : TT3} {t u : TS3} (pc : PwC l c) (x : PwS l t) (y : PwS l u) : PwS l (jX c t u) := ⟨fun ρ n Q => pc.w ρ n fun k n1 => if k then x.w ρ n1 Q else y.w ρ n1 Q,fun h k => pc.mono h fun j m h => by
  cases j with
  | true => rw [if_pos rfl] at h ⊢;exact x.mono h k
  | false => exact y.mono h k,fun h hw k => pc.ok (h.all _) hw fun j G1 n1 hj E1 L1 => by
  cases j with
  | true => rw [if_pos rfl] at hj ⊢;exact x.ok (h.up E1 L1) hj k
  | false => exact y.ok (h.up E1 L1) hj k⟩
theorem LE {a : Addr} {z0 : Option (Option T) × Nat} {D : Addr → Prop} {G0 G G' : Gp} {A : Nat → Option Addr} {τ : St3} {ρ : Rho} {n : Nat} (h : RL l a z0 D G0 A τ ρ G n) (e : Ext a G G') : Ex G0 G' := fun b o x => e b o (by rintro rfl;rw [h.r.fr l _ h.al] at x;cases x) (h.r.ex b o x)
noncomputable def EY {t : TE3} (x : PwE l t) : PwS l (ze t) := ⟨fun ρ n Q => x.w ρ n fun d n1 => Q (.rt d x.nw) n1,fun h k => x.mono h fun d m h => k _ _ h,fun h hw k => x.ok (h.all _) hw fun y d G1 n1 hq E1 L1 D1 N1 => k _ _ hq y G1 (LE h E1) L1 D1 fun z => (N1 z).back h.r.ex⟩
noncomputable def qa1 (i : Nat) : PwS l (ze (v3 i)) := ⟨fun ρ n Q => ∃ d b,CN ρ i = some (.rt d b)∧Q (.rt d b) n,fun ⟨d,b,h1,h2⟩ k => ⟨d,b,h1,k _ _ h2⟩,fun {a z0 D G0 A τ ρ G n e Q} h ⟨d,b,h1,h2⟩ k => by
 unfold CN at h1
 split at h1
 ·rename_i ds e
  cases h1
  obtain ⟨p,xs,b,c,g,f⟩ := h.r.ow i _ e
  simp only [ze,v3,c]
  have pa : p ≠ a := by
   rintro rfl
   have := h.r.inj i l _ b h.al
   subst this
   rw [h.ul] at e;cases e
  refine k _ _ h2 _ _ h.r.ex h.lf (.lst (by rw [jA (by rintro (z | z);exact h.r.nd b z;exact pa z)];exact g) (f.up (zt fun b z => ?_))) fun _ => .inr ⟨p,xs,ds,rfl,rfl,h.r.fr i p b,g,f.up (zt fun q z => ?_)⟩
  ·rcases z with z | z
   ·exact .inl z
   ·subst z;exact .inr ⟨l,h.al⟩
  ·rcases z with (z | z) | z
   ·exact .inl z
   ·subst z;exact .inr ⟨l,h.al⟩
   ·subst z;exact .inr ⟨i,b⟩
 ·rename_i d e
  cases h1
  obtain ⟨t,b,c⟩ := h.r.sh i _ e
  simp only [ze,v3,b]
  refine k _ _ h2 _ _ h.r.ex h.lf (c.up (zt fun b z => ?_)) (fun z => by cases z)
  rcases z with z | z
  ·exact .inl z
  ·subst z;exact .inr ⟨l,h.al⟩
 ·cases h1⟩
noncomputable def WB {t : TE3} (x : PwE l t) (i : Nat) (m : List Bool) (hm : Tru (x.fv.all (mkb m))) (hl : Tru (!mkb m l && (i != l && i != 0))) : PwS l (zz t (gn3 i)) := ⟨fun ρ n Q => x.w ρ n fun d n1 => Q (.nx (Wo m x.nw i d ρ)) n1,fun h k => x.mono h fun d m h => k _ _ h,fun {a z0 D G0 A τ ρ G n e Q} h hw k => by
 have hl' : mkb m l = false∧i ≠ l∧i ≠ 0 := by simpa using hl.h
 refine x.ok (h.ln hl'.1 hm) hw fun y d G1 n1 hq E1 L1 D1 N1 => ?_
 have k := k _ _ hq
 unfold Wo at k
 show e.nx (τ.set i (some y)) G1
 split at k
 ·rename_i hs
  exact k _ _ _ ((h.up E1 L1).put hl'.2.1 hl'.2.2 (VP D1 hs))
 ·split at k
  ·rename_i hn
   have N := N1 hn
   rcases id N with h2 | ⟨p,xs,ds,h1,h2,_⟩
   ·subst h2;rename_i hs;exact absurd rfl hs
   subst h2
   obtain ⟨A',r⟩ := (h.dem hl'.1).putN hl'.2.1 hl'.2.2 rfl E1 L1 N
   exact k _ _ _ r
  ·exact k _ _ _ (((h.dem hl'.1).up E1 L1).put hl'.2.1 hl'.2.2 D1)⟩
noncomputable def qdz {t : TA3} (x : PwA l t) (i j : Nat) (m : List Bool) (hm : Tru (x.fv.all (mkb m))) (hl : Tru (!mkb m l && ((i != l && i != 0) && (j != l && j != 0)))) : PwS l (CL i j t) := ⟨fun ρ n Q => x.w ρ n fun ds n1 => ∃ o,qdi i j m ds ρ = some o∧Q o n1,fun h k => x.mono h fun d m ⟨bs,h1,h2⟩ => ⟨bs,h1,k _ _ h2⟩,fun {a z0 D G0 A τ ρ G n e Q} h hw k => by
 have hl' : mkb m l = false∧(i ≠ l∧i ≠ 0)∧j ≠ l∧j ≠ 0 := by simpa using hl.h
 refine x.ok (h.ln hl'.1 hm) hw fun y d G1 n1 ⟨o,e2,hq⟩ hlen E1 L1 D1 => ?_
 unfold qdi at e2
 split at e2
 ·cases D1 with
  | cons x1 b => cases b with
   | cons x2 c =>
    cases c
    split at e2
    ·rename_i hs
     cases e2
     rw [Bool.and_eq_true] at hs
     exact k _ _ hq _ _ _ (((h.up E1 L1).put hl'.2.1.1 hl'.2.1.2 (VP x1 hs.1)).put hl'.2.2.1 hl'.2.2.2 (VP x2 hs.2))
    ·cases e2
     exact k _ _ hq _ _ _ ((((h.dem hl'.1).up E1 L1).put hl'.2.1.1 hl'.2.1.2 x1).put hl'.2.2.1 hl'.2.2.2 (x2.up qb6))
 ·cases e2⟩
theorem RL.evalS {a : Addr} {z0 : Option (Option T) × Nat} {D : Addr → Prop} {G0 G : Gp} {A : Nat → Option Addr} {τ : St3} {ρ : Rho} {n : Nat} (h : RL l a z0 D G0 A τ ρ G n) {t : TE3} (x : PwE l t) (m : List Bool) (hm : Tru (x.fv.all (mkb m))) (hl : mkb m l = false) {Q : QD} (hw : x.w ρ n Q) (q : Q3) (k : ∀ y d G' n' A1,Q d n' → RL l a z0 D G0 A1 τ (dmS m d ρ) G' n' → Ext a G G' → Dq (rs (AD D A1) G') y d → q y G') : t τ G q := by
 refine x.ok (h.ln hl hm) hw fun y d G1 n1 hq E1 L1 D1 _ => ?_
 by_cases hs : TZ d = true
 ·exact k y d G1 n1 A hq (by unfold dmS;rw [if_pos hs];exact h.up E1 L1) E1 (VP D1 hs)
 ·exact k y d G1 n1 _ hq (by unfold dmS;rw [if_neg hs];exact (h.dem hl).up E1 L1) E1 D1
noncomputable def RH (gf : PyData → Option (List (Nat × PyData))) (bw : Rho → Nat → QO → Prop) : List PyData → Rho → Nat → QO → Prop
 | [],ρ,n,Q => Q (.nx ρ) n
 | d :: r,ρ,n,Q => ∃ bs,gf d = some bs∧bw (j4 ρ bs) n fun o n1 => match o with
  | .nx ρ' => RH gf bw r ρ' n1 Q
  | .ct ρ' => RH gf bw r ρ' n1 Q
  | .bk ρ' => Q (.nx ρ') n1
  | .rt d b => Q (.rt d b) n1
theorem Vo {g : TG3} {tb : TS3} (pg : PuG g) (pb : PwS l tb) : ∀ {ds : List PyData} {ρ : Rho} {n : Nat} {Q Q' : QO},RH pg.f pb.w ds ρ n Q → (∀ o m,Q o m → Q' o m) → RH pg.f pb.w ds ρ n Q'
 | [],_,_,_,_,h,k => k _ _ h
 | d :: r,_,_,_,_,⟨bs,e,h⟩,k => ⟨bs,e,pb.mono h fun o m h => by
   cases o with
   | nx ρ => exact Vo pg pb h k
   | ct ρ => exact Vo pg pb h k
   | bk ρ => exact k _ _ h
   | rt d b => exact k _ _ h⟩
theorem U6 {stay : Gp → Prop} {g : TG3} {tb : TS3} {e : Ends3} (pg : PuG g) (pb : PwS l tb) {a : Addr} {z0 : Option (Option T) × Nat} {D : Addr → Prop} {G0 : Gp} {Q : QO} (hl : ∀ i ∈ pg.tg,i ≠ l∧i ≠ 0) (hs : ∀ A τ ρ G n,RL l a z0 D G0 A τ ρ G n → stay G) (k : ∀ o m,Q o m → WJ l a z0 D G0 e o m) :
  ∀ (ds : List PyData) (items : List T),(∀ A τ ρ G n,RL l a z0 D G0 A τ ρ G n → Dqs (rs (AD D A) G) items ds) → ∀ A τ ρ G n,RL l a z0 D G0 A τ ρ G n → RH pg.f pb.w ds ρ n Q → Ul stay g tb e items τ G
 | [],items,hi,A,τ,ρ,G,n,h,hw => by
  have := hi _ _ _ _ _ h
  cases this
  exact ⟨hs _ _ _ _ _ h,k _ _ hw _ _ _ h⟩
 | d :: ds,items,hi,A,τ,ρ,G,n,h,⟨bs,e1,hw⟩ => by
  have hh := hi _ _ _ _ _ h
  cases hh with
  | cons hx hr =>
   rename_i x items
   obtain ⟨ts,bd,kg⟩ := pg.ok hx e1
   refine ⟨hs _ _ _ _ _ h,kg _ _ _ ?_⟩
   obtain ⟨A',h'⟩ := h.puts bd fun p hp => hl _ (pg.at' e1 p hp)
   have hi' : ∀ A τ ρ G n,RL l a z0 D G0 A τ ρ G n → Dqs (rs (AD D A) G) items ds := fun A τ ρ G n h => by
    have := hi _ _ _ _ _ h
    cases this with
    | cons a b => exact b
   refine pb.ok h' hw fun o m hq => ?_
   cases o with
   | nx ρ' => exact fun A2 τ2 G2 h2 => U6 pg pb hl hs k ds items hi' _ _ _ _ _ h2 hq
   | ct ρ' => exact fun A2 τ2 G2 h2 => U6 pg pb hl hs k ds items hi' _ _ _ _ _ h2 hq
   | bk ρ' => exact k _ _ hq
   | rt d fr => exact k _ _ hq
theorem RL.base {a : Addr} {z0 : Option (Option T) × Nat} {D : Addr → Prop} {G0 Gb G : Gp} {A : Nat → Option Addr} {τ : St3} {ρ : Rho} {n : Nat} (h : RL l a z0 D Gb A τ ρ G n) (e : Ex G0 Gb) (hd : Dom D G0) : RL l a z0 D G0 A τ ρ G n := ⟨h.r.base e hd,h.al,h.tl,h.ul,h.lf,h.tz⟩
theorem WJ.base {a : Addr} {z0 : Option (Option T) × Nat} {D : Addr → Prop} {G0 Gb : Gp} {e : Ends3} {o : Ot} {n : Nat} (h : WJ l a z0 D G0 e o n) (x : Ex G0 Gb) (hd : Dom D G0) : WJ l a z0 D Gb e o n := by
 cases o with
 | nx ρ => exact fun A τ G r => h A τ G (r.base x hd)
 | bk ρ => exact fun A τ G r => h A τ G (r.base x hd)
 | ct ρ => exact fun A τ G r => h A τ G (r.base x hd)
 | rt d fr => exact fun y G p q r z => h y G (x.trans p) q r fun w => (z w).back x
noncomputable def qc7 {wi : TI3} {g : TG3} {tb : TS3} (pi : PwI l wi) (pg : PuG g) (pb : PwS l tb) (m : List Bool) (hm : Tru (pi.fv.all (mkb m))) (hl : Tru (!mkb m l && pg.tg.all (fun i => i != l && i != 0))) : PwS l (YT wi g tb) := ⟨fun ρ n Q => pi.w ρ n fun ds n1 => RH pg.f pb.w ds (if pi.nm then ρ else dm m ρ) n1 Q,fun h k => pi.mono h fun d m h => Vo pg pb h k,fun {a z0 D G0 A τ ρ G n e Q} h hw k => by
 have hl' : mkb m l = false∧∀ i ∈ pg.tg,i ≠ l∧i ≠ 0 := by simpa using hl.h
 refine pi.ok (h.ln hl'.1 hm) hw fun items stay ds G1 n1 hq E1 L1 D1 hs hnm => ?_
 cases hb : pi.nm with
 | true =>
  rw [hb,if_pos rfl] at hq
  obtain ⟨ns,rfl⟩ := hnm hb
  have := D1.ints
  subst this
  exact U6 pg pb hl'.2 (fun _ _ _ _ _ _ => hs _ (.inl hb)) k _ _ (fun A τ ρ G _ _ => Dqs.ofInts _) _ _ _ _ _ (h.up E1 L1) hq
 | false =>
  rw [hb,if_neg Bool.false_ne_true] at hq
  have h1 := (h.dem hl'.1).up E1 L1
  have b1 : Ex G0 (rs (fun b => ∃ i,Ad m A i = some b) G1) := fun b o e => by
   rw [jA]
   ·exact h1.r.ex _ _ e
   ·rintro ⟨i,z⟩;rw [h1.r.fr i _ z] at e;cases e
  have h2 : RL l a z0 D (rs (fun b => ∃ i,Ad m A i = some b) G1) (Ad m A) τ (dm m ρ) G1 n1 := ⟨⟨Zz,h.r.dm.up b1,fun i p z => by unfold rs;exact zF ⟨i,z⟩,h1.r.da,h1.r.inj,h1.r.len,h1.r.sh,h1.r.ow⟩,h1.al,h1.tl,h1.ul,h1.lf,h1.tz⟩
  have X : ∀ A2 τ2 ρ2 G2,RS D (rs (fun b => ∃ i,Ad m A i = some b) G1) A2 τ2 ρ2 G2 → Ex (rs (AD D (Ad m A)) G1) (rs (AD D A2) G2) := fun A2 τ2 ρ2 G2 r b o e => by
   obtain ⟨n1,e⟩ := q0 e
   have eb : rs (fun b => ∃ i,Ad m A i = some b) G1 b = some o := by rw [jA (fun z => n1 (.inr z))];exact e
   rw [jA]
   ·exact r.ex _ _ eb
   ·rintro (z | ⟨i,z⟩)
    ·exact n1 (.inl z)
    ·rw [r.fr i _ z] at eb;cases eb
  exact U6 pg pb hl'.2 (fun A2 τ2 ρ2 G2 n2 r => hs _ (.inr ((X _ _ _ _ r.r).trans Zz))) (fun o m hq => (k o m hq).base b1 h.r.dm) _ _ (fun A2 τ2 ρ2 G2 n2 r => D1.up (X _ _ _ _ r.r)) _ _ _ _ _ h2 hq⟩
end
noncomputable def DSp (W : List PyData → Nat → QD → Prop) (fr : Bool) : Sp3 := fun ts G q => ∃ (D : Addr → Prop) (a : Addr) (n : Nat) (ts' : List T) (ds : List PyData) (Q : QD),ts = .ref a :: ts'∧Lf G a n∧D a∧Dom D G∧Dqs (rs D G) ts' ds∧W ds n Q∧∀ x d G' n',Q d n' → Ext a G G' → Lf G' a n' → Dq (rs D G') x d → (fr = true → Nw D G G' x d) → q x G'
structure Wm where
 W : List PyData → Nat → QD → Prop
 mono : ∀ {ds n} {Q Q' : QD},W ds n Q → (∀ d m,Q d m → Q' d m) → W ds n Q'
noncomputable def dSp (w : Wm) (fr : Bool) : DrD (DSp w.W fr) := ⟨w.W,fr,w.mono,fun {D G a n ts ds q Q} lf da hd hs hw k => ⟨D,a,n,ts,ds,Q,rfl,lf,da,hd,hs,hw,k⟩⟩
noncomputable def Le (fr : Bool) (Q : QD) : QO := fun o n => match o with
 | .rt d b => (fr = true → b = true)∧∃ m,n ≤ m∧Q d m
 | .nx _ => fr = false∧∃ m,n ≤ m∧Q .none m
 | _ => False
noncomputable def qao {t : TS3} (b : PwS 0 t) (k N : Nat) (fr : Bool) : Wm := ⟨fun ds n Q => ds.length + 1 = k∧b.w (.un :: (ds.map Sl.sh ++ List.replicate (N - (ds.length + 1)) .un)) n (Le fr Q),fun ⟨h1,h2⟩ k => ⟨h1,b.mono h2 fun o m h => by
 cases o with
 | rt d f => obtain ⟨h1,m,h2,h3⟩ := h;exact ⟨h1,m,h2,k _ _ h3⟩
 | nx ρ => obtain ⟨h1,m,h2,h3⟩ := h;exact ⟨h1,m,h2,k _ _ h3⟩
 | bk ρ => exact h
 | ct ρ => exact h⟩⟩
theorem Uh {t : TS3} (b : PwS 0 t) (N : List Str) (k : Nat) (fr : Bool) : ∀ ts G q,DSp (qao b k N.length fr).W fr ts G q → ts.length = k∧t { nx := fun _ G' => q .non G',rt := q } (qx N ts) G := by
 rintro ts G q ⟨D,a,n,ts',ds,Q,rfl,lf,da,hd,hs,⟨hk,hw⟩,h⟩
 refine ⟨by simp [hs.length];omega,?_⟩
 have DD : ∀ b,(D b∧b ≠ a) ∨ b = a ↔ D b := fun b => by
  by_cases e : b = a
  ·subst e;simp [da]
  ·simp [e]
 have rr : ∀ H,rs (fun b => (D b∧b ≠ a) ∨ b = a) H = rs D H := fun H => by
  have : (fun b => (D b∧b ≠ a) ∨ b = a) = D := funext fun b => propext (DD b)
  rw [this]
 have ad : AD (fun b => D b∧b ≠ a) (fun i => if i = 0 then some a else none) = D := funext fun b => propext ⟨(fun z => by
   rcases z with z | ⟨i,z⟩
   ·exact z.1
   ·simp only at z
    split at z
    ·cases z;exact da
    ·cases z),(fun z => by
   by_cases e : b = a
   ·subst e;exact .inr ⟨0,rfl⟩
   ·exact .inl ⟨z,e⟩)⟩
 have ga : G a ≠ none := YL lf
 have r : RL 0 a (some (some (.ref a)),(qx N (.ref a :: ts')).length) (fun b => D b∧b ≠ a) (rs (fun b => b = a) G) (fun i => if i = 0 then some a else none) (qx N (.ref a :: ts')) (.un :: (ds.map Sl.sh ++ List.replicate (N.length - (ds.length + 1)) .un)) G n := by
  refine ⟨⟨Zz,fun b hb => by rw [jA (D := fun b => b = a) hb.2];exact hd b hb.1,fun i p e => ?_,fun i p e => ?_,fun i j p e e' => ?_,by simp [qx,hs.length],fun i d' e => ?_,fun i es e => ?_⟩,rfl,by simp [qx],rfl,lf,⟨by simp [qx],rfl⟩⟩
  ·split at e
   ·cases e;unfold rs;exact zF rfl
   ·cases e
  ·split at e
   ·cases e;exact ga
   ·cases e
  ·split at e
   ·split at e'
    ·rename_i h1 h2;rw [h1,h2]
    ·cases e'
   ·cases e
  ·rw [ad]
   cases i with
   | zero => cases e
   | succ i =>
    rw [List.getElem?_cons_succ] at e
    by_cases hi : i < ds.length
    ·rw [List.getElem?_append_left (by simpa using hi),List.getElem?_map] at e
     obtain ⟨d2,e3,e4⟩ := Option.map_eq_some_iff.mp e
     cases e4
     obtain ⟨x,e5,hx⟩ := hs.get e3
     refine ⟨x,?_,hx⟩
     unfold qx
     rw [List.getElem?_append_left (by simp [hs.length];exact hi),List.getElem?_map,List.getElem?_cons_succ,e5];rfl
    ·rw [List.getElem?_append_right (by simpa using hi),List.getElem?_replicate] at e
     split at e <;> cases e
  ·cases i with
   | zero => cases e
   | succ i =>
    rw [List.getElem?_cons_succ] at e
    by_cases hi : i < ds.length
    ·rw [List.getElem?_append_left (by simpa using hi),List.getElem?_map] at e
     obtain ⟨d2,e3,e4⟩ := Option.map_eq_some_iff.mp e
     cases e4
    ·rw [List.getElem?_append_right (by simpa using hi),List.getElem?_replicate] at e
     split at e <;> cases e
 have xe : ∀ {G'},Ex (rs (fun b => b = a) G) G' → Ext a G G' := fun e b o n x => e b o (by rw [jA (D := fun b => b = a) n];exact x)
 refine b.ok r hw fun o m hq => ?_
 cases o with
 | rt d f =>
  intro x G' E L Dx0 N
  have Dx := Dx0
  rw [rr] at Dx
  obtain ⟨hq1,m2,hm,hq2⟩ := hq
  refine h x d G' m2 hq2 (xe E) (L.mono (by omega)) Dx fun z => ?_
  rcases N (hq1 z) with h2 | ⟨p,xs,ds',h1,h2,c,g,f'⟩
  ·exact .inl h2
  have np : p ≠ a := by
   rintro rfl
   rw [h1] at Dx0
   cases Dx0 with
   | lst g0 _ => exact (q0 g0).1 (.inr rfl)
  refine .inr ⟨p,xs,ds',h1,h2,by rw [jA (D := fun b => b = a) np] at c;exact c,g,f'.up (zt fun b z => ?_)⟩
  rcases z with z | z
  ·exact .inl ((DD b).mpr z)
  ·exact .inr z
 | nx ρ =>
  obtain ⟨hq1,m2,hm,hq2⟩ := hq
  exact fun A τ G' r' => h .non .none G' m2 hq2 (xe r'.r.ex) (r'.lf.mono (by omega)) .non fun z => by rw [hq1] at z;cases z
 | bk ρ => exact hq.elim
 | ct ρ => exact hq.elim
end Pu
namespace Pu
open PySem L2 L3
open Bk (Lf Ext Wk)
noncomputable def okW : QO := fun o _ => match o with | .nx _ => True | .ct _ => True | _ => False
noncomputable def qgk (K : Int) : TE3 := o3 je (c3 (.int 1)) (cb3 qcf (qc (c3 (.int K)) (qc (cb3 JO (qc (v3 0) qh)) qh)))
theorem qbz {i : Nat} {τ : St3} {t : T} {G : Gp} {q : Q3} (h : τ[i]? = some (some t)) : v3 i τ G q = q t G := by unfold v3;rw [h]
noncomputable def qhc (K : Int) (R : TS3) : TS3 := qK (YT (zW (qc (qgk K) qh)) (gn3 1) (qK (zz (cb3 Bk.Zh (qc (v3 0) (qc (v3 1) qh))) (gn3 2)) R)) (ze (c3 (.bl true)))
theorem Re {R : TS3} (b : PwS 2 R) (N : List Str) (K : Int) (M : Nat) (hK : 0 ≤ K∧K ≤ 60) (hN : N.length = M + 3) (h : ∀ k : Nat,k ≤ 60 → b.w ([.un,.sh (.int k),.un] ++ List.replicate M .un) 0 okW) : ∀ ts G q,VJ ts G q → ts.length = 1∧qhc K R { nx := fun _ G' => q .non G',rt := q } (qx N ts) G := by
 rintro ts G q ⟨a,ns,rfl,hG,hl,hq⟩
 refine ⟨rfl,?_⟩
 have s0 : (qx N [T.ref a])[0]? = some (some (.ref a)) := by simp [qx]
 have gl : getL G a = some (ns.map T.int) := by unfold getL;rw [hG]
 simp only [qhc,qK,YT,zW,qgk,qc,qh,o3,c3,cb3,v3,s0,JO,gl,qcf,je,List.length_map]
 have cnt : ((1 + (if ((ns.length : Nat) : Int) < K then ((ns.length : Nat) : Int) else K)).toNat) ≤ 61 := by split <;> omega
 refine ⟨⟨by split <;> omega,by split <;> omega⟩,?_⟩
 refine Eb _ (fun _ τ G' => G' a = some (.frz (ns.map T.int))∧τ[0]? = some (some (.ref a))∧τ.length = M + 3) ⟨hG,s0,by simp [qx,hN]⟩ (fun _ _ _ _ _ => True.intro) ?_ ?_
 ·rintro i z τ G' nx hz ⟨gA,t0,tl⟩ hn
  obtain ⟨hi,rfl⟩ := Ch hz
  have hi2 : i ≤ 60 := by omega
  have t1 : (τ.set 1 (some (T.int (0 + (i : Int)))))[0]? = some (some (.ref a)) := by rw [List.getElem?_set,if_neg (by omega)];exact t0
  have t2 : (τ.set 1 (some (T.int (0 + (i : Int)))))[1]? = some (some (T.int (0 + (i : Int)))) := by rw [List.getElem?_set,if_pos rfl,if_pos (by omega)]
  show v3 0 (τ.set 1 (some (T.int (0 + (i : Int))))) G' (fun x G1 => v3 1 (τ.set 1 (some (T.int (0 + (i : Int))))) G1 fun y G2 => Bk.Zh [x,y] G2 fun z G3 => R _ ((τ.set 1 (some (T.int (0 + (i : Int))))).set 2 (some z)) G3)
  rw [qbz t1,qbz t2]
  refine ⟨a,_,ns,rfl,gA,hl,by omega,by omega,fun p o c hp ho => ?_⟩
  have pa : a ≠ p := by rintro rfl;rw [gA] at hp;cases hp
  have r : RL 2 p (some (some (.ref a)),M + 3) (fun _ => False) G' (fun j => if j = 2 then some p else none) ((τ.set 1 (some (T.int (0 + (i : Int))))).set 2 (some (.ref p))) ([.un,.sh (.int i),.un] ++ List.replicate M .un) (gu G' p (.lst [.int o,.int c,.int 0])) 0 := by
   refine ⟨⟨jE hp,fun b z => z.elim,fun j q e => ?_,fun j q e => ?_,fun j k q e e' => ?_,by simp [tl],fun j d e => ?_,fun j ds e => ?_⟩,rfl,by rw [List.getElem?_set,if_pos rfl,if_pos (by simp;omega)],rfl,⟨o,c,0,qD,ho,by omega,by omega⟩,⟨by rw [List.getElem?_set,if_neg (by omega)];exact t1,by simp [tl]⟩⟩
   ·split at e
    ·cases e;exact hp
    ·cases e
   ·split at e
    ·cases e;rw [qD];simp
    ·cases e
   ·split at e
    ·split at e'
     ·rename_i h1 h2;rw [h1,h2]
     ·cases e'
    ·cases e
   ·match j,e with
    | 0,e => cases e
    | 1,e =>
     cases e
     refine ⟨.int (0 + (i : Int)),by rw [List.getElem?_set,if_neg (by omega)];exact t2,?_⟩
     rw [Int.zero_add];exact .int _
    | 2,e => cases e
    | j + 3,e =>
     simp only [List.cons_append,List.nil_append,List.getElem?_cons_succ,List.getElem?_replicate] at e
     split at e <;> cases e
   ·match j,e with
    | 0,e => cases e
    | 1,e => cases e
    | 2,e => cases e
    | j + 3,e =>
     simp only [List.cons_append,List.nil_append,List.getElem?_cons_succ,List.getElem?_replicate] at e
     split at e <;> cases e
  refine b.ok r (h i hi2) fun o' m ho' => ?_
  cases o' with
  | nx ρ' => exact fun A τ' G2 r2 => hn _ _ ⟨r2.r.ex _ _ gA,r2.tz.1,r2.tz.2⟩
  | ct ρ' => exact fun A τ' G2 r2 => hn _ _ ⟨r2.r.ex _ _ gA,r2.tz.1,r2.tz.2⟩
  | bk ρ' => exact ho'.elim
  | rt d f => exact ho'.elim
 ·rintro τ G' ⟨gA,t0,tl⟩
  exact hq G'
theorem Kz {G : Gp} {ts : List T} (h : Dqs G ts []) : ts = [] := by cases h;rfl
theorem qdx {G : Gp} {ts : List T} {i : Int} (h : Dqs G ts [.int i]) : ts = [.int i] := by
 cases h with
 | cons a b => cases b;cases a;rfl
theorem lfc {G : Gp} {a : Addr} {n c : Nat} (h : Lf G a ((n : Int) + (c : Int))) : Lf G a ((n + c : Nat) : Int) := by rw [Int.natCast_add];exact h
noncomputable def Yw : DrD Bk.qt := ⟨fun ds n Q => ∃ m : Int,ds = [.int m]∧(1 ≤ m∧m < 1073741824)∧n < 1000000000∧∀ d : Int,0 ≤ d → d < m → Q (.int d) (n + 1),false,
 fun ⟨m,h1,h2,h3,h4⟩ k => ⟨m,h1,h2,h3,fun d x y => k _ _ (h4 d x y)⟩,fun {D G a n ts ds q Q} lf da hd hs ⟨m,h1,h2,h3,h4⟩ k => by
 subst h1
 have := qdx hs;subst this
 exact ⟨a,n,m,rfl,h2.1,h2.2,lf,by omega,fun d G' x y L E => k _ _ G' (n + 1) (h4 d x y) E (lfc (c := 1) L) (.int d) (fun z => by cases z)⟩⟩
noncomputable def Lz : DrD Bk.jj := ⟨fun ds n Q => ds = []∧n < 1000000∧∀ w : Wk,w.Ok → Q (Pv.Wk.d w) (n + 60),false,
 fun ⟨h1,h3,h4⟩ k => ⟨h1,h3,fun w x => k _ _ (h4 w x)⟩,fun {D G a n ts ds q Q} lf da hd hs ⟨h1,h3,h4⟩ k => by
 subst h1
 have := Kz hs;subst this
 exact ⟨a,n,rfl,lf,by omega,fun w G' x L E => k _ _ G' (n + 60) (h4 w x) E (lfc (c := 60) L) (Pv.qdo _ w) (fun z => by cases z)⟩⟩
end Pu
namespace Pu
open PySem L2 L3
open Bk (Lf Ext Wk)
theorem NU {l : Nat} {t : TE3} {b : PuE t} : (eOf (l := l) b).w = fun ρ n Q => ∃ d,b.f ρ = some d∧Q d n := id rfl
theorem Nm {l : Nat} {t : TT3} {b : PuC t} : (cOf (l := l) b).w = fun ρ n Q => ∃ d,b.f ρ = some d∧Q d n := id rfl
theorem Nn {l : Nat} {t : TA3} {b : PuA t} : (aOf (l := l) b).w = fun ρ n Q => ∃ d,b.f ρ = some d∧Q d n := id rfl
theorem qcu {l : Nat} {t : TI3} {b : PuI t} : (iOf (l := l) b).w = fun ρ n Q => ∃ d,b.f ρ = some d∧Q d n := id rfl
theorem qg4 {l : Nat} {r : R3} {ta tb : TE3} {R : OpD r} {a : PwE l ta} {b : PwE l tb} : (eO R a b).w = fun ρ n Q => a.w ρ n fun x n1 => b.w ρ n1 fun y n2 => ∃ v,R.f x y = some v∧Q v n2 := id rfl
theorem XE {l : Nat} {ta : TE3} {tr : TA3} {a : PwE l ta} {r : PwA l tr} : (Yt a r).w = fun ρ n Q => a.w ρ n fun x n1 => r.w ρ n1 fun xs n2 => Q (x :: xs) n2 := id rfl
theorem Se {l : Nat} {t : TA3} {b : PwA l t} {hn : Tru (Nat.ble b.k 1000)} : (qdf b hn).w = fun ρ n Q => b.w ρ n fun xs n1 => Q (.tuple xs) n1 := id rfl
theorem T7 {l : Nat} {t : TA3} {b : PwA l t} {hn : Tru (Nat.ble b.k 1000)} : (qfd b hn).w = fun ρ n Q => b.w ρ n fun xs n1 => Q (.list xs) n1 := id rfl
theorem qcs {l : Nat} {r : List T → Gp → Q3 → Prop} {t : TA3} {R : DrD r} {b : PwA l t} : (eDr R b).w = fun ρ n Q => b.w ρ n fun xs n1 => R.W xs n1 Q := id rfl
theorem qgz {l : Nat} {t : TA3} {b : PwA l t} : (iR b).w = fun ρ n Q => b.w ρ n fun xs n1 => ∃ ds,CM xs = some ds∧Q ds n1 := id rfl
theorem Tr {l : Nat} {t : TI3} {b : PuI t} : (iOf (l := l) b).nm = b.nm := id rfl
theorem SG {l : Nat} {t : TE3} {b : PuE t} : (eOf (l := l) b).nw = b.nw := id rfl
theorem MG {l : Nat} {r : R3} {ta tb : TE3} {R : OpD r} {a : PwE l ta} {b : PwE l tb} : (eO R a b).nw = R.nw := id rfl
theorem XW {l : Nat} {t : TA3} {b : PwA l t} {hn : Tru (Nat.ble b.k 1000)} : (qdf b hn).nw = false := id rfl
theorem T9 {l : Nat} {r : List T → Gp → Q3 → Prop} {t : TA3} {R : DrD r} {b : PwA l t} : (eDr R b).nw = R.nw := id rfl
theorem Mi {l : Nat} {wi : TI3} {g : TG3} {tif : TT3} {te : TE3} {l2 : Nat} {pi : PwI l wi} {pg : PuG g} {pc : PwC l2 tif} {pe : PwE l2 te} {m : List (Option Nat)} {hm : Tru (pg.tg.all fun i => m[i]? == some none)} {hl : Tru (m[l2]? == some (some l))} : (eLc l2 pi pg pc pe m hm hl).w = fun ρ n Q => pi.w ρ n fun ds n1 => ds.length ≤ 16777216∧lcW pg.f pc.w pe.w (Vt m ρ) ds n1 fun fs n2 => fs.length ≤ 16777216∧Q (.list fs) n2 := id rfl
theorem SY {l : Nat} {wi : TI3} {g : TG3} {tif : TT3} {te : TE3} {l2 : Nat} {pi : PwI l wi} {pg : PuG g} {pc : PwC l2 tif} {pe : PwE l2 te} {m : List (Option Nat)} {hm : Tru (pg.tg.all fun i => m[i]? == some none)} {hl : Tru (m[l2]? == some (some l))} : (eLc l2 pi pg pc pe m hm hl).nw = true := id rfl
theorem XQ {l : Nat} : (Yr (l := l)).w = fun ρ n Q => Q (.nx ρ) n := id rfl
theorem Sa {l : Nat} {t u : TS3} {x : PwS l t} {y : PwS l u} : (Yz x y).w = fun ρ n Q => x.w ρ n (sqw y.w Q) := id rfl
theorem T6 {b : Rho → Nat → QO → Prop} {Q : QO} {ρ : Rho} {n : Nat} : sqw b Q (.nx ρ) n = b ρ n Q := id rfl
theorem TY {b : Rho → Nat → QO → Prop} {Q : QO} {d : PyData} {f : Bool} {n : Nat} : sqw b Q (.rt d f) n = Q (.rt d f) n := id rfl
theorem Nd {l : Nat} {c : TT3} {t u : TS3} {pc : PwC l c} {x : PwS l t} {y : PwS l u} : (wIf pc x y).w = fun ρ n Q => pc.w ρ n fun k n1 => if k then x.w ρ n1 Q else y.w ρ n1 Q := id rfl
theorem Td {l : Nat} {t : TE3} {x : PwE l t} : (EY x).w = fun ρ n Q => x.w ρ n fun d n1 => Q (.rt d x.nw) n1 := id rfl
theorem Cd {l : Nat} {i : Nat} : (qa1 (l := l) i).w = fun ρ n Q => ∃ d b,CN ρ i = some (.rt d b)∧Q (.rt d b) n := id rfl
theorem TL {l : Nat} {t : TE3} {x : PwE l t} {i : Nat} {m : List Bool} {hm : Tru (x.fv.all (mkb m))} {hl : Tru (!mkb m l && (i != l && i != 0))} : (WB x i m hm hl).w = fun ρ n Q => x.w ρ n fun d n1 => Q (.nx (Wo m x.nw i d ρ)) n1 := id rfl
theorem T8 {l : Nat} {t : TA3} {x : PwA l t} {i j : Nat} {m : List Bool} {hm : Tru (x.fv.all (mkb m))} {hl : Tru (!mkb m l && ((i != l && i != 0) && (j != l && j != 0)))} : (qdz x i j m hm hl).w = fun ρ n Q => x.w ρ n fun ds n1 => ∃ o,qdi i j m ds ρ = some o∧Q o n1 := id rfl
theorem Ti {l : Nat} {wi : TI3} {g : TG3} {tb : TS3} {pi : PwI l wi} {pg : PuG g} {pb : PwS l tb} {m : List Bool} {hm : Tru (pi.fv.all (mkb m))} {hl : Tru (!mkb m l && pg.tg.all (fun i => i != l && i != 0))} : (qc7 pi pg pb m hm hl).w = fun ρ n Q => pi.w ρ n fun ds n1 => RH pg.f pb.w ds (if pi.nm then ρ else dm m ρ) n1 Q := id rfl
theorem XV {ds : List PyData} {n : Nat} {Q : QD} : Yw.W ds n Q = (∃ m : Int,ds = [.int m]∧(1 ≤ m∧m < 1073741824)∧n < 1000000000∧∀ d : Int,0 ≤ d → d < m → Q (.int d) (n + 1)) := id rfl
theorem Xf {ds : List PyData} {n : Nat} {Q : QD} : Lz.W ds n Q = (ds = []∧n < 1000000∧∀ w : Wk,w.Ok → Q (Pv.Wk.d w) (n + 60)) := id rfl
theorem NX {w : Wm} {fr : Bool} : (dSp w fr).W = w.W := id rfl
theorem Sy {w : Wm} {fr : Bool} : (dSp w fr).nw = fr := id rfl
theorem Cu {Q : QD} {d : PyData} {b : Bool} {n : Nat} : Le false Q (.rt d b) n = ∃ m,n ≤ m∧Q d m := propext ⟨fun h => h.2,fun h => ⟨fun z => (Bool.false_ne_true z).elim,h⟩⟩
theorem SL {Q : QD} {d : PyData} {n : Nat} : Le true Q (.rt d true) n = ∃ m,n ≤ m∧Q d m := propext ⟨fun h => h.2,fun h => ⟨fun _ => rfl,h⟩⟩
theorem Sw {ρ : Rho} {n : Nat} : okW (.nx ρ) n = True := id rfl
theorem Mu {α : Type} {v : α} {P : α → Prop} : (∃ d,some v = some d∧P d) = P v := propext ⟨fun ⟨d,h1,h2⟩ => by cases h1;exact h2,fun h => ⟨v,rfl,h⟩⟩
theorem SK {v : Int} {P : Int → Prop} : (∃ m : Int,[PyData.int v] = [.int m]∧P m) = P v := propext ⟨fun ⟨d,h1,h2⟩ => by cases h1;exact h2,fun h => ⟨v,rfl,h⟩⟩
theorem qbx {d : PyData} {b : Bool} {P : PyData → Bool → Prop} : (∃ d' b',some (Ot.rt d b) = some (.rt d' b')∧P d' b') = P d b := propext ⟨fun ⟨x,y,h1,h2⟩ => by cases h1;exact h2,fun h => ⟨d,b,rfl,h⟩⟩
theorem Qd {l : Nat} {t u : TS3} {x : PwS l t} {y : PwS l u} {ρ : Rho} {n : Nat} {Q : QO} (h : ∀ Y : Rho → Nat → QO → Prop,Y = y.w → x.w ρ n (sqw Y Q)) : (Yz x y).w ρ n Q := h _ rfl
theorem KJ {ks : List Int} {d : Int} {P : PyData → Prop} (h0 : 0 ≤ d) (h1 : d < (ks.length : Int)) (h : ∀ k ∈ ks,P (.int k)) : ∃ v,L2.atI (ks.map PyData.int) d = some v∧P v := by
 obtain ⟨i,rfl⟩ := Int.eq_ofNat_of_zero_le h0
 have hi : i < ks.length := by omega
 refine ⟨.int ks[i],?_,h _ (List.getElem_mem hi)⟩
 have := atN (xs := ks.map PyData.int) (k := i) (by simpa using hi)
 rw [List.getElem?_map,List.getElem?_eq_getElem hi] at this
 exact this
structure Mn (bw : Rho → Nat → QO → Prop) : Prop where
 h : ∀ ρ n (Q Q' : QO),bw ρ n Q → (∀ o m,Q o m → Q' o m) → bw ρ n Q'
theorem PwS.mn {l : Nat} {t : TS3} (b : PwS l t) : Mn b.w := ⟨fun _ _ _ _ h k => b.mono h k⟩
structure MnE (bw : Rho → Nat → QD → Prop) : Prop where
 h : ∀ ρ n (Q Q' : QD),bw ρ n Q → (∀ o m,Q o m → Q' o m) → bw ρ n Q'
theorem PwE.mn {l : Nat} {t : TE3} (b : PwE l t) : MnE b.w := ⟨fun _ _ _ _ h k => b.mono h k⟩
structure MnC (bw : Rho → Nat → (Bool → Nat → Prop) → Prop) : Prop where
 h : ∀ ρ n (Q Q' : Bool → Nat → Prop),bw ρ n Q → (∀ o m,Q o m → Q' o m) → bw ρ n Q'
theorem mnT : MnC (fun ρ n Q => Q true n) := ⟨fun _ _ _ _ h k => k _ _ h⟩
section
variable {l : Nat} {g : TG3} {tb : TS3}
theorem VW {gf : PyData → Option (List (Nat × PyData))} {bw : Rho → Nat → QO → Prop} {α : Type} {f : α → PyData} (xs : List α) (mono : Mn bw) (I : Nat → Rho → Nat → Prop) {ρ : Rho} {n : Nat} {Q : QO} (h0 : I 0 ρ n)
  (hs : ∀ i x ρ n,xs[i]? = some x → I i ρ n → ∃ bs,gf (f x) = some bs∧bw (j4 ρ bs) n fun o m => match o with | .nx ρ' => I (i + 1) ρ' m | .ct ρ' => I (i + 1) ρ' m | .bk ρ' => Q (.nx ρ') m | .rt d b => Q (.rt d b) m)
  (k : ∀ ρ n,I xs.length ρ n → Q (.nx ρ) n) : RH gf bw (xs.map f) ρ n Q := by
 have key : ∀ (r : List α) (i : Nat) (ρ : Rho) (n : Nat),xs.drop i = r → i ≤ xs.length → I i ρ n → RH gf bw (r.map f) ρ n Q := by
  intro r
  induction r with
  | nil =>
   intro i ρ n e hi h
   have : i = xs.length := by
    have := congrArg List.length e
    simp at this;omega
   subst this
   exact k ρ n h
  | cons x r ih =>
   intro i ρ n e hi h
   have hl : i < xs.length := by
    have := congrArg List.length e
    simp at this;omega
   have e' := List.drop_eq_getElem_cons hl
   rw [e] at e'
   injection e' with e1 e2
   obtain ⟨bs,h1,h2⟩ := hs i x ρ n (by rw [List.getElem?_eq_getElem hl,e1]) h
   refine ⟨bs,h1,mono.h _ _ _ _ h2 fun o m h => ?_⟩
   cases o with
   | nx ρ' => exact ih (i + 1) ρ' m e2.symm hl h
   | ct ρ' => exact ih (i + 1) ρ' m e2.symm hl h
   | bk ρ' => exact h
   | rt d b => exact h
 exact key xs 0 ρ n (by simp) (Nat.zero_le _) h0
theorem Dd {gf : PyData → Option (List (Nat × PyData))} {cw : Rho → Nat → (Bool → Nat → Prop) → Prop} {ew : Rho → Nat → QD → Prop} {α β : Type} {f : α → PyData} {gd : β → PyData} {ρ : Rho} (R : β → Prop) (c : Nat) (N : Nat) : ∀ (xs : List α) (n : Nat) (Q : List PyData → Nat → Prop),
  (∀ x ∈ xs,∀ n Q,n + c ≤ N → (∀ b,R b → Q (gd b) (n + c)) → ∃ bs,gf (f x) = some bs∧cw (j4 ρ bs) n fun k n1 => if k then ew (j4 ρ bs) n1 Q else False) →
  MnE ew → MnC cw → n + c * xs.length ≤ N → (∀ bs : List β,bs.length = xs.length → (∀ b ∈ bs,R b) → Q (bs.map gd) (n + c * xs.length)) → lcW gf cw ew ρ (xs.map f) n Q
 | [],n,Q,_,_,_,_,h => h [] rfl (by simp)
 | x :: xs,n,Q,hx,me,mc,hn,h => by
  have hc : c * (xs.length + 1) = c * xs.length + c := by rw [Nat.mul_succ]
  simp only [List.length_cons] at hn h
  obtain ⟨bs,h1,h2⟩ := hx x (by simp) n (fun y n2 => lcW gf cw ew ρ (xs.map f) n2 fun ys n3 => Q (y :: ys) n3) (by omega) fun b hb => by
   refine Dd R c N xs (n + c) _ (fun z hz => hx z (by simp [hz])) me mc (by omega) fun cs hl hr => ?_
   have := h (b :: cs) (by simp [hl]) (by intro z hz;rcases List.mem_cons.mp hz with rfl | hz;exact hb;exact hr z hz)
   rw [show n + c * (xs.length + 1) = n + c + c * xs.length by omega] at this
   exact this
  refine ⟨bs,h1,mc.h _ _ _ _ h2 fun k m hk => ?_⟩
  cases k with
  | true => exact hk
  | false => exact hk.elim
end
theorem WX {α β : Type} {x : α} {f : α → Option β} : (some x).bind f = f x := id rfl
theorem Tu {α β : Type} {x : α} {f : α → β} : (some x).map f = some (f x) := id rfl
theorem qc1 {α : Type} {x : α} {r : List α} : (x :: r).length = r.length + 1 := id rfl
theorem NT {α : Type} : ([] : List α).length = 0 := id rfl
theorem M4 {α : Type} {x y : α} {r : List α} : (x :: r).set 0 y = y :: r := id rfl
theorem N6 {α : Type} {x y : α} {r : List α} {i : Nat} : (x :: r).set (i + 1) y = x :: r.set i y := id rfl
theorem Mz {α : Type} {r : List α} : r ++ [] = r := List.append_nil r
theorem qcb {α : Type} {x : α} {r s : List α} : (x :: r) ++ s = x :: (r ++ s) := id rfl
theorem MP {α : Type} {s : List α} : [] ++ s = s := id rfl
theorem Mf {n : Nat} : 0 + n = n := Nat.zero_add n
theorem qcv {p : Prop} : (True∧p) = p := true_and p
theorem qby {α : Type} {a b : α} {i : Decidable True} : @ite α True i a b = a := if_pos trivial
theorem Nb {α : Type} {a b : α} {i : Decidable False} : @ite α False i a b = b := if_neg not_false
theorem qa2 : (false = true) = False := Bool.false_eq_true
theorem Mo : (!true) = false := id rfl
theorem MD : (!false) = true := id rfl
theorem qav {i : Decidable True} : @decide True i = true := decide_true i
theorem qau {i : Decidable False} : @decide False i = false := decide_false i
theorem Nz {b : Bool} : (b && true) = b := Bool.and_true b
theorem Mp {b : Bool} : (true && b) = b := Bool.true_and b
theorem NM {b : Bool} : (false && b) = false := Bool.false_and b
theorem ND {b : Bool} : (b && false) = false := Bool.and_false b
theorem pwA : type_of% (And.intro (And.intro (And.intro (And.intro (And.intro (And.intro (And.intro @Pu.NU (And.intro @Pu.Nm @Pu.Nn)) (And.intro @Pu.qcu (And.intro @Pu.qg4 @Pu.XE))) (And.intro (And.intro @Pu.Se (And.intro @Pu.T7 @Pu.qcs)) (And.intro (And.intro @Pu.qgz @Pu.Tr) (And.intro @Pu.SG @Pu.MG)))) (And.intro (And.intro (And.intro @Pu.XW (And.intro @Pu.T9 @Pu.Mi)) (And.intro @Pu.SY (And.intro @Pu.XQ @Pu.Sa))) (And.intro (And.intro @Pu.T6 (And.intro @Pu.TY @Pu.Nd)) (And.intro (And.intro @Pu.Td @Pu.Cd) (And.intro @Pu.TL @Pu.T8))))) (And.intro (And.intro (And.intro (And.intro @Pu.Ti (And.intro @Pu.XV @Pu.Xf)) (And.intro @Pu.NX (And.intro @Pu.Sy @Pu.Cu))) (And.intro (And.intro @Pu.SL (And.intro @Pu.Sw @Pu.SK)) (And.intro (And.intro @Pu.qbx @Pu.qay) (And.intro @Pu.qgm @Pu.SN)))) (And.intro (And.intro (And.intro @Pu.NG (And.intro @Pu.TR @Pu.Ka)) (And.intro @Pu.qgg (And.intro @Pu.SI @Pu.Cs))) (And.intro (And.intro @Pu.Ts (And.intro @Pu.Tq @Pu.Xl)) (And.intro (And.intro @Pu.NH @Pu.NQ) (And.intro @Pu.Sv @Pu.qaf)))))) (And.intro (And.intro (And.intro (And.intro (And.intro @Pu.WZ (And.intro @Pu.Xx @Pu.qb8)) (And.intro @Pu.Tz (And.intro @Pu.qb9 @Pu.Sn))) (And.intro (And.intro @Pu.Mm (And.intro @Pu.MQ @Pu.MX)) (And.intro (And.intro @Pu.XM @Pu.XD) (And.intro @Pu.MC @Pu.Sg)))) (And.intro (And.intro (And.intro @Pu.SH (And.intro @Pu.Tc @Pu.TN)) (And.intro @Pu.S9 (And.intro @Pu.So @Pu.Xv))) (And.intro (And.intro @Pu.qbn (And.intro @Pu.MO @Pu.S8)) (And.intro (And.intro @Pu.C6 @Pu.Sh) (And.intro @Pu.XG @Pu.DE))))) (And.intro (And.intro (And.intro (And.intro @Pu.To (And.intro @Pu.Tj @Pu.Tk)) (And.intro @Pu.XY (And.intro @Pu.XR @Pu.Wf))) (And.intro (And.intro @Pu.XI (And.intro @Pu.qgt @Pu.Tv)) (And.intro (And.intro @Pu.XA @Pu.Sd) (And.intro @Pu.XN @Pu.SW)))) (And.intro (And.intro (And.intro @Pu.NP (And.intro @Pu.Ke @Pu.Xi)) (And.intro @Pu.S4 (And.intro @Pu.Cg @Pu.Sz))) (And.intro (And.intro @Pu.Ki (And.intro @Pu.SR @Pu.Cp)) (And.intro (And.intro @Pu.T4 @Pu.X8) (And.intro @Pu.qak @Pu.Xm))))))) (And.intro (And.intro (And.intro (And.intro (And.intro (And.intro @Pu.WK (And.intro @Pu.DX @Pu.Wi)) (And.intro @Pu.Wg (And.intro @Pu.Su @Pu.T3))) (And.intro (And.intro @Pu.Kk (And.intro @Pu.Ce @Pu.Xy)) (And.intro (And.intro @Pu.Cl @Pu.Xp) (And.intro @Pu.XH @Pu.Dz)))) (And.intro (And.intro (And.intro @Pu.UR (And.intro @Pu.Kg @Pu.qgq)) (And.intro @Pu.qgs (And.intro @Pu.Ni @Pu.NY))) (And.intro (And.intro @Pu.NB (And.intro @Pu.Cr @Pu.Xn)) (And.intro (And.intro @Pu.Tm @Pu.qcm) (And.intro @Pu.qa0 @Pu.at0))))) (And.intro (And.intro (And.intro (And.intro @Pu.at1 (And.intro @Pu.at2 @Pu.at3)) (And.intro @Pu.eqS (And.intro @Pu.eqI @Pu.eqB))) (And.intro (And.intro @Pu.Me (And.intro @Pu.qag @Pu.qgh)) (And.intro (And.intro @Pu.SX @Pu.S6) (And.intro @Pu.Tw @Pu.XC)))) (And.intro (And.intro (And.intro @Pu.SO (And.intro @Pu.Nj @Pu.Mv)) (And.intro @Pu.M2 (And.intro @Pu.Tt @Pu.SU))) (And.intro (And.intro @Pu.TX (And.intro @Pu.Sf @Pu.TM)) (And.intro (And.intro @Pu.TQ @Pu.Wd) (And.intro @Pu.Ty @Pu.Sj)))))) (And.intro (And.intro (And.intro (And.intro (And.intro @Pu.Mh (And.intro @Pu.qbl @Pu.qa3)) (And.intro @Pu.M5 (And.intro @Pu.qce @Pu.MJ))) (And.intro (And.intro @Pu.qcy (And.intro @Pu.Nk @Pu.qax)) (And.intro (And.intro @Pu.qae @Pu.Mg) (And.intro @Pu.Tn @Pu.SB)))) (And.intro (And.intro (And.intro @Pu.Mx (And.intro @Pu.N0 @Pu.qgw)) (And.intro @Pu.qgo (And.intro @Pu.qgv @Pu.N4))) (And.intro (And.intro @Pu.NW (And.intro @Pu.qal @Pu.qb5)) (And.intro (And.intro @Pu.qam @Pu.qha) (And.intro @Pu.qah @Pu.S0))))) (And.intro (And.intro (And.intro (And.intro @Pu.Th (And.intro @Pu.Tx @Pu.TD)) (And.intro @Pu.Mu (And.intro @Pu.WX @Pu.Tu))) (And.intro (And.intro @Pu.qc1 (And.intro @Pu.NT @Pu.M4)) (And.intro (And.intro @Pu.N6 @Pu.Mz) (And.intro @Pu.qcb @Pu.MP)))) (And.intro (And.intro (And.intro @Pu.Mf (And.intro @Pu.qcv @Pu.qby)) (And.intro @Pu.Nb (And.intro @Pu.qa2 @Pu.Mo))) (And.intro (And.intro @Pu.MD (And.intro @Pu.qav @Pu.qau)) (And.intro (And.intro @Pu.Nz @Pu.Mp) (And.intro @Pu.NM @Pu.ND)))))))) := (And.intro (And.intro (And.intro (And.intro (And.intro (And.intro (And.intro @Pu.NU (And.intro @Pu.Nm @Pu.Nn)) (And.intro @Pu.qcu (And.intro @Pu.qg4 @Pu.XE))) (And.intro (And.intro @Pu.Se (And.intro @Pu.T7 @Pu.qcs)) (And.intro (And.intro @Pu.qgz @Pu.Tr) (And.intro @Pu.SG @Pu.MG)))) (And.intro (And.intro (And.intro @Pu.XW (And.intro @Pu.T9 @Pu.Mi)) (And.intro @Pu.SY (And.intro @Pu.XQ @Pu.Sa))) (And.intro (And.intro @Pu.T6 (And.intro @Pu.TY @Pu.Nd)) (And.intro (And.intro @Pu.Td @Pu.Cd) (And.intro @Pu.TL @Pu.T8))))) (And.intro (And.intro (And.intro (And.intro @Pu.Ti (And.intro @Pu.XV @Pu.Xf)) (And.intro @Pu.NX (And.intro @Pu.Sy @Pu.Cu))) (And.intro (And.intro @Pu.SL (And.intro @Pu.Sw @Pu.SK)) (And.intro (And.intro @Pu.qbx @Pu.qay) (And.intro @Pu.qgm @Pu.SN)))) (And.intro (And.intro (And.intro @Pu.NG (And.intro @Pu.TR @Pu.Ka)) (And.intro @Pu.qgg (And.intro @Pu.SI @Pu.Cs))) (And.intro (And.intro @Pu.Ts (And.intro @Pu.Tq @Pu.Xl)) (And.intro (And.intro @Pu.NH @Pu.NQ) (And.intro @Pu.Sv @Pu.qaf)))))) (And.intro (And.intro (And.intro (And.intro (And.intro @Pu.WZ (And.intro @Pu.Xx @Pu.qb8)) (And.intro @Pu.Tz (And.intro @Pu.qb9 @Pu.Sn))) (And.intro (And.intro @Pu.Mm (And.intro @Pu.MQ @Pu.MX)) (And.intro (And.intro @Pu.XM @Pu.XD) (And.intro @Pu.MC @Pu.Sg)))) (And.intro (And.intro (And.intro @Pu.SH (And.intro @Pu.Tc @Pu.TN)) (And.intro @Pu.S9 (And.intro @Pu.So @Pu.Xv))) (And.intro (And.intro @Pu.qbn (And.intro @Pu.MO @Pu.S8)) (And.intro (And.intro @Pu.C6 @Pu.Sh) (And.intro @Pu.XG @Pu.DE))))) (And.intro (And.intro (And.intro (And.intro @Pu.To (And.intro @Pu.Tj @Pu.Tk)) (And.intro @Pu.XY (And.intro @Pu.XR @Pu.Wf))) (And.intro (And.intro @Pu.XI (And.intro @Pu.qgt @Pu.Tv)) (And.intro (And.intro @Pu.XA @Pu.Sd) (And.intro @Pu.XN @Pu.SW)))) (And.intro (And.intro (And.intro @Pu.NP (And.intro @Pu.Ke @Pu.Xi)) (And.intro @Pu.S4 (And.intro @Pu.Cg @Pu.Sz))) (And.intro (And.intro @Pu.Ki (And.intro @Pu.SR @Pu.Cp)) (And.intro (And.intro @Pu.T4 @Pu.X8) (And.intro @Pu.qak @Pu.Xm))))))) (And.intro (And.intro (And.intro (And.intro (And.intro (And.intro @Pu.WK (And.intro @Pu.DX @Pu.Wi)) (And.intro @Pu.Wg (And.intro @Pu.Su @Pu.T3))) (And.intro (And.intro @Pu.Kk (And.intro @Pu.Ce @Pu.Xy)) (And.intro (And.intro @Pu.Cl @Pu.Xp) (And.intro @Pu.XH @Pu.Dz)))) (And.intro (And.intro (And.intro @Pu.UR (And.intro @Pu.Kg @Pu.qgq)) (And.intro @Pu.qgs (And.intro @Pu.Ni @Pu.NY))) (And.intro (And.intro @Pu.NB (And.intro @Pu.Cr @Pu.Xn)) (And.intro (And.intro @Pu.Tm @Pu.qcm) (And.intro @Pu.qa0 @Pu.at0))))) (And.intro (And.intro (And.intro (And.intro @Pu.at1 (And.intro @Pu.at2 @Pu.at3)) (And.intro @Pu.eqS (And.intro @Pu.eqI @Pu.eqB))) (And.intro (And.intro @Pu.Me (And.intro @Pu.qag @Pu.qgh)) (And.intro (And.intro @Pu.SX @Pu.S6) (And.intro @Pu.Tw @Pu.XC)))) (And.intro (And.intro (And.intro @Pu.SO (And.intro @Pu.Nj @Pu.Mv)) (And.intro @Pu.M2 (And.intro @Pu.Tt @Pu.SU))) (And.intro (And.intro @Pu.TX (And.intro @Pu.Sf @Pu.TM)) (And.intro (And.intro @Pu.TQ @Pu.Wd) (And.intro @Pu.Ty @Pu.Sj)))))) (And.intro (And.intro (And.intro (And.intro (And.intro @Pu.Mh (And.intro @Pu.qbl @Pu.qa3)) (And.intro @Pu.M5 (And.intro @Pu.qce @Pu.MJ))) (And.intro (And.intro @Pu.qcy (And.intro @Pu.Nk @Pu.qax)) (And.intro (And.intro @Pu.qae @Pu.Mg) (And.intro @Pu.Tn @Pu.SB)))) (And.intro (And.intro (And.intro @Pu.Mx (And.intro @Pu.N0 @Pu.qgw)) (And.intro @Pu.qgo (And.intro @Pu.qgv @Pu.N4))) (And.intro (And.intro @Pu.NW (And.intro @Pu.qal @Pu.qb5)) (And.intro (And.intro @Pu.qam @Pu.qha) (And.intro @Pu.qah @Pu.S0))))) (And.intro (And.intro (And.intro (And.intro @Pu.Th (And.intro @Pu.Tx @Pu.TD)) (And.intro @Pu.Mu (And.intro @Pu.WX @Pu.Tu))) (And.intro (And.intro @Pu.qc1 (And.intro @Pu.NT @Pu.M4)) (And.intro (And.intro @Pu.N6 @Pu.Mz) (And.intro @Pu.qcb @Pu.MP)))) (And.intro (And.intro (And.intro @Pu.Mf (And.intro @Pu.qcv @Pu.qby)) (And.intro @Pu.Nb (And.intro @Pu.qa2 @Pu.Mo))) (And.intro (And.intro @Pu.MD (And.intro @Pu.qav @Pu.qau)) (And.intro (And.intro @Pu.Nz @Pu.Mp) (And.intro @Pu.NM @Pu.ND))))))))
end Pu
namespace Pu
open PySem L2 L3
open Bk (Lf Ext Wk)
end Pu
namespace Pu
open PySem L2 L3
open Bk (Lf Ext Wk)
noncomputable def the (S : PyData → Prop) : Option PyData := @dite _ (∃ v,S v) (Classical.propDecidable _) (fun h => some (Classical.choose h)) fun _ => none
end Pu
namespace Pu
open PySem L2 L3
open Bk (Lf Ext Wk SD SDs zl Qt qC zE Qa Zl Z6)
theorem qdr {w : Wk} (ok : w.Ok) : SD 4 200 (Pv.Wk.d w) := by
 cases w with
 | line k m =>
  obtain ⟨h1,h2,h3⟩ := ok
  have : k = 0 ∨ k = 1 ∨ k = 2 ∨ k = 3 := by omega
  refine (zl (k := 2) (n := 20) ?_).mono (by omega) (by omega)
  rcases this with rfl | rfl | rfl | rfl <;> exact qC (n := 6) (m := 5) (Zl _ _ (by decide) (by decide)) (qC (n := 0) (m := 0) (Qa _ _ (by omega)) (zE _ _) (by omega)) (by omega)
 | block h v =>
  obtain ⟨h1,h2,h3,h4,_⟩ := ok
  refine (zl (k := 2) (n := 20) ?_).mono (by omega) (by omega)
  exact qC (n := 5) (m := 5) (Zl _ _ (by decide) (by decide)) (qC (n := 0) (m := 2) (Qa _ _ (by omega)) (qC (n := 0) (m := 0) (Qa _ _ (by omega)) (zE _ _) (by omega)) (by omega)) (by omega)
 | step d a m =>
  obtain ⟨h1,h2,h3,h4⟩ := ok
  refine (zl (k := 2) (n := 20) ?_).mono (by omega) (by omega)
  exact qC (n := 4) (m := 8) (Zl _ _ (by decide) (by decide)) (qC (n := 0) (m := 5) (Qa _ _ (by omega)) (qC (n := 0) (m := 2) (Qa _ _ (by omega)) (qC (n := 0) (m := 0) (Qa _ _ (by omega)) (zE _ _) (by omega)) (by omega)) (by omega)) (by omega)
 | cells ps =>
  obtain ⟨h1,h2,_,h4⟩ := ok
  have pr : SDs 2 (ps.length * (4 + 1)) (ps.map Pv.pD) := by
   have := Z6 (k := 2) (n := 4) (ds := ps.map Pv.pD) (fun d hd => by
    obtain ⟨p,hp,rfl⟩ := List.mem_map.mp hd
    have q := h4 p hp
    exact zl (k := 1) (qC (n := 0) (m := 2) (Qa _ _ (by omega)) (qC (n := 0) (m := 0) (Qa _ _ (by omega)) (zE _ _) (by omega)) (by omega)))
   rwa [List.length_map] at this
  exact zl (k := 3) (qC (n := 5) (m := 100) (Zl _ _ (by decide) (by decide)) (qC (n := ps.length * (4 + 1)) (m := 0) (zl (k := 2) pr) (zE _ _) (by omega)) (by omega))
end Pu
namespace Pu
open PySem L2 L3
noncomputable def WQ (st : Bool) : List PyData → Option PyData
 | [.none] => some (.str "None")
 | [.bool b] => some (.str (if b = true then Str.ofString "True" else Str.ofString "False"))
 | [.int i] => cif (i.natAbs.log2 < 1920) (some (.str (Str.ofString (toString i)))) none
 | [.str x] => match st with
  | true => some (.str x)
  | false => cif ((reprText x).length ≤ sizeLine) (some (.str (reprText x))) none
 | [.list ds] => cif (ShW (.list ds)) (some (.str (PyData.list ds).shown)) none
 | [.tuple ds] => cif (ShW (.tuple ds)) (some (.str (PyData.tuple ds).shown)) none
 | _ => none
theorem Zs {α : Type} {c : Prop} {x : α} {d : α} (h : cif c (some x) none = some d) : c∧x = d := by
 unfold cif at h
 split at h
 ·rename_i z;exact ⟨z,Option.some.inj h⟩
 ·cases h
noncomputable def Ca (st : Bool) : FnD (Et st) := ⟨WQ st,false,fun {D G xs ds v q} hx hd hf k => by
 cases hx with
 | nil => cases hf
 | cons a b =>
  cases b with
  | cons b1 b2 => cases a <;> cases hf
  | nil =>
   have dp := (a.up Zz).dp
   have fin : ∀ (x : Str) {w : PyData},w = v → w = .str x → q (.str x) G := fun x w e1 e2 => k _ _ Ex.refl (by rw [← e1,e2];exact .str _) (fun z => by cases z)
   cases a with
   | non => exact fin _ (Option.some.inj hf) rfl
   | bl b => exact fin _ (Option.some.inj hf) rfl
   | int i => exact ⟨(Zs hf).1,fin _ (Zs hf).2 rfl⟩
   | str x =>
    cases st with
    | true => exact fin _ (Option.some.inj hf) rfl
    | false => exact ⟨(Zs hf).1,fin _ (Zs hf).2 rfl⟩
   | tup hs => exact ⟨_,dp,(Zs hf).1,fin _ (Zs hf).2 rfl⟩
   | lst g hs => exact ⟨_,dp,(Zs hf).1,fin _ (Zs hf).2 rfl⟩⟩
theorem Ux {st : Bool} : (Ca st).f = WQ st := id rfl
theorem YD {st : Bool} : (Ca st).nw = false := id rfl
theorem Ss {st : Bool} {ds : List PyData} (h : ShW (.list ds)) : WQ st [.list ds] = some (.str (PyData.list ds).shown) := zF h
theorem log2_lt {n k : Nat} (h : n < 2 ^ k) (hk : 0 < k) : n.log2 < k := by
 rcases Nat.eq_zero_or_pos n with z | z
 ·subst z;simpa using hk
 ·exact (Nat.log2_lt (by omega)).mpr h
theorem qcw {st : Bool} {i : Int} (h : -1000000000 ≤ i∧i ≤ 1000000000) : WQ st [.int i] = some (.str (Str.ofString (toString i))) := zF (Nat.lt_of_lt_of_le (log2_lt (k := 30) (by omega) (by decide)) (by decide))
theorem MT {st b : Bool} : WQ st [.bool b] = some (.str (if b = true then Str.ofString "True" else Str.ofString "False")) := id rfl
end Pu
namespace Pu
open PySem L2 L3
def Nr (o : Option Ot) (I : Rho → Prop) (P : PyData → Bool → Prop) : Prop := match o with
 | some (.nx ρ) => I ρ
 | some (.ct ρ) => I ρ
 | some (.rt d b) => P d b
 | _ => False
theorem Mr {d : PyData} {b : Bool} {I : Rho → Prop} {P : PyData → Bool → Prop} : Nr (some (.rt d b)) I P = P d b := id rfl
def Tl (o : Option PyData) (P : PyData → Prop) : Prop := ∃ d,o = some d∧P d
theorem Ec {gf : PyData → Option (List (Nat × PyData))} {bf : Rho → Option Ot} {α : Type} {g : α → PyData} (I : Nat → Rho → Prop) (P : PyData → Bool → Prop) : ∀ (xs : List α) (i : Nat) {ρ : Rho},I i ρ →
  (∀ j x ρ,xs[j]? = some x → I (i + j) ρ → Nr ((gf (g x)).bind fun bs => bf (j4 ρ bs)) (I (i + j + 1)) P) → (∃ ρ',JD gf bf (xs.map g) ρ = some (.nx ρ')∧I (i + xs.length) ρ') ∨ ∃ d b,JD gf bf (xs.map g) ρ = some (.rt d b)∧P d b
 | [],i,ρ,h0,_ => .inl ⟨ρ,rfl,h0⟩
 | x :: xs,i,ρ,h0,hs => by
  have h1 := hs 0 x ρ rfl h0
  have go : ∀ ρ',I (i + 1) ρ' → (∃ ρ2,JD gf bf (xs.map g) ρ' = some (.nx ρ2)∧I (i + (x :: xs).length) ρ2) ∨ ∃ d b,JD gf bf (xs.map g) ρ' = some (.rt d b)∧P d b := fun ρ' h => by
   have := Ec I P xs (i + 1) h fun j y ρ2 hy hI => by
    have q := hs (j + 1) y ρ2 hy (by rw [show i + (j + 1) = i + 1 + j by omega];exact hI)
    rw [show i + (j + 1) + 1 = i + 1 + j + 1 by omega] at q;exact q
   rw [show i + 1 + xs.length = i + (x :: xs).length by simp;omega] at this
   exact this
  simp only [List.map_cons,JD]
  cases e : gf (g x) with
  | none => rw [e] at h1;exact h1.elim
  | some bs =>
   rw [e] at h1
   simp only [Option.bind_some] at h1 ⊢
   cases e2 : bf (j4 ρ bs) with
   | none => rw [e2] at h1;exact h1.elim
   | some o =>
    rw [e2] at h1
    cases o with
    | nx ρ' => exact go ρ' h1
    | ct ρ' => exact go ρ' h1
    | bk ρ' => exact h1.elim
    | rt d b => exact .inr ⟨d,b,rfl,h1⟩
theorem DO {gf : PyData → Option (List (Nat × PyData))} {bf : Rho → Option Ot} {α : Type} {g : α → PyData} {ρ : Rho} {Q : Option Ot → Prop} {F : Ot → Option Ot} (xs : List α) (I : Nat → Rho → Prop) (P : PyData → Bool → Prop) (h0 : I 0 ρ) (hs : ∀ i x ρ,xs[i]? = some x → I i ρ → Nr ((gf (g x)).bind fun bs => bf (j4 ρ bs)) (I (i + 1)) P) (k : ∀ ρ',I xs.length ρ' → Q (F (.nx ρ'))) (kr : ∀ d b,P d b → Q (F (.rt d b))) : Q ((JD gf bf (xs.map g) ρ).bind F) := by
 rcases Ec (gf := gf) (bf := bf) (g := g) I P xs 0 h0 (fun j x ρ hx hI => by rw [Nat.zero_add] at hI ⊢;exact hs j x ρ hx hI) with ⟨ρ',e,h⟩ | ⟨d,b,e,h⟩
 ·rw [e];rw [Nat.zero_add] at h;exact k _ h
 ·rw [e];exact kr d b h
theorem Sm : ∀ ks : List Int,TW (ks.map PyData.int) = 0
 | [] => rfl
 | k :: ks => by simp only [List.map_cons,TW,dpt,Sm ks];rfl
theorem Nh : ∀ ks js : List Int,Zn (ks.map PyData.int) (js.map PyData.int) = some (decide (ks = js))
 | [],[] => rfl
 | [],_ :: _ => by simp [Zn]
 | _ :: _,[] => by simp [Zn]
 | k :: ks,j :: js => by
  simp only [List.map_cons,Zn,Q1,Nh ks js]
  congr 1
  by_cases h1 : k = j <;> by_cases h2 : ks = js <;> simp [h1,h2]
theorem KB (n : Bool) (ks js : List Int) : eqD n (.list (ks.map PyData.int)) (.list (js.map PyData.int)) = some (.bool (if n then !decide (ks = js) else decide (ks = js))) := by
 have h : RJ (.list (ks.map PyData.int)) (.list (js.map PyData.int)) = none := rfl
 unfold eqD
 rw [h]
 simp only
 rw [zF (by simp [dpt,Sm])]
 simp only [Q1,Nh,Option.map_some]
theorem Kc (n : Bool) (ks : List Int) : eqD n (.list (ks.map PyData.int)) (.list []) = some (.bool (if n then !decide (ks = []) else decide (ks = []))) := KB n ks []
theorem NZ {xs : List PyData} {j : Nat} (h1 : 1 ≤ j) (h2 : j ≤ xs.length) : L2.atI xs (-(j : Int)) = xs[xs.length - j]? := by
 have e : ixN xs.length (-(j : Int)) = some (xs.length - j) := by
  unfold ixN
  rw [if_neg (by omega),if_pos (by omega)]
  congr 1;omega
 unfold L2.atI;rw [e];rfl
theorem M0 {ks : List Int} {k : Nat} (h : k < ks.length) : ∃ m ∈ ks,(ks.map PyData.int)[k]? = some (.int m) := by
 rw [List.getElem?_map,List.getElem?_eq_getElem h]
 exact ⟨ks[k],List.getElem_mem h,rfl⟩
theorem LK {α : Type} (g : α → PyData) (xs : List α) : ∀ k,enD k (xs.map g) = (xs.zipIdx k).map fun p => PyData.tuple [.int (p.2 : Int),g p.1] := by
 induction xs with
 | nil => intro k;rfl
 | cons x xs ih => intro k;simp only [List.map_cons,enD,List.zipIdx_cons,ih (k + 1)]
theorem We {a m : Int} {n : Nat} (h : m ∈ jW a n) : a ≤ m∧m < a + n := by
 unfold jW at h
 obtain ⟨i,hi,rfl⟩ := List.mem_map.mp h
 have := List.mem_range.mp hi
 omega
theorem Wn {α : Type} {xs : List α} {i n : Nat} {x : α} (h : (xs.zipIdx 0)[i]? = some (x,n)) : xs[i]? = some x∧n = i∧i < xs.length := by
 rw [List.getElem?_zipIdx] at h
 obtain ⟨c,hc,e⟩ := Option.map_eq_some_iff.mp h
 simp only [Nat.zero_add,Prod.mk.injEq] at e
 obtain ⟨rfl,rfl⟩ := e
 exact ⟨hc,rfl,(List.getElem?_eq_some_iff.mp hc).1⟩
end Pu
namespace Pu
open PySem L2 L3
noncomputable def nbD : PyData → Option Int
 | .int i => some i
 | .bool k => some (if k = true then 1 else 0)
 | _ => none
theorem K4 {G : Gp} {x : T} {d : PyData} (h : Dq G x d) : nbT x = nbD d := by cases h <;> rfl
noncomputable def nID (f : Int → Int → Int) (d e : PyData) : Option PyData := match nbD d,e with | some i,.int j => some (.int (f i j)) | _,_ => none
noncomputable def nQD (d e : PyData) : Option PyData := match nbD d,e with | some i,.int j => some (.bool (i == j)) | _,_ => none
noncomputable def nND (d : PyData) : Option PyData := (nbD d).map fun i => .int (-i)
noncomputable def opN (f : Int → Int → Int) : OpD (nI3 f) := ⟨nID f,false,fun {D G x y d e v q} hx hy hd hf k => by
 unfold nID at hf
 unfold nI3
 rw [K4 hx]
 split at hf
 ·rename_i i j e1
  cases hy
  cases hf
  rw [e1]
  exact k _ _ Ex.refl (.int _) (fun z => by cases z)
 ·cases hf⟩
noncomputable def qeb : OpD nQ3 := ⟨nQD,false,fun {D G x y d e v q} hx hy hd hf k => by
 unfold nQD at hf
 unfold nQ3
 rw [K4 hx]
 split at hf
 ·rename_i i j e1
  cases hy
  cases hf
  rw [e1]
  exact k _ _ Ex.refl (.bl _) (fun z => by cases z)
 ·cases hf⟩
noncomputable def N2 {ta : TE3} (a : PuE ta) : PuE (u3 nN3 ta) := ⟨fun ρ => (a.f ρ).bind nND,a.fv,false,fun hv hd hf k => by
 obtain ⟨x,e1,hf⟩ := Option.bind_eq_some_iff.mp hf
 obtain ⟨i,e2,hf⟩ := Option.map_eq_some_iff.mp hf
 subst hf
 refine a.ok hv hd e1 fun x' G1 E1 D1 _ => ?_
 unfold nN3
 rw [K4 D1,e2]
 exact k _ G1 E1 (.int _) (fun z => by cases z)⟩
theorem NK {f : Int → Int → Int} : (opN f).f = nID f := id rfl
theorem S5 {f : Int → Int → Int} : (opN f).nw = false := id rfl
theorem SJ : qeb.f = nQD := id rfl
theorem Xo : qeb.nw = false := id rfl
theorem X6 {ta : TE3} {a : PuE ta} : (N2 a).f = fun ρ => (a.f ρ).bind nND := id rfl
theorem qei {f : Int → Int → Int} {i j : Int} : nID f (.int i) (.int j) = some (.int (f i j)) := id rfl
theorem qeg {f : Int → Int → Int} {k : Bool} {j : Int} : nID f (.bool k) (.int j) = some (.int (f (if k = true then 1 else 0) j)) := id rfl
theorem qea {i j : Int} : nQD (.int i) (.int j) = some (.bool (i == j)) := id rfl
theorem qgb {k : Bool} {j : Int} : nQD (.bool k) (.int j) = some (.bool ((if k = true then 1 else 0 : Int) == j)) := id rfl
theorem qfh {i : Int} : nND (.int i) = some (.int (-i)) := id rfl
theorem qff {k : Bool} : nND (.bool k) = some (.int (-(if k = true then 1 else 0))) := id rfl
theorem LW (s : String) : ((Str.ofString s).cps.toList.all fun c => decide (c < 16 ^ 8)) = true := by
 rw [Str.ofString_eq_toList]
 rw [List.all_eq_true]
 intro c hc
 obtain ⟨x,_,rfl⟩ := List.mem_map.mp hc
 have h : x.val.toNat < 2 ^ 32 := x.val.toNat_lt
 have e : 16 ^ 8 = 4294967296 := by decide
 have e2 : x.toNat = x.val.toNat := rfl
 rw [decide_eq_true_eq,e2,e];exact h
theorem Ku (k : Nat) {i : Int} (h : -1000000 ≤ i∧i ≤ 1000000) : Bk.SD k 13 (.str (Str.ofString (toString i))) := by
 refine Bk.Zl k 13 ?_ (LW _)
 have := PyProof.Rows.intsShortAll_ints2 [i] (by intro n hn;simp at hn;subst hn;omega)
 simp only [List.map_cons,List.map_nil,PyData.intsShortAll,PyData.intsShort,Bool.and_true,decide_eq_true_eq] at this
 exact this
theorem Wb {ds : List PyData} {r : Int} (h0 : 0 ≤ r) (h1 : r < (ds.length : Int)) : ∃ v ∈ ds,L2.atI ds r = some v := by
 obtain ⟨j,rfl⟩ := Int.eq_ofNat_of_zero_le h0
 have hj : j < ds.length := by omega
 exact ⟨ds[j],List.getElem_mem hj,by rw [atN hj,List.getElem?_eq_getElem hj]⟩
theorem Lg {ds : List PyData} {r : Int} {P : PyData → Prop} (n : Nat) (hl : ds.length = n) (h0 : 0 ≤ r) (h1 : r < (n : Int)) (h : ∀ v ∈ ds,P v) : ∃ v,L2.atI ds r = some v∧P v := by
 obtain ⟨v,hv,e⟩ := Wb (ds := ds) h0 (by rw [hl];exact h1)
 exact ⟨v,e,h v hv⟩
theorem Cy {xs : List PyData} {lo hi : Option Int} {d : PyData} (h : d ∈ ZP xs lo hi) : d ∈ xs := List.mem_of_mem_drop (List.mem_of_mem_take h)
theorem XS (xs : List PyData) (lo hi : Option Int) : (ZP xs lo hi).length ≤ xs.length := by
 unfold ZP
 rw [List.length_take,List.length_drop];omega
end Pu
namespace Pv
open PySem L2 L3 Pu
open Bk (Wk jf zx Zj lnD lnA Un2 Fst faO Jz Jr Ee)
theorem jO {lo : Int} {n i : Nat} {x : Int} (h : (jW lo n)[i]? = some x) : i < n∧x = lo + i := by
 unfold jW at h
 rw [List.getElem?_map] at h
 obtain ⟨k,e1,e2⟩ := Option.map_eq_some_iff.mp h
 obtain ⟨hl,hk⟩ := List.getElem?_eq_some_iff.mp e1
 simp at hl hk
 subst hk
 exact ⟨hl,e2.symm⟩
theorem Qq (lo : Int) (n : Nat) : (jW lo n).length = n := by simp [jW]
theorem Cm {lo : Int} {n i : Nat} (h : i < n) : (jW lo n)[i]? = some (lo + i) := by simp [jW,h]
theorem YW {d a : Int} {m : Nat} (hd : -1000 ≤ d∧d ≤ 1000) (ha : -1000 ≤ a∧a ≤ 1000) (hm : m ≤ 10000) : zm [.int d,.int a,.int m] = some (.list ((jf d a m).map pD)) := by
 rw [XO]
 try simp only [Pu.pwA,Y0]
 rw [Zy (ds := (jW 0 m).map PyData.int) (fs := (jf d a m).map pD)]
 ·try simp only [Pu.pwA]
 ·try simp (disch := omega) only [Pu.pwA,Du,Int.toNat_natCast]
 ·have : jf d a m = (jW 0 m).map fun i => (i * d,i * a) := by simp [jf,jW,List.map_map,Function.comp_def]
  rw [this,List.map_map]
  refine j7 fun i hi => ?_
  try simp (disch := omega) only [Pu.pwA,JQ,DM,Function.comp_def,pD]
 ·simp [jf];omega
noncomputable def Big : Wk → Prop
 | .line k m => k < 4∧m ≤ 1000
 | .block h w => h ≤ 1000∧w ≤ 1000
 | .step d a m => (-1000 ≤ d∧d ≤ 1000)∧(-1000 ≤ a∧a ≤ 1000)∧m ≤ 1000
 | .cells ps => ps.length ≤ 1000
theorem W6 {w : Wk} (ok : Big w) : qS [Wk.d w] = some (.list (w.pc.map pD)) := by
 cases w with
 | cells ps =>
  rw [Zb]
  try simp only [Pu.pwA,jq,Wk.d,eq_self,Wk.pc]
 | block h v =>
  obtain ⟨h1,h2⟩ := ok
  rw [Zb]
  try simp only [Pu.pwA,jq,Wk.d,eq_self,L3.ZV,Wk.pc]
  rw [Xc (ds := (jW 0 h).map PyData.int) (fs := (zx h v).map pD)]
  ·try simp only [Pu.pwA]
  ·try simp (disch := omega) only [Pu.pwA,Du,Int.toNat_natCast]
  ·have : (zx h v).map pD = (jW 0 h).flatMap fun p => (jW 0 v).map fun q => pD (p,q) := by
    simp only [zx,jW,List.map_flatMap,List.map_map,List.flatMap_map,Function.comp_def,Int.zero_add]
   rw [this]
   refine DF fun p hp => ?_
   try simp (disch := omega) only [Pu.pwA,TK,Du,Int.toNat_natCast]
   rw [j7 (k := fun q => pD (p,q)) fun q hq => ?_]
   ·try simp only [Pu.pwA]
   ·try simp only [Pu.pwA,JQ,pD]
  ·have := Nat.mul_le_mul h1 h2
   rw [List.length_map,Bk.zK];omega
 | step d a m =>
  obtain ⟨h1,h2,h3⟩ := ok
  rw [Zb]
  try simp only [Pu.pwA,jq,Wk.d,eq_self,L3.Jy,L3.J2,Wk.pc,YW h1 h2 (show m ≤ 10000 by omega)]
 | line k m =>
  obtain ⟨h1,h2⟩ := ok
  have key : ∀ (s : Str) (d a : Int),¬ s = Str.ofString "cells" → ¬ s = Str.ofString "block" → ¬ s = Str.ofString "step" → (-1000 ≤ d∧d ≤ 1000) → (-1000 ≤ a∧a ≤ 1000) → (jg J4 s).bind tD = some (.tuple [.int d,.int a]) → qS [.tuple [.str s,.int (m : Int)]] = some (.list ((jf d a m).map pD)) := by
   intro s d a n1 n2 n3 hd ha e
   rw [Zb]
   try simp only [Pu.pwA,jq,n1,n2,n3,e,YW (d := d) (a := a) (m := m) hd ha (by omega)]
  have : (k = 0 ∨ k = 1 ∨ k = 2 ∨ k = 3) := by omega
  rcases this with rfl | rfl | rfl | rfl
  ·exact key "row" 0 1 L3.Eo L3.Ep L3.Do (by decide) (by decide) rfl
  ·exact key "column" 1 0 L3.YR L3.YS L3.V9 (by decide) (by decide) rfl
  ·exact key "slant" 1 1 L3.VD L3.V8 L3.Us (by decide) (by decide) rfl
  ·exact key "back" 1 (-1) L3.Ue L3.U2 L3.Em (by decide) (by decide) rfl
noncomputable def faD (ns : List Int) : PyData := match faO ns with | some (i,j) => .tuple [.int i,.int j] | none => .none
theorem qhv {ns : List Int} {x : PyData} (hl : ns.length ≤ 1000000) (h1 : KL [x] = some (.int ns.length)) (h2 : ∀ i,ixD x (.int i) = L2.atI (ns.map PyData.int) i) : qO [x] = some (faD ns) := by
 rw [Vu]
 have at' : ∀ i : Nat,i < ns.length → ixD x (.int (0 + (i : Int))) = some (.int ((ns[i]?).getD 0)) := fun i hi => by
  rw [h2,Int.zero_add,atN (by simpa using hi),List.getElem?_map,List.getElem?_eq_getElem hi];rfl
 have at2 : ∀ i j : Nat,i + 1 + j < ns.length → ixD x (.int (0 + (i : Int) + 1 + (j : Int))) = some (.int ((ns[i + 1 + j]?).getD 0)) := fun i j hi => by
  rw [h2,show (0 + (i : Int) + 1 + (j : Int)) = ((i + 1 + j : Nat) : Int) by omega,atN (by simpa using hi),List.getElem?_map,List.getElem?_eq_getElem hi];rfl
 have ne' : ∀ {a b : Nat},a < ns.length → b < ns.length → ns[a]? ≠ ns[b]? → (ns[a]?).getD 0 ≠ (ns[b]?).getD 0 := fun {a b} ha hb hn e => by
  rw [List.getElem?_eq_getElem ha,List.getElem?_eq_getElem hb] at hn e
  exact hn (congrArg some e)
 try simp (disch := omega) only [Pu.pwA,jS,h1,Du,Int.toNat_natCast]
 have tn : ∀ i : Nat,((ns.length : Int) - (0 + (i : Int) + 1)).toNat = ns.length - (i + 1) := fun i => by omega
 by_cases hu : Un2 ns ns.length
 ·refine Ut (Q := fun o => Jm false o = _) (jW 0 ns.length) (fun _ ρ => ∃ s1 s2,ρ = [.sh x,s1,s2]) ⟨_,_,rfl⟩ ?_ ?_
  ·rintro i z ρ hz ⟨s1,s2,rfl⟩
   obtain ⟨hi,rfl⟩ := jO hz
   try simp (disch := omega) only [Pu.pwA,h1,qdg,tn]
   refine U4 (Q := fun o => Nx o _) _ (fun _ ρ => ∃ s3,ρ = [.sh x,.sh (.int (0 + (i : Int))),s3]) ⟨_,rfl⟩ ?_ ?_
   ·rintro j z ρ hz ⟨s3,rfl⟩
    obtain ⟨hj,rfl⟩ := jO hz
    have hj2 : i + 1 + j < ns.length := by omega
    have := ne' hi hj2 (hu i _ hi (by omega) hj2)
    try simp only [Pu.pwA,at' i hi,at2 i j hj2,this]
    exact ⟨_,rfl⟩
   ·rintro ρ ⟨s3,rfl⟩
    try simp only [Pu.pwA]
    exact ⟨_,_,rfl⟩
  ·rintro ρ ⟨s1,s2,rfl⟩
   try simp only [Pu.pwA,faD,Jr hu]
 ·obtain ⟨i,j,F⟩ := Ee hu
  have hi : i < ns.length := Nat.lt_trans F.ij F.jl
  have jl := F.jl
  have ij := F.ij
  refine KP (Q := fun o => Jm false o = _) (jW 0 ns.length) i (0 + (i : Int)) (.tuple [.int i,.int j]) false (Cm hi) (fun _ ρ => ∃ s1 s2,ρ = [.sh x,s1,s2]) ⟨_,_,rfl⟩ ?_ ?_ ?_
  ·rintro k z ρ hk hz ⟨s1,s2,rfl⟩
   obtain ⟨hk2,rfl⟩ := jO hz
   try simp (disch := omega) only [Pu.pwA,h1,qdg,tn]
   refine U4 (Q := fun o => Nx o _) _ (fun _ ρ => ∃ s3,ρ = [.sh x,.sh (.int (0 + (k : Int))),s3]) ⟨_,rfl⟩ ?_ ?_
   ·rintro l z ρ hz ⟨s3,rfl⟩
    obtain ⟨hj,rfl⟩ := jO hz
    have hj2 : k + 1 + l < ns.length := by omega
    have := ne' hk2 hj2 (F.un k _ hk (by omega) hj2)
    try simp only [Pu.pwA,at' k hk2,at2 k l hj2,this]
    exact ⟨_,rfl⟩
   ·rintro ρ ⟨s3,rfl⟩
    try simp only [Pu.pwA]
    exact ⟨_,_,rfl⟩
  ·rintro ρ ⟨s1,s2,rfl⟩
   try simp (disch := omega) only [Pu.pwA,h1,qdg,tn]
   refine Ym (Q := fun o => o = _) _ (j - (i + 1)) (0 + (i : Int) + 1 + ((j - (i + 1) : Nat) : Int)) (.tuple [.int i,.int j]) false (Cm (by omega)) (fun _ ρ => ∃ s3,ρ = [.sh x,.sh (.int (0 + (i : Int))),s3]) ⟨_,rfl⟩ ?_ ?_ rfl
   ·rintro l z ρ hl hz ⟨s3,rfl⟩
    obtain ⟨hj,rfl⟩ := jO hz
    have hj2 : i + 1 + l < ns.length := by omega
    have := ne' hi hj2 (F.nb _ (by omega) (by omega))
    try simp only [Pu.pwA,at' i hi,at2 i l hj2,this]
    exact ⟨_,rfl⟩
   ·rintro ρ ⟨s3,rfl⟩
    have hj2 : i + 1 + (j - (i + 1)) < ns.length := by omega
    have ej : i + 1 + (j - (i + 1)) = j := by omega
    have e2 : (ns[i]?).getD 0 = (ns[i + 1 + (j - (i + 1))]?).getD 0 := by rw [ej,F.eq]
    try simp only [Pu.pwA,at' i hi,at2 i _ hj2,e2]
    rw [show (0 + (i : Int)) = i by omega,show ((i : Int) + 1 + ((j - (i + 1) : Nat) : Int)) = j by omega]
  ·try simp only [Pu.pwA,faD,Jz F]
theorem Mj {ns : List Int} (hl : ns.length ≤ 1000000) : qO [.tuple (ns.map PyData.int)] = some (faD ns) := qhv hl (by simp [KL]) fun _ => rfl
end Pv
namespace Pv
open PySem L2 L3 Pu
open Bk (Wk jf zx Zj lnD lnA Un2 Fst faO Jz Jr Ee)
theorem Xa {w : Wk} (ok : w.Ok) : Big w := by
 cases w with
 | line k m => obtain ⟨h1,h2,h3⟩ := ok;exact ⟨h1,by omega⟩
 | block h v => obtain ⟨h1,h2,h3,h4,h5⟩ := ok;exact ⟨by omega,by omega⟩
 | step d a m => obtain ⟨h1,h2,h3,h4⟩ := ok;exact ⟨by omega,by omega,by omega⟩
 | cells ps => have h := ok.2.1;show ps.length ≤ 1000;omega
noncomputable def rst (B a b : Int) (cs : List (Int × Int)) : List Int := cs.map fun p => (a * p.1 + b * p.2) % B
theorem JK (B a b : Int) (cs : List (Int × Int)) : (rst B a b cs).length = cs.length := by simp [rst]
theorem Sb {w : Wk} (ok : Big w) : w.pc.length ≤ 1000000 := by
 cases w with
 | line k m => simp only [Wk.pc,jf,List.length_map,List.length_range];have := ok.2;omega
 | block h v => simp only [Wk.pc,Bk.zK];exact Nat.mul_le_mul ok.1 ok.2
 | step d a m => simp only [Wk.pc,jf,List.length_map,List.length_range];have := ok.2.2;omega
 | cells ps => have : ps.length ≤ 1000 := ok;simp only [Wk.pc];omega
theorem qge {B a b : Int} {w : Wk} (hB : 1 ≤ B) (ha : 0 ≤ a∧a ≤ 1000) (hb : 0 ≤ b∧b ≤ 1000) (ok : Big w) : qR [.int B,.tuple [.int a,.int b],Wk.d w] = some (.tuple ((rst B a b w.pc).map PyData.int)) := by
 rw [EG]
 have hl := Sb ok
 try simp only [Pu.pwA,ZD]
 rw [Zy (ds := w.pc.map pD) (fs := (rst B a b w.pc).map PyData.int)]
 ·try simp only [Pu.pwA]
 ·try simp only [Pu.pwA,W6 ok]
 ·rw [rst,List.map_map]
  refine j7 fun p hp => ?_
  try simp (disch := omega) only [Pu.pwA,JQ,pD,U9,UG,Function.comp_def]
 ·simp [rst];omega
end Pv
namespace Pv
open PySem L2 L3 Pu
open Bk (Wk jf zx Zj lnD lnA Un2 Fst faO Jz Jr Ee)
end Pv
namespace Pv
open PySem L2 L3 Pu
open Bk (Wk jf zx Zj lnD lnA Un2 Fst faO Jz Jr Ee)
end Pv
namespace Pv
open PySem L2 L3 Pu
end Pv
namespace Pv
open PySem L2 L3 Pu
end Pv
namespace Pv
open PySem L2 L3 Pu
end Pv
namespace Pv
open PySem L2 L3 Pu
end Pv
namespace Hd
open PySem L2 L3 PySem.W
noncomputable def oF (x : Str) (st : Stmt) (pm cd : Value) : Obj := ⟨.type "function",none,.func (PySem.W.fnOf x x (Zw st) (jm st) (qi st) .none .none .none pm none cd .none),#[]⟩
noncomputable def oC (vs : List Value) : Obj := ⟨.type "code",none,.fields vs.toArray,#[]⟩
noncomputable def oT (vs : List Value) : Obj := ⟨.type "tuple",none,.seq vs.toArray 0,#[]⟩
noncomputable def eD (P : Params) : Value × Value → DictEntry
 | (.str x t,v) => ⟨PyData.keyHash P x,.str x t,v⟩
 | (u,v) => ⟨0,u,v⟩
noncomputable def oD (P : Params) (n : Nat) (es : List (Value × Value)) : Obj := ⟨.type "dict",none,.dict (es.map (eD P)).toArray n,#[]⟩
theorem j3 {K : PySem.W.Frag} (x : Str) (st : Stmt) (f : Addr) (pm cd : Value) (l : K.lookup f = some (oF x st pm cd)) (c : PySem.W.codeIn K cd x = true) (k : PySem.W.keepIn K (.ref f) = true) :
  Fun K x x st f (PySem.W.fnOf x x (Zw st) (jm st) (qi st) .none .none .none pm none cd .none) := qbw l c k
theorem jn {K : PySem.W.Frag} {h : Heap} {mg : Str → Option Value} (X : K.In h) (G : h.Ns mainGlobals mg) (n : Str) (v : Value) (e : PySem.W.nsIn K mainGlobals n = some (some v)) : mg n = some v := PySem.W.mg_of X G e
theorem JR {K : PySem.W.Frag} {h : Heap} {mg : Str → Option Value} (X : K.In h) (G : h.Ns mainGlobals mg) (n : Str) (e : PySem.W.nsIn K mainGlobals n = some none) : mg n = none := PySem.W.mg_none_of X G e
theorem head {l : OpenLaw} {q : Program} {loose : List Str} {K : Params → Frag} {as : List Addr} {d : DefRec} {N : Nat} {k : Nat} {x : Str} (ha : ∀ P,as = (K P).map (·.1))
  (ok : l.wellSaid = true)
  (left : LeftO l.prog q loose (fun s => xlAt q [] s && recOk [] s) (fun s => as.map s.heap.get?) (fun w => (K w.params).map fun p => some p.2) N)
  (hdef : defOf q l.name = some (d,[])) (hp : l.prog.theDef l.name = some (d.params,d.body,d.scope)) (hk : kwWritten? d.params.kwonlyargs d.params.kw_defaults = some [])
  (hwr : (!l.row.writes || l.row.records.isEmpty) = true) (ok2 : (chainsOk q && opensWell l.prog && (frees l.row.toRowW && l.row.within.isEmpty)) = true) (hb : l.prog.bare) (hw : l.row.toRowW.promised)
  (hn : l.most = some 63) (hdf : d.params.defaults = []) (hr : Room k callerA) (hK : ∀ w : World,JZ (K w.params) = true)
  (F : ∀ (w : World) (mg : Str → Option Value) (fa : Addr) (h : Heap),(K w.params).In h → h.Ns mainGlobals mg → mg d.name = some (.ref fa) →
   ∃ fd : FuncData,(∀ (s : Shared) (u : Value),BindsTo s fd ⟨[u],[]⟩ [(x,u)])∧∀ base : Heap,(K w.params).In base → base.Ns mainGlobals mg → FnOk l.prog w (K w.params) mg base CX0 k fa fd [x] (lSp (K w.params) VJ)) : l.Holds := by
 refine holds_law ok fun said => ?_
 exact holds_open (q := q) (loose := loose) (Xt := fun s => xlAt q [] s && recOk [] s) (XP := XL q []) (Yf := Hook.obs (kHook K as ha)) (Ya := Hook.val (kHook K as ha)) (YP := Hook.says (kHook K as ha)) (N := N) left
  (Hook.of (kHook K as ha)) (Hook.keeps (kHook K as ha)) (fun s e => xl_of s (Bool.and_eq_true_iff.mp e).1) XL.keeps hdef hp hk (fun s e => recFacts_of (Bool.and_eq_true_iff.mp e).2) hwr said ok2 hb hw
  (L3.qd4 (l := l) (k := k) (x := x) hn hdf hr (fun w h Y => kIn_of Y) hK F)
end Hd
namespace K37
open PySem L2 L3 Bk
noncomputable def top (i : Nat) : Stmt := PySem.Challenge.pw_bankwalk_k37_bars_spoilt_anywhere.main.body.getD i (.Pass ⟨0,0,0,0⟩)
variable {P : Program} {w : World} {K : PySem.W.Frag} {mg : Str → Option Value} {base : Heap} {f : Addr} {fd : FuncData} {k : Nat} {sp : Sp3}
noncomputable abbrev Qr : Stmt := top 1
noncomputable abbrev QY : List Str := ["thing"]
noncomputable abbrev ZZ : List Str := ["thing"]
theorem Ed : FnScope QY ZZ (qi Qr) := ⟨rfl,rfl,rfl,by decide +kernel,rfl,by decide +kernel,by decide +kernel⟩
theorem E6 (F : Fun K "is_number" "is_number" Qr f fd) (bd : zD K fd ZZ []) (hm : mg "is_number" = some (.ref f))  (m_isinstance : mg "isinstance" = none) (m_bool : mg "bool" = none) (m_int : mg "int" = none)
  (read : Rd sp 1 (Bk.Zf) QY) : Fn3 P w K mg base (k + 1) "is_number" sp :=
 qL (t3 := (Bk.Zf)) F Ed bd hm (fun cdv A outer s H E hr => (qm (qo (Ve (Z7 (qb 0) rfl m_isinstance rfl m_int PyProof.Rows.boot_int) (YZ (Sc (Z7 (qb 0) rfl m_isinstance rfl m_bool PyProof.Rows.boot_bool))))))) read
noncomputable abbrev zn : Stmt := top 2
noncomputable abbrev zA : List Str := ["thing","end"]
noncomputable abbrev jk : List Str := ["thing","end"]
theorem Jv : FnScope zA jk (qi zn) := ⟨rfl,rfl,rfl,by decide +kernel,rfl,by decide +kernel,by decide +kernel⟩
noncomputable def zB (S_is_number : Sp3) : TS3 := (ze (JB (cb3 S_is_number (qc (v3 0) qh)) (ch3 (iB fun i j => decide (i ≤ j)) (iB fun i j => decide (i < j)) (c3 (.int 0)) (v3 0) (v3 1))))
theorem J5 {S_is_number : Sp3} (F : Fun K "is_number_below" "is_number_below" zn f fd) (bd : zD K fd jk []) (hm : mg "is_number_below" = some (.ref f)) (zr : Fn3 P w K mg base k "is_number" S_is_number) 
  (read : Rd sp 2 (zB S_is_number) zA) : Fn3 P w K mg base (k + 1) "is_number_below" sp :=
 qL (t3 := (zB S_is_number)) F Jv bd hm (fun cdv A outer s H E hr => (qm (qo (Ve (qk zr hr rfl (qa (qb 0) qd)) (YZ (RM qfj jF Uv jF qe (qb 0) (qb 1))))))) read
noncomputable abbrev jv : Stmt := top 3
noncomputable abbrev J6 : List Str := ["things","k","l"]
noncomputable abbrev Za : List Str := ["things"]
theorem Qw : FnScope J6 Za (qi jv) := ⟨rfl,rfl,rfl,by decide +kernel,rfl,by decide +kernel,by decide +kernel⟩
theorem V2 (F : Fun K "first_alike" "first_alike" jv f fd) (bd : zD K fd Za []) (hm : mg "first_alike" = some (.ref f))  (m_len : mg "len" = none) (m_range : mg "range" = none)
  (read : Rd sp 1 (Bk.jU) J6) : Fn3 P w K mg base (k + 1) "first_alike" sp :=
 qL (t3 := (Bk.jU)) F Qw bd hm (fun cdv A outer s H E hr => (qg (Q4 PassesOwn.never rfl (qM rfl m_range (qa (qB qX zk rfl m_len PySem.boot_len (qa (qb 0) qd)) qd) (h1 := by intro _ _ _ h;simpa [qc,qh] using h)) (qA (i := 1) (Qw.nd)) (qm (Q4 PassesOwn.never rfl (Eg rfl m_range (qa (qy (qb 1) qe) (qa (qB qX zk rfl m_len PySem.boot_len (qa (qb 0) qd)) qd)) (h1 := by intro _ _ _ h;simpa [qc,qh] using h)) (qA (i := 2) (Qw.nd)) (qm (z9 (qz (zq hr.units) qU (qF (qb 0) (qb 1)) (qF (qb 0) (qb 2)) (qr _)) (qm (qo (zc (qa (qb 1) (qa (qb 2) qd))))) qJ))))) (qm (qo YV)))) read
noncomputable abbrev Qp : Stmt := top 4
noncomputable abbrev QI : List Str := ["things","k","l"]
noncomputable abbrev Jd : List Str := ["things","k","l"]
theorem UF : FnScope QI Jd (qi Qp) := ⟨rfl,rfl,rfl,by decide +kernel,rfl,by decide +kernel,by decide +kernel⟩
noncomputable def QZ (S_is_number_below : Sp3) : TS3 := (qK (jX (or3 (D9 (tb3 (cb3 S_is_number_below (qc (v3 1) (qc (cb3 JO (qc (v3 0) qh)) qh))))) (D9 (tb3 (cb3 S_is_number_below (qc (v3 2) (qc (cb3 JO (qc (v3 0) qh)) qh)))))) (ze (c3 (.bl false))) qT) (ze (JB (o3 (iB fun i j => decide (i < j)) (v3 1) (v3 2)) (o3 (Qb false) (o3 ix3 (v3 0) (v3 1)) (o3 ix3 (v3 0) (v3 2))))))
theorem UW {S_is_number_below : Sp3} (F : Fun K "are_alike" "are_alike" Qp f fd) (bd : zD K fd Jd []) (hm : mg "are_alike" = some (.ref f)) (ql : Fn3 P w K mg base k "is_number_below" S_is_number_below) (m_len : mg "len" = none)
  (read : Rd sp 3 (QZ S_is_number_below) QI) : Fn3 P w K mg base (k + 1) "are_alike" sp :=
 qL (t3 := (QZ S_is_number_below)) F UF bd hm (fun cdv A outer s H E hr => (qg (z9 (jpt (JS (ZX (ZU (qk ql hr rfl (qa (qb 1) (qa (qB qX zk rfl m_len PySem.boot_len (qa (qb 0) qd)) qd))))) (Jn (ZX (ZU (qk ql hr rfl (qa (qb 2) (qa (qB qX zk rfl m_len PySem.boot_len (qa (qb 0) qd)) qd)))))))) (qm (qo Yy)) qJ) (qm (qo (Ve (J8 Uv jF (qb 1) (qb 2) (qr _)) (YZ (J8 (zq hr.units) qU (qF (qb 0) (qb 1)) (qF (qb 0) (qb 2)) (qr _)))))))) read
noncomputable abbrev J0 : Stmt := top 7
noncomputable abbrev DC : List Str := ["down","along","many"]
noncomputable abbrev Uk : List Str := ["down","along","many"]
theorem Xw : FnScope DC Uk (qi J0) := ⟨rfl,rfl,rfl,by decide +kernel,rfl,by decide +kernel,by decide +kernel⟩
theorem WI (F : Fun K "strung" "strung" J0 f fd) (bd : zD K fd Uk []) (hm : mg "strung" = some (.ref f))  (m_range : mg "range" = none)
  (read : Rd sp 3 (Bk.Y8) DC) : Fn3 P w K mg base (k + 1) "strung" sp :=
 qL (t3 := (Bk.Y8)) F Xw bd hm (fun cdv A outer s H E hr => (qm (qo (UJ ["t","down","along"] [none,some 0,some 1] rfl (qM rfl m_range (qa (qb 2) qd) (h1 := by intro _ _ _ h;simpa [qc,qh] using h)) (fun _ _ _ => (jgn 0)) (fun _ _ _ => jZ) (fun _ _ _ => (zc (qa (zH (qb 0) (qb 1)) (qa (zH (qb 0) (qb 2)) qd)))) (by kernel_rfl) (by kernel_rfl))))) read
noncomputable abbrev QW : Stmt := top 8
noncomputable abbrev VN : List Str := ["walk","kind","down","along"]
noncomputable abbrev JX : List Str := ["walk"]
theorem QX : FnScope VN JX (qi QW) := ⟨rfl,rfl,rfl,by decide +kernel,rfl,by decide +kernel,by decide +kernel⟩
theorem Dh {S_strung : Sp3} (F : Fun K "cells_of" "cells_of" QW f fd) (bd : zD K fd JX []) (hm : mg "cells_of" = some (.ref f)) (zm : Fn3 P w K mg base k "strung" S_strung) (m_list : mg "list" = none) (m_range : mg "range" = none) (m_STRIDES : Tb K mg w "STRIDES" J4)
  (read : Rd sp 1 (Bk.ZH S_strung) VN) : Fn3 P w K mg base (k + 1) "cells_of" sp :=
 qL (t3 := (Bk.ZH S_strung)) F QX bd hm (fun cdv A outer s H E hr => (qg (qZ 1 QX.nd (qF (qb 0) qe)) (qg (z9 (qz (zq hr.units) qU (qb 1) zX (qr _)) (qm (qo (zb Qs YC rfl m_list PyProof.Rows.boot_list (qa (qF (qb 0) qe) qd)))) qJ) (qg (z9 (qz (zq hr.units) qU (qb 1) zX (qr _)) (qm (qo (S7 ["p","q","walk"] [none,none,some 0] rfl (qM rfl m_range (qa (qF (qb 0) qe) qd) (h1 := by intro _ _ _ h;simpa [qc,qh] using h)) (fun _ _ _ => (jgn 0)) (fun _ _ _ => jZ) (fun _ _ _ => (qM rfl m_range (qa (qF (qb 2) qe) qd) (h1 := by intro _ _ _ h;simpa [qc,qh] using h))) (fun _ _ _ => (jgn 1)) (fun _ _ _ => jZ) (fun _ _ _ => (zc (qa (qb 0) (qa (qb 1) qd)))) (by kernel_rfl) (by kernel_rfl)))) qJ) (qg (z9 (qz (zq hr.units) qU (qb 1) zX (qr _)) (qm (qo (qk zm hr rfl (qa (qF (qb 0) qe) (qa (qF (qb 0) qe) (qa (qF (qb 0) qe) qd)))))) qJ) (qg (Vp (K8 m_STRIDES rfl (qb 1) (fun _ _ => rfl)) (Z0 rfl (qP (qA (i := 2) (QX.nd)) (qP (qA (i := 3) (QX.nd)) Zx)))) (qm (qo (qk zm hr rfl (qa (qb 2) (qa (qb 3) (qa (qF (qb 0) qe) qd)))))))))))) read
noncomputable abbrev QH : Stmt := top 10
noncomputable abbrev VR : List Str := ["banks","factors","walk","a","b"]
noncomputable abbrev JH : List Str := ["banks","factors","walk"]
theorem Jg : FnScope VR JH (qi QH) := ⟨rfl,rfl,rfl,by decide +kernel,rfl,by decide +kernel,by decide +kernel⟩
theorem Dt {S_cells_of : Sp3} (F : Fun K "rests_by" "rests_by" QH f fd) (bd : zD K fd JH []) (hm : mg "rests_by" = some (.ref f)) (qS : Fn3 P w K mg base k "cells_of" S_cells_of) (m_tuple : mg "tuple" = none)
  (read : Rd sp 3 (Bk.ZF S_cells_of) VR) : Fn3 P w K mg base (k + 1) "rests_by" sp :=
 qL (t3 := (Bk.ZF S_cells_of)) F Jg bd hm (fun cdv A outer s H E hr => (qg (Vp (qb 1) (Z0 rfl (qP (qA (i := 3) (Jg.nd)) (qP (qA (i := 4) (Jg.nd)) Zx)))) (qm (qo (zb Zc Vn rfl m_tuple PyProof.Rows.boot_tuple (qa (UJ ["p","q","banks","a","b"] [none,none,some 0,some 3,some 4] rfl (YH (qk qS hr rfl (qa (qb 2) qd))) (fun _ _ _ => (Z0 rfl (qP (jgn 0) (qP (jgn 1) Zx)))) (fun _ _ _ => jZ) (fun _ _ _ => (ZQ (qy (zH (qb 3) (qb 0)) (zH (qb 4) (qb 1))) (qb 2))) (by kernel_rfl) (by kernel_rfl)) qd)))))) read
noncomputable abbrev jw : Stmt := top 12
noncomputable abbrev jG : List Str := ["banks"]
noncomputable abbrev Ze : List Str := ["banks"]
theorem VC : FnScope jG Ze (qi jw) := ⟨rfl,rfl,rfl,by decide +kernel,rfl,by decide +kernel,by decide +kernel⟩
theorem V3 (F : Fun K "all_factors" "all_factors" jw f fd) (bd : zD K fd Ze []) (hm : mg "all_factors" = some (.ref f))  (m_range : mg "range" = none)
  (read : Rd sp 1 (Bk.jN) jG) : Fn3 P w K mg base (k + 1) "all_factors" sp :=
 qL (t3 := (Bk.jN)) F VC bd hm (fun cdv A outer s H E hr => (qm (qo (S7 ["a","b","banks"] [none,none,some 0] rfl (qM rfl m_range (qa (qb 0) qd) (h1 := by intro _ _ _ h;simpa [qc,qh] using h)) (fun _ _ _ => (jgn 0)) (fun _ _ _ => jZ) (fun _ _ _ => (qM rfl m_range (qa (qb 2) qd) (h1 := by intro _ _ _ h;simpa [qc,qh] using h))) (fun _ _ _ => (jgn 1)) (fun _ _ _ => jZ) (fun _ _ _ => (zc (qa (qb 0) (qa (qb 1) qd)))) (by kernel_rfl) (by kernel_rfl))))) read
noncomputable abbrev Ql : Stmt := top 13
noncomputable abbrev QV : List Str := ["banks","factors","walks","n","walk","found"]
noncomputable abbrev Jj : List Str := ["banks","factors","walks"]
theorem Qj : FnScope QV Jj (qi Ql) := ⟨rfl,rfl,rfl,by decide +kernel,rfl,by decide +kernel,by decide +kernel⟩
theorem El {S_rests_by : Sp3} {S_first_alike : Sp3} (F : Fun K "first_bar" "first_bar" Ql f fd) (bd : zD K fd Jj []) (hm : mg "first_bar" = some (.ref f)) (qR : Fn3 P w K mg base k "rests_by" S_rests_by) (qO : Fn3 P w K mg base k "first_alike" S_first_alike) (m_enumerate : mg "enumerate" = none)
  (read : Rd sp 3 (Bk.QT S_rests_by S_first_alike) QV) : Fn3 P w K mg base (k + 1) "first_bar" sp :=
 qL (t3 := (Bk.QT S_rests_by S_first_alike)) F Qj bd hm (fun cdv A outer s H E hr => (qg (Q4 PassesOwn.never rfl (EI rfl m_enumerate (qa (qb 2) qd)) (Z0 rfl (qP (qA (i := 3) (Qj.nd)) (qP (qA (i := 4) (Qj.nd)) Zx))) (qg (qZ 5 Qj.nd (qk qO hr rfl (qa (qk qR hr rfl (qa (qb 0) (qa (qb 1) (qa (qb 4) qd)))) qd))) (qm (z9 (qz K5 CY (qb 5) YV (qr _)) (qm (qo (zc (qa (qb 3) (qa (qF (qb 5) qe) (qa (qF (qb 5) qe) qd)))))) qJ)))) (qm (qo YV)))) read
noncomputable abbrev Q8 : Stmt := top 14
noncomputable abbrev ZJ : List Str := ["banks","walks","bars","factors","bar"]
noncomputable abbrev Yi : List Str := ["banks","walks"]
theorem Q9 : FnScope ZJ Yi (qi Q8) := ⟨rfl,rfl,rfl,by decide +kernel,rfl,by decide +kernel,by decide +kernel⟩
theorem EQ {S_all_factors : Sp3} {S_first_bar : Sp3} (F : Fun K "skew_for" "skew_for" Q8 f fd) (bd : zD K fd Yi []) (hm : mg "skew_for" = some (.ref f)) (qs : Fn3 P w K mg base k "all_factors" S_all_factors) (zu : Fn3 P w K mg base k "first_bar" S_first_bar) 
  (read : Rd sp 2 (Bk.ZG S_all_factors S_first_bar) ZJ) : Fn3 P w K mg base (k + 1) "skew_for" sp :=
 qL (t3 := (Bk.ZG S_all_factors S_first_bar)) F Q9 bd hm (fun cdv A outer s H E hr => (qg (qZ 2 Q9.nd (zJ qd)) (qg (Q4 PassesOwn.never rfl (YH (qk qs hr rfl (qa (qb 0) qd))) (qA (i := 3) (Q9.nd)) (qg (qZ 4 Q9.nd (qk zu hr rfl (qa (qb 0) (qa (qb 3) (qa (qb 1) qd))))) (qg (z9 (qz qck L6 (qb 4) YV (qr _)) (qm (qo (zc (qa zX (qa (qF (qb 3) qe) (qa (qF (qb 3) qe) qd)))))) qJ) (qm (Up (YQ (qb 2) (qa (qb 4) qd))))))) (qm (qo (zc (qa zX (qa (qb 2) qd)))))))) read
noncomputable abbrev J3 : Stmt := top 15
noncomputable abbrev YB : List Str := ["banks","factors","walks","thing","n","k","l"]
noncomputable abbrev Uc : List Str := ["banks","factors","walks","thing"]
theorem Jp : FnScope YB Uc (qi J3) := ⟨rfl,rfl,rfl,by decide +kernel,rfl,by decide +kernel,by decide +kernel⟩
noncomputable def YF (S_rests_by : Sp3) (S_are_alike : Sp3) (S_is_number_below : Sp3) : TS3 := (qK (jX (or3 (D9 (tb3 (ER (fun t => jV t "tuple") (v3 3)))) (tb3 (o3 (Qb true) (cb3 JO (qc (v3 3) qh)) (c3 (.int 3))))) (ze (c3 (.bl false))) qT) (qK (zz (v3 3) (Jx 3 (zf (gn3 4) (zf (gn3 5) (zf (gn3 6) J9))))) (ze (JB (cb3 S_is_number_below (qc (v3 4) (qc (cb3 JO (qc (v3 2) qh)) qh))) (cb3 S_are_alike (qc (cb3 S_rests_by (qc (v3 0) (qc (v3 1) (qc (o3 ix3 (v3 2) (v3 4)) qh)))) (qc (v3 5) (qc (v3 6) qh))))))))
theorem X7 {S_rests_by : Sp3} {S_are_alike : Sp3} {S_is_number_below : Sp3} (F : Fun K "is_bar" "is_bar" J3 f fd) (bd : zD K fd Uc []) (hm : mg "is_bar" = some (.ref f)) (qR : Fn3 P w K mg base k "rests_by" S_rests_by) (zy : Fn3 P w K mg base k "are_alike" S_are_alike) (ql : Fn3 P w K mg base k "is_number_below" S_is_number_below) (m_len : mg "len" = none) (m_isinstance : mg "isinstance" = none) (m_tuple : mg "tuple" = none)
  (read : Rd sp 4 (YF S_rests_by S_are_alike S_is_number_below) YB) : Fn3 P w K mg base (k + 1) "is_bar" sp :=
 qL (t3 := (YF S_rests_by S_are_alike S_is_number_below)) F Jp bd hm (fun cdv A outer s H E hr => (qg (z9 (jpt (JS (ZX (ZU (Z7 (qb 3) rfl m_isinstance rfl m_tuple PyProof.Rows.boot_tuple))) (Jn (qz (Ju hr.units) Zd (qB qX zk rfl m_len PySem.boot_len (qa (qb 3) qd)) qe (qr _))))) (qm (qo Yy)) qJ) (qg (Vp (qb 3) (Z0 rfl (qP (qA (i := 4) (Jp.nd)) (qP (qA (i := 5) (Jp.nd)) (qP (qA (i := 6) (Jp.nd)) Zx))))) (qm (qo (Ve (qk ql hr rfl (qa (qb 4) (qa (qB qX zk rfl m_len PySem.boot_len (qa (qb 2) qd)) qd))) (YZ (qk zy hr rfl (qa (qk qR hr rfl (qa (qb 0) (qa (qb 1) (qa (qF (qb 2) (qb 4)) qd)))) (qa (qb 5) (qa (qb 6) qd))))))))))) read
noncomputable abbrev zO : Stmt := top 16
noncomputable abbrev zZ : List Str := ["banks","walks","thing"]
noncomputable abbrev jY : List Str := ["banks","walks","thing"]
theorem Yq : FnScope zZ jY (qi zO) := ⟨rfl,rfl,rfl,by decide +kernel,rfl,by decide +kernel,by decide +kernel⟩
noncomputable def zY (S_all_factors : Sp3) (S_is_bar : Sp3) : TS3 := (qK (jX (or3 (D9 (tb3 (ER (fun t => jV t "list") (v3 2)))) (tb3 (o3 (Qb true) (cb3 JO (qc (v3 2) qh)) (o3 (iC Qm (· * ·)) (v3 0) (v3 0))))) (ze (c3 (.bl false))) qT) (ze (cb3 WE (qc (lc3 (RK (qc (cb3 S_all_factors (qc (v3 0) qh)) (qc (v3 2) qh))) (Jx 2 (zf (gn3 0) (zf (gn3 1) J9))) tt3 (cb3 S_is_bar (qc (v3 2) (qc (v3 0) (qc (v3 3) (qc (v3 1) qh))))) [none,none,some 0,some 1]) qh))))
theorem Yp {S_all_factors : Sp3} {S_is_bar : Sp3} (F : Fun K "shows_no_skew" "shows_no_skew" zO f fd) (bd : zD K fd jY []) (hm : mg "shows_no_skew" = some (.ref f)) (qs : Fn3 P w K mg base k "all_factors" S_all_factors) (Qo : Fn3 P w K mg base k "is_bar" S_is_bar) (m_len : mg "len" = none) (m_isinstance : mg "isinstance" = none) (m_list : mg "list" = none) (m_zip : mg "zip" = none) (m_all : mg "all" = none)
  (read : Rd sp 3 (zY S_all_factors S_is_bar) zZ) : Fn3 P w K mg base (k + 1) "shows_no_skew" sp :=
 qL (t3 := (zY S_all_factors S_is_bar)) F Yq bd hm (fun cdv A outer s H E hr => (qg (z9 (jpt (JS (ZX (ZU (Z7 (qb 2) rfl m_isinstance rfl m_list PyProof.Rows.boot_list))) (Jn (qz (Ju hr.units) Zd (qB qX zk rfl m_len PySem.boot_len (qa (qb 2) qd)) (zH (qb 0) (qb 0)) (qr _))))) (qm (qo Yy)) qJ) (qm (qo (qB (ZY rfl) C7 rfl m_all PyProof.Rows.boot_all (qa (UJ ["factors","bar","banks","walks"] [none,none,some 0,some 1] rfl (Nt rfl m_zip (qa (qk qs hr rfl (qa (qb 0) qd)) (qa (qb 2) qd))) (fun _ _ _ => (Z0 rfl (qP (jgn 0) (qP (jgn 1) Zx)))) (fun _ _ _ => jZ) (fun _ _ _ => (qk Qo hr rfl (qa (qb 2) (qa (qb 0) (qa (qb 3) (qa (qb 1) qd)))))) (by kernel_rfl) (by kernel_rfl)) qd)))))) read
noncomputable abbrev ZM : Stmt := top 18
noncomputable abbrev EA : List Str := ["_law_cell","_law_k","_law_m"]
noncomputable abbrev Vj : List Str := ["_law_cell","_law_k"]
theorem VF : FnScope EA Vj (qi ZM) := ⟨rfl,rfl,rfl,by decide +kernel,rfl,by decide +kernel,by decide +kernel⟩
theorem Wp (F : Fun K "_law_mix" "_law_mix" ZM f fd) (bd : zD K fd Vj []) (hm : mg "_law_mix" = some (.ref f))  
  (read : Rd sp 2 (Bk.Jl) EA) : Fn3 P w K mg base (k + 1) "_law_mix" sp :=
 qL (t3 := (Bk.Jl)) F VF bd hm (fun cdv A outer s H E hr => (qg (qZ 2 VF.nd (ZQ (zH (qy (qy (ZQ (qb 0) qe) (zH (zH (qb 1) (qb 1)) qe)) qe) qe) qe)) (qm (qo (ZQ (zH (qb 2) (qb 2)) qe))))) read
noncomputable abbrev QB : Stmt := top 19
noncomputable abbrev VU : List Str := ["_law_script","_law_k","_law_cell","_law_own"]
noncomputable abbrev JN : List Str := ["_law_script","_law_k"]
theorem Jb : FnScope VU JN (qi QB) := ⟨rfl,rfl,rfl,by decide +kernel,rfl,by decide +kernel,by decide +kernel⟩
theorem EW (F : Fun K "_law_left" "_law_left" QB f fd) (bd : zD K fd JN []) (hm : mg "_law_left" = some (.ref f))  (m_len : mg "len" = none) (m_abs : mg "abs" = none)
  (read : Rd sp 2 (Bk.ZE) VU) : Fn3 P w K mg base (k + 1) "_law_left" sp :=
 qL (t3 := (Bk.ZE)) F Jb bd hm (fun cdv A outer s H E hr => (qg (qZ 2 Jb.nd (Li (qz Uv jF (qb 1) (qB qX zk rfl m_len PySem.boot_len (qa (qb 0) qd)) (qr _)) (qF (qb 0) (qb 1)) qe)) (qg (qZ 3 Jb.nd (Li (qz CU jF (qB D8 CB rfl m_abs PyProof.Rows.boot_abs (qa (qb 2) qd)) (Nu qe qe) (qr _)) (qB D8 CB rfl m_abs PyProof.Rows.boot_abs (qa (qb 2) qd)) qe)) (qm (qo (zJ (qa (qb 3) (qa (qy (qb 2) (zH qe (qb 1))) (qa qe qd))))))))) read
noncomputable abbrev QE : Stmt := top 20
noncomputable abbrev VV : List Str := ["_law_left_here","_law_many_here","_law_digit"]
noncomputable abbrev JV : List Str := ["_law_left_here","_law_many_here"]
theorem Vq : FnScope VV JV (qi QE) := ⟨rfl,rfl,rfl,by decide +kernel,rfl,by decide +kernel,by decide +kernel⟩
theorem EN {S_law_mix : Sp3} (F : Fun K "_law_pick" "_law_pick" QE f fd) (bd : zD K fd JV []) (hm : mg "_law_pick" = some (.ref f)) (F_law_mix : Fn3 P w K mg base k "_law_mix" S_law_mix) 
  (read : Rd sp 2 (Bk.ZK S_law_mix) VV) : Fn3 P w K mg base (k + 1) "_law_pick" sp :=
 qL (t3 := (Bk.ZK S_law_mix)) F Vq bd hm (fun cdv A outer s H E hr => (qg (Vp (qy (qF (qb 0) qe) qe) (TU (qb 0) qe)) (qg (z9 (qz qcp jF (qF (qb 0) qe) qe (qr _)) (qg (qZ 2 Vq.nd (ZQ (qF (qb 0) qe) (qb 1))) (qg (Vp (UE (qF (qb 0) qe) (qb 1)) (TU (qb 0) qe)) (qm (qo (qb 2))))) qJ) (qm (qo (ZQ (UE (qk F_law_mix hr rfl (qa (qk F_law_mix hr rfl (qa (qF (qb 0) qe) (qa (qF (qb 0) qe) qd))) (qa (qy (qF (qb 0) qe) qe) qd))) qe) (qb 1))))))) read
noncomputable abbrev QJ : Stmt := top 21
noncomputable abbrev VQ : List Str := ["_law_left_here"]
noncomputable abbrev JU : List Str := ["_law_left_here"]
theorem EU : FnScope VQ JU (qi QJ) := ⟨rfl,rfl,rfl,by decide +kernel,rfl,by decide +kernel,by decide +kernel⟩
theorem Dl {S_law_pick : Sp3} (F : Fun K "_law_many" "_law_many" QJ f fd) (bd : zD K fd JU []) (hm : mg "_law_many" = some (.ref f)) (F_law_pick : Fn3 P w K mg base k "_law_pick" S_law_pick) 
  (read : Rd sp 1 (Bk.Z9 S_law_pick) VQ) : Fn3 P w K mg base (k + 1) "_law_many" sp :=
 qL (t3 := (Bk.Z9 S_law_pick)) F EU bd hm (fun cdv A outer s H E hr => (qm (qo (qy qe (qk F_law_pick hr rfl (qa (qb 0) (qa (qF (zJ (qa qe (qa qe (qa qe (qa qe (qa qe (qa qe (qa qe (qa qe qd))))))))) (qk F_law_pick hr rfl (qa (qb 0) (qa qe qd)))) qd))))))) read
noncomputable abbrev QN : Stmt := top 22
noncomputable abbrev VT : List Str := ["_law_left_here","_law_way","_law_lying","_law_high","_law_wide","_law_down","_law_along","_law_pairs","_law_far","_law_turn","_law_pair"]
noncomputable abbrev JY : List Str := ["_law_left_here"]
theorem zv : FnScope VT JY (qi QN) := ⟨rfl,rfl,rfl,by decide +kernel,rfl,by decide +kernel,by decide +kernel⟩
theorem Dn {S_law_pick : Sp3} {S_law_many : Sp3} (F : Fun K "_law_walk" "_law_walk" QN f fd) (bd : zD K fd JY []) (hm : mg "_law_walk" = some (.ref f)) (F_law_pick : Fn3 P w K mg base k "_law_pick" S_law_pick) (F_law_many : Fn3 P w K mg base k "_law_many" S_law_many) (m_int : mg "int" = none) (m_range : mg "range" = none) (m_tuple : mg "tuple" = none)
  (read : Rd sp 1 (Bk.Z8 S_law_pick S_law_many) VT) : Fn3 P w K mg base (k + 1) "_law_walk" sp :=
 qL (t3 := (Bk.Z8 S_law_pick S_law_many)) F zv bd hm (fun cdv A outer s H E hr => (qg (qZ 1 zv.nd (qk F_law_pick hr rfl (qa (qb 0) (qa qe qd)))) (qg (z9 (qz Uv jF (qb 1) qe (qr _)) (qm (qo (zc (qa (qF (zJ (qa zX (qa zX (qa zX (qa zX qd))))) (qb 1)) (qa (qk F_law_many hr rfl (qa (qb 0) qd)) qd))))) qJ) (qg (z9 (qz Uv jF (qb 1) qe (qr _)) (qg (Ej (i := 2) (j := 3) rfl zv.nd rfl rfl (by decide) rfl rfl (qa (qk F_law_pick hr rfl (qa (qb 0) (qa qe qd))) (qa (qy qe (qk F_law_pick hr rfl (qa (qb 0) (qa qe qd)))) qd))) (qg (qZ 4 zv.nd (qy qe (qk F_law_pick hr rfl (qa (qb 0) (qa (UE qe (qb 3)) qd))))) (qm (qo (qF (zJ (qa (zc (qa zX (qa (qb 3) (qa (qb 4) qd)))) (qa (zc (qa zX (qa (qb 4) (qa (qb 3) qd)))) qd))) (qb 2)))))) qJ) (qg (z9 (qz Uv jF (qb 1) qe (qr _)) (qg (Ej (i := 5) (j := 6) rfl zv.nd rfl rfl (by decide) rfl rfl (qa (D0 (qk F_law_pick hr rfl (qa (qb 0) (qa qe qd))) qe) (qa (D0 (qk F_law_pick hr rfl (qa (qb 0) (qa qe qd))) qe) qd))) (qg (z9 (qz (zq hr.units) qU (qk F_law_pick hr rfl (qa (qb 0) (qa qe qd))) qe (qr _)) (qm (qo (zc (qa zX (qa (zH qe (qb 5)) (qa (qy (zH qe (qb 6)) (zb Jt Ua rfl m_int PyProof.Rows.boot_int (qa (Ve (J8 (zq hr.units) qU (qb 5) qe (qr _)) (YZ (J8 (zq hr.units) qU (qb 6) qe (qr _)))) qd))) (qa (qy qe (qk F_law_pick hr rfl (qa (qb 0) (qa qe qd)))) qd))))))) qJ) (qm (qo (zc (qa zX (qa (qb 5) (qa (qy (qb 6) (zb Jt Ua rfl m_int PyProof.Rows.boot_int (qa (Ve (J8 (zq hr.units) qU (qb 5) qe (qr _)) (YZ (J8 (zq hr.units) qU (qb 6) qe (qr _)))) qd))) (qa (qk F_law_many hr rfl (qa (qb 0) qd)) qd))))))))) qJ) (qg (Ej (i := 7) (j := 8) rfl zv.nd rfl rfl (by decide) rfl rfl (qa (zJ qd) (qa (qy qe (zH qe (zb Jt Ua rfl m_int PyProof.Rows.boot_int (qa (J8 (zq hr.units) qU (qk F_law_pick hr rfl (qa (qb 0) (qa qe qd))) qe (qr _)) qd)))) qd))) (qg (Q4 PassesOwn.never rfl (qM rfl m_range (qa (qk F_law_many hr rfl (qa (qb 0) qd)) qd) (h1 := by intro _ _ _ h;simpa [qc,qh] using h)) (qA (i := 9) (zv.nd)) (qg (qZ 10 zv.nd (zc (qa (zH (qb 8) (D0 (qk F_law_pick hr rfl (qa (qb 0) (qa qe qd))) qe)) (qa (zH (qb 8) (D0 (qk F_law_pick hr rfl (qa (qb 0) (qa qe qd))) qe)) qd)))) (qm (z9 (qz (Xq hr.units) LR (qb 10) (qb 7) (by with_unfolding_all rfl)) (qm (Up (YQ (qb 7) (qa (qb 10) qd)))) qJ)))) (qm (qo (zc (qa zX (qa (zb Zc Vn rfl m_tuple PyProof.Rows.boot_tuple (qa (qb 7) qd)) qd)))))))))))) read
noncomputable abbrev Qi : Stmt := top 23
noncomputable abbrev QC : List Str := ["_law_walk_here","_law_found","_law_p","_law_down","_law_along"]
noncomputable abbrev Jf : List Str := ["_law_walk_here"]
theorem j2 : FnScope QC Jf (qi Qi) := ⟨rfl,rfl,rfl,by decide +kernel,rfl,by decide +kernel,by decide +kernel⟩
theorem Ez (F : Fun K "_law_cells" "_law_cells" Qi f fd) (bd : zD K fd Jf []) (hm : mg "_law_cells" = some (.ref f))  (m_list : mg "list" = none) (m_range : mg "range" = none)
  (read : Rd sp 1 (Bk.QS) QC) : Fn3 P w K mg base (k + 1) "_law_cells" sp :=
 qL (t3 := (Bk.QS)) F j2 bd hm (fun cdv A outer s H E hr => (qg (z9 (qz (zq hr.units) qU (qF (qb 0) qe) zX (qr _)) (qm (qo (zb Qs YC rfl m_list PyProof.Rows.boot_list (qa (qF (qb 0) qe) qd)))) qJ) (qg (z9 (qz (zq hr.units) qU (qF (qb 0) qe) zX (qr _)) (qg (qZ 1 j2.nd (zJ qd)) (qg (Q4 PassesOwn.never rfl (qM rfl m_range (qa (qF (qb 0) qe) qd) (h1 := by intro _ _ _ h;simpa [qc,qh] using h)) (qA (i := 2) (j2.nd)) (qm (Up (CC (qb 1) (qa (UJ ["_law_q","_law_p"] [none,some 2] rfl (qM rfl m_range (qa (qF (qb 0) qe) qd) (h1 := by intro _ _ _ h;simpa [qc,qh] using h)) (fun _ _ _ => (jgn 0)) (fun _ _ _ => jZ) (fun _ _ _ => (zc (qa (qb 1) (qa (qb 0) qd)))) (by kernel_rfl) (by kernel_rfl)) qd))))) (qm (qo (qb 1))))) qJ) (qg (Vp (K0 (YY (zc (qa qe (qa qe qd))) (YY (zc (qa qe (qa qe qd))) (YY (zc (qa qe (qa qe qd))) (YY (zc (qa qe (qa (En qe) qd))) (YY (jb (qb 0) (zd qe) (zd qe)) qan))))) (qF (qb 0) qe)) (Z0 rfl (qP (qA (i := 3) (j2.nd)) (qP (qA (i := 4) (j2.nd)) Zx)))) (qm (qo (UJ ["_law_t","_law_down","_law_along"] [none,some 3,some 4] rfl (qM rfl m_range (qa (qF (qb 0) (En qe)) qd) (h1 := by intro _ _ _ h;simpa [qc,qh] using h)) (fun _ _ _ => (jgn 0)) (fun _ _ _ => jZ) (fun _ _ _ => (zc (qa (zH (qb 0) (qb 1)) (qa (zH (qb 0) (qb 2)) qd)))) (by kernel_rfl) (by kernel_rfl)))))))) read
noncomputable abbrev jd : Stmt := top 24
noncomputable abbrev ju : List Str := ["_law_cells_here","_law_banks","_law_a","_law_b"]
noncomputable abbrev Qy : List Str := ["_law_cells_here","_law_banks","_law_a","_law_b"]
theorem Vm : FnScope ju Qy (qi jd) := ⟨rfl,rfl,rfl,by decide +kernel,rfl,by decide +kernel,by decide +kernel⟩
theorem Vh (F : Fun K "_law_rests_at" "_law_rests_at" jd f fd) (bd : zD K fd Qy []) (hm : mg "_law_rests_at" = some (.ref f))  
  (read : Rd sp 4 (Bk.jy) ju) : Fn3 P w K mg base (k + 1) "_law_rests_at" sp :=
 qL (t3 := (Bk.jy)) F Vm bd hm (fun cdv A outer s H E hr => (qm (qo (UJ ["_law_p","_law_q","_law_banks","_law_a","_law_b"] [none,none,some 1,some 2,some 3] rfl (YH (qb 0)) (fun _ _ _ => (Z0 rfl (qP (jgn 0) (qP (jgn 1) Zx)))) (fun _ _ _ => jZ) (fun _ _ _ => (ZQ (qy (zH (qb 3) (qb 0)) (zH (qb 4) (qb 1))) (qb 2))) (by kernel_rfl) (by kernel_rfl))))) read
noncomputable abbrev jx : Stmt := top 25
noncomputable abbrev jJ : List Str := ["_law_banks","_law_walks_here","_law_thing","_law_rows","_law_pair","_law_one","_law_n","_law_k","_law_m","_law_some"]
noncomputable abbrev QM : List Str := ["_law_banks","_law_walks_here","_law_thing"]
theorem qQ : FnScope jJ QM (qi jx) := ⟨rfl,rfl,rfl,by decide +kernel,rfl,by decide +kernel,by decide +kernel⟩
noncomputable def jQ (S_law_cells : Sp3) (S_law_rests_at : Sp3) : TS3 := (qK (zz (lc3 (YM (v3 1)) (gn3 0) tt3 (cb3 S_law_cells (qc (v3 0) qh)) [none]) (gn3 3)) (qK (jX (or3 (D9 (tb3 (ER (fun t => jV t "list") (v3 2)))) (tb3 (o3 (Qb true) (cb3 JO (qc (v3 2) qh)) (o3 (iC Qm (· * ·)) (v3 0) (v3 0))))) (ze (c3 (.bl false))) qT) (qK (YT (VS (qc (v3 2) qh)) (Jx 2 (zf (gn3 4) (zf (gn3 5) J9))) (qK (jX (or3 (D9 (tb3 (ER (fun t => jV t "tuple") (v3 5)))) (tb3 (o3 (Qb true) (cb3 JO (qc (v3 5) qh)) (c3 (.int 3))))) (ze (c3 (.bl false))) qT) (qK (jX (D9 (tb3 (cb3 WE (qc (lc3 (YM (v3 5)) (gn3 0) tt3 (JB (ER (fun t => jV t "int") (v3 0)) (Ck (ER (fun t => jV t "bool") (v3 0)))) [none]) qh)))) (ze (c3 (.bl false))) qT) (qK (zz (v3 5) (Jx 3 (zf (gn3 6) (zf (gn3 7) (zf (gn3 8) J9))))) (qK (jX (or3 (tb3 (o3 (iB fun i j => decide (i < j)) (v3 6) (c3 (.int 0)))) (or3 (tb3 (o3 (iB fun i j => decide (j ≤ i)) (v3 6) (cb3 JO (qc (v3 3) qh)))) (or3 (tb3 (o3 (iB fun i j => decide (i < j)) (v3 7) (c3 (.int 0)))) (or3 (tb3 (o3 (iB fun i j => decide (j ≤ i)) (v3 7) (v3 8))) (tb3 (o3 (iB fun i j => decide (j ≤ i)) (v3 8) (cb3 JO (qc (o3 ix3 (v3 3) (v3 6)) qh)))))))) (ze (c3 (.bl false))) qT) (qK (zz (cb3 S_law_rests_at (qc (o3 ix3 (v3 3) (v3 6)) (qc (v3 0) (qc (o3 (iC W5 (· / ·)) (v3 4) (v3 0)) (qc (o3 (iC (fun _ j => 0 < j) (· % ·)) (v3 4) (v3 0)) qh))))) (gn3 9)) (jX (tb3 (o3 (Qb true) (o3 ix3 (v3 9) (v3 7)) (o3 ix3 (v3 9) (v3 8)))) (ze (c3 (.bl false))) qT))))))) (ze (c3 (.bl true))))))
theorem V1 {S_law_cells : Sp3} {S_law_rests_at : Sp3} (F : Fun K "_law_is_bars" "_law_is_bars" jx f fd) (bd : zD K fd QM []) (hm : mg "_law_is_bars" = some (.ref f)) (qE : Fn3 P w K mg base k "_law_cells" S_law_cells) (qq : Fn3 P w K mg base k "_law_rests_at" S_law_rests_at) (m_len : mg "len" = none) (m_isinstance : mg "isinstance" = none) (m_list : mg "list" = none) (m_enumerate : mg "enumerate" = none) (m_tuple : mg "tuple" = none) (m_bool : mg "bool" = none) (m_int : mg "int" = none) (m_all : mg "all" = none)
  (read : Rd sp 3 (jQ S_law_cells S_law_rests_at) jJ) : Fn3 P w K mg base (k + 1) "_law_is_bars" sp :=
 qL (t3 := (jQ S_law_cells S_law_rests_at)) F qQ bd hm (fun cdv A outer s H E hr => (qg (Y9 3 ["_law_walk_here"] [none] rfl qQ.nd (YH (qb 1)) (fun _ _ _ => (jgn 0)) (fun _ _ _ => jZ) (fun _ _ _ => (qk qE hr rfl (qa (qb 0) qd))) (by kernel_rfl) (by kernel_rfl) rfl rfl) (qg (z9 (jpt (JS (ZX (ZU (Z7 (qb 2) rfl m_isinstance rfl m_list PyProof.Rows.boot_list))) (Jn (qz (Ju hr.units) Zd (qB qX zk rfl m_len PySem.boot_len (qa (qb 2) qd)) (zH (qb 0) (qb 0)) (qr _))))) (qm (qo Yy)) qJ) (qg (Q4 PassesOwn.never rfl (EI rfl m_enumerate (qa (qb 2) qd)) (Z0 rfl (qP (qA (i := 4) (qQ.nd)) (qP (qA (i := 5) (qQ.nd)) Zx))) (qg (z9 (jpt (JS (ZX (ZU (Z7 (qb 5) rfl m_isinstance rfl m_tuple PyProof.Rows.boot_tuple))) (Jn (qz (Ju hr.units) Zd (qB qX zk rfl m_len PySem.boot_len (qa (qb 5) qd)) qe (qr _))))) (qm (qo Yy)) qJ) (qg (z9 (ZX (ZU (qB (ZY rfl) C7 rfl m_all PyProof.Rows.boot_all (qa (UJ ["_law_part"] [none] rfl (YH (qb 5)) (fun _ _ _ => (jgn 0)) (fun _ _ _ => jZ) (fun _ _ _ => (Ve (Z7 (qb 0) rfl m_isinstance rfl m_int PyProof.Rows.boot_int) (YZ (Sc (Z7 (qb 0) rfl m_isinstance rfl m_bool PyProof.Rows.boot_bool))))) (by kernel_rfl) (by kernel_rfl)) qd)))) (qm (qo Yy)) qJ) (qg (Vp (qb 5) (Z0 rfl (qP (qA (i := 6) (qQ.nd)) (qP (qA (i := 7) (qQ.nd)) (qP (qA (i := 8) (qQ.nd)) Zx))))) (qg (z9 (jpt (JS (qz Uv jF (qb 6) qe (qr _)) (JS (qz CU jF (qb 6) (qB qX zk rfl m_len PySem.boot_len (qa (qb 3) qd)) (qr _)) (JS (qz Uv jF (qb 7) qe (qr _)) (JS (qz CU jF (qb 7) (qb 8) (qr _)) (Jn (qz CU jF (qb 8) (qB qX zk rfl m_len PySem.boot_len (qa (qF (qb 3) (qb 6)) qd)) (qr _)))))))) (qm (qo Yy)) qJ) (qg (qZ 9 qQ.nd (qk qq hr rfl (qa (qF (qb 3) (qb 6)) (qa (qb 0) (qa (UE (qb 4) (qb 0)) (qa (ZQ (qb 4) (qb 0)) qd)))))) (qm (z9 (qz (Ju hr.units) Zd (qF (qb 9) (qb 7)) (qF (qb 9) (qb 8)) (qr _)) (qm (qo Yy)) qJ)))))))) (qm (qo Yy)))))) read
noncomputable abbrev Qf : Stmt := top 26
noncomputable abbrev Zg : List Str := ["_law_left_here"]
noncomputable abbrev Ji : List Str := ["_law_left_here"]
theorem UT : FnScope Zg Ji (qi Qf) := ⟨rfl,rfl,rfl,by decide +kernel,rfl,by decide +kernel,by decide +kernel⟩
theorem Eu {S_law_pick : Sp3} {S_law_walk : Sp3} (F : Fun K "_law_walks" "_law_walks" Qf f fd) (bd : zD K fd Ji []) (hm : mg "_law_walks" = some (.ref f)) (F_law_pick : Fn3 P w K mg base k "_law_pick" S_law_pick) (F_law_walk : Fn3 P w K mg base k "_law_walk" S_law_walk) (m_range : mg "range" = none)
  (read : Rd sp 1 (Bk.QQ S_law_pick S_law_walk) Zg) : Fn3 P w K mg base (k + 1) "_law_walks" sp :=
 qL (t3 := (Bk.QQ S_law_pick S_law_walk)) F UT bd hm (fun cdv A outer s H E hr => (qm (qo (UJ ["_law_turn","_law_left_here"] [none,some 0] rfl (qM rfl m_range (qa (qF (zJ (qa qe (qa qe (qa qe (qa qe (qa qe (qa qe (qa qe (qa qe qd))))))))) (qk F_law_pick hr rfl (qa (qb 0) (qa qe qd)))) qd) (h1 := by intro _ _ _ h;simpa [qc,qh] using h)) (fun _ _ _ => (jgn 0)) (fun _ _ _ => jZ) (fun _ _ _ => (qk F_law_walk hr rfl (qa (qb 1) qd))) (by kernel_rfl) (by kernel_rfl))))) read
noncomputable abbrev QG : Stmt := top 27
noncomputable abbrev ZC : List Str := ["_law_banks","_law_walks_here","_law_told","_law_found","_law_rows","_law_pair","_law_bar","_law_n","_law_cells_here","_law_some","_law_alike"]
noncomputable abbrev Yg : List Str := ["_law_banks","_law_walks_here"]
theorem qV : FnScope ZC Yg (qi QG) := ⟨rfl,rfl,rfl,by decide +kernel,rfl,by decide +kernel,by decide +kernel⟩
noncomputable def ZL (S_skew_for : Sp3) (S_law_cells : Sp3) (S_law_rests_at : Sp3) : TS3 := (qK (zz (cb3 S_skew_for (qc (v3 0) (qc (v3 1) qh))) (gn3 2)) (qK (jX (tb3 (o3 (Qb false) (o3 ix3 (v3 2) (c3 (.int 0))) (c3 (.str "none")))) (ze (o3 ix3 (v3 2) (c3 (.int 1)))) qT) (qK (zz (Zo qh) (gn3 3)) (qK (zz (lc3 (YM (v3 1)) (gn3 0) tt3 (cb3 S_law_cells (qc (v3 0) qh)) [none]) (gn3 4)) (qK (YT (zW (qc (o3 (iC Qm (· * ·)) (v3 0) (v3 0)) qh)) (gn3 5) (qK (zz (Q0 (qc (c3 (.int 0)) (qc (c3 (.int 0)) (qc (c3 (.int 1)) qh)))) (gn3 6)) (qK (YT (VS (qc (v3 4) qh)) (Jx 2 (zf (gn3 7) (zf (gn3 8) J9))) (qK (zz (cb3 S_law_rests_at (qc (v3 8) (qc (v3 0) (qc (o3 (iC W5 (· / ·)) (v3 5) (v3 0)) (qc (o3 (iC (fun _ j => 0 < j) (· % ·)) (v3 5) (v3 0)) qh))))) (gn3 9)) (qK (zz (lc3 (zW (qc (c3 (.int 1)) (qc (cb3 JO (qc (v3 9) qh)) qh))) (gn3 0) (tb3 (o3 (Qb false) (o3 ix3 (v3 1) (v3 0)) (o3 ix3 (v3 1) (c3 (.int 0))))) (v3 0) [none,some 9]) (gn3 10)) (zz (if3 (tb3 (o3 (Qb true) (v3 10) (Zo qh))) (Q0 (qc (v3 7) (qc (c3 (.int 0)) (qc (o3 ix3 (v3 10) (u3 WC (c3 (.int 1)))) qh)))) (v3 6)) (gn3 6))))) (Vf (bm3 CO (v3 3) (qc (v3 6) qh)))))) (ze (v3 3)))))))
theorem Dy {S_skew_for : Sp3} {S_law_cells : Sp3} {S_law_rests_at : Sp3} (F : Fun K "_law_bars" "_law_bars" QG f fd) (bd : zD K fd Yg []) (hm : mg "_law_bars" = some (.ref f)) (zT : Fn3 P w K mg base k "skew_for" S_skew_for) (qE : Fn3 P w K mg base k "_law_cells" S_law_cells) (qq : Fn3 P w K mg base k "_law_rests_at" S_law_rests_at) (m_range : mg "range" = none) (m_enumerate : mg "enumerate" = none) (m_len : mg "len" = none)
  (read : Rd sp 2 (ZL S_skew_for S_law_cells S_law_rests_at) ZC) : Fn3 P w K mg base (k + 1) "_law_bars" sp :=
 qL (t3 := (ZL S_skew_for S_law_cells S_law_rests_at)) F qV bd hm (fun cdv A outer s H E hr => (qg (qZ 2 qV.nd (qk zT hr rfl (qa (qb 0) (qa (qb 1) qd)))) (qg (z9 (qz (zq hr.units) qU (qF (qb 2) qe) zX (qr _)) (qm (qo (qF (qb 2) qe))) qJ) (qg (qZ 3 qV.nd (zJ qd)) (qg (Y9 4 ["_law_walk_here"] [none] rfl qV.nd (YH (qb 1)) (fun _ _ _ => (jgn 0)) (fun _ _ _ => jZ) (fun _ _ _ => (qk qE hr rfl (qa (qb 0) qd))) (by kernel_rfl) (by kernel_rfl) rfl rfl) (qg (Q4 PassesOwn.never rfl (qM rfl m_range (qa (zH (qb 0) (qb 0)) qd) (h1 := by intro _ _ _ h;simpa [qc,qh] using h)) (qA (i := 5) (qV.nd)) (qg (qZ 6 qV.nd (zc (qa qe (qa qe (qa qe qd))))) (qg (Q4 PassesOwn.never rfl (EI rfl m_enumerate (qa (qb 4) qd)) (Z0 rfl (qP (qA (i := 7) (qV.nd)) (qP (qA (i := 8) (qV.nd)) Zx))) (qg (qZ 9 qV.nd (qk qq hr rfl (qa (qb 8) (qa (qb 0) (qa (UE (qb 5) (qb 0)) (qa (ZQ (qb 5) (qb 0)) qd)))))) (qg (Y9 10 ["_law_m","_law_some"] [none,some 9] rfl qV.nd (Eg rfl m_range (qa qe (qa (qB qX zk rfl m_len PySem.boot_len (qa (qb 9) qd)) qd)) (h1 := by intro _ _ _ h;simpa [qc,qh] using h)) (fun _ _ _ => (jgn 0)) (fun _ _ _ => N8 (qz (zq hr.units) qU (qF (qb 1) (qb 0)) (qF (qb 1) qe) (qr _))) (fun _ _ _ => (qb 0)) (by kernel_rfl) (by kernel_rfl) rfl rfl) (qm (qZ 6 qV.nd (Li (qz (Ju hr.units) Zd (qb 10) (zJ qd) (qr _)) (zc (qa (qb 7) (qa qe (qa (qF (qb 10) (En qe)) qd)))) (qb 6))))))) (qm (Up (YQ (qb 3) (qa (qb 6) qd))))))) (qm (qo (qb 3))))))))) read
noncomputable abbrev zC : Stmt := top 28
noncomputable abbrev zN : List Str := ["_law_left_here","_law_number"]
noncomputable abbrev j8 : List Str := ["_law_left_here","_law_number"]
theorem Yc : FnScope zN j8 (qi zC) := ⟨rfl,rfl,rfl,by decide +kernel,rfl,by decide +kernel,by decide +kernel⟩
noncomputable def zL (S_law_pick : Sp3) : TS3 := (qK (jX (D9 (tb3 (ER (fun t => jV t "int") (v3 1)))) (ze (c3 (.int 0))) qT) (ze (o3 ix3 (Zo (qc (o3 (nI3 (· + ·)) (v3 1) (c3 (.int 1))) (qc (o3 (nI3 (· - ·)) (v3 1) (c3 (.int 1))) (qc (u3 nN3 (v3 1)) (qc (o3 nQ3 (v3 1) (c3 (.int 1))) (qc (cb3 (Et true) (qc (v3 1) qh)) (qc (c3 .non) (qc (Q0 (qc (v3 1) qh)) (qc (c3 (.int 99)) qh))))))))) (cb3 S_law_pick (qc (v3 0) (qc (c3 (.int 8)) qh))))))
theorem JL {S_law_pick : Sp3} (F : Fun K "_law_number_odd" "_law_number_odd" zC f fd) (bd : zD K fd j8 []) (hm : mg "_law_number_odd" = some (.ref f)) (F_law_pick : Fn3 P w K mg base k "_law_pick" S_law_pick) (m_isinstance : mg "isinstance" = none) (m_int : mg "int" = none) (m_str : mg "str" = none)
  (read : Rd sp 2 (zL S_law_pick) zN) : Fn3 P w K mg base (k + 1) "_law_number_odd" sp :=
 qL (t3 := (zL S_law_pick)) F Yc bd hm (fun cdv A outer s H E hr => (qg (z9 (ZX (ZU (Z7 (qb 1) rfl m_isinstance rfl m_int PyProof.Rows.boot_int))) (qm (qo qe)) qJ) (qm (qo (qF (zJ (qa (LG (qb 1) qe) (qa (L9 (qb 1) qe) (qa (LJ (qb 1)) (qa (J8 MI qb7 (qb 1) qe (qr _)) (qa (zb (Jk hr.gd hr.units) Ur rfl m_str PyProof.Rows.boot_str (qa (qb 1) qd)) (qa YV (qa (zc (qa (qb 1) qd)) (qa qe qd))))))))) (qk F_law_pick hr rfl (qa (qb 0) (qa qe qd)))))))) read
noncomputable abbrev jz : Stmt := top 29
noncomputable abbrev jP : List Str := ["_law_left_here","_law_bar","_law_many_here","_law_way","_law_at"]
noncomputable abbrev QA : List Str := ["_law_left_here","_law_bar","_law_many_here"]
theorem Qz : FnScope jP QA (qi jz) := ⟨rfl,rfl,rfl,by decide +kernel,rfl,by decide +kernel,by decide +kernel⟩
noncomputable def jK (S_law_pick : Sp3) (S_law_number_odd : Sp3) : TS3 := (qK (CL 3 4 (qc (cb3 S_law_pick (qc (v3 0) (qc (c3 (.int 8)) qh))) (qc (cb3 S_law_pick (qc (v3 0) (qc (c3 (.int 4)) qh))) qh))) (qK (jX (tb3 (o3 (iB fun i j => decide (i < j)) (v3 3) (c3 (.int 2)))) (ze (Q0 (qc (cb3 S_law_pick (qc (v3 0) (qc (v3 2) qh))) (qc (cb3 S_law_pick (qc (v3 0) (qc (c3 (.int 3)) qh))) (qc (o3 Yo (c3 (.int 1)) (cb3 S_law_pick (qc (v3 0) (qc (c3 (.int 6)) qh)))) qh))))) qT) (qK (jX (tb3 (o3 (Qb false) (v3 3) (c3 (.int 2)))) (ze (o3 ix3 (Zo (qc (cb3 Um (qc (v3 1) qh)) (qc (c3 .non) (qc (c3 (.str "bar")) (qc (c3 (.int 7)) qh))))) (v3 4))) qT) (qK (jX (tb3 (o3 (Qb false) (v3 3) (c3 (.int 3)))) (ze (o3 Yo (o3 Yo (UH (v3 1) np3 (sp3 (v3 4))) (Q0 (qc (c3 (.int 0)) qh))) (UH (v3 1) (sp3 (v3 4)) np3))) qT) (qK (jX (tb3 (o3 (Qb false) (v3 3) (c3 (.int 4)))) (ze (o3 Yo (UH (v3 1) np3 (sp3 (v3 4))) (UH (v3 1) (sp3 (o3 Yo (v3 4) (c3 (.int 1)))) np3))) qT) (qK (jX (tb3 (o3 (Qb false) (v3 3) (c3 (.int 5)))) (ze (qc3 (v3 1) (sp3 (u3 WC (c3 (.int 1)))))) qT) (qK (zz (o3 (iC (fun _ j => 0 < j) (· % ·)) (v3 4) (c3 (.int 3))) (gn3 4)) (ze (o3 Yo (o3 Yo (UH (v3 1) np3 (sp3 (v3 4))) (Q0 (qc (cb3 S_law_number_odd (qc (v3 0) (qc (o3 ix3 (v3 1) (v3 4)) qh))) qh))) (UH (v3 1) (sp3 (o3 Yo (v3 4) (c3 (.int 1)))) np3))))))))))
theorem V5 {S_law_pick : Sp3} {S_law_number_odd : Sp3} (F : Fun K "_law_bar_odd" "_law_bar_odd" jz f fd) (bd : zD K fd QA []) (hm : mg "_law_bar_odd" = some (.ref f)) (F_law_pick : Fn3 P w K mg base k "_law_pick" S_law_pick) (F_law_number_odd : Fn3 P w K mg base k "_law_number_odd" S_law_number_odd) (m_list : mg "list" = none)
  (read : Rd sp 3 (jK S_law_pick S_law_number_odd) jP) : Fn3 P w K mg base (k + 1) "_law_bar_odd" sp :=
 qL (t3 := (jK S_law_pick S_law_number_odd)) F Qz bd hm (fun cdv A outer s H E hr => (qg (Ej (i := 3) (j := 4) rfl Qz.nd rfl rfl (by decide) rfl rfl (qa (qk F_law_pick hr rfl (qa (qb 0) (qa qe qd))) (qa (qk F_law_pick hr rfl (qa (qb 0) (qa qe qd))) qd))) (qg (z9 (qz Uv jF (qb 3) qe (qr _)) (qm (qo (zc (qa (qk F_law_pick hr rfl (qa (qb 0) (qa (qb 2) qd))) (qa (qk F_law_pick hr rfl (qa (qb 0) (qa qe qd))) (qa (Qh qe (qk F_law_pick hr rfl (qa (qb 0) (qa qe qd)))) qd)))))) qJ) (qg (z9 (qz (zq hr.units) qU (qb 3) qe (qr _)) (qm (qo (qF (zJ (qa (zb Qs YC rfl m_list PyProof.Rows.boot_list (qa (qb 1) qd)) (qa YV (qa zX (qa qe qd))))) (qb 4)))) qJ) (qg (z9 (qz (zq hr.units) qU (qb 3) qe (qr _)) (qm (qo (Qh (Qh (Q2 (qb 1) zS (zd (qb 4))) (zc (qa qe qd))) (Q2 (qb 1) (zd (qb 4)) zS)))) qJ) (qg (z9 (qz (zq hr.units) qU (qb 3) qe (qr _)) (qm (qo (Qh (Q2 (qb 1) zS (zd (qb 4))) (Q2 (qb 1) (zd (Qh (qb 4) qe)) zS)))) qJ) (qg (z9 (qz (zq hr.units) qU (qb 3) qe (qr _)) (qm (qo (SV (qb 1) (zd (En qe)) (ops := fun _ _ => _) (by intro _ _;with_unfolding_all rfl)))) qJ) (qg (qZ 4 Qz.nd (ZQ (qb 4) qe)) (qm (qo (Qh (Qh (Q2 (qb 1) zS (zd (qb 4))) (zc (qa (qk F_law_number_odd hr rfl (qa (qb 0) (qa (qF (qb 1) (qb 4)) qd))) qd))) (Q2 (qb 1) (zd (Qh (qb 4) qe)) zS)))))))))))) read
noncomputable abbrev jT : Stmt := top 30
noncomputable abbrev Qg : List Str := ["_law_left_here","_law_blocked","_law_many_here","_law_way","_law_at"]
noncomputable abbrev Z5 : List Str := ["_law_left_here","_law_blocked","_law_many_here"]
theorem J1 : FnScope Qg Z5 (qi jT) := ⟨rfl,rfl,rfl,by decide +kernel,rfl,by decide +kernel,by decide +kernel⟩
noncomputable def Qk (S_law_pick : Sp3) (S_law_bar_odd : Sp3) : TS3 := (qK (CL 3 4 (qc (cb3 S_law_pick (qc (v3 0) (qc (c3 (.int 6)) qh))) (qc (cb3 S_law_pick (qc (v3 0) (qc (o3 je (cb3 JO (qc (v3 1) qh)) (c3 (.int 1))) qh))) qh))) (qK (jX (or3 (tb3 (o3 (Qb false) (v3 3) (c3 (.int 0)))) (tb3 (o3 (Qb false) (v3 4) (cb3 JO (qc (v3 1) qh))))) (ze (o3 je (o3 je (ET (v3 1) np3 (sp3 (v3 4))) (Zo (qc (Q0 (qc (c3 (.int 0)) (qc (c3 (.int 0)) (qc (c3 (.int 1)) qh)))) qh))) (ET (v3 1) (sp3 (v3 4)) np3))) qT) (qK (jX (tb3 (o3 (Qb false) (v3 3) (c3 (.int 1)))) (ze (o3 je (ET (v3 1) np3 (sp3 (v3 4))) (ET (v3 1) (sp3 (o3 je (v3 4) (c3 (.int 1)))) np3))) qT) (qK (jX (tb3 (o3 (Qb false) (v3 3) (c3 (.int 2)))) (ze (o3 je (o3 je (ET (v3 1) np3 (sp3 (v3 4))) (qc3 (ET (v3 1) (sp3 (v3 4)) (sp3 (o3 je (v3 4) (c3 (.int 2))))) (sp3 (u3 WC (c3 (.int 1)))))) (ET (v3 1) (sp3 (o3 je (v3 4) (c3 (.int 2)))) np3))) qT) (qK (jX (or3 (D9 (tb3 (ER (fun t => jV t "tuple") (o3 ix3 (v3 1) (v3 4))))) (tb3 (o3 (Qb true) (cb3 JO (qc (o3 ix3 (v3 1) (v3 4)) qh)) (c3 (.int 3))))) (ze (v3 1)) qT) (ze (o3 je (o3 je (ET (v3 1) np3 (sp3 (v3 4))) (Zo (qc (cb3 S_law_bar_odd (qc (v3 0) (qc (o3 ix3 (v3 1) (v3 4)) (qc (v3 2) qh)))) qh))) (ET (v3 1) (sp3 (o3 je (v3 4) (c3 (.int 1)))) np3))))))))
theorem Uj {S_law_pick : Sp3} {S_law_bar_odd : Sp3} (F : Fun K "_law_spoilt" "_law_spoilt" jT f fd) (bd : zD K fd Z5 []) (hm : mg "_law_spoilt" = some (.ref f)) (F_law_pick : Fn3 P w K mg base k "_law_pick" S_law_pick) (F_law_bar_odd : Fn3 P w K mg base k "_law_bar_odd" S_law_bar_odd) (m_len : mg "len" = none) (m_isinstance : mg "isinstance" = none) (m_tuple : mg "tuple" = none)
  (read : Rd sp 3 (Qk S_law_pick S_law_bar_odd) Qg) : Fn3 P w K mg base (k + 1) "_law_spoilt" sp :=
 qL (t3 := (Qk S_law_pick S_law_bar_odd)) F J1 bd hm (fun cdv A outer s H E hr => (qg (Ej (i := 3) (j := 4) rfl J1.nd rfl rfl (by decide) rfl rfl (qa (qk F_law_pick hr rfl (qa (qb 0) (qa qe qd))) (qa (qk F_law_pick hr rfl (qa (qb 0) (qa (qy (qB qX zk rfl m_len PySem.boot_len (qa (qb 1) qd)) qe) qd))) qd))) (qg (z9 (jpt (JS (qz (zq hr.units) qU (qb 3) qe (qr _)) (Jn (qz (zq hr.units) qU (qb 4) (qB qX zk rfl m_len PySem.boot_len (qa (qb 1) qd)) (qr _))))) (qm (qo (qy (qy (jb (qb 1) zS (zd (qb 4))) (zJ (qa (zc (qa qe (qa qe (qa qe qd)))) qd))) (jb (qb 1) (zd (qb 4)) zS)))) qJ) (qg (z9 (qz (zq hr.units) qU (qb 3) qe (qr _)) (qm (qo (qy (jb (qb 1) zS (zd (qb 4))) (jb (qb 1) (zd (qy (qb 4) qe)) zS)))) qJ) (qg (z9 (qz (zq hr.units) qU (qb 3) qe (qr _)) (qm (qo (qy (qy (jb (qb 1) zS (zd (qb 4))) (SV (jb (qb 1) (zd (qb 4)) (zd (qy (qb 4) qe))) (zd (En qe)) (ops := fun _ _ => _) (by intro _ _;with_unfolding_all rfl))) (jb (qb 1) (zd (qy (qb 4) qe)) zS)))) qJ) (qg (z9 (jpt (JS (ZX (ZU (Z7 (qF (qb 1) (qb 4)) rfl m_isinstance rfl m_tuple PyProof.Rows.boot_tuple))) (Jn (qz (Ju hr.units) Zd (qB qX zk rfl m_len PySem.boot_len (qa (qF (qb 1) (qb 4)) qd)) qe (qr _))))) (qm (qo (qb 1))) qJ) (qm (qo (qy (qy (jb (qb 1) zS (zd (qb 4))) (zJ (qa (qk F_law_bar_odd hr rfl (qa (qb 0) (qa (qF (qb 1) (qb 4)) (qa (qb 2) qd)))) qd))) (jb (qb 1) (zd (qy (qb 4) qe)) zS)))))))))) read
noncomputable abbrev ZR : Stmt := top 31
noncomputable abbrev RU : List Str := ["_law_script","_law_k","_law_left_here","_law_banks","_law_ways","_law_walks_here","_law_blocked","_law_odd","_law_turn","_law_thing","_law_again","_law_one","_law_kept","_law_found"]
noncomputable abbrev M3 : List Str := ["_law_script"]
theorem jD : FnScope RU M3 (qi ZR) := ⟨rfl,rfl,rfl,by decide +kernel,rfl,by decide +kernel,by decide +kernel⟩
noncomputable def KT (S_law_left : Sp3) (S_law_pick : Sp3) (S_law_walks : Sp3) (S_law_walk : Sp3) (S_law_bars : Sp3) (S_law_spoilt : Sp3) (S_shows_no_skew : Sp3) (S_law_is_bars : Sp3) : TS3 := (qK (YT (zW (qc (o3 je (c3 (.int 1)) (cb3 qcf (qc (c3 (.int 6)) (qc (cb3 JO (qc (v3 0) qh)) qh)))) qh)) (gn3 1) (qK (zz (cb3 S_law_left (qc (v3 0) (qc (v3 1) qh))) (gn3 2)) (qK (zz (o3 je (c3 (.int 1)) (cb3 S_law_pick (qc (v3 2) (qc (c3 (.int 6)) qh)))) (gn3 3)) (qK (zz (lc3 (zW (qc (c3 (.int 12)) qh)) (gn3 0) tt3 (cb3 S_law_pick (qc (v3 1) (qc (c3 (.int 8)) qh))) [none,some 2]) (gn3 4)) (qK (zz (o3 je (cb3 S_law_walks (qc (v3 2) qh)) (Zo (qc (cb3 S_law_walk (qc (v3 2) qh)) qh))) (gn3 5)) (qK (zz (ET (v3 5) np3 (sp3 (c3 (.int 5)))) (gn3 5)) (qK (zz (cb3 S_law_bars (qc (v3 3) (qc (v3 5) qh))) (gn3 6)) (qK (zz (Zo (qc (c3 .non) (qc (Q0 qh) (qc (cb3 Jq (qc (v3 6) qh)) (qc (c3 (.str "")) (qc (c3 (.int 0)) (qc (c3 (.bl true)) (qc (Zo qh) (qc (Zo (qc (Zo qh) qh)) qh))))))))) (gn3 7)) (YT (zW (qc (c3 (.int 12)) qh)) (gn3 8) (qK (zz (cb3 Um (qc (v3 6) qh)) (gn3 9)) (qK (YT (zW (qc (o3 je (c3 (.int 1)) (cb3 Wu (qc (o3 (iB fun i j => decide (j < i)) (o3 ix3 (v3 4) (v3 8)) (c3 (.int 4))) qh))) qh)) (gn3 10) (zz (cb3 S_law_spoilt (qc (v3 2) (qc (v3 9) (qc (cb3 JO (qc (v3 5) qh)) qh)))) (gn3 9))) (YT (YM (Q0 (qc (v3 9) (qc (v3 6) (qc (o3 ix3 (v3 7) (o3 ix3 (v3 4) (v3 8))) qh))))) (gn3 11) (qK (zz (cb3 (Et true) (qc (Zo (qc (v3 11) (qc (v3 5) qh))) qh)) (gn3 12)) (qK (zz (cb3 S_shows_no_skew (qc (v3 3) (qc (v3 5) (qc (v3 11) qh)))) (gn3 13)) (jX (or3 (D9 (tb3 (ER (fun t => jV t "bool") (v3 13)))) (or3 (tb3 (o3 (Qb true) (v3 13) (cb3 S_law_is_bars (qc (v3 3) (qc (v3 5) (qc (v3 11) qh)))))) (tb3 (o3 (Qb true) (cb3 (Et true) (qc (Zo (qc (v3 11) (qc (v3 5) qh))) qh)) (v3 12))))) (ze (c3 (.bl false))) qT))))))))))))))) (ze (c3 (.bl true))))
theorem qbh {S_law_left : Sp3} {S_law_pick : Sp3} {S_law_walks : Sp3} {S_law_walk : Sp3} {S_law_bars : Sp3} {S_law_spoilt : Sp3} {S_shows_no_skew : Sp3} {S_law_is_bars : Sp3} (F : Fun K "law" "law" ZR f fd) (F_law_left : Fn3 P w K mg base k "_law_left" S_law_left) (F_law_pick : Fn3 P w K mg base k "_law_pick" S_law_pick) (F_law_walks : Fn3 P w K mg base k "_law_walks" S_law_walks) (F_law_walk : Fn3 P w K mg base k "_law_walk" S_law_walk) (zU : Fn3 P w K mg base k "_law_bars" S_law_bars) (F_law_spoilt : Fn3 P w K mg base k "_law_spoilt" S_law_spoilt) (qG : Fn3 P w K mg base k "shows_no_skew" S_shows_no_skew) (za : Fn3 P w K mg base k "_law_is_bars" S_law_is_bars) (m_len : mg "len" = none) (m_min : mg "min" = none) (m_range : mg "range" = none) (m_tuple : mg "tuple" = none) (m_list : mg "list" = none) (m_int : mg "int" = none) (m_str : mg "str" = none) (m_isinstance : mg "isinstance" = none) (m_bool : mg "bool" = none)
  (read : Rd sp 1 (KT S_law_left S_law_pick S_law_walks S_law_walk S_law_bars S_law_spoilt S_shows_no_skew S_law_is_bars) RU) : FnOk P w K mg base CX0 (k + 1) f fd M3 (lSp K sp) :=
 Rq (t3 := (KT S_law_left S_law_pick S_law_walks S_law_walk S_law_bars S_law_spoilt S_shows_no_skew S_law_is_bars)) F jD (fun cdv A outer s H E hr => (qg (Q4 PassesOwn.never rfl (qM rfl m_range (qa (qy qe (qB (Xk rfl) LP rfl m_min PyProof.Rows.boot_min (qa qe (qa (qB qX zk rfl m_len PySem.boot_len (qa (qb 0) qd)) qd)))) qd) (h1 := by intro _ _ _ h;simpa [qc,qh] using h)) (qA (i := 1) (jD.nd)) (qg (qZ 2 jD.nd (qk F_law_left hr rfl (qa (qb 0) (qa (qb 1) qd)))) (qg (qZ 3 jD.nd (qy qe (qk F_law_pick hr rfl (qa (qb 2) (qa qe qd))))) (qg (Y9 4 ["_law_turn","_law_left_here"] [none,some 2] rfl jD.nd (qM rfl m_range (qa qe qd) (h1 := by intro _ _ _ h;simpa [qc,qh] using h)) (fun _ _ _ => (jgn 0)) (fun _ _ _ => jZ) (fun _ _ _ => (qk F_law_pick hr rfl (qa (qb 1) (qa qe qd)))) (by kernel_rfl) (by kernel_rfl) rfl rfl) (qg (qZ 5 jD.nd (qy (qk F_law_walks hr rfl (qa (qb 2) qd)) (zJ (qa (qk F_law_walk hr rfl (qa (qb 2) qd)) qd)))) (qg (qZ 5 jD.nd (jb (qb 5) zS (zd qe))) (qg (qZ 6 jD.nd (qk zU hr rfl (qa (qb 3) (qa (qb 5) qd)))) (qg (qZ 7 jD.nd (zJ (qa YV (qa (zc qd) (qa (zb Zc Vn rfl m_tuple PyProof.Rows.boot_tuple (qa (qb 6) qd)) (qa zX (qa qe (qa Yy (qa (zJ qd) (qa (zJ (qa (zJ qd) qd)) qd)))))))))) (qm (Q4 PassesOwn.never rfl (qM rfl m_range (qa qe qd) (h1 := by intro _ _ _ h;simpa [qc,qh] using h)) (qA (i := 8) (jD.nd)) (qg (qZ 9 jD.nd (zb Qs YC rfl m_list PyProof.Rows.boot_list (qa (qb 6) qd))) (qg (Q4 PassesOwn.never rfl (qM rfl m_range (qa (qy qe (zb Jt Ua rfl m_int PyProof.Rows.boot_int (qa (J8 qcp jF (qF (qb 4) (qb 8)) qe (qr _)) qd))) qd) (h1 := by intro _ _ _ h;simpa [qc,qh] using h)) (qA (i := 10) (jD.nd)) (qm (qZ 9 jD.nd (qk F_law_spoilt hr rfl (qa (qb 2) (qa (qb 9) (qa (qB qX zk rfl m_len PySem.boot_len (qa (qb 5) qd)) qd))))))) (qm (Q4 PassesOwn.never rfl (YH (zc (qa (qb 9) (qa (qb 6) (qa (qF (qb 7) (qF (qb 4) (qb 8))) qd))))) (qA (i := 11) (jD.nd)) (qg (qZ 12 jD.nd (zb (Jk hr.gd hr.units) Ur rfl m_str PyProof.Rows.boot_str (qa (zJ (qa (qb 11) (qa (qb 5) qd))) qd))) (qg (qZ 13 jD.nd (qk qG hr rfl (qa (qb 3) (qa (qb 5) (qa (qb 11) qd))))) (qm (z9 (jpt (JS (ZX (ZU (Z7 (qb 13) rfl m_isinstance rfl m_bool PyProof.Rows.boot_bool))) (JS (qz (Ju hr.units) Zd (qb 13) (qk za hr rfl (qa (qb 3) (qa (qb 5) (qa (qb 11) qd)))) (qr _)) (Jn (qz (Ju hr.units) Zd (zb (Jk hr.gd hr.units) Ur rfl m_str PyProof.Rows.boot_str (qa (zJ (qa (qb 11) (qa (qb 5) qd))) qd)) (qb 12) (qr _)))))) (qm (qo Yy)) qJ)))))))))))))))))) (qm (qo Yy)))) read
end K37
namespace K37
open PySem L2 L3 Pu
noncomputable def QP : PuS (Bk.Zf) := (ZT (EV (WD (fun t => jV t "int") (bV 0)) (KK (WD (fun t => jV t "bool") (bV 0)))))
noncomputable def zr : List PyData → Option PyData := Pu.run QP.f 1 1 1000000000 false
theorem UC : Rd (PSp zr false) 1 (Bk.Zf) QY := zG QP QY 1 1000000000 false
theorem UV {x0 : PyData} : zr [x0] = Jm false (QP.f 1000000000 [.sh x0]) := id rfl
noncomputable def zg : PuS (K37.zB (PSp zr false)) := (ZT (EV (qH (j6 zr false) (qf (bV 0) qw)) (bCh (opB fun i j => decide (i ≤ j)) (opB fun i j => decide (i < j)) (qN 0) (bV 0) (bV 1))))
noncomputable def ql : List PyData → Option PyData := Pu.run zg.f 2 2 1000000000 false
theorem JC : Rd (PSp ql false) 2 (K37.zB (PSp zr false)) zA := zG zg zA 2 1000000000 false
theorem J7 {x0 x1 : PyData} : ql [x0,x1] = Jm false (zg.f 1000000000 [.sh x0,.sh x1]) := id rfl
noncomputable def zR : PuS (K37.QZ (PSp ql false)) := (Q7 (sIf (bOr (CK (bTb (qH (j6 ql false) (qf (bV 1) (qf (qH Eh (qf (bV 0) qw)) qw))))) (CK (bTb (qH (j6 ql false) (qf (bV 2) (qf (qH Eh (qf (bV 0) qw)) qw)))))) (ZT (bBl false)) Zm) (ZT (EV (bO (opB fun i j => decide (i < j)) (bV 1) (bV 2)) (bO (JP false) (bO Qe (bV 0) (bV 1)) (bO Qe (bV 0) (bV 2))))))
noncomputable def zy : List PyData → Option PyData := Pu.run zR.f 3 3 1000000000 false
theorem Ef : Rd (PSp zy false) 3 (K37.QZ (PSp ql false)) QI := zG zR QI 3 1000000000 false
theorem E7 {x0 x1 x2 : PyData} : zy [x0,x1,x2] = Jm false (zR.f 1000000000 [.sh x0,.sh x1,.sh x2]) := id rfl
noncomputable def jR : PuS (Bk.jN) := (ZT (qdd (UB (qf (bV 0) qw)) (gN 0) bTt (UB (qf (bV 2) qw)) (gN 1) bTt (Vs (qf (bV 0) (qf (bV 1) qw)) ⟨rfl⟩) [none,none,some 0] ⟨rfl⟩ ⟨rfl⟩ ⟨rfl⟩))
noncomputable def qs : List PyData → Option PyData := Pu.run jR.f 1 1 1000000000 true
theorem V4 : Rd (PSp qs true) 1 (Bk.jN) jG := zG jR jG 1 1000000000 true
theorem Vv {x0 : PyData} : qs [x0] = Jm true (jR.f 1000000000 [.sh x0]) := id rfl
noncomputable def QF : PuS (Bk.QT (PSp Pv.qR false) (PSp Pv.qO false)) := (Q7 (RG (XF (qf (bV 2) qw)) (DG 2 (jr (gN 3) (jr (gN 4) DJ))) (Q7 (EO (qH (j6 Pv.qO false) (qf (qH (j6 Pv.qR false) (qf (bV 0) (qf (bV 1) (qf (bV 4) qw)))) qw)) 5 [true,true,false,false,true] ⟨rfl⟩) (sIf (bTb (bO (Lx true) (bV 5) Rz)) (ZT (Vs (qf (bV 3) (qf (bO Qe (bV 5) (qN 0)) (qf (bO Qe (bV 5) (qN 1)) qw))) ⟨rfl⟩)) Zm)) [false,false,true] ⟨rfl⟩) (ZT Rz))
noncomputable def zu : List PyData → Option PyData := Pu.run QF.f 3 6 1000000000 false
theorem Ek : Rd (PSp zu false) 3 (Bk.QT (PSp Pv.qR false) (PSp Pv.qO false)) QV := zG QF QV 3 1000000000 false
theorem Es {x0 x1 x2 : PyData} : zu [x0,x1,x2] = Jm false (QF.f 1000000000 [.sh x0,.sh x1,.sh x2,.un,.un,.un]) := id rfl
noncomputable def ZB : PuS (Bk.ZG (PSp qs true) (PSp zu false)) := (Q7 (EO (ED qw ⟨rfl⟩) 2 [] ⟨rfl⟩) (Q7 (RG (RQ (qH (j6 qs true) (qf (bV 0) qw))) (gN 3) (Q7 (EO (qH (j6 zu false) (qf (bV 0) (qf (bV 3) (qf (bV 1) qw)))) 4 [true,true,false,true] ⟨rfl⟩) (Q7 (sIf (bTb (bO (Lx false) (bV 4) Rz)) (ZT (Vs (qf (WG "skew") (qf (bO Qe (bV 3) (qN 0)) (qf (bO Qe (bV 3) (qN 1)) qw))) ⟨rfl⟩)) Zm) (qd2 (bV 4) 2 [false,false,false,false,true] ⟨rfl⟩))) [true] ⟨rfl⟩) (ZT (Vs (qf (WG "none") (qf (bV 2) qw)) ⟨rfl⟩))))
noncomputable def zT : List PyData → Option PyData := Pu.run ZB.f 2 5 1000000000 false
theorem EL : Rd (PSp zT false) 2 (Bk.ZG (PSp qs true) (PSp zu false)) ZJ := zG ZB ZJ 2 1000000000 false
theorem EK {x0 x1 : PyData} : zT [x0,x1] = Jm false (ZB.f 1000000000 [.sh x0,.sh x1,.un,.un,.un]) := id rfl
noncomputable def ja : PuS (K37.YF (PSp Pv.qR false) (PSp zy false) (PSp ql false)) := (Q7 (sIf (bOr (CK (bTb (WD (fun t => jV t "tuple") (bV 3)))) (bTb (bO (JP true) (qH Eh (qf (bV 3) qw)) (qN 3)))) (ZT (bBl false)) Zm) (Q7 (Wv (bV 3) (DG 3 (jr (gN 4) (jr (gN 5) (jr (gN 6) DJ)))) [false,false,false,true] ⟨rfl⟩) (ZT (EV (qH (j6 ql false) (qf (bV 4) (qf (qH Eh (qf (bV 2) qw)) qw))) (qH (j6 zy false) (qf (qH (j6 Pv.qR false) (qf (bV 0) (qf (bV 1) (qf (bO Qe (bV 2) (bV 4)) qw)))) (qf (bV 5) (qf (bV 6) qw))))))))
noncomputable def Qo : List PyData → Option PyData := Pu.run ja.f 4 7 1000000000 false
theorem Cf : Rd (PSp Qo false) 4 (K37.YF (PSp Pv.qR false) (PSp zy false) (PSp ql false)) YB := zG ja YB 4 1000000000 false
theorem Cz {x0 x1 x2 x3 : PyData} : Qo [x0,x1,x2,x3] = Jm false (ja.f 1000000000 [.sh x0,.sh x1,.sh x2,.sh x3,.un,.un,.un]) := id rfl
noncomputable def qv : PuS (K37.zY (PSp qs true) (PSp Qo false)) := (Q7 (sIf (bOr (CK (bTb (WD (fun t => jV t "list") (bV 2)))) (bTb (bO (JP true) (qH Eh (qf (bV 2) qw)) (bO (opC Qm (· * ·)) (bV 0) (bV 0))))) (ZT (bBl false)) Zm) (ZT (qH qc4 (qf (bLc (qg3 (qf (qH (j6 qs true) (qf (bV 0) qw)) (qf (bV 2) qw))) (DG 2 (jr (gN 0) (jr (gN 1) DJ))) bTt (qH (j6 Qo false) (qf (bV 2) (qf (bV 0) (qf (bV 3) (qf (bV 1) qw))))) [none,none,some 0,some 1] ⟨rfl⟩) qw))))
noncomputable def qG : List PyData → Option PyData := Pu.run qv.f 3 3 1000000000 false
theorem Yu : Rd (PSp qG false) 3 (K37.zY (PSp qs true) (PSp Qo false)) zZ := zG qv zZ 3 1000000000 false
theorem Yv {x0 x1 x2 : PyData} : qG [x0,x1,x2] = Jm false (qv.f 1000000000 [.sh x0,.sh x1,.sh x2]) := id rfl
noncomputable def zp : PuS (Bk.QS) := (Q7 (sIf (bTb (bO (JP false) (bO Qe (bV 0) (qN 0)) (WG "cells"))) (ZT (qH LY (qf (bO Qe (bV 0) (qN 1)) qw))) Zm) (Q7 (sIf (bTb (bO (JP false) (bO Qe (bV 0) (qN 0)) (WG "block"))) (Q7 (EO (ED qw ⟨rfl⟩) 1 [] ⟨rfl⟩) (Q7 (RG (UB (qf (bO Qe (bV 0) (qN 1)) qw)) (gN 2) (qg2 (bLc (UB (qf (bO Qe (bV 0) (qN 2)) qw)) (gN 0) bTt (Vs (qf (bV 1) (qf (bV 0) qw)) ⟨rfl⟩) [none,some 2] ⟨rfl⟩) 1 [true,false,true] ⟨rfl⟩) [true] ⟨rfl⟩) (LT 1))) Zm) (Q7 (Wv (Nv ["row","column","slant","back","step"] (qf (Vs (qf (qN 0) (qf (qN 1) qw)) ⟨rfl⟩) (qf (Vs (qf (qN 1) (qf (qN 0) qw)) ⟨rfl⟩) (qf (Vs (qf (qN 1) (qf (qN 1) qw)) ⟨rfl⟩) (qf (Vs (qf (qN 1) (qf (qc8 (qN 1)) qw)) ⟨rfl⟩) (qf (bSl (bV 0) (bSp (qN 1)) (bSp (qN 3))) qw))))) (bO Qe (bV 0) (qN 0))) (DG 2 (jr (gN 3) (jr (gN 4) DJ))) [true] ⟨rfl⟩) (ZT (bLc (UB (qf (bO Qe (bV 0) (qc8 (qN 1))) qw)) (gN 0) bTt (Vs (qf (bO (opC Qm (· * ·)) (bV 0) (bV 1)) (qf (bO (opC Qm (· * ·)) (bV 0) (bV 2)) qw)) ⟨rfl⟩) [none,some 3,some 4] ⟨rfl⟩)))))
noncomputable def qE : List PyData → Option PyData := Pu.run zp.f 1 5 1000000000 true
theorem UP : Rd (PSp qE true) 1 (Bk.QS) QC := zG zp QC 1 1000000000 true
theorem UY {x0 : PyData} : qE [x0] = Jm true (zp.f 1000000000 [.sh x0,.un,.un,.un,.un]) := id rfl
noncomputable def jt : PuS (Bk.jy) := (ZT (bLc (RQ (bV 0)) (DG 2 (jr (gN 0) (jr (gN 1) DJ))) bTt (bO (opC (fun _ j => 0 < j) (· % ·)) (bO Zp (bO (opC Qm (· * ·)) (bV 3) (bV 0)) (bO (opC Qm (· * ·)) (bV 4) (bV 1))) (bV 2)) [none,none,some 1,some 2,some 3] ⟨rfl⟩))
noncomputable def qq : List PyData → Option PyData := Pu.run jt.f 4 4 1000000000 true
theorem Vl : Rd (PSp qq true) 4 (Bk.jy) ju := zG jt ju 4 1000000000 true
theorem YU {x0 x1 x2 x3 : PyData} : qq [x0,x1,x2,x3] = Jm true (jt.f 1000000000 [.sh x0,.sh x1,.sh x2,.sh x3]) := id rfl
noncomputable def jI : PuS (K37.jQ (PSp qE true) (PSp qq true)) := (Q7 (EO (bLc (RQ (bV 1)) (gN 0) bTt (qH (j6 qE true) (qf (bV 0) qw)) [none] ⟨rfl⟩) 3 [false,true] ⟨rfl⟩) (Q7 (sIf (bOr (CK (bTb (WD (fun t => jV t "list") (bV 2)))) (bTb (bO (JP true) (qH Eh (qf (bV 2) qw)) (bO (opC Qm (· * ·)) (bV 0) (bV 0))))) (ZT (bBl false)) Zm) (Q7 (RG (XF (qf (bV 2) qw)) (DG 2 (jr (gN 4) (jr (gN 5) DJ))) (Q7 (sIf (bOr (CK (bTb (WD (fun t => jV t "tuple") (bV 5)))) (bTb (bO (JP true) (qH Eh (qf (bV 5) qw)) (qN 3)))) (ZT (bBl false)) Zm) (Q7 (sIf (CK (bTb (qH qc4 (qf (bLc (RQ (bV 5)) (gN 0) bTt (EV (WD (fun t => jV t "int") (bV 0)) (KK (WD (fun t => jV t "bool") (bV 0)))) [none] ⟨rfl⟩) qw)))) (ZT (bBl false)) Zm) (Q7 (Wv (bV 5) (DG 3 (jr (gN 6) (jr (gN 7) (jr (gN 8) DJ)))) [false,false,false,false,false,true] ⟨rfl⟩) (Q7 (sIf (bOr (bTb (bO (opB fun i j => decide (i < j)) (bV 6) (qN 0))) (bOr (bTb (bO (opB fun i j => decide (j ≤ i)) (bV 6) (qH Eh (qf (bV 3) qw)))) (bOr (bTb (bO (opB fun i j => decide (i < j)) (bV 7) (qN 0))) (bOr (bTb (bO (opB fun i j => decide (j ≤ i)) (bV 7) (bV 8))) (bTb (bO (opB fun i j => decide (j ≤ i)) (bV 8) (qH Eh (qf (bO Qe (bV 3) (bV 6)) qw)))))))) (ZT (bBl false)) Zm) (Q7 (EO (qH (j6 qq true) (qf (bO Qe (bV 3) (bV 6)) (qf (bV 0) (qf (bO (opC W5 (· / ·)) (bV 4) (bV 0)) (qf (bO (opC (fun _ j => 0 < j) (· % ·)) (bV 4) (bV 0)) qw))))) 9 [true,false,false,true,true,false,true] ⟨rfl⟩) (sIf (bTb (bO (JP true) (bO Qe (bV 9) (bV 7)) (bO Qe (bV 9) (bV 8)))) (ZT (bBl false)) Zm)))))) [false,false,true] ⟨rfl⟩) (ZT (bBl true)))))
noncomputable def za : List PyData → Option PyData := Pu.run jI.f 3 10 1000000000 false
theorem V0 : Rd (PSp za false) 3 (K37.jQ (PSp qE true) (PSp qq true)) jJ := zG jI jJ 3 1000000000 false
theorem V7 {x0 x1 x2 : PyData} : za [x0,x1,x2] = Jm false (jI.f 1000000000 [.sh x0,.sh x1,.sh x2,.un,.un,.un,.un,.un,.un,.un]) := id rfl
noncomputable def Qx := ((eDr Lz (aOf qw)) : PwE 1 _)
noncomputable def QR : PwS 0 (Bk.QQ Bk.qt Bk.jj) := (EY (eLc 1 (iR (Yt (eO Qe (eOf (ED (qf (qN 1) (qf (qN 2) (qf (qN 2) (qf (qN 3) (qf (qN 3) (qf (qN 4) (qf (qN 5) (qf (qN 0) qw)))))))) ⟨rfl⟩)) (eDr Yw (aOf (qf (qN 8) qw)))) (aOf qw))) (gN 0) (cOf bTt) Qx [none,some 0] ⟨rfl⟩ ⟨rfl⟩))
noncomputable def jp : Wm := qao QR 1 1 true
theorem UU : Rd (DSp jp.W true) 1 (Bk.QQ Bk.qt Bk.jj) Zg := Uh QR Zg 1 true
theorem US {n : Nat} {Q : QD} : jp.W [] n Q = (0 + 1 = 1∧QR.w [.un] n (Le true Q)) := id rfl
noncomputable def Q6 : PuS (K37.ZL (PSp zT false) (PSp qE true) (PSp qq true)) := (Q7 (EO (qH (j6 zT false) (qf (bV 0) (qf (bV 1) qw))) 2 [true,true] ⟨rfl⟩) (Q7 (sIf (bTb (bO (JP false) (bO Qe (bV 2) (qN 0)) (WG "none"))) (ZT (bO Qe (bV 2) (qN 1))) Zm) (Q7 (EO (ED qw ⟨rfl⟩) 3 [] ⟨rfl⟩) (Q7 (EO (bLc (RQ (bV 1)) (gN 0) bTt (qH (j6 qE true) (qf (bV 0) qw)) [none] ⟨rfl⟩) 4 [false,true] ⟨rfl⟩) (Q7 (RG (UB (qf (bO (opC Qm (· * ·)) (bV 0) (bV 0)) qw)) (gN 5) (Q7 (EO (Vs (qf (qN 0) (qf (qN 0) (qf (qN 1) qw))) ⟨rfl⟩) 6 [] ⟨rfl⟩) (Q7 (RG (XF (qf (bV 4) qw)) (DG 2 (jr (gN 7) (jr (gN 8) DJ))) (Q7 (EO (qH (j6 qq true) (qf (bV 8) (qf (bV 0) (qf (bO (opC W5 (· / ·)) (bV 5) (bV 0)) (qf (bO (opC (fun _ j => 0 < j) (· % ·)) (bV 5) (bV 0)) qw))))) 9 [true,false,false,false,false,true,false,false,true] ⟨rfl⟩) (Q7 (EO (bLc (UB (qf (qN 1) (qf (qH Eh (qf (bV 9) qw)) qw))) (gN 0) (bTb (bO (JP false) (bO Qe (bV 1) (bV 0)) (bO Qe (bV 1) (qN 0)))) (bV 0) [none,some 9] ⟨rfl⟩) 10 [false,false,false,false,false,false,false,false,false,true] ⟨rfl⟩) (EO (bIf (bTb (bO (JP true) (bV 10) (ED qw ⟨rfl⟩))) (Vs (qf (bV 7) (qf (qN 0) (qf (bO Qe (bV 10) (qc8 (qN 1))) qw))) ⟨rfl⟩) (bV 6)) 6 [false,false,false,false,false,false,true,true,false,false,true] ⟨rfl⟩))) [false,false,false,false,true] ⟨rfl⟩) (qd2 (bV 6) 3 [false,false,false,false,false,false,true] ⟨rfl⟩))) [true] ⟨rfl⟩) (LT 3))))))
noncomputable def zU : List PyData → Option PyData := Pu.run Q6.f 2 11 1000000000 false
theorem EJ : Rd (PSp zU false) 2 (K37.ZL (PSp zT false) (PSp qE true) (PSp qq true)) ZC := zG Q6 ZC 2 1000000000 false
theorem Df {x0 x1 : PyData} : zU [x0,x1] = Jm false (Q6.f 1000000000 [.sh x0,.sh x1,.un,.un,.un,.un,.un,.un,.un,.un,.un]) := id rfl
noncomputable def zM : PwS 0 (K37.zL Bk.qt) := (Yz (wIf (cOf (CK (bTb (WD (fun t => jV t "int") (bV 1))))) (EY (eOf (qN 0))) Yr) (EY (eO Qe (eOf (ED (qf (bO (opN (· + ·)) (bV 1) (qN 1)) (qf (bO (opN (· - ·)) (bV 1) (qN 1)) (qf (N2 (bV 1)) (qf (bO qeb (bV 1) (qN 1)) (qf (qH (Ca true) (qf (bV 1) qw)) (qf Rz (qf (Vs (qf (bV 1) qw) ⟨rfl⟩) (qf (qN 99) qw)))))))) ⟨rfl⟩)) (eDr Yw (aOf (qf (qN 8) qw))))))
noncomputable def qY : Wm := qao zM 2 2 false
theorem JE : Rd (DSp qY.W false) 2 (K37.zL Bk.qt) zN := Uh zM zN 2 false
theorem Yh {x0 : PyData} {n : Nat} {Q : QD} : qY.W [x0] n Q = (2 = 2∧zM.w [.un,.sh x0] n (Le false Q)) := id rfl
noncomputable def jH : PwS 0 (K37.jK Bk.qt (DSp qY.W false)) := (Yz (qdz (Yt (eDr Yw (aOf (qf (qN 8) qw))) (Yt (eDr Yw (aOf (qf (qN 4) qw))) (aOf qw))) 3 4 [] ⟨rfl⟩ ⟨rfl⟩) (Yz (wIf (cOf (bTb (bO (opB fun i j => decide (i < j)) (bV 3) (qN 2)))) (EY (qdf (Yt (eDr Yw (aOf (qf (bV 2) qw))) (Yt (eDr Yw (aOf (qf (qN 3) qw))) (Yt (eO ZW (eOf (qN 1)) (eDr Yw (aOf (qf (qN 6) qw)))) (aOf qw)))) ⟨rfl⟩)) Yr) (Yz (wIf (cOf (bTb (bO (JP false) (bV 3) (qN 2)))) (EY (eOf (bO Qe (ED (qf (qH LY (qf (bV 1) qw)) (qf Rz (qf (WG "bar") (qf (qN 7) qw)))) ⟨rfl⟩) (bV 4)))) Yr) (Yz (wIf (cOf (bTb (bO (JP false) (bV 3) (qN 3)))) (EY (eOf (bO ZW (bO ZW (SE (bV 1) bNp (bSp (bV 4))) (Vs (qf (qN 0) qw) ⟨rfl⟩)) (SE (bV 1) (bSp (bV 4)) bNp)))) Yr) (Yz (wIf (cOf (bTb (bO (JP false) (bV 3) (qN 4)))) (EY (eOf (bO ZW (SE (bV 1) bNp (bSp (bV 4))) (SE (bV 1) (bSp (bO ZW (bV 4) (qN 1))) bNp)))) Yr) (Yz (wIf (cOf (bTb (bO (JP false) (bV 3) (qN 5)))) (EY (eOf (qc5 (bV 1)))) Yr) (Yz (WB (eOf (bO (opC (fun _ j => 0 < j) (· % ·)) (bV 4) (qN 3))) 4 [false,false,false,false,true] ⟨rfl⟩ ⟨rfl⟩) (EY (eO ZW (eO ZW (eOf (SE (bV 1) bNp (bSp (bV 4)))) (qdf (Yt (eDr (dSp qY false) (aOf (qf (bO Qe (bV 1) (bV 4)) qw))) (aOf qw)) ⟨rfl⟩)) (eOf (SE (bV 1) (bSp (bO ZW (bV 4) (qN 1))) bNp)))))))))))
noncomputable def z3 : Wm := qao jH 3 5 false
theorem V6 : Rd (DSp z3.W false) 3 (K37.jK Bk.qt (DSp qY.W false)) jP := Uh jH jP 3 false
theorem Vy {x0 x1 : PyData} {n : Nat} {Q : QD} : z3.W [x0,x1] n Q = (3 = 3∧jH.w [.un,.sh x0,.sh x1,.un,.un] n (Le false Q)) := id rfl
noncomputable def Qn : PwS 0 (K37.Qk Bk.qt (DSp z3.W false)) := (Yz (qdz (Yt (eDr Yw (aOf (qf (qN 6) qw))) (Yt (eDr Yw (aOf (qf (bO Zp (qH Eh (qf (bV 1) qw)) (qN 1)) qw))) (aOf qw))) 3 4 [false,true] ⟨rfl⟩ ⟨rfl⟩) (Yz (wIf (cOf (bOr (bTb (bO (JP false) (bV 3) (qN 0))) (bTb (bO (JP false) (bV 4) (qH Eh (qf (bV 1) qw)))))) (EY (eOf (bO Zp (bO UL (bSl (bV 1) bNp (bSp (bV 4))) (ED (qf (Vs (qf (qN 0) (qf (qN 0) (qf (qN 1) qw))) ⟨rfl⟩) qw) ⟨rfl⟩)) (bSl (bV 1) (bSp (bV 4)) bNp)))) Yr) (Yz (wIf (cOf (bTb (bO (JP false) (bV 3) (qN 1)))) (EY (eOf (bO Zp (bSl (bV 1) bNp (bSp (bV 4))) (bSl (bV 1) (bSp (bO Zp (bV 4) (qN 1))) bNp)))) Yr) (Yz (wIf (cOf (bTb (bO (JP false) (bV 3) (qN 2)))) (EY (eOf (bO Zp (bO Zp (bSl (bV 1) bNp (bSp (bV 4))) (qc5 (bSl (bV 1) (bSp (bV 4)) (bSp (bO Zp (bV 4) (qN 2)))))) (bSl (bV 1) (bSp (bO Zp (bV 4) (qN 2))) bNp)))) Yr) (Yz (wIf (cOf (bOr (CK (bTb (WD (fun t => jV t "tuple") (bO Qe (bV 1) (bV 4))))) (bTb (bO (JP true) (qH Eh (qf (bO Qe (bV 1) (bV 4)) qw)) (qN 3))))) (qa1 1) Yr) (EY (eO Zp (eO UL (eOf (bSl (bV 1) bNp (bSp (bV 4)))) (qfd (Yt (eDr (dSp z3 false) (aOf (qf (bO Qe (bV 1) (bV 4)) (qf (bV 2) qw)))) (aOf qw)) ⟨rfl⟩)) (eOf (bSl (bV 1) (bSp (bO Zp (bV 4) (qN 1))) bNp)))))))))
noncomputable def zV : Wm := qao Qn 3 5 false
theorem Ub : Rd (DSp zV.W false) 3 (K37.Qk Bk.qt (DSp z3.W false)) Qg := Uh Qn Qg 3 false
theorem U3 {x0 x1 : PyData} {n : Nat} {Q : QD} : zV.W [x0,x1] n Q = (3 = 3∧Qn.w [.un,.sh x0,.sh x1,.un,.un] n (Le false Q)) := id rfl
noncomputable def qfl (S_law_pick : Sp3) (S_law_walks : Sp3) (S_law_walk : Sp3) (S_law_bars : Sp3) (S_law_spoilt : Sp3) (S_shows_no_skew : Sp3) (S_law_is_bars : Sp3) : TS3 := (qK (zz (o3 je (c3 (.int 1)) (cb3 S_law_pick (qc (v3 2) (qc (c3 (.int 6)) qh)))) (gn3 3)) (qK (zz (lc3 (zW (qc (c3 (.int 12)) qh)) (gn3 0) tt3 (cb3 S_law_pick (qc (v3 1) (qc (c3 (.int 8)) qh))) [none,some 2]) (gn3 4)) (qK (zz (o3 je (cb3 S_law_walks (qc (v3 2) qh)) (Zo (qc (cb3 S_law_walk (qc (v3 2) qh)) qh))) (gn3 5)) (qK (zz (ET (v3 5) np3 (sp3 (c3 (.int 5)))) (gn3 5)) (qK (zz (cb3 S_law_bars (qc (v3 3) (qc (v3 5) qh))) (gn3 6)) (qK (zz (Zo (qc (c3 .non) (qc (Q0 qh) (qc (cb3 Jq (qc (v3 6) qh)) (qc (c3 (.str "")) (qc (c3 (.int 0)) (qc (c3 (.bl true)) (qc (Zo qh) (qc (Zo (qc (Zo qh) qh)) qh))))))))) (gn3 7)) (YT (zW (qc (c3 (.int 12)) qh)) (gn3 8) (qK (zz (cb3 Um (qc (v3 6) qh)) (gn3 9)) (qK (YT (zW (qc (o3 je (c3 (.int 1)) (cb3 Wu (qc (o3 (iB fun i j => decide (j < i)) (o3 ix3 (v3 4) (v3 8)) (c3 (.int 4))) qh))) qh)) (gn3 10) (zz (cb3 S_law_spoilt (qc (v3 2) (qc (v3 9) (qc (cb3 JO (qc (v3 5) qh)) qh)))) (gn3 9))) (YT (YM (Q0 (qc (v3 9) (qc (v3 6) (qc (o3 ix3 (v3 7) (o3 ix3 (v3 4) (v3 8))) qh))))) (gn3 11) (qK (zz (cb3 (Et true) (qc (Zo (qc (v3 11) (qc (v3 5) qh))) qh)) (gn3 12)) (qK (zz (cb3 S_shows_no_skew (qc (v3 3) (qc (v3 5) (qc (v3 11) qh)))) (gn3 13)) (jX (or3 (D9 (tb3 (ER (fun t => jV t "bool") (v3 13)))) (or3 (tb3 (o3 (Qb true) (v3 13) (cb3 S_law_is_bars (qc (v3 3) (qc (v3 5) (qc (v3 11) qh)))))) (tb3 (o3 (Qb true) (cb3 (Et true) (qc (Zo (qc (v3 11) (qc (v3 5) qh))) qh)) (v3 12))))) (ze (c3 (.bl false))) qT)))))))))))))
noncomputable def Uo := ((eDr Yw (aOf (qf (qN 8) qw))) : PwE 1 _)
noncomputable def U0 := ((WB (eDr (dSp zV false) (aOf (qf (bV 9) (qf (qH Eh (qf (bV 5) qw)) qw)))) 9 [false,false,false,false,false,true,false,false,false,true] ⟨rfl⟩ ⟨rfl⟩) : PwS 2 _)
noncomputable def Ui := ((Yz (WB (eOf (qH (Ca true) (qf (ED (qf (bV 11) (qf (bV 5) qw)) ⟨rfl⟩) qw))) 12 [false,false,false,false,false,true,false,false,false,false,false,true] ⟨rfl⟩ ⟨rfl⟩) (Yz (WB (eOf (qH (j6 qG false) (qf (bV 3) (qf (bV 5) (qf (bV 11) qw))))) 13 [false,false,false,true,false,true,false,false,false,false,false,true] ⟨rfl⟩ ⟨rfl⟩) (wIf (cOf (bOr (CK (bTb (WD (fun t => jV t "bool") (bV 13)))) (bOr (bTb (bO (JP true) (bV 13) (qH (j6 za false) (qf (bV 3) (qf (bV 5) (qf (bV 11) qw)))))) (bTb (bO (JP true) (qH (Ca true) (qf (ED (qf (bV 11) (qf (bV 5) qw)) ⟨rfl⟩) qw)) (bV 12)))))) (EY (eOf (bBl false))) Yr))) : PwS 2 _)
noncomputable def U1 := ((Yz (WB (eOf (qH LY (qf (bV 6) qw))) 9 [false,false,false,false,false,false,true] ⟨rfl⟩ ⟨rfl⟩) (Yz (qc7 (iOf (UB (qf (bO Zp (qN 1) (qH qgj (qf (bO (opB fun i j => decide (j < i)) (bO Qe (bV 4) (bV 8)) (qN 4)) qw))) qw))) (gN 10) U0 [false,false,false,false,true,false,false,false,true] ⟨rfl⟩ ⟨rfl⟩) (qc7 (iOf (RQ (Vs (qf (bV 9) (qf (bV 6) (qf (bO Qe (bV 7) (bO Qe (bV 4) (bV 8))) qw))) ⟨rfl⟩))) (gN 11) Ui [false,false,false,false,true,false,true,true,true,true] ⟨rfl⟩ ⟨rfl⟩))) : PwS 2 _)
noncomputable def Ra : PwS 2 (qfl Bk.qt (DSp jp.W true) Bk.jj (PSp zU false) (DSp zV.W false) (PSp qG false) (PSp za false)) := (Yz (WB (eO Zp (eOf (qN 1)) (eDr Yw (aOf (qf (qN 6) qw)))) 3 [] ⟨rfl⟩ ⟨rfl⟩) (Yz (WB (eLc 1 (iOf (UB (qf (qN 12) qw))) (gN 0) (cOf bTt) Uo [none,some 2] ⟨rfl⟩ ⟨rfl⟩) 4 [] ⟨rfl⟩ ⟨rfl⟩) (Yz (WB (eO UL (eDr (dSp jp true) (aOf qw)) (qfd (Yt (eDr Lz (aOf qw)) (aOf qw)) ⟨rfl⟩)) 5 [] ⟨rfl⟩ ⟨rfl⟩) (Yz (WB (eOf (bSl (bV 5) bNp (bSp (qN 5)))) 5 [false,false,false,false,false,true] ⟨rfl⟩ ⟨rfl⟩) (Yz (WB (eOf (qH (j6 zU false) (qf (bV 3) (qf (bV 5) qw)))) 6 [false,false,false,true,false,true] ⟨rfl⟩ ⟨rfl⟩) (Yz (WB (eOf (ED (qf Rz (qf (Vs qw ⟨rfl⟩) (qf (qH qde (qf (bV 6) qw)) (qf (WG "") (qf (qN 0) (qf (bBl true) (qf (ED qw ⟨rfl⟩) (qf (ED (qf (ED qw ⟨rfl⟩) qw) ⟨rfl⟩) qw)))))))) ⟨rfl⟩)) 7 [false,false,false,false,false,false,true] ⟨rfl⟩ ⟨rfl⟩) (qc7 (iOf (UB (qf (qN 12) qw))) (gN 8) U1 [] ⟨rfl⟩ ⟨rfl⟩)))))))
theorem MZ (h : ∀ k : Nat,k ≤ 60 → Ra.w [.un,.sh (.int k),.un,.un,.un,.un,.un,.un,.un,.un,.un,.un,.un,.un] 0 okW) : Rd VJ 1 (K37.KT Bk.Zh Bk.qt (DSp jp.W true) Bk.jj (PSp zU false) (DSp zV.W false) (PSp qG false) (PSp za false)) RU := Re Ra RU 6 11 ⟨by decide,by decide⟩ rfl h
end K37
namespace K37
open PySem L2 L3 Pu Pv
open Bk (Wk)
noncomputable def j5 : PyData → Bool
 | .int _ => true
 | _ => false
theorem qih {d : PyData} (h : (tyD d).isSome = true) : zr [d] = some (.bool (j5 d)) := by
 rw [UV]
 cases d <;> simp only [tyD,Option.isSome_none,Bool.false_eq_true] at h <;> try simp only [Pu.pwA,QP,j5] <;> rfl
theorem qhn {d : PyData} {e : Int} (h : (tyD d).isSome = true) : ql [d,.int e] = some (.bool (match d with | .int i => decide (0 ≤ i) && decide (i < e) | _ => false)) := by
 have na := qih h
 rw [J7]
 cases d with
 | int i =>
  try simp only [Pu.pwA,zg,na,j5]
  by_cases z : 0 ≤ i
  ·try simp only [Pu.pwA,z]
  ·try simp only [Pu.pwA,z]
 | _ => try simp only [Pu.pwA,zg,na,j5]
end K37
namespace K37
open PySem L2 L3 Pu Pv
open Bk (Wk)
noncomputable def inB (d : PyData) (n : Nat) : Bool := match d with | .int i => decide (0 ≤ i) && decide (i < (n : Int)) | _ => false
theorem KR {d : PyData} {n : Nat} (h : (tyD d).isSome = true) : ql [d,.int (n : Int)] = some (.bool (inB d n)) := by
 rw [qhn h];cases d <;> rfl
noncomputable def alk (ns : List Int) (dk dl : PyData) : Bool := match dk,dl with
 | .int k,.int l => decide (k < l) && decide (ns.getD k.toNat 0 = ns.getD l.toNat 0)
 | _,_ => false
theorem Wy {ns : List Int} {k : Int} (h0 : 0 ≤ k) (h1 : k < (ns.length : Int)) : L2.atI (ns.map PyData.int) k = some (.int (ns.getD k.toNat 0)) := by
 obtain ⟨i,rfl⟩ := Int.eq_ofNat_of_zero_le h0
 have hi : i < ns.length := by omega
 rw [atN (by simpa using hi),List.getElem?_map,List.getElem?_eq_getElem hi,Int.toNat_natCast,List.getD_eq_getElem?_getD,List.getElem?_eq_getElem hi]
 rfl
theorem qic {ns : List Int} {dk dl : PyData} (hk : (tyD dk).isSome = true) (hl : (tyD dl).isSome = true) : zy [.tuple (ns.map PyData.int),dk,dl] = some (.bool (inB dk ns.length && inB dl ns.length && alk ns dk dl)) := by
 have nk := KR (n := ns.length) hk
 have nl := KR (n := ns.length) hl
 rw [E7]
 cases a : inB dk ns.length with
 | false =>
  rw [a] at nk
  try simp only [Pu.pwA,zR,nk,List.length_map,Bool.false_and]
 | true =>
  rw [a] at nk
  cases b : inB dl ns.length with
  | false =>
   rw [b] at nl
   try simp only [Pu.pwA,zR,nk,nl,List.length_map,Bool.and_false,Bool.false_and]
  | true =>
   rw [b] at nl
   cases dk with
   | int k => cases dl with
    | int l =>
     simp only [inB,Bool.and_eq_true,decide_eq_true_eq] at a b
     have e1 := Wy a.1 a.2
     have e2 := Wy b.1 b.2
     by_cases c : k < l
     ·try simp only [Pu.pwA,zR,nk,nl,List.length_map,c,e1,e2,alk,decide_true,Bool.true_and]
     ·try simp only [Pu.pwA,zR,nk,nl,List.length_map,c,alk,decide_false,Bool.false_and,Bool.and_false]
    | _ => simp [inB] at b
   | _ => simp [inB] at a
end K37
namespace K37
open PySem L2 L3 Pu Pv
open Bk (Wk)
noncomputable def wAt (ws : List Wk) (i : Nat) : Wk := ws.getD i (.line 0 1)
noncomputable def Ny (B a b : Int) (ws : List Wk) (n k l : PyData) : Bool := match n with
 | .int i => decide (0 ≤ i) && decide (i < (ws.length : Int)) && (inB k (rst B a b (wAt ws i.toNat).pc).length && inB l (rst B a b (wAt ws i.toNat).pc).length && alk (rst B a b (wAt ws i.toNat).pc) k l)
 | _ => false
noncomputable def Vr (B a b : Int) (ws : List Wk) : PyData → Bool
 | .tuple [n,k,l] => Ny B a b ws n k l
 | _ => false
theorem t3 : ((1 + 1 + 1 : Nat) : Int) = 3 := rfl
theorem Dk : jV "tuple" "tuple" = true := rfl
theorem Ld : jV "int" "tuple" = false := rfl
theorem LU : jV "bool" "tuple" = false := rfl
theorem La : jV "NoneType" "tuple" = false := rfl
theorem KU : jV "str" "tuple" = false := rfl
theorem LN : jV "list" "tuple" = false := rfl
def kn (t : PyData) : Prop := (tyD t).isSome = true∧∀ ds,t = .tuple ds → ∀ d ∈ ds,(tyD d).isSome = true
theorem qh3 {B a b : Int} {ws : List Wk} {t : PyData} (hB : 1 ≤ B) (ha : 0 ≤ a∧a ≤ 1000) (hb : 0 ≤ b∧b ≤ 1000) (ok : ∀ w ∈ ws,Big w) (ht : kn t) : Qo [.int B,.tuple [.int a,.int b],.list (ws.map Wk.d),t] = some (.bool (Vr B a b ws t)) := by
 obtain ⟨h0,h1⟩ := ht
 rw [Cz]
 cases t with
 | tuple ds =>
  by_cases e : ds.length = 3
  ·obtain ⟨n,k,l,rfl⟩ := WA e
   have hn := h1 _ rfl n (by simp)
   have hk := h1 _ rfl k (by simp)
   have hl := h1 _ rfl l (by simp)
   have nb := KR (n := ws.length) hn
   cases c : inB n ws.length with
   | false =>
    rw [c] at nb
    have e0 : Vr B a b ws (.tuple [n,k,l]) = false := by
     unfold Vr Ny
     cases n <;> simp [inB] at c ⊢
     rename_i i
     intro z1 z2
     exact absurd z2 (by have := c z1;omega)
    rw [e0]
    try simp only [Pu.pwA,ja,Dk,t3,nb,List.length_map]
   | true =>
    rw [c] at nb
    cases n with
    | int i =>
     simp only [inB,Bool.and_eq_true,decide_eq_true_eq] at c
     obtain ⟨j,rfl⟩ := Int.eq_ofNat_of_zero_le c.1
     have hj : j < ws.length := by omega
     have ew : wAt ws j = ws[j] := by unfold wAt;rw [List.getD_eq_getElem?_getD,List.getElem?_eq_getElem hj];rfl
     have ai : L2.atI (ws.map Wk.d) (j : Int) = some (Wk.d ws[j]) := by
      rw [atN (by simpa using hj),List.getElem?_map,List.getElem?_eq_getElem hj];rfl
     have rb := qge (B := B) (a := a) (b := b) hB ha hb (ok _ (List.getElem_mem hj))
     have aa := qic (ns := rst B a b ws[j].pc) hk hl
     try simp only [Pu.pwA,ja,Dk,t3,nb,ai,rb,aa,Vr,Ny,Int.toNat_natCast,ew,c,List.length_map,decide_true,Bool.true_and,Bool.and_self]
    | _ => simp [inB] at c
  ·have e1 : ¬ (ds.length : Int) = 3 := by omega
   have e0 : Vr B a b ws (.tuple ds) = false := by
    unfold Vr
    split
    ·rename_i x;injection x with x;subst x;exact absurd rfl e
    ·rfl
   rw [e0]
   try simp only [Pu.pwA,ja,Dk,e1]
 | int i => try simp only [Pu.pwA,ja,Ld,Vr]
 | bool i => try simp only [Pu.pwA,ja,LU,Vr]
 | none => try simp only [Pu.pwA,ja,La,Vr]
 | str i => try simp only [Pu.pwA,ja,KU,Vr]
 | list i => try simp only [Pu.pwA,ja,LN,Vr]
 | _ => simp [tyD] at h0
end K37
namespace K37
open PySem L2 L3 Pu Pv
open Bk (Wk)
noncomputable def fac (B : Nat) : List (Int × Int) := Bk.zx B B
theorem qgf {B : Nat} (h : B ≤ 100) : qs [.int (B : Int)] = some (.list ((fac B).map pD)) := by
 rw [Vv]
 try simp only [Pu.pwA,jR]
 rw [Xc (ds := (jW 0 B).map PyData.int) (fs := (fac B).map pD)]
 ·try simp only [Pu.pwA]
 ·try simp (disch := omega) only [Pu.pwA,Du,Int.toNat_natCast]
 ·have : (fac B).map pD = (jW 0 B).flatMap fun p => (jW 0 B).map fun q => pD (p,q) := by
   simp only [fac,Bk.zx,jW,List.map_flatMap,List.map_map,List.flatMap_map,Function.comp_def,Int.zero_add]
  rw [this]
  refine DF fun p hp => ?_
  try simp (disch := omega) only [Pu.pwA,TK,Du,Int.toNat_natCast]
  rw [j7 (k := fun q => pD (p,q)) fun q hq => ?_]
  ·try simp only [Pu.pwA]
  ·try simp only [Pu.pwA,JQ,pD]
 ·have := Nat.mul_le_mul h h
  rw [List.length_map,fac,Bk.zK];omega
theorem SQ {B : Nat} {p : Int × Int} (h : p ∈ fac B) : (0 ≤ p.1∧p.1 < B)∧(0 ≤ p.2∧p.2 < B) := by
 obtain ⟨i,hi,h⟩ := List.mem_flatMap.mp h
 obtain ⟨j,hj,rfl⟩ := List.mem_map.mp h
 have := List.mem_range.mp hi
 have := List.mem_range.mp hj
 simp;omega
noncomputable def ZO (B : Nat) (ws : List Wk) : PyData → Bool
 | .list ds => decide (ds.length = B * B) && ((fac B).zip ds).all fun p => Vr B p.1.1 p.1.2 ws p.2
 | _ => false
theorem NV (a : List (Int × Int)) (ds : List PyData) : Kh (a.map pD) ds = (a.zip ds).map fun p => .tuple [pD p.1,p.2] := by
 unfold Kh
 rw [List.zip_map_left,List.map_map]
 rfl
theorem R6 : jV "list" "list" = true := rfl
theorem qaa : jV "int" "list" = false := rfl
theorem NR : jV "bool" "list" = false := rfl
theorem SM : jV "NoneType" "list" = false := rfl
theorem T2 : jV "str" "list" = false := rfl
theorem Ta : jV "tuple" "list" = false := rfl
theorem qii {B : Nat} {ws : List Wk} {t : PyData} (b1 : 1 ≤ B) (b2 : B ≤ 100) (ok : ∀ w ∈ ws,Big w) (ht : (tyD t).isSome = true) (hk : ∀ ds,t = .list ds → ∀ d ∈ ds,kn d) : qG [.int (B : Int),.list (ws.map Wk.d),t] = some (.bool (ZO B ws t)) := by
 rw [Yv]
 cases t with
 | list ds =>
  have af := qgf b2
  have mm : cI Qm (· * ·) (.int (B : Int)) (.int (B : Int)) = some (.int ((B * B : Nat) : Int)) := by
   rw [DM (by omega)];simp
  by_cases e : ds.length = B * B
  ·have e1 : (ds.length : Int) = ((B * B : Nat) : Int) := by rw [e]
   try simp only [Pu.pwA,qv,R6,mm,e1,ZO,e,decide_true,Bool.true_and]
   rw [Zy (ds := Kh ((fac B).map pD) ds) (fs := (((fac B).zip ds).map fun p => Vr B p.1.1 p.1.2 ws p.2).map PyData.bool)]
   ·try simp only [Pu.pwA,Wd,List.all_map]
    rfl
   ·try simp only [Pu.pwA,af]
   ·rw [NV,List.map_map]
    refine j7 fun p hp => ?_
    have m := List.of_mem_zip hp
    have f := SQ m.1
    have ib := qh3 (B := (B : Int)) (a := p.1.1) (b := p.1.2) (ws := ws) (t := p.2) (by omega) (by omega) (by omega) ok (hk ds rfl _ m.2)
    try simp only [Pu.pwA,JQ,pD,ib,Function.comp_def]
   ·have := Nat.mul_le_mul b2 b2
    simp;omega
  ·have e1 : ¬ (ds.length : Int) = ((B * B : Nat) : Int) := by omega
   try simp only [Pu.pwA,qv,R6,mm,e1,ZO,e,decide_false,Bool.false_and]
 | int i => try simp only [Pu.pwA,qv,qaa,ZO]
 | bool i => try simp only [Pu.pwA,qv,NR,ZO]
 | none => try simp only [Pu.pwA,qv,SM,ZO]
 | str i => try simp only [Pu.pwA,qv,T2,ZO]
 | tuple i => try simp only [Pu.pwA,qv,Ta,ZO]
 | _ => simp [tyD] at ht
end K37
namespace K37
open PySem L2 L3 Pu Pv
open Bk (Wk jf zx Zj lnD lnA)
theorem Lh {i : Nat} {es ds : List PyData} {ρ : Rho} (h : slot ρ i = some ds) (hl : ds.length + es.length ≤ 16777216) : qab i (.list es) ρ = some (.nx (ρ.set i (.ow (ds ++ es)))) := by unfold qab;rw [h];simp only [Option.bind_some];exact zF hl
theorem LV {s : Str} {m : Int} : slD (.tuple [.str s,.int m]) (some 1) (some 3) = some (.tuple [.int m]) := Dw (by simp [HT.sIx])
theorem KS {s : Str} {u v m : Int} : slD (.tuple [.str s,.int u,.int v,.int m]) (some 1) (some 3) = some (.tuple [.int u,.int v]) := Dw (by simp [HT.sIx])
theorem qf5 {x y : PyData} : L2.atI [x,y] (-1) = some y := rfl
theorem qd1 {x y z w : PyData} : L2.atI [x,y,z,w] (-1) = some w := rfl
theorem qgr {w : Wk} (ok : Big w) : qE [Wk.d w] = some (.list (w.pc.map pD)) := by
 rw [UY]
 cases w with
 | cells ps =>
  try simp only [Pu.pwA,zp,Wk.d,eq_self,Wk.pc]
 | block h v =>
  obtain ⟨h1,h2⟩ := ok
  try simp (disch := omega) only [Pu.pwA,zp,Wk.d,eq_self,L3.ZV,Wk.pc,Du,Int.toNat_natCast]
  rw [Option.bind_assoc]
  refine Ut (Q := fun o => Jm true o = _) (jW 0 h) (fun i ρ => ∃ s2 s3 s4,ρ = [.sh (Wk.d (.block h v)),.ow ((zx i v).map pD),s2,s3,s4]) ⟨_,_,_,rfl⟩ ?_ ?_
  ·rintro i x ρ hx ⟨s2,s3,s4,rfl⟩
   obtain ⟨hi,rfl⟩ := jO hx
   try simp only [Pu.pwA,Wk.d]
   rw [Zy (ds := (jW 0 v).map PyData.int) (fs := ((List.range v).map fun (q : Nat) => ((i : Int),(q : Int))).map pD)]
   rotate_left
   ·try simp (disch := omega) only [Pu.pwA,Du,Int.toNat_natCast]
   ·unfold jW
    rw [List.map_map,List.map_map]
    refine j7 fun q hq => ?_
    try simp only [Pu.pwA,JQ,pD,Int.zero_add,Function.comp_def]
   ·simp;omega
   try simp only [Pu.pwA]
   rw [Lh (ds := (zx i v).map pD) rfl (by
    have := Nat.mul_le_mul (show i ≤ 1000 by omega) h2
    rw [List.length_map,Bk.zK,List.length_map,List.length_map,List.length_range];omega)]
   try simp only [Pu.pwA]
   rw [Bk.JM,List.map_append]
   exact ⟨_,_,_,rfl⟩
  ·rintro ρ ⟨s2,s3,s4,rfl⟩
   rw [Qq]
   try simp only [Pu.pwA]
 | step d a m =>
  obtain ⟨h1,h2,h3⟩ := ok
  have e5 : RF ["row","column","slant","back","step"] [.tuple [.int 0,.int 1],.tuple [.int 1,.int 0],.tuple [.int 1,.int 1],.tuple [.int 1,.int (-1)],.tuple [.int d,.int a]] "step" = some (.tuple [.int d,.int a]) := rfl
  try simp only [Pu.pwA,zp,Wk.d,L3.Jy,L3.J2,Wk.pc,KS,e5]
  rw [Zy (ds := (jW 0 m).map PyData.int) (fs := (jf d a m).map pD)]
  ·try simp only [Pu.pwA]
  ·try simp (disch := omega) only [Pu.pwA,qd1,Du,Int.toNat_natCast]
  ·unfold jf jW
   rw [List.map_map,List.map_map]
   refine j7 fun t ht => ?_
   have := List.mem_range.mp ht
   try simp (disch := omega) only [Pu.pwA,JQ,pD,U9,Int.zero_add,Function.comp_def]
  ·simp [jf];omega
 | line k m =>
  obtain ⟨h1,h2⟩ := ok
  have key : ∀ (d a : Int),(-1000 ≤ d∧d ≤ 1000) → (-1000 ≤ a∧a ≤ 1000) → ∀ s : Str,Str.ofString "cells" ≠ s → Str.ofString "block" ≠ s → RF ["row","column","slant","back","step"] [.tuple [.int 0,.int 1],.tuple [.int 1,.int 0],.tuple [.int 1,.int 1],.tuple [.int 1,.int (-1)],.tuple [.int (m : Int)]] s = some (.tuple [.int d,.int a]) → Jm true (zp.f 1000000000 [.sh (.tuple [.str s,.int (m : Int)]),.un,.un,.un,.un]) = some (.list ((jf d a m).map pD)) := by
   intro d a hd ha s n1 n2 e5
   have n1' : ¬ s = Str.ofString "cells" := fun z => n1 z.symm
   have n2' : ¬ s = Str.ofString "block" := fun z => n2 z.symm
   try simp only [Pu.pwA,zp,n1',n2',LV,e5]
   rw [Zy (ds := (jW 0 m).map PyData.int) (fs := (jf d a m).map pD)]
   ·try simp only [Pu.pwA]
   ·try simp (disch := omega) only [Pu.pwA,qf5,Du,Int.toNat_natCast]
   ·unfold jf jW
    rw [List.map_map,List.map_map]
    refine j7 fun t ht => ?_
    have := List.mem_range.mp ht
    try simp (disch := omega) only [Pu.pwA,JQ,pD,U9,Int.zero_add,Function.comp_def]
   ·simp [jf];omega
  have : (k = 0 ∨ k = 1 ∨ k = 2 ∨ k = 3) := by omega
  rcases this with rfl | rfl | rfl | rfl
  ·exact key 0 1 (by omega) (by omega) "row" (by decide) (by decide) rfl
  ·exact key 1 0 (by omega) (by omega) "column" (by decide) (by decide) rfl
  ·exact key 1 1 (by omega) (by omega) "slant" (by decide) (by decide) rfl
  ·exact key 1 (-1) (by omega) (by omega) "back" (by decide) (by decide) rfl
theorem DI {gf : PyData → Option (List (Nat × PyData))} {bf : Rho → Option Ot} {α : Type} {g : α → PyData} {d : PyData} {b : Bool} (p : α → Bool) (J : Rho → Prop) : ∀ (xs : List α) {ρ : Rho},J ρ → (∀ x ∈ xs,∀ ρ,J ρ → ∃ ρ',J ρ'∧((gf (g x)).bind fun bs => bf (j4 ρ bs)) = some (if p x then .nx ρ' else .rt d b)) → ∃ ρ',J ρ'∧JD gf bf (xs.map g) ρ = some (if xs.all p then .nx ρ' else .rt d b)
 | [],ρ,h0,_ => ⟨ρ,h0,rfl⟩
 | x :: xs,ρ,h0,hs => by
  obtain ⟨ρ1,h1,e1⟩ := hs x (by simp) ρ h0
  obtain ⟨bs,e2,e3⟩ := Option.bind_eq_some_iff.mp e1
  cases hp : p x with
  | true =>
   obtain ⟨ρ2,h2,e4⟩ := DI p J xs h1 fun y hy => hs y (by simp [hy])
   refine ⟨ρ2,h2,?_⟩
   rw [hp,if_pos rfl] at e3
   simp only [List.map_cons,JD,e2,Option.bind_some,e3,List.all_cons,hp,Bool.true_and]
   exact e4
  | false =>
   refine ⟨ρ1,h1,?_⟩
   rw [hp,if_neg Bool.false_ne_true] at e3
   simp only [List.map_cons,JD,e2,Option.bind_some,e3,List.all_cons,hp,Bool.false_and]
   rfl
theorem KI {gf : PyData → Option (List (Nat × PyData))} {bf : Rho → Option Ot} {α : Type} {g : α → PyData} {d : PyData} {b : Bool} {ρ : Rho} {Q : Option Ot → Prop} {F : Ot → Option Ot} (p : α → Bool) (J : Rho → Prop) (xs : List α) (h0 : J ρ) (hs : ∀ x ∈ xs,∀ ρ,J ρ → ∃ ρ',J ρ'∧((gf (g x)).bind fun bs => bf (j4 ρ bs)) = some (if p x then .nx ρ' else .rt d b)) (k1 : xs.all p = true → ∀ ρ',J ρ' → Q (F (.nx ρ'))) (k2 : xs.all p = false → Q (F (.rt d b))) : Q ((JD gf bf (xs.map g) ρ).bind F) := by
 obtain ⟨ρ',h,e⟩ := DI (gf := gf) (bf := bf) p J xs h0 hs
 rw [e]
 cases hP : xs.all p with
 | true => exact k1 hP ρ' h
 | false => exact k2 hP
theorem qgd {B a b : Int} {cs : List (Int × Int)} (hB : 1 ≤ B) (ha : 0 ≤ a∧a ≤ 1000) (hb : 0 ≤ b∧b ≤ 1000) (hl : cs.length ≤ 1000000) : qq [.list (cs.map pD),.int B,.int a,.int b] = some (.list ((rst B a b cs).map PyData.int)) := by
 rw [YU]
 try simp only [Pu.pwA,jt]
 rw [Zy (ds := cs.map pD) (fs := (rst B a b cs).map PyData.int)]
 ·try simp only [Pu.pwA]
 ·try simp only [Pu.pwA]
 ·rw [rst,List.map_map]
  refine j7 fun p hp => ?_
  try simp (disch := omega) only [Pu.pwA,JQ,pD,U9,UG,Function.comp_def]
 ·simp [rst];omega
theorem Dm : ∀ (ds : List PyData) (k : Nat),enD k ds = (ds.zipIdx k).map fun p => PyData.tuple [.int (p.2 : Int),p.1]
 | [],_ => rfl
 | d :: ds,k => by simp only [enD,List.zipIdx_cons,List.map_cons,Dm ds (k + 1)]
theorem UD (w : Nat) : ∀ (h i : Nat),i < h * w → (zx h w)[i]? = some (((i / w : Nat) : Int),((i % w : Nat) : Int))
 | 0,i,hi => by omega
 | h + 1,i,hi => by
  rw [Bk.JM]
  by_cases c : i < h * w
  ·rw [List.getElem?_append_left (by rw [Bk.zK];exact c)];exact UD w h i c
  ·obtain ⟨r,rfl⟩ := Nat.exists_eq_add_of_le (Nat.le_of_not_lt c)
   have hr : r < w := by rw [Nat.succ_mul] at hi;omega
   rw [List.getElem?_append_right (by rw [Bk.zK];omega),Bk.zK,Nat.add_sub_cancel_left,List.getElem?_map,List.getElem?_range hr]
   have e1 : (h * w + r) / w = h := by rw [Nat.mul_comm,Nat.mul_add_div (by omega),Nat.div_eq_of_lt hr];rfl
   have e2 : (h * w + r) % w = r := by rw [Nat.mul_comm,Nat.mul_add_mod,Nat.mod_eq_of_lt hr]
   rw [e1,e2];rfl
theorem DK {f : (Int × Int) × PyData → Bool} {g : PyData × Nat → Bool} : ∀ (ds : List PyData) (k : Nat) (fs : List (Int × Int)),fs.length = ds.length → (∀ i p d,fs[i]? = some p → ds[i]? = some d → f (p,d) = g (d,k + i)) → (fs.zip ds).all f = (ds.zipIdx k).all g
 | [],k,fs,h,_ => by simp at h ⊢
 | d :: ds,k,[],h,_ => by simp at h
 | d :: ds,k,p :: fs,h,hs => by
  rw [List.zip_cons_cons,List.all_cons,List.zipIdx_cons,List.all_cons,DK ds (k + 1) fs (by simpa using h) fun i p' d' h1 h2 => ?_,hs 0 p d rfl rfl]
  ·rfl
  ·rw [show k + 1 + i = k + (i + 1) by omega];exact hs (i + 1) p' d' h1 h2
theorem KC {B : Nat} {ws : List Wk} {ds : List PyData} (h : ds.length = B * B) : ZO B ws (.list ds) = (ds.zipIdx 0).all fun q => Vr B ((q.2 / B : Nat) : Int) ((q.2 % B : Nat) : Int) ws q.1 := by
 show (decide (ds.length = B * B) && _) = _
 rw [decide_eq_true h,Bool.true_and]
 refine DK ds 0 _ (by rw [fac,Bk.zK,h]) fun i p d h1 h2 => ?_
 have hi : i < B * B := by rw [← h];exact (List.getElem?_eq_some_iff.mp h2).1
 rw [fac,UD B B i hi] at h1
 cases h1
 rw [Nat.zero_add]
theorem Lc {B a b : Int} {ws : List Wk} {n k l : PyData} (h : (j5 n && (j5 k && j5 l)) = false) : Vr B a b ws (.tuple [n,k,l]) = false := by
 unfold Vr Ny
 cases n <;> try rfl
 cases k <;> simp [inB]
 cases l <;> simp
 simp [j5] at h
theorem Ja {B a b : Int} {ws : List Wk} {n k l : Int} : Vr B a b ws (.tuple [.int n,.int k,.int l]) = decide ((0 ≤ n∧n < (ws.length : Int))∧(0 ≤ k∧k < l)∧l < ((wAt ws n.toNat).pc.length : Int)∧(rst B a b (wAt ws n.toNat).pc).getD k.toNat 0 = (rst B a b (wAt ws n.toNat).pc).getD l.toNat 0) := by
 rw [Bool.eq_iff_iff]
 simp only [Vr,Ny,inB,alk,JK,Bool.and_eq_true,decide_eq_true_eq]
 constructor
 ·rintro ⟨h1,⟨⟨h2,h3⟩,h4⟩,h5,h6⟩;exact ⟨h1,⟨h2,h5⟩,h4.2,h6⟩
 ·rintro ⟨h1,⟨h2,h5⟩,h4,h6⟩;exact ⟨h1,⟨⟨h2,by omega⟩,by omega,h4⟩,h5,h6⟩
end K37
namespace K37
open PySem L2 L3 Pu Pv
open Bk (Wk jf zx Zj lnD lnA)
noncomputable def VO (ws : List Wk) : List PyData := ws.map fun w => .list (w.pc.map pD)
theorem KN {ws : List Wk} {n : Int} (h0 : 0 ≤ n) (h1 : n < (ws.length : Int)) : L2.atI (VO ws) n = some (.list ((wAt ws n.toNat).pc.map pD))∧wAt ws n.toNat ∈ ws := by
 obtain ⟨j,rfl⟩ := Int.eq_ofNat_of_zero_le h0
 have hj : j < ws.length := by omega
 have ew : wAt ws j = ws[j] := by unfold wAt;rw [List.getD_eq_getElem?_getD,List.getElem?_eq_getElem hj];rfl
 rw [Int.toNat_natCast,ew]
 refine ⟨?_,List.getElem_mem hj⟩
 rw [atN (by simpa [VO] using hj),VO,List.getElem?_map,List.getElem?_eq_getElem hj];rfl
theorem VM {B a b : Int} {ws : List Wk} {t : PyData} (h : ∀ ds,t = .tuple ds → ds.length ≠ 3) : Vr B a b ws t = false := by
 unfold Vr
 split
 ·exact absurd rfl (h _ rfl)
 ·rfl
theorem Kj : jV "int" "int" = true := rfl
theorem qbv : jV "int" "bool" = false := rfl
theorem Kd : jV "bool" "bool" = true := rfl
theorem NJ : jV "bool" "int" = true := rfl
theorem TC : jV "NoneType" "int" = false := rfl
theorem Kb : jV "str" "int" = false := rfl
theorem Sk : jV "list" "int" = false := rfl
theorem ST : jV "tuple" "int" = false := rfl
theorem qhp {B : Nat} {ws : List Wk} {t : PyData} (b1 : 1 ≤ B) (b2 : B ≤ 100) (lw : ws.length ≤ 1000) (ok : ∀ w ∈ ws,Big w) (ht : (tyD t).isSome = true) (hk : ∀ ds,t = .list ds → ∀ d ∈ ds,kn d) : za [.int (B : Int),.list (ws.map Wk.d),t] = some (.bool (ZO B ws t)) := by
 rw [V7]
 have lr : (VO ws).length = ws.length := by simp [VO]
 have mm : cI Qm (· * ·) (.int (B : Int)) (.int (B : Int)) = some (.int ((B * B : Nat) : Int)) := by
  rw [DM (by omega)];simp
 try simp only [Pu.pwA,jI]
 rw [Zy (ds := ws.map Wk.d) (fs := VO ws)]
 rotate_left
 ·try simp only [Pu.pwA]
 ·refine j7 fun w hw => ?_
  try simp only [Pu.pwA,JQ,qgr (ok w hw)]
 ·rw [lr];omega
 cases t with
 | list ds =>
  by_cases e : ds.length = B * B
  ·have e1 : (ds.length : Int) = ((B * B : Nat) : Int) := by rw [e]
   rw [KC e]
   try simp only [Pu.pwA,R6,mm,e1,Dm]
   refine KI (Q := fun o => Jm false o = _) (d := .bool false) (b := false) (fun q : PyData × Nat => Vr B ((q.2 / B : Nat) : Int) ((q.2 % B : Nat) : Int) ws q.1) (fun ρ => ∃ r s4 s5 s6 s7 s8 s9,(Sl.d r = some (.list (VO ws))∧Sl.dem r = .sh (.list (VO ws)))∧ρ = [.sh (.int (B : Int)),.sh (.list (ws.map Wk.d)),.sh (.list ds),r,s4,s5,s6,s7,s8,s9]) (ds.zipIdx 0) ⟨_,_,_,_,_,_,_,⟨rfl,rfl⟩,rfl⟩ ?_ ?_ ?_
   ·rintro ⟨d,i⟩ hq ρ ⟨r,s4,s5,s6,s7,s8,s9,⟨r1,r2⟩,rfl⟩
    have hi : i < B * B∧d ∈ ds := by
     obtain ⟨j,hj⟩ := List.mem_iff_getElem?.mp hq
     rw [List.getElem?_zipIdx] at hj
     obtain ⟨c,hc,hcd⟩ := Option.map_eq_some_iff.mp hj
     cases hcd
     have := (List.getElem?_eq_some_iff.mp hc).1
     exact ⟨by omega,List.mem_of_getElem? hc⟩
    obtain ⟨k0,k1⟩ := hk ds rfl d hi.2
    have fin : ∀ {p : Bool} {o : Option Ot},p = false → o = some (.rt (.bool false) false) → ∃ ρ',(∃ r s4 s5 s6 s7 s8 s9,(Sl.d r = some (.list (VO ws))∧Sl.dem r = .sh (.list (VO ws)))∧ρ' = [Sl.sh (.int (B : Int)),.sh (.list (ws.map Wk.d)),.sh (.list ds),r,s4,s5,s6,s7,s8,s9])∧o = some (if p then .nx ρ' else .rt (.bool false) false) := fun {p o} hp ho => ⟨_,⟨_,.un,.un,.un,.un,.un,.un,⟨r1,r2⟩,rfl⟩,by rw [hp,ho];rfl⟩
    cases d with
    | tuple us =>
     by_cases e3 : us.length = 3
     ·obtain ⟨n,k,l,rfl⟩ := WA e3
      have hn := k1 _ rfl n (by simp)
      have hkk := k1 _ rfl k (by simp)
      have hl := k1 _ rfl l (by simp)
      have al : ∀ {pi : Rho → Option (List PyData)} {h : Rho → PyData → Option (Option PyData)} {m : List (Option Nat)} {ρ : Rho},pi ρ = some [n,k,l] → (∀ d ∈ [n,k,l],(tyD d).isSome = true → h (Vt m ρ) d = some (some (.bool (j5 d)))) → (lcF pi h m ρ) = some (.list ([j5 n,j5 k,j5 l].map PyData.bool)) := fun {pi h m ρ} h1 h2 => by
       refine Zy h1 ?_ (by simp)
       have e0 : [n,k,l] = [n,k,l].map id := rfl
       rw [e0]
       exact j7 (k := fun d => PyData.bool (j5 d)) fun d hd => h2 d hd (by
        simp at hd;rcases hd with rfl | rfl | rfl <;> assumption)
      try simp only [Pu.pwA,Dk,t3]
      rw [al (by try simp only [Pu.pwA]) fun d hd h => by
       cases d <;> simp only [tyD,Option.isSome_none,Bool.false_eq_true] at h <;> try simp only [Pu.pwA,JQ,j5,Kj,qbv,Kd,NJ,TC,Kb,Sk,ST]]
      try simp only [Pu.pwA,Wd]
      cases an : (j5 n && (j5 k && j5 l)) with
      | false =>
       refine fin (Lc an) ?_
       try simp only [Pu.pwA,List.all_cons,List.all_nil,id,an]
      | true =>
       cases n <;> simp only [j5,Bool.false_and,Bool.false_eq_true] at an
       cases k <;> simp only [Bool.false_and,Bool.and_false,Bool.false_eq_true] at an
       cases l <;> simp only [Bool.and_false,Bool.false_eq_true] at an
       rename_i n k l
       have di : cI W5 (· / ·) (.int (i : Int)) (.int (B : Int)) = some (.int ((i / B : Nat) : Int)) := by rw [TV (by omega)];simp
       have mo : cI (fun _ j => 0 < j) (· % ·) (.int (i : Int)) (.int (B : Int)) = some (.int ((i % B : Nat) : Int)) := by rw [UG (by omega)];simp
       by_cases c1 : n < 0
       ·exact fin (by rw [Ja];simp;omega) (by try simp only [Pu.pwA,List.all_cons,List.all_nil,id,j5,c1])
       by_cases c2 : (ws.length : Int) ≤ n
       ·exact fin (by rw [Ja];simp;omega) (by try simp only [Pu.pwA,List.all_cons,List.all_nil,id,j5,r1,r2,c1,c2,lr])
       by_cases c3 : k < 0
       ·exact fin (by rw [Ja];simp;omega) (by try simp only [Pu.pwA,List.all_cons,List.all_nil,id,j5,r1,r2,c1,c2,c3,lr])
       by_cases c4 : l ≤ k
       ·exact fin (by rw [Ja];simp;omega) (by try simp only [Pu.pwA,List.all_cons,List.all_nil,id,j5,r1,r2,c1,c2,c3,c4,lr])
       obtain ⟨ra,rm⟩ := KN (ws := ws) (n := n) (by omega) (by omega)
       have pl := Sb (ok _ rm)
       by_cases c5 : ((wAt ws n.toNat).pc.length : Int) ≤ l
       ·exact fin (by rw [Ja];simp;omega) (by try simp only [Pu.pwA,List.all_cons,List.all_nil,id,j5,r1,r2,c1,c2,c3,c4,c5,lr,ra,List.length_map])
       have dv : i / B < B := Nat.div_lt_of_lt_mul hi.1
       have md : i % B < B := Nat.mod_lt _ (by omega)
       have rr := qgd (B := (B : Int)) (a := ((i / B : Nat) : Int)) (b := ((i % B : Nat) : Int)) (cs := (wAt ws n.toNat).pc) (by omega) ⟨Int.natCast_nonneg _,Int.ofNat_le.mpr (Nat.le_trans (Nat.le_of_lt dv) (Nat.le_trans b2 (by decide)))⟩ ⟨Int.natCast_nonneg _,Int.ofNat_le.mpr (Nat.le_trans (Nat.le_of_lt md) (Nat.le_trans b2 (by decide)))⟩ pl
       have g1 := Wy (ns := rst B ((i / B : Nat) : Int) ((i % B : Nat) : Int) (wAt ws n.toNat).pc) (k := k) (by omega) (by rw [JK];omega)
       have g2 := Wy (ns := rst B ((i / B : Nat) : Int) ((i % B : Nat) : Int) (wAt ws n.toNat).pc) (k := l) (by omega) (by rw [JK];omega)
       by_cases c6 : (rst B ((i / B : Nat) : Int) ((i % B : Nat) : Int) (wAt ws n.toNat).pc).getD k.toNat 0 = (rst B ((i / B : Nat) : Int) ((i % B : Nat) : Int) (wAt ws n.toNat).pc).getD l.toNat 0
       ·have tr : Vr B ((i / B : Nat) : Int) ((i % B : Nat) : Int) ws (.tuple [.int n,.int k,.int l]) = true := by
         rw [Ja,decide_eq_true_eq];exact ⟨by omega,by omega,by omega,c6⟩
        refine ⟨_,⟨.sh (.list (VO ws)),.sh (.int (i : Int)),.sh (.tuple [.int n,.int k,.int l]),.sh (.int n),.sh (.int k),.sh (.int l),.ow ((rst B ((i / B : Nat) : Int) ((i % B : Nat) : Int) (wAt ws n.toNat).pc).map PyData.int),⟨rfl,rfl⟩,rfl⟩,?_⟩
        try simp only [Pu.pwA,List.all_cons,List.all_nil,id,j5,r1,r2,c1,c2,c3,c4,c5,lr,ra,List.length_map,di,mo,rr,g1,g2,c6,tr]
       ·refine fin (by rw [Ja,decide_eq_false_iff_not];exact fun h => c6 h.2.2.2) ?_
        try simp only [Pu.pwA,List.all_cons,List.all_nil,id,j5,r1,r2,c1,c2,c3,c4,c5,lr,ra,List.length_map,di,mo,rr,g1,g2,c6]
     ·refine fin (VM fun us' h => by cases h;exact e3) ?_
      have e4 : ¬ (us.length : Int) = 3 := by omega
      try simp only [Pu.pwA,Dk,e4]
    | int i => exact fin (VM fun _ h => by cases h) (by try simp only [Pu.pwA,Ld])
    | bool i => exact fin (VM fun _ h => by cases h) (by try simp only [Pu.pwA,LU])
    | none => exact fin (VM fun _ h => by cases h) (by try simp only [Pu.pwA,La])
    | str i => exact fin (VM fun _ h => by cases h) (by try simp only [Pu.pwA,KU])
    | list i => exact fin (VM fun _ h => by cases h) (by try simp only [Pu.pwA,LN])
    | _ => simp [tyD] at k0
   ·rintro h ρ ⟨r,s4,s5,s6,s7,s8,s9,_,rfl⟩
    try simp only [Pu.pwA,h]
   ·intro h
    try simp only [Pu.pwA,h]
  ·have e1 : ¬ (ds.length : Int) = ((B * B : Nat) : Int) := by omega
   try simp only [Pu.pwA,R6,mm,e1,ZO,e,decide_false,Bool.false_and]
 | int i => try simp only [Pu.pwA,qaa,ZO]
 | bool i => try simp only [Pu.pwA,NR,ZO]
 | none => try simp only [Pu.pwA,SM,ZO]
 | str i => try simp only [Pu.pwA,T2,ZO]
 | tuple i => try simp only [Pu.pwA,Ta,ZO]
 | _ => simp [tyD] at ht
end K37
namespace K37
open PySem L2 L3 Pu Pv
open Bk (faO Wk jf zx Zj lnD lnA)
theorem qh2 (ws : List Wk) : enD 0 (ws.map Wk.d) = (ws.zipIdx 0).map fun p => PyData.tuple [.int (p.2 : Int),Wk.d p.1] := by
 rw [Dm,List.zipIdx_map,List.map_map];rfl
noncomputable def tri (p : Int × Int × Int) : PyData := .tuple [.int p.1,.int p.2.1,.int p.2.2]
def smT (p : Int × Int × Int) : Prop := (0 ≤ p.1∧p.1 ≤ 1000)∧(0 ≤ p.2.1∧p.2.1 ≤ 1000)∧(0 ≤ p.2.2∧p.2.2 ≤ 1000)
theorem N5 {ns : List Int} {i j : Nat} (h : faO ns = some (i,j)) : i < j∧j < ns.length := by
 unfold Bk.faO at h
 split at h
 ·rename_i c
  have := c.choose_spec
  rw [Option.some.inj h] at this
  exact ⟨this.ij,this.jl⟩
 ·cases h
def fbP (r : PyData) : Prop := r = .none ∨ ∃ p,smT p∧r = tri p
theorem qie {B a b : Int} {ws : List Wk} (hB : 1 ≤ B) (ha : 0 ≤ a∧a ≤ 1000) (hb : 0 ≤ b∧b ≤ 1000) (ok : ∀ w ∈ ws,w.Ok) (lw : ws.length ≤ 1000) : Tl (zu [.int B,.tuple [.int a,.int b],.list (ws.map Wk.d)]) fbP := by
 rw [Es]
 try simp only [Pu.pwA,QF,qh2]
 refine DO (Q := fun o => Tl (Jm false o) fbP) (ws.zipIdx 0) (fun _ ρ => ∃ s3 s4 s5,ρ = [.sh (.int B),.sh (.tuple [.int a,.int b]),.sh (.list (ws.map Wk.d)),s3,s4,s5]) (fun d _ => ∃ p,smT p∧d = tri p) ⟨_,_,_,rfl⟩ ?_ ?_ ?_
 ·rintro i ⟨w,n⟩ ρ hx ⟨s3,s4,s5,rfl⟩
  rw [List.getElem?_zipIdx] at hx
  obtain ⟨c,hc,e⟩ := Option.map_eq_some_iff.mp hx
  cases e
  have hw := List.mem_of_getElem? hc
  have hi := (List.getElem?_eq_some_iff.mp hc).1
  have l := (Bk.SF (ok _ hw)).2
  have rb := qge hB ha hb (Xa (ok _ hw))
  have fa := Mj (ns := rst B a b w.pc) (by rw [JK];omega)
  cases e : faO (rst B a b w.pc) with
  | none =>
   have : faD (rst B a b w.pc) = .none := by unfold faD;rw [e]
   rw [this] at fa
   try simp only [Pu.pwA,rb,fa]
   exact ⟨_,_,_,rfl⟩
  | some q =>
   obtain ⟨x,y⟩ := q
   have : faD (rst B a b w.pc) = .tuple [.int x,.int y] := by unfold faD;rw [e]
   rw [this] at fa
   try simp only [Pu.pwA,rb,fa,Mr]
   have := N5 e
   rw [JK] at this
   refine ⟨((i : Int),(x : Int),(y : Int)),⟨?_,?_,?_⟩,rfl⟩ <;> (simp only;omega)
 ·rintro ρ ⟨s3,s4,s5,rfl⟩
  try simp only [Pu.pwA]
  exact ⟨_,rfl,.inl rfl⟩
 ·rintro d b h
  try simp only [Pu.pwA]
  exact ⟨_,rfl,.inr h⟩
def brP (m : Nat) (r : PyData) : Prop := ∃ bs : List (Int × Int × Int),r = .list (bs.map tri)∧bs.length = m∧∀ p ∈ bs,smT p
def sfP (m : Nat) (r : PyData) : Prop := (∃ x y : Int,r = .tuple [.str "skew",.int x,.int y]) ∨ ∃ d,r = .tuple [.str "none",d]∧brP m d
theorem qh5 {B : Nat} {ws : List Wk} (b1 : 1 ≤ B) (b2 : B ≤ 100) (ok : ∀ w ∈ ws,w.Ok) (lw : ws.length ≤ 1000) : Tl (zT [.int (B : Int),.list (ws.map Wk.d)]) (sfP (B * B)) := by
 rw [EK]
 have bb := Nat.mul_le_mul b2 b2
 have fl : (fac B).length = B * B := by rw [fac,Bk.zK]
 try simp only [Pu.pwA,ZB,qgf b2]
 refine DO (Q := fun o => Tl (Jm false o) (sfP (B * B))) (fac B) (fun i ρ => ∃ bs s3 s4,ρ = [.sh (.int (B : Int)),.sh (.list (ws.map Wk.d)),.ow (bs.map tri),s3,s4]∧bs.length = i∧∀ p ∈ bs,smT p) (fun d _ => sfP (B * B) d) ⟨[],_,_,rfl,rfl,by simp⟩ ?_ ?_ ?_
 ·rintro i ⟨x,y⟩ ρ hx ⟨bs,s3,s4,rfl,hl,hb⟩
  have f := SQ (List.mem_of_getElem? hx)
  have hi := (List.getElem?_eq_some_iff.mp hx).1
  obtain ⟨r,fb,hr⟩ := qie (B := (B : Int)) (a := x) (b := y) (ws := ws) (by omega) (by simp only at f;omega) (by simp only at f;omega) ok lw
  rcases hr with rfl | ⟨p,hp,rfl⟩
  ·try simp only [Pu.pwA,pD,fb,Mr]
   exact .inl ⟨_,_,rfl⟩
  ·have e0 : tri p ≠ .none := by simp [tri]
   try simp only [Pu.pwA,pD,fb,tri]
   rw [WL (ds := bs.map tri) rfl (by simp;omega)]
   refine ⟨bs ++ [p],.sh (.tuple [.int x,.int y]),.sh (tri p),?_,by simp [hl],fun q hq => ?_⟩
   ·rw [List.map_append];rfl
   ·rcases List.mem_append.mp hq with h | h
    ·exact hb q h
    ·simp at h;subst h;exact hp
 ·rintro ρ ⟨bs,s3,s4,rfl,hl,hb⟩
  try simp only [Pu.pwA]
  exact ⟨_,rfl,.inr ⟨_,rfl,bs,rfl,by rw [hl,fl],hb⟩⟩
 ·rintro d b h
  try simp only [Pu.pwA]
  exact ⟨_,rfl,h⟩
end K37
namespace K37
open PySem L2 L3 Pu Pv
open Bk (faO Wk jf zx Zj lnD lnA)
theorem Kr (ws : List Wk) : enD 0 (VO ws) = (ws.zipIdx 0).map fun p => PyData.tuple [.int (p.2 : Int),.list (p.1.pc.map pD)] := LK _ ws 0
theorem qh7 {B : Nat} {ws : List Wk} (b1 : 1 ≤ B) (b2 : B ≤ 100) (ok : ∀ w ∈ ws,w.Ok) (lw : ws.length ≤ 1000) : Tl (zU [.int (B : Int),.list (ws.map Wk.d)]) (brP (B * B)) := by
 rw [Df]
 obtain ⟨r,sf,hr⟩ := qh5 b1 b2 ok lw
 have bb := Nat.mul_le_mul b2 b2
 rcases hr with ⟨x,y,rfl⟩ | ⟨d,rfl,hd⟩
 rotate_left
 ·try simp only [Pu.pwA,Q6,sf]
  exact ⟨d,rfl,hd⟩
 have e1 : ¬ Str.ofString "skew" = Str.ofString "none" := by decide
 have lr : (VO ws).length = ws.length := by simp [VO]
 have mm : cI Qm (· * ·) (.int (B : Int)) (.int (B : Int)) = some (.int ((B * B : Nat) : Int)) := by
  rw [DM (by omega)];simp
 try simp only [Pu.pwA,Q6,sf,e1]
 rw [Zy (ds := ws.map Wk.d) (fs := VO ws)]
 rotate_left
 ·try simp only [Pu.pwA]
 ·refine j7 fun w hw => ?_
  try simp only [Pu.pwA,JQ,qgr (Xa (ok w hw))]
 ·rw [lr];omega
 try simp (disch := omega) only [Pu.pwA,mm,Du,Int.toNat_natCast]
 refine Ut (Q := fun o => Tl (Jm false o) (brP (B * B))) (jW 0 (B * B)) (fun i ρ => ∃ bs r s5 s6 s7 s8 s9 s10,(Sl.d r = some (.list (VO ws))∧Sl.dem r = .sh (.list (VO ws)))∧ρ = [.sh (.int (B : Int)),.sh (.list (ws.map Wk.d)),.sh (.tuple [.str "skew",.int x,.int y]),.ow (bs.map tri),r,s5,s6,s7,s8,s9,s10]∧bs.length = i∧∀ p ∈ bs,smT p) ⟨[],_,_,_,_,_,_,_,⟨rfl,rfl⟩,rfl,rfl,by simp⟩ ?_ ?_
 ·rintro i z ρ hz ⟨bs,r,s5,s6,s7,s8,s9,s10,⟨r1,r2⟩,rfl,hl,hb⟩
  obtain ⟨hi,rfl⟩ := jO hz
  try simp only [Pu.pwA,r1,r2,Kr,Int.zero_add]
  refine Ut (Q := fun o => Nx o _) (ws.zipIdx 0) (fun _ ρ => ∃ p s7 s8 s9 s10,smT p∧ρ = [.sh (.int (B : Int)),.sh (.list (ws.map Wk.d)),.sh (.tuple [.str "skew",.int x,.int y]),.ow (bs.map tri),.sh (.list (VO ws)),.sh (.int (i : Int)),.sh (tri p),s7,s8,s9,s10]) ⟨(0,0,1),_,_,_,_,by simp [smT],rfl⟩ ?_ ?_
  ·rintro j ⟨w,n⟩ ρ hw ⟨p,s7,s8,s9,s10,hp,rfl⟩
   obtain ⟨hw,rfl,hj⟩ := Wn hw
   have hm := List.mem_of_getElem? hw
   have pl0 := (Bk.SF (ok _ hm)).2
   have pl : w.pc.length ≤ 1000000 := by omega
   have dv : i / B < B := Nat.div_lt_of_lt_mul hi
   have md : i % B < B := Nat.mod_lt _ (by omega)
   have rr := qgd (B := (B : Int)) (a := ((i / B : Nat) : Int)) (b := ((i % B : Nat) : Int)) (cs := w.pc) (by omega) ⟨Int.natCast_nonneg _,Int.ofNat_le.mpr (Nat.le_trans (Nat.le_of_lt dv) (Nat.le_trans b2 (by decide)))⟩ ⟨Int.natCast_nonneg _,Int.ofNat_le.mpr (Nat.le_trans (Nat.le_of_lt md) (Nat.le_trans b2 (by decide)))⟩ pl
   have di : cI W5 (· / ·) (.int (i : Int)) (.int (B : Int)) = some (.int ((i / B : Nat) : Int)) := by
    rw [TV (by omega)];simp
   have mo : cI (fun _ j => 0 < j) (· % ·) (.int (i : Int)) (.int (B : Int)) = some (.int ((i % B : Nat) : Int)) := by
    rw [UG (by omega)];simp
   try simp only [Pu.pwA,di,mo,rr]
   generalize hrs : rst (B : Int) ((i / B : Nat) : Int) ((i % B : Nat) : Int) w.pc = rs
   have lrs : rs.length = w.pc.length := by rw [← hrs,JK]
   rw [Zy (ds := (jW 1 ((rs.length : Int) - 1).toNat).map PyData.int) (fs := ((jW 1 ((rs.length : Int) - 1).toNat).filter fun m => decide (rs.getD m.toNat 0 = rs.getD 0 0)).map PyData.int)]
   rotate_left
   ·try simp (disch := omega) only [Pu.pwA,List.length_map,qdg]
   ·refine Wx (k := PyData.int) fun m hm => ?_
    have hm2 := We hm
    have e1 := Wy (ns := rs) (k := m) (by omega) (by omega)
    have e2 := Wy (ns := rs) (k := 0) (by omega) (by omega)
    try simp only [Pu.pwA,JQ,e1,e2]
    by_cases c : rs.getD m.toNat 0 = rs.getD 0 0
    ·try simp only [Pu.pwA,c,Int.toNat_zero]
    ·try simp only [Pu.pwA,c,Int.toNat_zero]
   ·have := List.length_filter_le (fun m => decide (rs.getD m.toNat 0 = rs.getD 0 0)) (jW 1 ((rs.length : Int) - 1).toNat)
    rw [Qq] at this
    rw [List.length_map];omega
   generalize hks : (jW 1 ((rs.length : Int) - 1).toNat).filter (fun m => decide (rs.getD m.toNat 0 = rs.getD 0 0)) = ks
   by_cases c : ks = []
   ·subst c
    have e0 : eqD true (.list []) (.list []) = some (.bool false) := Kc true []
    try simp only [Pu.pwA,List.map_nil,e0]
    exact ⟨p,_,_,_,_,hp,rfl⟩
   ·have kl : 1 ≤ ks.length := by cases ks with | nil => exact absurd rfl c | cons _ _ => simp
    obtain ⟨m,hm,em⟩ := M0 (ks := ks) (k := ks.length - 1) (by omega)
    have ea : L2.atI (ks.map PyData.int) (-1) = some (.int m) := by
     have := NZ (xs := ks.map PyData.int) (j := 1) (by decide) (by simpa using kl)
     rw [List.length_map,em] at this;exact this
    have mb := We (List.mem_filter.mp (hks ▸ hm)).1
    try simp only [Pu.pwA,Kc true ks,c,ea]
    refine ⟨((n : Int),0,m),_,_,_,_,⟨?_,?_,?_⟩,rfl⟩ <;> (simp only;omega)
  ·rintro ρ ⟨p,s7,s8,s9,s10,hp,rfl⟩
   try simp only [Pu.pwA]
   rw [WL (ds := bs.map tri) rfl (by simp;omega)]
   refine ⟨bs ++ [p],.sh (.list (VO ws)),.sh (.int (i : Int)),.sh (tri p),s7,s8,s9,s10,⟨rfl,rfl⟩,?_,by simp [hl],fun q hq => ?_⟩
   ·rw [List.map_append];rfl
   ·rcases List.mem_append.mp hq with h | h
    ·exact hb q h
    ·simp at h;subst h;exact hp
 ·rintro ρ ⟨bs,r,s5,s6,s7,s8,s9,s10,⟨r1,r2⟩,rfl,hl,hb⟩
  try simp only [Pu.pwA]
  exact ⟨_,rfl,bs,rfl,by rw [hl,Qq],hb⟩
end K37
namespace K37
open PySem L2 L3 Pu Pv
open Bk (Wk SD SDs Qa Zl YN Vd zl Qt qC zE)
structure Pt (n : Nat) (d : PyData) : Prop where
 ty : (tyD d).isSome = true
 sd : SD 2 20 d
 nb : ∀ i,nbD d = some i → -(n : Int) ≤ i∧i ≤ n
theorem jh {n : Nat} {i : Int} (h : -(n : Int) ≤ i∧i ≤ n) (hn : n ≤ 100000) : Pt n (.int i) := ⟨rfl,Qa _ _ (by omega),fun j e => by cases e;exact h⟩
theorem CI {n : Nat} {b : Bool} (h : 1 ≤ n) : Pt n (.bool b) := ⟨rfl,Vd _ _ _,fun j e => by cases e;cases b <;> simp <;> omega⟩
theorem Mw {n : Nat} {i : Int} (h : -1000000 ≤ i∧i ≤ 1000000) : Pt n (.str (Str.ofString (toString i))) := ⟨rfl,(Ku 2 h).mono (by decide) (by decide),fun j e => by cases e⟩
theorem Cq {n : Nat} : Pt n .none := ⟨rfl,YN _ _,fun j e => by cases e⟩
theorem Pt.up {n m : Nat} {d : PyData} (h : Pt n d) (l : n ≤ m) : Pt m d := ⟨h.ty,h.sd,fun i e => by have := h.nb i e;omega⟩
theorem M9 : jV "bool" "int" = true := rfl
theorem qfi {P : PyData → Prop} {a b c d e f g h : PyData} (ha : P a) (hb : P b) (hc : P c) (hd : P d) (he : P e) (hf : P f) (hg : P g) (hh : P h) : ∀ v ∈ [a,b,c,d,e,f,g,h],P v := by
 simp only [List.forall_mem_cons]
 exact ⟨ha,hb,hc,hd,he,hf,hg,hh,fun _ z => by cases z⟩
theorem qaw {n : Nat} {i : Int} {v : PyData} (hi : -(n : Int) ≤ i∧i ≤ n) (n1 : 100 ≤ n) (hn : n ≤ 90000) (hv : v ∈ [PyData.int (i + 1),.int (i - 1),.int (-i),.bool (i == 1),.str (Str.ofString (toString i)),.none,.tuple [.int i],.int 99]) : Pt (n + 1) v :=
 qfi (P := Pt (n + 1)) (jh (by omega) (by omega)) (jh (by omega) (by omega)) (jh (by omega) (by omega)) (CI (by omega)) (Mw (by omega)) Cq ⟨rfl,zl (qC (n := 0) (m := 0) (Qa _ _ (by omega)) (zE _ _) (by omega)),fun j e => by cases e⟩ (jh (by omega) (by omega)) v hv
theorem qhs {n m : Nat} {d : PyData} {Q : QD} (hd : Pt n d) (n1 : 100 ≤ n) (hn : n ≤ 90000) (hm : m < 900000) (h : ∀ e k,Pt (n + 1) e → k ≤ m + 1 → Q e k) : qY.W [d] m Q := by
 obtain ⟨ty,sd,nb⟩ := hd
 rw [Yh]
 refine ⟨rfl,?_⟩
 unfold zM
 cases d with
 | int i =>
  have hi := nb i rfl
  try simp only [Pu.pwA,Kj,NK,S5,SJ,Xo,X6,qei,qea,qfh,Ux,YD,qcw (st := true) (i := i) (by omega)]
  refine ⟨by omega,by omega,fun r h0 h1 => ?_⟩
  exact Lg 8 rfl h0 h1 fun v hv => ⟨m + 1,Nat.le_refl _,h v _ (qaw hi n1 hn hv) (Nat.le_refl _)⟩
 | bool b =>
  try simp only [Pu.pwA,M9,NK,S5,SJ,Xo,X6,qeg,qgb,qff,Ux,YD,MT]
  refine ⟨by omega,by omega,fun r h0 h1 => ?_⟩
  refine Lg 8 rfl h0 h1 fun v hv => ⟨m + 1,Nat.le_refl _,h v _ ?_ (Nat.le_refl _)⟩
  refine (qfi (P := Pt (n + 1)) (jh ?_ (by omega)) (jh ?_ (by omega)) (jh ?_ (by omega)) (CI (by omega)) ⟨rfl,?_,fun j e => by cases e⟩ Cq ⟨rfl,?_,fun j e => by cases e⟩ (jh (by omega) (by omega))) v hv
  ·cases b <;> simp <;> omega
  ·cases b <;> simp <;> omega
  ·cases b <;> simp <;> omega
  ·cases b
   ·exact Zl 2 (n := 20) (by decide) (by decide)
   ·exact Zl 2 (n := 20) (by decide) (by decide)
  ·exact zl (qC (n := 0) (m := 0) (Vd _ _ _) (zE _ _) (by omega))
 | none =>
  try simp only [Pu.pwA,TC]
  exact ⟨m,Nat.le_refl _,h (.int 0) m (jh (i := 0) (by omega) (by omega)) (by omega)⟩
 | str x =>
  try simp only [Pu.pwA,Kb]
  exact ⟨m,Nat.le_refl _,h (.int 0) m (jh (i := 0) (by omega) (by omega)) (by omega)⟩
 | list x =>
  try simp only [Pu.pwA,Sk]
  exact ⟨m,Nat.le_refl _,h (.int 0) m (jh (i := 0) (by omega) (by omega)) (by omega)⟩
 | tuple x =>
  try simp only [Pu.pwA,ST]
  exact ⟨m,Nat.le_refl _,h (.int 0) m (jh (i := 0) (by omega) (by omega)) (by omega)⟩
 | _ => simp [tyD] at ty
structure Br (n : Nat) (d : PyData) : Prop where
 kn : kn d
 sd : SD 4 200 d
 pt : ∀ ds,d = .tuple ds → ∀ e ∈ ds,Pt n e
theorem Si {i j : Int} : qa9 (.int i) (.int j) = some (.int (i + j)) := id rfl
theorem WE {P : PyData → Prop} {a b c : PyData} (ha : P a) (hb : P b) (hc : P c) : ∀ v ∈ [a,b,c],P v := by
 simp only [List.forall_mem_cons]
 exact ⟨ha,hb,hc,fun _ z => by cases z⟩
theorem Va {n : Nat} {ds : List PyData} (hl : ds.length ≤ 8) (h : ∀ e ∈ ds,Pt n e) : Br n (.tuple ds) := by
 refine ⟨⟨rfl,fun es e d hd => ?_⟩,?_,fun es e d hd => ?_⟩
 ·cases e;exact (h d hd).ty
 ·refine (zl (Bk.Z6 (k := 2) (n := 20) fun d hd => (h d hd).sd)).mono (by decide) ?_
  have := Nat.mul_le_mul hl (Nat.le_refl 21)
  omega
 ·cases e;exact h d hd
theorem R9 {n : Nat} {d : PyData} (ht : (tyD d).isSome = true) (h : SD 4 200 d) (nt : ∀ ds,d ≠ .tuple ds) : Br n d := ⟨⟨ht,fun es e => absurd e (nt es)⟩,h,fun es e => absurd e (nt es)⟩
theorem qhi {n m M : Nat} {a b c : PyData} {Q : QD} (ha : Pt n a) (hb : Pt n b) (hc : Pt n c) (n1 : 1000 ≤ n) (hn : n ≤ 80000) (hM : 1 ≤ M∧M ≤ 1000) (hm : m < 800000) (h : ∀ e k,Br (n + 1) e → k ≤ m + 6 → Q e k) : z3.W [.tuple [a,b,c],.int (M : Int)] m Q := by
 have al : ∀ e ∈ [a,b,c],Pt (n + 1) e := by
  simp only [List.forall_mem_cons]
  exact ⟨ha.up (by omega),hb.up (by omega),hc.up (by omega),fun _ z => by cases z⟩
 have cl : ∀ lo hi,(ZP [a,b,c] lo hi).length ≤ 3 := fun lo hi => XS _ _ _
 have cm : ∀ {lo hi e},e ∈ ZP [a,b,c] lo hi → Pt (n + 1) e := fun {lo hi e} he => al e (Cy he)
 rw [Vy]
 refine ⟨rfl,?_⟩
 unfold jH
 refine Qd fun Y1 h1 => ?_
 try simp only [Pu.pwA]
 refine ⟨by omega,by omega,fun w w0 w1 => ⟨by omega,by omega,fun t t0 t1 => ?_⟩⟩
 rw [h1]
 refine Qd fun Y2 h2 => ?_
 by_cases c1 : w < 2
 ·try simp only [Pu.pwA,c1]
  refine ⟨by omega,by omega,fun x x0 x1 => ⟨by omega,by omega,fun y y0 y1 => ⟨by omega,by omega,fun z z0 z1 => ?_⟩⟩⟩
  have pi : ∀ j : Int,0 ≤ j → j ≤ 1000 → Pt (n + 1) (.int j) := fun j j0 j1 => jh (by omega) (by omega)
  exact ⟨_,Si,m + 5,by omega,h _ _ (Va (by simp) (WE (pi x x0 (by omega)) (pi y y0 (by omega)) (pi (1 + z) (by omega) (by omega)))) (by omega)⟩
 try simp only [Pu.pwA,c1]
 rw [h2]
 refine Qd fun Y3 h3 => ?_
 by_cases c2 : w = 2
 ·try simp only [Pu.pwA,c2]
  refine Lg 4 rfl t0 t1 fun v hv => ⟨m + 2,by omega,h v _ ?_ (by omega)⟩
  simp only [List.mem_cons,List.not_mem_nil,or_false] at hv
  rcases hv with rfl | rfl | rfl | rfl
  ·exact R9 rfl ((Qt (Bk.Z6 (k := 2) (n := 20) fun d hd => (al d hd).sd)).mono (by decide) (by simp)) (fun _ e => by cases e)
  ·exact R9 rfl (YN _ _) (fun _ e => by cases e)
  ·exact R9 rfl (Zl 4 (n := 200) (by decide) (by decide)) (fun _ e => by cases e)
  ·exact R9 rfl (Qa _ _ (by decide)) (fun _ e => by cases e)
 try simp only [Pu.pwA,c2]
 rw [h3]
 refine Qd fun Y4 h4 => ?_
 by_cases c3 : w = 3
 ·try simp only [Pu.pwA,c3,Uq,Vg,CD,Ds,KM]
  have l1 := cl none (some t)
  have l2 := cl (some t) none
  rw [UI (xs := ZP [a,b,c] none (some t)) (ys := [.int 0]) (by simp;omega),Option.bind_some,UI (by simp;omega)]
  refine ⟨_,rfl,m + 2,by omega,h _ _ (Va (by simp;omega) fun e he => ?_) (by omega)⟩
  simp only [List.mem_append,List.mem_singleton] at he
  rcases he with (he | rfl) | he
  ·exact cm he
  ·exact jh (by omega) (by omega)
  ·exact cm he
 try simp only [Pu.pwA,c3]
 rw [h4]
 refine Qd fun Y5 h5 => ?_
 by_cases c4 : w = 4
 ·try simp only [Pu.pwA,c4,Uq,Vg,CD,Ds,KM]
  have l1 := cl none (some t)
  have l2 := cl (some (t + 1)) none
  try simp only [Pu.pwA,Si]
  rw [UI (by omega)]
  refine ⟨_,rfl,m + 2,by omega,h _ _ (Va (by rw [List.length_append];omega) fun e he => ?_) (by omega)⟩
  rcases List.mem_append.mp he with he | he
  ·exact cm he
  ·exact cm he
 try simp only [Pu.pwA,c4]
 rw [h5]
 refine Qd fun Y6 h6 => ?_
 by_cases c5 : w = 5
 ·try simp only [Pu.pwA,c5]
  refine ⟨.tuple [c,b,a],rfl,m + 2,by omega,h _ _ (Va (by simp) fun e he => ?_) (by omega)⟩
  exact al e (by simp at he ⊢;rcases he with h | h | h <;> simp [h])
 try simp only [Pu.pwA,c5]
 rw [h6]
 refine Qd fun Y7 h7 => ?_
 try simp (disch := omega) only [Pu.pwA,UG]
 rw [h7]
 have r0 : 0 ≤ t % 3∧t % 3 < 3 := by omega
 generalize t % 3 = r at r0
 obtain ⟨v,hv,e⟩ := Wb (ds := [a,b,c]) r0.1 r0.2
 have l1 := cl none (some r)
 have l2 := cl (some (r + 1)) none
 try simp only [Pu.pwA,Uq,Vg,CD,Ds,KM,e]
 refine qhs (WE (P := Pt n) ha hb hc v hv) (by omega) (by omega) (by omega) fun x k hx hk => ?_
 refine ⟨_,UI (by simp;omega),.tuple (ZP [a,b,c] (some (r + 1)) none),rfl,_,UI (by simp;omega),k,Nat.le_refl _,h _ _ (Va (by simp;omega) fun e he => ?_) (by omega)⟩
 simp only [List.mem_append,List.mem_singleton] at he
 rcases he with (he | rfl) | he
 ·exact cm he
 ·exact hx
 ·exact cm he
theorem Br.up {n m : Nat} {d : PyData} (h : Br n d) (l : n ≤ m) : Br m d := ⟨h.kn,h.sd,fun ds e x hx => (h.pt ds e x hx).up l⟩
theorem Dr {xs : List PyData} {lo hi : Option Int} : slD (.list xs) lo hi = some (.list (ZP xs lo hi)) := id rfl
theorem UO {xs ys : List PyData} (h : xs.length + ys.length ≤ 16777216) : Ma (.list xs) (.list ys) = some (.list (xs ++ ys)) := zF (by rw [sizeLine_eq];exact h)
theorem CJ {xs ys : List PyData} (h : xs.length + ys.length ≤ 16777216) : qbc (.list xs) (.list ys) = some (.list (xs ++ ys)) := zF (by rw [sizeLine_eq];exact h)
theorem qhe {n m M : Nat} {ds : List PyData} {Q : QD} (hd : ∀ d ∈ ds,Br n d) (hl : ds.length ≤ 1000) (n1 : 1000 ≤ n) (hn : n ≤ 80000) (hM : 1 ≤ M∧M ≤ 1000) (hm : m < 700000) (h : ∀ es k,(∀ e ∈ es,Br (n + 1) e) → es.length ≤ 3 * ds.length + 1 → k ≤ m + 8 → Q (.list es) k) : zV.W [.list ds,.int (M : Int)] m Q := by
 have cl : ∀ lo hi,(ZP ds lo hi).length ≤ ds.length := fun lo hi => XS _ _ _
 have cm : ∀ {lo hi e},e ∈ ZP ds lo hi → Br (n + 1) e := fun {lo hi e} he => (hd e (Cy he)).up (by omega)
 have pi : ∀ j : Int,0 ≤ j → j ≤ 1000 → Pt (n + 1) (.int j) := fun j j0 j1 => jh (by omega) (by omega)
 rw [U3]
 refine ⟨rfl,?_⟩
 unfold Qn
 refine Qd fun Y1 h1 => ?_
 try simp only [Pu.pwA]
 refine ⟨by omega,by omega,fun w w0 w1 => ⟨by omega,by omega,fun t t0 t1 => ?_⟩⟩
 rw [h1]
 refine Qd fun Y2 h2 => ?_
 have b0 : Br (n + 1) (.tuple [.int 0,.int 0,.int 1]) := Va (by simp) (WE (pi 0 (by omega) (by omega)) (pi 0 (by omega) (by omega)) (pi 1 (by omega) (by omega)))
 have ins : ∀ (lo : Int) (x : PyData),Br (n + 1) x → ∃ d,((qbc (.list (ZP ds none (some lo))) (.list [x])).bind fun y => Ma y (.list (ZP ds (some lo) none))) = some d∧∃ m_1,m + 1 + 1 ≤ m_1∧Q d m_1 := fun lo x hx => by
  have l1 := cl none (some lo)
  have l2 := cl (some lo) none
  rw [CJ (by simp;omega),Option.bind_some,UO (by simp;omega)]
  refine ⟨_,rfl,m + 2,by omega,h _ _ (fun e he => ?_) (by simp;omega) (by omega)⟩
  simp only [List.mem_append,List.mem_singleton] at he
  rcases he with (he | rfl) | he
  ·exact cm he
  ·exact hx
  ·exact cm he
 by_cases c1 : w = 0
 ·try simp only [Pu.pwA,c1,Dr]
  exact ins t _ b0
 by_cases c1' : t = (ds.length : Int)
 ·try simp only [Pu.pwA,c1,c1',Dr]
  exact ins _ _ b0
 try simp only [Pu.pwA,c1,c1']
 rw [h2]
 refine Qd fun Y3 h3 => ?_
 by_cases c2 : w = 1
 ·try simp only [Pu.pwA,c2,Dr]
  have l1 := cl none (some t)
  have l2 := cl (some (t + 1)) none
  rw [UO (by omega)]
  refine ⟨_,rfl,m + 2,by omega,h _ _ (fun e he => ?_) (by rw [List.length_append];omega) (by omega)⟩
  rcases List.mem_append.mp he with he | he <;> exact cm he
 try simp only [Pu.pwA,c2]
 rw [h3]
 refine Qd fun Y4 h4 => ?_
 by_cases c3 : w = 2
 ·try simp only [Pu.pwA,c3,Dr]
  have l1 := cl none (some t)
  have l2 := cl (some t) (some (t + 2))
  have l3 := cl (some (t + 2)) none
  have er : (qc5 (bSl (bV 1) (bSp (bV 4)) (bSp (bO Zp (bV 4) (qN 2))))).f [.un,.sh (.list ds),.sh (.int (M : Int)),.sh (.int 2),.sh (.int t)] = some (.list (ZP ds (some t) (some (t + 2))).reverse) := by
   try simp only [Pu.pwA,N9,Dr,qdc]
  rw [er,Option.bind_some,UO (by simp;omega),Option.bind_some,UO (by simp;omega)]
  refine ⟨_,rfl,m + 2,by omega,h _ _ (fun e he => ?_) (by simp;omega) (by omega)⟩
  simp only [List.mem_append,List.mem_reverse] at he
  rcases he with (he | he) | he <;> exact cm he
 try simp only [Pu.pwA,c3]
 rw [h4]
 refine Qd fun Y5 h5 => ?_
 obtain ⟨v,hv,e⟩ := Wb (ds := ds) t0 (by omega)
 have bv := hd v hv
 have out : ∃ m_1,m + 1 + 1 ≤ m_1∧Q (.list ds) m_1 := ⟨m + 2,by omega,h _ _ (fun e he => (hd e he).up (by omega)) (by omega) (by omega)⟩
 have ty := bv.kn.1
 cases v with
 | tuple us =>
  by_cases u3 : us.length = 3
  ·obtain ⟨a,b,c,rfl⟩ := WA u3
   have l1 := cl none (some t)
   have l2 := cl (some (t + 1)) none
   have pt := bv.pt _ rfl
   try simp only [Pu.pwA,e,Dk,t3]
   rw [h5]
   try simp only [Pu.pwA,e,Dr]
   refine qhi (pt a (by simp)) (pt b (by simp)) (pt c (by simp)) n1 hn hM (by omega) fun x k hx hk => ?_
   rw [CJ (by simp;omega)]
   refine ⟨_,rfl,_,UO (by simp;omega),k,Nat.le_refl _,h _ _ (fun e he => ?_) (by simp;omega) (by omega)⟩
   simp only [List.mem_append,List.mem_singleton] at he
   rcases he with (he | rfl) | he
   ·exact cm he
   ·exact hx
   ·exact cm he
  ·have e3 : ¬ (us.length : Int) = 3 := by omega
   try simp only [Pu.pwA,e,Dk,e3]
   exact out
 | int i =>
  try simp only [Pu.pwA,e,Ld]
  exact out
 | bool i =>
  try simp only [Pu.pwA,e,LU]
  exact out
 | none =>
  try simp only [Pu.pwA,e,La]
  exact out
 | str i =>
  try simp only [Pu.pwA,e,KU]
  exact out
 | list i =>
  try simp only [Pu.pwA,e,LN]
  exact out
 | _ => simp [tyD] at ty
end K37
namespace K37
open PySem L2 L3 Pu Pv
open Bk (Wk SD SDs Qa Zl YN Vd zl Qt qC zE)
theorem qhd {n : Nat} {Q : QD} (hn : n < 800000) (h : ∀ (ws : List Wk) (k : Nat),ws.length ≤ 5 → (∀ w ∈ ws,w.Ok) → k ≤ n + 1000 → Q (.list (ws.map Wk.d)) k) : jp.W [] n Q := by
 rw [US]
 refine ⟨rfl,?_⟩
 unfold QR
 try simp only [Pu.pwA]
 refine ⟨by omega,by omega,fun d d0 d1 => ?_⟩
 refine KJ (ks := [1,2,2,3,3,4,5,0]) d0 (by simpa using d1) fun k hk => ?_
 have hk2 : 0 ≤ k∧k ≤ 5 := by simp at hk;omega
 refine ⟨_,Du (by omega),by simp [jW];omega,?_⟩
 refine Dd (R := fun w : Wk => w.Ok) (gd := Wk.d) (c := 60) (N := n + 1000) (jW 0 k.toNat) _ _ (fun x _ n' Q' hn' h' => ?_) Qx.mn mnT (by rw [Qq];omega) fun ws lw hw => ?_
 ·refine ⟨_,rfl,?_⟩
  try simp only [Pu.pwA,Qx]
  exact ⟨by omega,fun w hw => h' w hw⟩
 rw [Qq] at lw
 exact ⟨by simp;omega,_,Nat.le_refl _,h ws _ (by omega) hw (by rw [Qq];omega)⟩
theorem Rc {α : Type} (xs : List α) (k : Nat) : ZP xs none (some (k : Int)) = xs.take k := by
 unfold ZP
 rw [HT.K1,HT.Ry,List.drop_zero,Nat.sub_zero,List.take_eq_take_iff]
 omega
noncomputable def qbo (bs : List (Int × Int × Int)) : List PyData := [.none,.tuple [],.tuple (bs.map tri),.str "",.int 0,.bool true,.list [],.list [.list []]]
def Is (r : Sl) (d : PyData) : Prop := Sl.d r = some d∧Sl.dem r = .sh d
structure On (d : PyData) : Prop where
 ty : (tyD d).isSome = true
 kn : ∀ ds,d = .list ds → ∀ e ∈ ds,kn e
 sd : SD 6 300000 d
theorem WO {n : Nat} {ds : List PyData} (h : ∀ e ∈ ds,Br n e) (hl : ds.length ≤ 1000) : On (.list ds) := ⟨rfl,fun es e x hx => by cases e;exact (h x hx).kn,(Qt (Bk.Z6 (k := 4) (n := 200) fun x hx => (h x hx).sd)).mono (by decide) (by have := Nat.mul_le_mul hl (Nat.le_refl 201);omega)⟩
theorem MV {p : Int × Int × Int} (h : smT p) : Br 1000 (tri p) := by
 obtain ⟨h1,h2,h3⟩ := h
 exact Va (by simp) (WE (jh (by omega) (by omega)) (jh (by omega) (by omega)) (jh (by omega) (by omega)))
theorem qef {ys : List Int} {i : Nat} (h : i < ys.length) : L2.atI (ys.map PyData.int) (i : Int) = some (.int ys[i]) := by
 rw [atN (by simpa using h),List.getElem?_map,List.getElem?_eq_getElem h];rfl
theorem qb3 : ∀ k : Nat,k ≤ 60 → Ra.w [.un,.sh (.int k),.un,.un,.un,.un,.un,.un,.un,.un,.un,.un,.un,.un] 0 okW := by
 intro k hk
 unfold Ra
 refine Qd fun Y1 h1 => ?_
 try simp only [Pu.pwA]
 refine ⟨by omega,by omega,fun b b0 b1 => ?_⟩
 obtain ⟨B,hB⟩ : ∃ B : Nat,1 + b = (B : Int)∧1 ≤ B∧B ≤ 6 := ⟨(1 + b).toNat,by omega,by omega,by omega⟩
 rw [hB.1,h1]
 refine Qd fun Y2 h2 => ?_
 try simp (disch := omega) only [Pu.pwA,Du]
 refine ⟨by simp [jW],?_⟩
 refine Dd (R := fun w : Int => 0 ≤ w∧w < 8) (gd := PyData.int) (c := 1) (N := 100) (jW 0 (12 : Int).toNat) _ _ (fun x _ n' Q' hn' h' => ?_) Uo.mn mnT (by simp [jW]) fun ys ly hy => ?_
 ·refine ⟨_,rfl,?_⟩
  try simp only [Pu.pwA,Uo]
  exact ⟨by omega,by omega,fun w w0 w1 => h' w ⟨w0,w1⟩⟩
 rw [Qq] at ly
 refine ⟨by simp [ly],?_⟩
 try simp only [Pu.pwA]
 rw [h2]
 refine Qd fun Y3 h3 => ?_
 try simp only [Pu.pwA]
 refine qhd (by simp [jW]) fun ws n1 lw hw hn1 => ?_
 have hn1' : n1 ≤ 1100 := by simp [jW] at hn1;omega
 refine ⟨by omega,fun w0 hw0 => ⟨_,CJ (by simp;omega),?_⟩⟩
 have e0 : ws.map Wk.d ++ [Wk.d w0] = (ws ++ [w0]).map Wk.d := by simp
 obtain ⟨us,lu1,lu2,hu,eu⟩ : ∃ us : List Wk,1 ≤ us.length∧us.length ≤ 5∧(∀ w ∈ us,w.Ok)∧ZP ((ws ++ [w0]).map Wk.d) none (some 5) = us.map Wk.d := by
  refine ⟨(ws ++ [w0]).take 5,by simp;omega,by simp;omega,fun w h => ?_,?_⟩
  ·have := List.mem_of_mem_take h
   simp only [List.mem_append,List.mem_singleton] at this
   rcases this with h | rfl
   ·exact hw w h
   ·exact hw0
  ·rw [List.map_take];exact Rc _ 5
 rw [e0,h3]
 refine Qd fun Y4 h4 => ?_
 try simp only [Pu.pwA,Dr,eu]
 rw [h4]
 refine Qd fun Y5 h5 => ?_
 have big : ∀ w ∈ us,Big w := fun w h => Xa (hu w h)
 obtain ⟨r,eb,bs,rfl,lb,hb⟩ := qh7 hB.2.1 (by omega) hu (by omega)
 try simp only [Pu.pwA,eb]
 rw [h5]
 refine Qd fun Y6 h6 => ?_
 try simp only [Pu.pwA]
 rw [h6]
 have bsm : ∀ e ∈ bs.map tri,Br 1000 e := fun e he => by
  obtain ⟨p,hp,rfl⟩ := List.mem_map.mp he
  exact MV (hb p hp)
 have bsl : (bs.map tri).length ≤ 36 := by
  rw [List.length_map,lb];exact Nat.mul_le_mul hB.2.2 hB.2.2
 have onb : On (.list (bs.map tri)) := WO bsm (by omega)
 have sdw : SD 6 3000 (.list (us.map Wk.d)) := by
  refine (Qt (Bk.Z6 (k := 4) (n := 200) fun d hd => ?_)).mono (by decide) ?_
  ·obtain ⟨w,hw,rfl⟩ := List.mem_map.mp hd
   exact qdr (hu w hw)
  ·rw [List.length_map];omega
 try simp (disch := omega) only [Pu.pwA,Du]
 refine VW (jW 0 (12 : Int).toNat) U1.mn (fun i ρ n => n ≤ 2000 + 100 * i∧∃ r4 r7 s8 s9 s10 s11 s12 s13,Is r4 (.list (ys.map PyData.int))∧Is r7 (.list (qbo bs))∧ρ = [.un,.sh (.int k),.un,.sh (.int (B : Int)),r4,.sh (.list (us.map Wk.d)),.sh (.list (bs.map tri)),r7,s8,s9,s10,s11,s12,s13]) ?_ ?_ ?_
 ·exact ⟨by omega,.ow (ys.map PyData.int),.ow _,.un,.un,.un,.un,.un,.un,⟨rfl,rfl⟩,⟨rfl,rfl⟩,rfl⟩
 ·rintro i x ρ n hx ⟨hn,r4,r7,s8,s9,s10,s11,s12,s13,⟨d4,m4⟩,⟨d7,m7⟩,rfl⟩
  obtain ⟨hi,rfl⟩ := jO hx
  have hi' : i < 12 := hi
  refine ⟨_,rfl,?_⟩
  unfold U1
  refine Qd fun Z1 g1 => ?_
  try simp only [Pu.pwA,Int.zero_add]
  rw [g1]
  refine Qd fun Z2 g2 => ?_
  have ey := qef (ys := ys) (i := i) (by omega)
  try simp only [Pu.pwA,d4,m4,ey]
  obtain ⟨y0,y1⟩ := hy _ (List.getElem_mem (show i < ys.length by omega))
  generalize ys[i] = y at ey y0 y1
  obtain ⟨c,hc,ec⟩ : ∃ c : Nat,c ≤ 2∧(1 + if decide (4 < y) = true then 1 else 0 : Int) = (c : Int) := by
   by_cases z : 4 < y
   ·exact ⟨2,by omega,by simp [z]⟩
   ·exact ⟨1,by omega,by simp [z]⟩
  rw [ec]
  refine ⟨_,Du (by omega),?_⟩
  rw [Int.toNat_natCast]
  refine VW (jW 0 c) U0.mn (fun j ρ m => m ≤ n + 8 * j∧∃ ds r9 s10,(∀ e ∈ ds,Br (1000 + j) e)∧(j = 0 → ds.length ≤ 36)∧(j = 1 → ds.length ≤ 109)∧ds.length ≤ 1000∧Is r9 (.list ds)∧ρ = [.un,.sh (.int k),.un,.sh (.int (B : Int)),r4,.sh (.list (us.map Wk.d)),.sh (.list (bs.map tri)),r7,.sh (.int (i : Int)),r9,s10,s11,s12,s13]) ?_ ?_ ?_
  ·exact ⟨by omega,bs.map tri,.ow (bs.map tri),s10,bsm,fun _ => bsl,fun z => by omega,by omega,⟨rfl,rfl⟩,rfl⟩
  ·rintro j x ρ m hx ⟨hm,ds,r9,s10,hd,l0,l1,l2,⟨d9,m9⟩,rfl⟩
   obtain ⟨hj,rfl⟩ := jO hx
   refine ⟨_,rfl,?_⟩
   try simp only [Pu.pwA,U0,d9,m9,List.length_map]
   refine qhe hd l2 (by omega) (by omega) (by omega) (by omega) fun es k2 he hl hk2 => ?_
   try simp only [Pu.pwA]
   refine ⟨by omega,es,.sh (.list es),.sh (.int (0 + (j : Int))),fun e h => (he e h).up (by omega),fun z => by omega,fun z => ?_,?_,⟨rfl,rfl⟩,rfl⟩
   ·have := l0 (by omega);omega
   ·rcases (show j = 0 ∨ j = 1 by omega) with rfl | rfl
    ·have := l0 rfl;omega
    ·have := l1 rfl;omega
  ·rintro ρ m ⟨hm,ds,r9,s10,hd,l0,l1,l2,⟨d9,m9⟩,rfl⟩
   rw [Qq] at hm
   try simp only [Pu.pwA]
   rw [g2]
   have e7 : ∃ v ∈ qbo bs,L2.atI (qbo bs) y = some v := Wb y0 (by simpa [qbo] using y1)
   obtain ⟨v,hv,e7⟩ := e7
   have onv : On v := by
    have hs : SDs 4 (36 * 201) (bs.map tri) := by
     have := Bk.Z6 (k := 4) (n := 200) fun x hx => (bsm x hx).sd
     exact ⟨this.sh,this.nd,this.dp,this.lv,Nat.le_trans this.bk (Nat.mul_le_mul bsl (Nat.le_refl _))⟩
    have no : ∀ d : PyData,(∀ ds,d ≠ .list ds) → ∀ ds,d = .list ds → ∀ e ∈ ds,kn e := fun d h ds e => absurd e (h ds)
    refine qfi (P := On) ⟨rfl,no _ (fun _ e => by cases e),YN _ _⟩ ⟨rfl,no _ (fun _ e => by cases e),(zl (k := 1) (zE _ 0)).mono (by decide) (by decide)⟩ ⟨rfl,no _ (fun _ e => by cases e),(zl hs).mono (by decide) (by decide)⟩ ⟨rfl,no _ (fun _ e => by cases e),Zl 6 300000 (by decide) (by decide)⟩ ⟨rfl,no _ (fun _ e => by cases e),Qa _ _ (by decide)⟩ ⟨rfl,no _ (fun _ e => by cases e),Vd _ _ _⟩ ⟨rfl,fun ds e x hx => (by cases e;cases hx),(Qt (k := 1) (zE _ 0)).mono (by decide) (by decide)⟩ ⟨rfl,fun ds e x hx => ?_,?_⟩ v hv
    ·cases e;simp at hx;subst hx;exact ⟨rfl,fun _ z => by cases z⟩
    ·exact (Qt (k := 2) (n := 10) (qC (n := 0) (m := 0) (Qt (k := 1) (zE _ _)) (zE _ _) (by decide))).mono (by decide) (by decide)
   try simp only [Pu.pwA,d4,m4,d7,m7,d9,m9,ey,e7]
   refine VW (f := fun d : PyData => d) [.list ds,.list (bs.map tri),v] Ui.mn (fun j ρ m2 => m2 = m∧∃ s11 s12 s13,ρ = [.un,.sh (.int k),.un,.sh (.int (B : Int)),.sh (.list (ys.map PyData.int)),.sh (.list (us.map Wk.d)),.sh (.list (bs.map tri)),.sh (.list (qbo bs)),.sh (.int (i : Int)),.sh (.list ds),s10,s11,s12,s13]) ⟨rfl,_,_,_,rfl⟩ ?_ ?_
   ·rintro j x ρ m2 hx ⟨rfl,s11,s12,s13,rfl⟩
    have ox : On x := WE (P := On) (WO hd l2) onb onv x (List.mem_of_getElem? hx)
    refine ⟨_,rfl,?_⟩
    have sw : ShW (.list [x,.list (us.map Wk.d)]) := ((Qt (qC ox.sd (qC sdw (zE 6 0) (Nat.le_refl _)) (Nat.le_refl _))).ok (by decide) (by decide)).w
    have f1 := qii (ws := us) hB.2.1 (by omega) big ox.ty ox.kn
    have f2 := qhp (ws := us) hB.2.1 (by omega) (by omega) big ox.ty ox.kn
    unfold Ui
    refine Qd fun Z3 g3 => ?_
    try simp only [Pu.pwA,Ux,YD,Ss sw]
    rw [g3]
    refine Qd fun Z4 g4 => ?_
    try simp only [Pu.pwA,f1]
    rw [g4]
    try simp only [Pu.pwA,Ux,YD,Ss sw,f2,Kd]
    exact ⟨_,_,_,rfl⟩
   ·rintro ρ m2 ⟨rfl,s11,s12,s13,rfl⟩
    exact ⟨by omega,_,_,_,_,_,_,_,_,⟨rfl,rfl⟩,⟨rfl,rfl⟩,rfl⟩
 ·rintro ρ n ⟨hn,r4,r7,s8,s9,s10,s11,s12,s13,_,_,rfl⟩
  try simp only [Pu.pwA]
end K37
namespace K37
open PySem L2 L3 Bk
noncomputable def Kf (P : Params) : PySem.W.Frag := [(3,Hd.oD P 36 [(.str "__name__" 165,.str "law_bankwalk_k37_bars_spoilt_anywhere" 312),(.str "__doc__" 166,.none),(.str "__package__" 167,.none),(.str "__loader__" 168,.builtin "__main__.__loader__#opaque"),(.str "__spec__" 169,.none),(.str "__annotations__" 170,.ref 6),(.str "__builtins__" 171,.ref 4),(.str "__file__" 173,.str "/claim/cut.py" 172),(.str "__cached__" 174,.none),(.str "is_number" 195,.ref 21),(.str "is_number_below" 203,.ref 28),(.str "first_alike" 212,.ref 35),(.str "are_alike" 221,.ref 42),(.str "STRIDES" 241,.ref 43),(.str "strung" 247,.ref 52),(.str "cells_of" 253,.ref 57),(.str "rests_by" 261,.ref 62),(.str "all_factors" 269,.ref 67),(.str "first_bar" 281,.ref 74),(.str "skew_for" 292,.ref 81),(.str "is_bar" 305,.ref 88),(.str "shows_no_skew" 311,.ref 93),(.str "_law_mix" 322,.ref 100),(.str "_law_left" 332,.ref 107),(.str "_law_pick" 341,.ref 114),(.str "_law_many" 348,.ref 121),(.str "_law_walk" 365,.ref 128),(.str "_law_cells" 371,.ref 133),(.str "_law_rests_at" 377,.ref 138),(.str "_law_is_bars" 383,.ref 143),(.str "_law_walks" 389,.ref 148),(.str "_law_bars" 395,.ref 153),(.str "_law_number_odd" 403,.ref 160),(.str "_law_bar_odd" 414,.ref 167),(.str "_law_spoilt" 425,.ref 174),(.str "law" 431,.ref 179)]),
 (20,Hd.oC [.str "is_number" 189,.str "is_number" 190,.str "/claim/cut.py" 191,.int (2) 0,.int (1) 0,.int (0) 0,.int (0) 0,.int (3) 0,.ref 15,.bool true,.int (181) 0,.ref 16,.none,.ref 17,.ref 18,.ref 19,.int (193) 0,.int (2) 0,.str "/claim/cut.py" 194]),
 (21,Hd.oF "is_number" Qr (.str "bankwalk.basics" 187) (.ref 20)),
 (27,Hd.oC [.str "is_number_below" 196,.str "is_number_below" 197,.str "/claim/cut.py" 198,.int (4) 0,.int (2) 0,.int (0) 0,.int (0) 0,.int (3) 0,.ref 22,.bool true,.int (181) 0,.ref 23,.none,.ref 24,.ref 25,.ref 26,.int (201) 0,.int (4) 0,.str "/claim/cut.py" 202]),
 (28,Hd.oF "is_number_below" zn (.str "bankwalk.basics" 187) (.ref 27)),
 (34,Hd.oC [.str "first_alike" 204,.str "first_alike" 205,.str "/claim/cut.py" 206,.int (6) 0,.int (1) 0,.int (0) 0,.int (0) 0,.int (3) 0,.ref 29,.bool true,.int (181) 0,.ref 30,.none,.ref 31,.ref 32,.ref 33,.int (210) 0,.int (6) 0,.str "/claim/cut.py" 211]),
 (35,Hd.oF "first_alike" jv (.str "bankwalk.basics" 187) (.ref 34)),
 (41,Hd.oC [.str "are_alike" 213,.str "are_alike" 214,.str "/claim/cut.py" 215,.int (12) 0,.int (3) 0,.int (0) 0,.int (0) 0,.int (3) 0,.ref 36,.bool true,.int (181) 0,.ref 37,.none,.ref 38,.ref 39,.ref 40,.int (219) 0,.int (12) 0,.str "/claim/cut.py" 220]),
 (42,Hd.oF "are_alike" Qp (.str "bankwalk.basics" 187) (.ref 41)),
 (43,Hd.oD P 4 [(.str "row" 224,.ref 44),(.str "column" 227,.ref 45),(.str "slant" 230,.ref 46),(.str "back" 233,.ref 47)]),
 (44,Hd.oT [.int (0) 225,.int (1) 226]),
 (45,Hd.oT [.int (1) 228,.int (0) 229]),
 (46,Hd.oT [.int (1) 231,.int (1) 232]),
 (47,Hd.oT [.int (1) 234,.int (-1) 236]),
 (51,Hd.oC [.str "strung" 242,.str "strung" 243,.str "/claim/cut.py" 244,.int (18) 0,.int (3) 0,.int (0) 0,.int (0) 0,.int (3) 0,.ref 48,.bool true,.int (181) 0,.ref 49,.none,.none,.none,.ref 50,.int (245) 0,.int (18) 0,.str "/claim/cut.py" 246]),
 (52,Hd.oF "strung" J0 (.str "bankwalk.walks" 222) (.ref 51)),
 (56,Hd.oC [.str "cells_of" 248,.str "cells_of" 249,.str "/claim/cut.py" 250,.int (20) 0,.int (1) 0,.int (0) 0,.int (0) 0,.int (3) 0,.ref 53,.bool true,.int (181) 0,.ref 54,.none,.none,.none,.ref 55,.int (251) 0,.int (20) 0,.str "/claim/cut.py" 252]),
 (57,Hd.oF "cells_of" QW (.str "bankwalk.walks" 222) (.ref 56)),
 (61,Hd.oC [.str "rests_by" 256,.str "rests_by" 257,.str "/claim/cut.py" 258,.int (31) 0,.int (3) 0,.int (0) 0,.int (0) 0,.int (3) 0,.ref 58,.bool true,.int (181) 0,.ref 59,.none,.none,.none,.ref 60,.int (259) 0,.int (31) 0,.str "/claim/cut.py" 260]),
 (62,Hd.oF "rests_by" QH (.str "bankwalk.rests" 254) (.ref 61)),
 (66,Hd.oC [.str "all_factors" 264,.str "all_factors" 265,.str "/claim/cut.py" 266,.int (35) 0,.int (1) 0,.int (0) 0,.int (0) 0,.int (3) 0,.ref 63,.bool true,.int (181) 0,.ref 64,.none,.none,.none,.ref 65,.int (267) 0,.int (35) 0,.str "/claim/cut.py" 268]),
 (67,Hd.oF "all_factors" jw (.str "bankwalk.skews" 262) (.ref 66)),
 (73,Hd.oC [.str "first_bar" 270,.str "first_bar" 271,.str "/claim/cut.py" 272,.int (37) 0,.int (3) 0,.int (0) 0,.int (0) 0,.int (3) 0,.ref 68,.bool true,.int (181) 0,.ref 69,.none,.ref 70,.ref 71,.ref 72,.int (279) 0,.int (37) 0,.str "/claim/cut.py" 280]),
 (74,Hd.oF "first_bar" Ql (.str "bankwalk.skews" 262) (.ref 73)),
 (80,Hd.oC [.str "skew_for" 282,.str "skew_for" 283,.str "/claim/cut.py" 284,.int (43) 0,.int (2) 0,.int (0) 0,.int (0) 0,.int (3) 0,.ref 75,.bool true,.int (181) 0,.ref 76,.none,.ref 77,.ref 78,.ref 79,.int (290) 0,.int (43) 0,.str "/claim/cut.py" 291]),
 (81,Hd.oF "skew_for" Q8 (.str "bankwalk.skews" 262) (.ref 80)),
 (87,Hd.oC [.str "is_bar" 293,.str "is_bar" 294,.str "/claim/cut.py" 295,.int (51) 0,.int (4) 0,.int (0) 0,.int (0) 0,.int (3) 0,.ref 82,.bool true,.int (181) 0,.ref 83,.none,.ref 84,.ref 85,.ref 86,.int (303) 0,.int (51) 0,.str "/claim/cut.py" 304]),
 (88,Hd.oF "is_bar" J3 (.str "bankwalk.skews" 262) (.ref 87)),
 (92,Hd.oC [.str "shows_no_skew" 306,.str "shows_no_skew" 307,.str "/claim/cut.py" 308,.int (56) 0,.int (3) 0,.int (0) 0,.int (0) 0,.int (3) 0,.ref 89,.bool true,.int (181) 0,.ref 90,.none,.none,.none,.ref 91,.int (309) 0,.int (56) 0,.str "/claim/cut.py" 310]),
 (93,Hd.oF "shows_no_skew" zO (.str "bankwalk.skews" 262) (.ref 92)),
 (99,Hd.oC [.str "_law_mix" 314,.str "_law_mix" 315,.str "/claim/cut.py" 316,.int (61) 0,.int (2) 0,.int (0) 0,.int (0) 0,.int (3) 0,.ref 94,.bool true,.int (181) 0,.ref 95,.none,.ref 96,.ref 97,.ref 98,.int (320) 0,.int (61) 0,.str "/claim/cut.py" 321]),
 (100,Hd.oF "_law_mix" ZM (.str "law_bankwalk_k37_bars_spoilt_anywhere" 312) (.ref 99)),
 (106,Hd.oC [.str "_law_left" 323,.str "_law_left" 324,.str "/claim/cut.py" 325,.int (64) 0,.int (2) 0,.int (0) 0,.int (0) 0,.int (3) 0,.ref 101,.bool true,.int (181) 0,.ref 102,.none,.ref 103,.ref 104,.ref 105,.int (330) 0,.int (64) 0,.str "/claim/cut.py" 331]),
 (107,Hd.oF "_law_left" QB (.str "law_bankwalk_k37_bars_spoilt_anywhere" 312) (.ref 106)),
 (113,Hd.oC [.str "_law_pick" 333,.str "_law_pick" 334,.str "/claim/cut.py" 335,.int (68) 0,.int (2) 0,.int (0) 0,.int (0) 0,.int (3) 0,.ref 108,.bool true,.int (181) 0,.ref 109,.none,.ref 110,.ref 111,.ref 112,.int (339) 0,.int (68) 0,.str "/claim/cut.py" 340]),
 (114,Hd.oF "_law_pick" QE (.str "law_bankwalk_k37_bars_spoilt_anywhere" 312) (.ref 113)),
 (120,Hd.oC [.str "_law_many" 342,.str "_law_many" 343,.str "/claim/cut.py" 344,.int (75) 0,.int (1) 0,.int (0) 0,.int (0) 0,.int (3) 0,.ref 115,.bool true,.int (181) 0,.ref 116,.none,.ref 117,.ref 118,.ref 119,.int (346) 0,.int (75) 0,.str "/claim/cut.py" 347]),
 (121,Hd.oF "_law_many" QJ (.str "law_bankwalk_k37_bars_spoilt_anywhere" 312) (.ref 120)),
 (127,Hd.oC [.str "_law_walk" 349,.str "_law_walk" 350,.str "/claim/cut.py" 351,.int (77) 0,.int (1) 0,.int (0) 0,.int (0) 0,.int (3) 0,.ref 122,.bool true,.int (181) 0,.ref 123,.none,.ref 124,.ref 125,.ref 126,.int (363) 0,.int (77) 0,.str "/claim/cut.py" 364]),
 (128,Hd.oF "_law_walk" QN (.str "law_bankwalk_k37_bars_spoilt_anywhere" 312) (.ref 127)),
 (132,Hd.oC [.str "_law_cells" 366,.str "_law_cells" 367,.str "/claim/cut.py" 368,.int (96) 0,.int (1) 0,.int (0) 0,.int (0) 0,.int (3) 0,.ref 129,.bool true,.int (181) 0,.ref 130,.none,.none,.none,.ref 131,.int (369) 0,.int (96) 0,.str "/claim/cut.py" 370]),
 (133,Hd.oF "_law_cells" Qi (.str "law_bankwalk_k37_bars_spoilt_anywhere" 312) (.ref 132)),
 (137,Hd.oC [.str "_law_rests_at" 372,.str "_law_rests_at" 373,.str "/claim/cut.py" 374,.int (106) 0,.int (4) 0,.int (0) 0,.int (0) 0,.int (3) 0,.ref 134,.bool true,.int (181) 0,.ref 135,.none,.none,.none,.ref 136,.int (375) 0,.int (106) 0,.str "/claim/cut.py" 376]),
 (138,Hd.oF "_law_rests_at" jd (.str "law_bankwalk_k37_bars_spoilt_anywhere" 312) (.ref 137)),
 (142,Hd.oC [.str "_law_is_bars" 378,.str "_law_is_bars" 379,.str "/claim/cut.py" 380,.int (108) 0,.int (3) 0,.int (0) 0,.int (0) 0,.int (3) 0,.ref 139,.bool true,.int (181) 0,.ref 140,.none,.none,.none,.ref 141,.int (381) 0,.int (108) 0,.str "/claim/cut.py" 382]),
 (143,Hd.oF "_law_is_bars" jx (.str "law_bankwalk_k37_bars_spoilt_anywhere" 312) (.ref 142)),
 (147,Hd.oC [.str "_law_walks" 384,.str "_law_walks" 385,.str "/claim/cut.py" 386,.int (124) 0,.int (1) 0,.int (0) 0,.int (0) 0,.int (3) 0,.ref 144,.bool true,.int (181) 0,.ref 145,.none,.none,.none,.ref 146,.int (387) 0,.int (124) 0,.str "/claim/cut.py" 388]),
 (148,Hd.oF "_law_walks" Qf (.str "law_bankwalk_k37_bars_spoilt_anywhere" 312) (.ref 147)),
 (152,Hd.oC [.str "_law_bars" 390,.str "_law_bars" 391,.str "/claim/cut.py" 392,.int (126) 0,.int (2) 0,.int (0) 0,.int (0) 0,.int (3) 0,.ref 149,.bool true,.int (181) 0,.ref 150,.none,.none,.none,.ref 151,.int (393) 0,.int (126) 0,.str "/claim/cut.py" 394]),
 (153,Hd.oF "_law_bars" QG (.str "law_bankwalk_k37_bars_spoilt_anywhere" 312) (.ref 152)),
 (159,Hd.oC [.str "_law_number_odd" 396,.str "_law_number_odd" 397,.str "/claim/cut.py" 398,.int (140) 0,.int (2) 0,.int (0) 0,.int (0) 0,.int (3) 0,.ref 154,.bool true,.int (181) 0,.ref 155,.none,.ref 156,.ref 157,.ref 158,.int (401) 0,.int (140) 0,.str "/claim/cut.py" 402]),
 (160,Hd.oF "_law_number_odd" zC (.str "law_bankwalk_k37_bars_spoilt_anywhere" 312) (.ref 159)),
 (166,Hd.oC [.str "_law_bar_odd" 404,.str "_law_bar_odd" 405,.str "/claim/cut.py" 406,.int (144) 0,.int (3) 0,.int (0) 0,.int (0) 0,.int (3) 0,.ref 161,.bool true,.int (181) 0,.ref 162,.none,.ref 163,.ref 164,.ref 165,.int (412) 0,.int (144) 0,.str "/claim/cut.py" 413]),
 (167,Hd.oF "_law_bar_odd" jz (.str "law_bankwalk_k37_bars_spoilt_anywhere" 312) (.ref 166)),
 (173,Hd.oC [.str "_law_spoilt" 415,.str "_law_spoilt" 416,.str "/claim/cut.py" 417,.int (158) 0,.int (3) 0,.int (0) 0,.int (0) 0,.int (3) 0,.ref 168,.bool true,.int (181) 0,.ref 169,.none,.ref 170,.ref 171,.ref 172,.int (423) 0,.int (158) 0,.str "/claim/cut.py" 424]),
 (174,Hd.oF "_law_spoilt" jT (.str "law_bankwalk_k37_bars_spoilt_anywhere" 312) (.ref 173)),
 (178,Hd.oC [.str "law" 426,.str "law" 427,.str "/claim/cut.py" 428,.int (169) 0,.int (1) 0,.int (0) 0,.int (0) 0,.int (3) 0,.ref 175,.bool true,.int (181) 0,.ref 176,.none,.none,.none,.ref 177,.int (429) 0,.int (169) 0,.str "/claim/cut.py" 430]),
 (179,Hd.oF "law" ZR (.str "law_bankwalk_k37_bars_spoilt_anywhere" 312) (.ref 178))]
theorem qcq {l : PySem.W.OpenLaw} {w : World} {h : Heap} {mg : Str → Option Value} {fa : Addr} (X : (Kf w.params).In h) (G : h.Ns mainGlobals mg) (hfa : mg "law" = some (.ref fa)) :
  ∃ fd : FuncData,(∀ (s : Shared) (v : Value),BindsTo s fd ⟨[v],[]⟩ [("_law_script",v)])∧∀ base : Heap,(Kf w.params).In base → base.Ns mainGlobals mg → FnOk l.prog w (Kf w.params) mg base CX0 7 fa fd ["_law_script"] (lSp (Kf w.params) VJ) := by
 have e := hfa.symm.trans (Hd.jn X G "law" (.ref 179) (by kernel_rfl))
 cases e
 have F0 := Hd.j3 (K := Kf w.params) "is_number" Qr 21 (.str "bankwalk.basics" 187) (.ref 20) (by kernel_rfl) (by kernel_rfl) (by kernel_rfl)
 have b0 := F0.binds (ps := ZZ) fun _ _ _ _ _ _ us hl => by obtain ⟨_,rfl⟩ := Pu.R4 hl;rfl
 have m0 := Hd.jn X G "is_number" (.ref 21) (by kernel_rfl)
 have F1 := Hd.j3 (K := Kf w.params) "is_number_below" zn 28 (.str "bankwalk.basics" 187) (.ref 27) (by kernel_rfl) (by kernel_rfl) (by kernel_rfl)
 have b1 := F1.binds (ps := jk) fun _ _ _ _ _ _ us hl => by obtain ⟨_,_,rfl⟩ := Pu.Te hl;rfl
 have m1 := Hd.jn X G "is_number_below" (.ref 28) (by kernel_rfl)
 have F2 := Hd.j3 (K := Kf w.params) "first_alike" jv 35 (.str "bankwalk.basics" 187) (.ref 34) (by kernel_rfl) (by kernel_rfl) (by kernel_rfl)
 have b2 := F2.binds (ps := Za) fun _ _ _ _ _ _ us hl => by obtain ⟨_,rfl⟩ := Pu.R4 hl;rfl
 have m2 := Hd.jn X G "first_alike" (.ref 35) (by kernel_rfl)
 have F3 := Hd.j3 (K := Kf w.params) "are_alike" Qp 42 (.str "bankwalk.basics" 187) (.ref 41) (by kernel_rfl) (by kernel_rfl) (by kernel_rfl)
 have b3 := F3.binds (ps := Jd) fun _ _ _ _ _ _ us hl => by obtain ⟨_,_,_,rfl⟩ := Pu.WA hl;rfl
 have m3 := Hd.jn X G "are_alike" (.ref 42) (by kernel_rfl)
 have F4 := Hd.j3 (K := Kf w.params) "strung" J0 52 (.str "bankwalk.walks" 222) (.ref 51) (by kernel_rfl) (by kernel_rfl) (by kernel_rfl)
 have b4 := F4.binds (ps := Uk) fun _ _ _ _ _ _ us hl => by obtain ⟨_,_,_,rfl⟩ := Pu.WA hl;rfl
 have m4 := Hd.jn X G "strung" (.ref 52) (by kernel_rfl)
 have F5 := Hd.j3 (K := Kf w.params) "cells_of" QW 57 (.str "bankwalk.walks" 222) (.ref 56) (by kernel_rfl) (by kernel_rfl) (by kernel_rfl)
 have b5 := F5.binds (ps := JX) fun _ _ _ _ _ _ us hl => by obtain ⟨_,rfl⟩ := Pu.R4 hl;rfl
 have m5 := Hd.jn X G "cells_of" (.ref 57) (by kernel_rfl)
 have F6 := Hd.j3 (K := Kf w.params) "rests_by" QH 62 (.str "bankwalk.rests" 254) (.ref 61) (by kernel_rfl) (by kernel_rfl) (by kernel_rfl)
 have b6 := F6.binds (ps := JH) fun _ _ _ _ _ _ us hl => by obtain ⟨_,_,_,rfl⟩ := Pu.WA hl;rfl
 have m6 := Hd.jn X G "rests_by" (.ref 62) (by kernel_rfl)
 have F7 := Hd.j3 (K := Kf w.params) "all_factors" jw 67 (.str "bankwalk.skews" 262) (.ref 66) (by kernel_rfl) (by kernel_rfl) (by kernel_rfl)
 have b7 := F7.binds (ps := Ze) fun _ _ _ _ _ _ us hl => by obtain ⟨_,rfl⟩ := Pu.R4 hl;rfl
 have m7 := Hd.jn X G "all_factors" (.ref 67) (by kernel_rfl)
 have F8 := Hd.j3 (K := Kf w.params) "first_bar" Ql 74 (.str "bankwalk.skews" 262) (.ref 73) (by kernel_rfl) (by kernel_rfl) (by kernel_rfl)
 have b8 := F8.binds (ps := Jj) fun _ _ _ _ _ _ us hl => by obtain ⟨_,_,_,rfl⟩ := Pu.WA hl;rfl
 have m8 := Hd.jn X G "first_bar" (.ref 74) (by kernel_rfl)
 have F9 := Hd.j3 (K := Kf w.params) "skew_for" Q8 81 (.str "bankwalk.skews" 262) (.ref 80) (by kernel_rfl) (by kernel_rfl) (by kernel_rfl)
 have b9 := F9.binds (ps := Yi) fun _ _ _ _ _ _ us hl => by obtain ⟨_,_,rfl⟩ := Pu.Te hl;rfl
 have m9 := Hd.jn X G "skew_for" (.ref 81) (by kernel_rfl)
 have F10 := Hd.j3 (K := Kf w.params) "is_bar" J3 88 (.str "bankwalk.skews" 262) (.ref 87) (by kernel_rfl) (by kernel_rfl) (by kernel_rfl)
 have b10 := F10.binds (ps := Uc) fun _ _ _ _ _ _ us hl => by obtain ⟨_,_,_,_,rfl⟩ := Pu.qg7 hl;rfl
 have m10 := Hd.jn X G "is_bar" (.ref 88) (by kernel_rfl)
 have F11 := Hd.j3 (K := Kf w.params) "shows_no_skew" zO 93 (.str "bankwalk.skews" 262) (.ref 92) (by kernel_rfl) (by kernel_rfl) (by kernel_rfl)
 have b11 := F11.binds (ps := jY) fun _ _ _ _ _ _ us hl => by obtain ⟨_,_,_,rfl⟩ := Pu.WA hl;rfl
 have m11 := Hd.jn X G "shows_no_skew" (.ref 93) (by kernel_rfl)
 have F12 := Hd.j3 (K := Kf w.params) "_law_mix" ZM 100 (.str "law_bankwalk_k37_bars_spoilt_anywhere" 312) (.ref 99) (by kernel_rfl) (by kernel_rfl) (by kernel_rfl)
 have b12 := F12.binds (ps := Vj) fun _ _ _ _ _ _ us hl => by obtain ⟨_,_,rfl⟩ := Pu.Te hl;rfl
 have m12 := Hd.jn X G "_law_mix" (.ref 100) (by kernel_rfl)
 have F13 := Hd.j3 (K := Kf w.params) "_law_left" QB 107 (.str "law_bankwalk_k37_bars_spoilt_anywhere" 312) (.ref 106) (by kernel_rfl) (by kernel_rfl) (by kernel_rfl)
 have b13 := F13.binds (ps := JN) fun _ _ _ _ _ _ us hl => by obtain ⟨_,_,rfl⟩ := Pu.Te hl;rfl
 have m13 := Hd.jn X G "_law_left" (.ref 107) (by kernel_rfl)
 have F14 := Hd.j3 (K := Kf w.params) "_law_pick" QE 114 (.str "law_bankwalk_k37_bars_spoilt_anywhere" 312) (.ref 113) (by kernel_rfl) (by kernel_rfl) (by kernel_rfl)
 have b14 := F14.binds (ps := JV) fun _ _ _ _ _ _ us hl => by obtain ⟨_,_,rfl⟩ := Pu.Te hl;rfl
 have m14 := Hd.jn X G "_law_pick" (.ref 114) (by kernel_rfl)
 have F15 := Hd.j3 (K := Kf w.params) "_law_many" QJ 121 (.str "law_bankwalk_k37_bars_spoilt_anywhere" 312) (.ref 120) (by kernel_rfl) (by kernel_rfl) (by kernel_rfl)
 have b15 := F15.binds (ps := JU) fun _ _ _ _ _ _ us hl => by obtain ⟨_,rfl⟩ := Pu.R4 hl;rfl
 have m15 := Hd.jn X G "_law_many" (.ref 121) (by kernel_rfl)
 have F16 := Hd.j3 (K := Kf w.params) "_law_walk" QN 128 (.str "law_bankwalk_k37_bars_spoilt_anywhere" 312) (.ref 127) (by kernel_rfl) (by kernel_rfl) (by kernel_rfl)
 have b16 := F16.binds (ps := JY) fun _ _ _ _ _ _ us hl => by obtain ⟨_,rfl⟩ := Pu.R4 hl;rfl
 have m16 := Hd.jn X G "_law_walk" (.ref 128) (by kernel_rfl)
 have F17 := Hd.j3 (K := Kf w.params) "_law_cells" Qi 133 (.str "law_bankwalk_k37_bars_spoilt_anywhere" 312) (.ref 132) (by kernel_rfl) (by kernel_rfl) (by kernel_rfl)
 have b17 := F17.binds (ps := Jf) fun _ _ _ _ _ _ us hl => by obtain ⟨_,rfl⟩ := Pu.R4 hl;rfl
 have m17 := Hd.jn X G "_law_cells" (.ref 133) (by kernel_rfl)
 have F18 := Hd.j3 (K := Kf w.params) "_law_rests_at" jd 138 (.str "law_bankwalk_k37_bars_spoilt_anywhere" 312) (.ref 137) (by kernel_rfl) (by kernel_rfl) (by kernel_rfl)
 have b18 := F18.binds (ps := Qy) fun _ _ _ _ _ _ us hl => by obtain ⟨_,_,_,_,rfl⟩ := Pu.qg7 hl;rfl
 have m18 := Hd.jn X G "_law_rests_at" (.ref 138) (by kernel_rfl)
 have F19 := Hd.j3 (K := Kf w.params) "_law_is_bars" jx 143 (.str "law_bankwalk_k37_bars_spoilt_anywhere" 312) (.ref 142) (by kernel_rfl) (by kernel_rfl) (by kernel_rfl)
 have b19 := F19.binds (ps := QM) fun _ _ _ _ _ _ us hl => by obtain ⟨_,_,_,rfl⟩ := Pu.WA hl;rfl
 have m19 := Hd.jn X G "_law_is_bars" (.ref 143) (by kernel_rfl)
 have F20 := Hd.j3 (K := Kf w.params) "_law_walks" Qf 148 (.str "law_bankwalk_k37_bars_spoilt_anywhere" 312) (.ref 147) (by kernel_rfl) (by kernel_rfl) (by kernel_rfl)
 have b20 := F20.binds (ps := Ji) fun _ _ _ _ _ _ us hl => by obtain ⟨_,rfl⟩ := Pu.R4 hl;rfl
 have m20 := Hd.jn X G "_law_walks" (.ref 148) (by kernel_rfl)
 have F21 := Hd.j3 (K := Kf w.params) "_law_bars" QG 153 (.str "law_bankwalk_k37_bars_spoilt_anywhere" 312) (.ref 152) (by kernel_rfl) (by kernel_rfl) (by kernel_rfl)
 have b21 := F21.binds (ps := Yg) fun _ _ _ _ _ _ us hl => by obtain ⟨_,_,rfl⟩ := Pu.Te hl;rfl
 have m21 := Hd.jn X G "_law_bars" (.ref 153) (by kernel_rfl)
 have F22 := Hd.j3 (K := Kf w.params) "_law_number_odd" zC 160 (.str "law_bankwalk_k37_bars_spoilt_anywhere" 312) (.ref 159) (by kernel_rfl) (by kernel_rfl) (by kernel_rfl)
 have b22 := F22.binds (ps := j8) fun _ _ _ _ _ _ us hl => by obtain ⟨_,_,rfl⟩ := Pu.Te hl;rfl
 have m22 := Hd.jn X G "_law_number_odd" (.ref 160) (by kernel_rfl)
 have F23 := Hd.j3 (K := Kf w.params) "_law_bar_odd" jz 167 (.str "law_bankwalk_k37_bars_spoilt_anywhere" 312) (.ref 166) (by kernel_rfl) (by kernel_rfl) (by kernel_rfl)
 have b23 := F23.binds (ps := QA) fun _ _ _ _ _ _ us hl => by obtain ⟨_,_,_,rfl⟩ := Pu.WA hl;rfl
 have m23 := Hd.jn X G "_law_bar_odd" (.ref 167) (by kernel_rfl)
 have F24 := Hd.j3 (K := Kf w.params) "_law_spoilt" jT 174 (.str "law_bankwalk_k37_bars_spoilt_anywhere" 312) (.ref 173) (by kernel_rfl) (by kernel_rfl) (by kernel_rfl)
 have b24 := F24.binds (ps := Z5) fun _ _ _ _ _ _ us hl => by obtain ⟨_,_,_,rfl⟩ := Pu.WA hl;rfl
 have m24 := Hd.jn X G "_law_spoilt" (.ref 174) (by kernel_rfl)
 have F25 := Hd.j3 (K := Kf w.params) "law" ZR 179 (.str "law_bankwalk_k37_bars_spoilt_anywhere" 312) (.ref 178) (by kernel_rfl) (by kernel_rfl) (by kernel_rfl)
 have g_isinstance := Hd.JR X G "isinstance" (by kernel_rfl)
 have g_bool := Hd.JR X G "bool" (by kernel_rfl)
 have g_int := Hd.JR X G "int" (by kernel_rfl)
 have g_len := Hd.JR X G "len" (by kernel_rfl)
 have g_range := Hd.JR X G "range" (by kernel_rfl)
 have g_list := Hd.JR X G "list" (by kernel_rfl)
 have g_STRIDES : Tb (Kf w.params) mg w "STRIDES" J4 := ⟨43,_,4,Hd.jn X G "STRIDES" (.ref 43) (by kernel_rfl),(show (Kf w.params).lookup 43 = some ⟨.type "dict",none,.dict #[⟨PyData.keyHash w.params "row",.str "row" 224,.ref 44⟩,⟨PyData.keyHash w.params "column",.str "column" 227,.ref 45⟩,⟨PyData.keyHash w.params "slant",.str "slant" 230,.ref 46⟩,⟨PyData.keyHash w.params "back",.str "back" 233,.ref 47⟩] 4,#[]⟩ by kernel_rfl),rfl,(.cons (v := .ref 44) rfl (D6 (show (Kf w.params).lookup 44 = some ⟨.type "tuple",none,.seq #[.int (0) 225,.int (1) 226] 0,#[]⟩ by kernel_rfl)) (.cons (v := .ref 45) rfl (D6 (show (Kf w.params).lookup 45 = some ⟨.type "tuple",none,.seq #[.int (1) 228,.int (0) 229] 0,#[]⟩ by kernel_rfl)) (.cons (v := .ref 46) rfl (D6 (show (Kf w.params).lookup 46 = some ⟨.type "tuple",none,.seq #[.int (1) 231,.int (1) 232] 0,#[]⟩ by kernel_rfl)) (.cons (v := .ref 47) rfl (D6 (show (Kf w.params).lookup 47 = some ⟨.type "tuple",none,.seq #[.int (1) 234,.int (-1) 236] 0,#[]⟩ by kernel_rfl)) .nil))))⟩
 have g_tuple := Hd.JR X G "tuple" (by kernel_rfl)
 have g_enumerate := Hd.JR X G "enumerate" (by kernel_rfl)
 have g_zip := Hd.JR X G "zip" (by kernel_rfl)
 have g_all := Hd.JR X G "all" (by kernel_rfl)
 have g_abs := Hd.JR X G "abs" (by kernel_rfl)
 have g_str := Hd.JR X G "str" (by kernel_rfl)
 have g_min := Hd.JR X G "min" (by kernel_rfl)
 refine ⟨PySem.W.fnOf "law" "law" (Zw ZR) (jm ZR) (qi ZR) .none .none .none (.str "law_bankwalk_k37_bars_spoilt_anywhere" 312) none (.ref 178) .none,fun s v => .of_eq rfl,fun base _ _ => ?_⟩
 have O_is_number := E6 (P := l.prog) (w := w) (base := base) (k := 0) F0 b0 m0  g_isinstance g_bool g_int UC
 have O_is_number_below := J5 (P := l.prog) (w := w) (base := base) (k := 1) F1 b1 m1 O_is_number  JC
 have O_first_alike := V2 (P := l.prog) (w := w) (base := base) (k := 0) F2 b2 m2  g_len g_range Pv.Vz
 have O_are_alike := UW (P := l.prog) (w := w) (base := base) (k := 2) F3 b3 m3 O_is_number_below g_len Ef
 have O_strung := WI (P := l.prog) (w := w) (base := base) (k := 0) F4 b4 m4  g_range Pv.Cw
 have O_cells_of := Dh (P := l.prog) (w := w) (base := base) (k := 1) F5 b5 m5 O_strung g_list g_range g_STRIDES Pv.EH
 have O_rests_by := Dt (P := l.prog) (w := w) (base := base) (k := 2) F6 b6 m6 O_cells_of g_tuple Pv.EX
 have O_all_factors := V3 (P := l.prog) (w := w) (base := base) (k := 0) F7 b7 m7  g_range V4
 have O_first_bar := El (P := l.prog) (w := w) (base := base) (k := 3) F8 b8 m8 O_rests_by (O_first_alike.mono (by decide)) g_enumerate Ek
 have O_skew_for := EQ (P := l.prog) (w := w) (base := base) (k := 4) F9 b9 m9 (O_all_factors.mono (by decide)) O_first_bar  EL
 have O_is_bar := X7 (P := l.prog) (w := w) (base := base) (k := 3) F10 b10 m10 O_rests_by O_are_alike (O_is_number_below.mono (by decide)) g_len g_isinstance g_tuple Cf
 have O_shows_no_skew := Yp (P := l.prog) (w := w) (base := base) (k := 4) F11 b11 m11 (O_all_factors.mono (by decide)) O_is_bar g_len g_isinstance g_list g_zip g_all Yu
 have O_law_mix := Wp (P := l.prog) (w := w) (base := base) (k := 0) F12 b12 m12   Bk.Wj
 have O_law_left := EW (P := l.prog) (w := w) (base := base) (k := 0) F13 b13 m13  g_len g_abs Bk.Db
 have O_law_pick := EN (P := l.prog) (w := w) (base := base) (k := 1) F14 b14 m14 O_law_mix  Bk.Dc
 have O_law_many := Dl (P := l.prog) (w := w) (base := base) (k := 2) F15 b15 m15 O_law_pick  Bk.EM
 have O_law_walk := Dn (P := l.prog) (w := w) (base := base) (k := 3) F16 b16 m16 (O_law_pick.mono (by decide)) O_law_many g_int g_range g_tuple Bk.Dv
 have O_law_cells := Ez (P := l.prog) (w := w) (base := base) (k := 0) F17 b17 m17  g_list g_range UP
 have O_law_rests_at := Vh (P := l.prog) (w := w) (base := base) (k := 0) F18 b18 m18   Vl
 have O_law_is_bars := V1 (P := l.prog) (w := w) (base := base) (k := 1) F19 b19 m19 O_law_cells O_law_rests_at g_len g_isinstance g_list g_enumerate g_tuple g_bool g_int g_all V0
 have O_law_walks := Eu (P := l.prog) (w := w) (base := base) (k := 4) F20 b20 m20 (O_law_pick.mono (by decide)) O_law_walk g_range UU
 have O_law_bars := Dy (P := l.prog) (w := w) (base := base) (k := 5) F21 b21 m21 O_skew_for (O_law_cells.mono (by decide)) (O_law_rests_at.mono (by decide)) g_range g_enumerate g_len EJ
 have O_law_number_odd := JL (P := l.prog) (w := w) (base := base) (k := 2) F22 b22 m22 O_law_pick g_isinstance g_int g_str JE
 have O_law_bar_odd := V5 (P := l.prog) (w := w) (base := base) (k := 3) F23 b23 m23 (O_law_pick.mono (by decide)) O_law_number_odd g_list V6
 have O_law_spoilt := Uj (P := l.prog) (w := w) (base := base) (k := 4) F24 b24 m24 (O_law_pick.mono (by decide)) O_law_bar_odd g_len g_isinstance g_tuple Ub
 exact qbh (k := 6) F25 (O_law_left.mono (by decide)) (O_law_pick.mono (by decide)) (O_law_walks.mono (by decide)) (O_law_walk.mono (by decide)) O_law_bars (O_law_spoilt.mono (by decide)) (O_shows_no_skew.mono (by decide)) (O_law_is_bars.mono (by decide)) g_len g_min g_range g_tuple g_list g_int g_str g_isinstance g_bool (MZ qb3)
noncomputable abbrev Q : Program := PySem.W.view PySem.Challenge.pw_bankwalk_k37_bars_spoilt_anywhere [1,2,3,4,6,7,8,10,12,13,14,15,16,18,19,20,21,22,23,24,25,26,27,28,29,30,31]
set_option maxRecDepth 100000 in
set_option maxHeartbeats 0 in
theorem left : PySem.W.LeftO PySem.Challenge.pw_bankwalk_k37_bars_spoilt_anywhere Q ["STRIDES"] (fun s => PySem.W.xlAt Q [] s && PySem.W.recOk [] s) (fun s => ([3,20,21,27,28,34,35,41,42,43,44,45,46,47,51,52,56,57,61,62,66,67,73,74,80,81,87,88,92,93,99,100,106,107,113,114,120,121,127,128,132,133,137,138,142,143,147,148,152,153,159,160,166,167,173,174,178,179] : List Addr).map s.heap.get?) (fun w => (Kf w.params).map fun p => some p.2) 1924 :=
 PySem.W.LeftO.of_split "special-get-raises" fun w => by kernel_rfl
end K37
open PySem PySem.W PyProof.Rows
set_option maxRecDepth 100000 in
set_option maxHeartbeats 0 in
theorem PySem.Challenge.cw_bankwalk_k37_bars_spoilt_anywhere_holds : PySem.Challenge.rw_bankwalk_k37_bars_spoilt_anywhere.Holds :=
 Hd.head (l := PySem.Challenge.rw_bankwalk_k37_bars_spoilt_anywhere) (q := K37.Q) (loose := ["STRIDES"]) (K := K37.Kf) (as := [3,20,21,27,28,34,35,41,42,43,44,45,46,47,51,52,56,57,61,62,66,67,73,74,80,81,87,88,92,93,99,100,106,107,113,114,120,121,127,128,132,133,137,138,142,143,147,148,152,153,159,160,166,167,173,174,178,179]) (N := 1924) (k := 7) (x := "_law_script")
  (d := ⟨"law",L2.Zw K37.ZR,L2.jm K37.ZR,L2.qi K37.ZR,⟨169,0,187,15⟩⟩) (fun _ => by kernel_rfl) (by kernel_rfl) K37.left (by kernel_rfl) (by kernel_rfl) (by kernel_rfl) (by kernel_rfl) (by kernel_rfl)
  ⟨rfl,rfl,rfl,rfl,rfl,by decide +kernel⟩ (by w_witness2) rfl (by kernel_rfl) ⟨rfl,by decide,by decide,rfl⟩ (fun w => by kernel_rfl) fun w mg fa h KX G hmg => K37.qcq KX G hmg
