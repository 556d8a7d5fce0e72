import PyProof.Rows.All
import Wide.All
import OpenK.AllK
import Wide.FinOn
import Lean
import PyProof.EqAt
import PyProof.EqKinds
import PyProof.TupleCall
import PyProof.NeKinds
import PySem.Challenge.RW_bankwalk_k36_least_skews
-- CHANGE: your row's module here, as the last of these rows
set_option Elab.async false
set_option linter.all false
set_option maxRecDepth 100000
namespace L2
open PySem PySem.Spec PyProof.Rows
abbrev Key := Sum Int Str
def keyIs : Key → Value → Bool
  | .inl k, v => Value.isInt k v
  | .inr x, v => Value.isStrOf x v
def keyH (w : World) : Key → Int
  | .inl k => hashInt k
  | .inr x => hashStr w x
theorem keyIs_shape : ∀ {k : Key} {v : Value}, keyIs k v = true → (∃ i t, k = Sum.inl i ∧ v = Value.int i t) ∨ (∃ x t, k = Sum.inr x ∧ v = Value.str x t)
  | .inl i, v, h => by
    obtain ⟨t, e⟩ := Value.isInt_shape (k := i) (v := v) h
    exact .inl ⟨i, t, rfl, e⟩
  | .inr x, v, h => by
    obtain ⟨t, e⟩ := Value.isStrOf_shape (x := x) (v := v) h
    exact .inr ⟨x, t, rfl, e⟩
theorem key_ll (a b : Int) : decide ((Sum.inl a : Key) = Sum.inl b) = (a == b) := by
  by_cases e : a = b
  · subst e; simp
  · have h : ¬ (Sum.inl a : Key) = Sum.inl b := fun q => e (Sum.inl.inj q)
    rw [decide_eq_false h]
    exact (beq_eq_false_iff_ne.mpr e).symm
theorem key_rr (a b : Str) : decide ((Sum.inr a : Key) = Sum.inr b) = decide (a = b) := by
  by_cases e : a = b
  · subst e; simp
  · have h : ¬ (Sum.inr a : Key) = Sum.inr b := fun q => e (Sum.inr.inj q)
    rw [decide_eq_false h, decide_eq_false e]
theorem key_lr (a : Int) (b : Str) : decide ((Sum.inl a : Key) = Sum.inr b) = false := decide_eq_false (fun q => nomatch q)
theorem key_rl (a : Str) (b : Int) : decide ((Sum.inr a : Key) = Sum.inl b) = false := decide_eq_false (fun q => nomatch q)
def mixKind (prog : Program) (w : World) : PySem.KeyKind prog w Key where
  is := keyIs
  hash := keyH w
  inj := fun v a b ha hb => by
    rcases keyIs_shape ha with ⟨i, t, rfl, rfl⟩ | ⟨x, t, rfl, rfl⟩
    · rcases keyIs_shape hb with ⟨j, u, rfl, e⟩ | ⟨y, u, rfl, e⟩
      · injection e with e1 _; rw [e1]
      · exact nomatch e
    · rcases keyIs_shape hb with ⟨j, u, rfl, e⟩ | ⟨y, u, rfl, e⟩
      · exact nomatch e
      · injection e with e1 _; rw [e1]
  byValue := fun k v h => by
    rcases keyIs_shape h with ⟨i, t, rfl, rfl⟩ | ⟨x, t, rfl, rfl⟩ <;> rfl
  pyHash := fun hv h => by
    rcases keyIs_shape hv with ⟨i, t, rfl, rfl⟩ | ⟨x, t, rfl, rfl⟩
    · exact wpAny_pyHash_int h
    · exact wpAny_pyHash_str h
  eqBool := fun hu hv h => by
    rcases keyIs_shape hu with ⟨i, t, rfl, rfl⟩ | ⟨x, t, rfl, rfl⟩
    · rcases keyIs_shape hv with ⟨j, u, rfl, rfl⟩ | ⟨y, u, rfl, rfl⟩
      · rw [key_ll] at h; exact wpAny_eqBool_int h
      · rw [key_lr] at h; exact SeqAt.EqAt.int_str i t y u _ _ _ _ h
    · rcases keyIs_shape hv with ⟨j, u, rfl, rfl⟩ | ⟨y, u, rfl, rfl⟩
      · rw [key_rl] at h; exact SeqAt.EqAt.str_int x t j u _ _ _ _ h
      · rw [key_rr] at h; exact wpAny_eqBool_str h
  «strs» := fun k x t v h => by
    rcases keyIs_shape h with ⟨i, u, rfl, e⟩ | ⟨y, u, rfl, e⟩
    · exact nomatch e
    · injection e with e1 _
      subst e1
      cases v <;> rfl
end L2
namespace L2
open PySem PySem.Spec PyProof.Rows
inductive V where
  | non | bl (b : Bool) | int (i : Int) | str (x : Str) | byt (b : Array UInt8) | flt (b : UInt64) | ref (a : Addr) | ty (n : String)
  deriving DecidableEq
def RelV : V → Value → Prop
  | .non, u => u = Value.none
  | .bl b, u => u = Value.bool b
  | .int i, u => ∃ t, u = Value.int i t
  | .str x, u => ∃ t, u = Value.str x t
  | .byt b, u => ∃ t, u = Value.bytes b t
  | .flt b, u => ∃ t, u = Value.float b t
  | .ref a, u => u = Value.ref a
  | .ty n, u => u = Value.type n
abbrev Vals : List V → List Value → Prop := Paired RelV
theorem Vals.length {xs : List V} {us : List Value} (r : Vals xs us) : xs.length = us.length := Paired.length r
theorem Vals.get : ∀ {xs : List V} {us : List Value} {i : Nat} {x : V}, Vals xs us → xs[i]? = some x → ∃ u, us[i]? = some u ∧ RelV x u
  | _, _, _, _, .nil, e => by simp at e
  | _, _, 0, _, .cons r _, e => by simp at e; subst e; exact ⟨_, rfl, r⟩
  | _, _, i + 1, x, .cons _ t, e => by
    obtain ⟨u, h1, h2⟩ := Vals.get (i := i) (x := x) t (by simpa using e)
    exact ⟨u, by simpa using h1, h2⟩
theorem Vals.set {x : V} {u : Value} (r : RelV x u) : ∀ {xs : List V} {us : List Value} (i : Nat), Vals xs us → Vals (xs.set i x) (us.set i u)
  | _, _, _, .nil => .nil
  | _, _, 0, .cons _ t => .cons r t
  | _, _, i + 1, .cons q t => .cons q (Vals.set r i t)
theorem Vals.append : ∀ {xs ys : List V} {us ws : List Value}, Vals xs us → Vals ys ws → Vals (xs ++ ys) (us ++ ws)
  | _, _, _, _, .nil, s => s
  | _, _, _, _, .cons r t, s => .cons r (Vals.append t s)
theorem Vals.take : ∀ {xs : List V} {us : List Value} (n : Nat), Vals xs us → Vals (xs.take n) (us.take n)
  | _, _, 0, _ => .nil
  | _, _, _ + 1, .nil => .nil
  | _, _, n + 1, .cons r t => .cons r (Vals.take n t)
theorem Vals.drop : ∀ {xs : List V} {us : List Value} (n : Nat), Vals xs us → Vals (xs.drop n) (us.drop n)
  | _, _, 0, r => r
  | _, _, _ + 1, .nil => .nil
  | _, _, n + 1, .cons _ t => Vals.drop n t
def RelO : Option V → Option Value → Prop
  | some v, some u => RelV v u
  | none, none => True
  | _, _ => False
def KV {κ : Type} : List (κ × V) → List (κ × Value) → Prop := Paired fun (p : κ × V) (q : κ × Value) => p.1 = q.1 ∧ RelV p.2 q.2
def kV : Key → V
  | .inl i => .int i
  | .inr x => .str x
inductive HO where
  /-- a list -/
  | lst (xs : List V)
  /-- a tuple (never changes) -/
  | tup (xs : List V)
  /-- a dict whose keys are ints and texts; one whose keys are tuples of ints and texts (the empty one is both) -/
  | dK (kvs : List (Key × V)) | dT (kvs : List (List Key × V))
  /-- a set of ints: its members, its size -/
  | set (S : Int → Bool) (n : Nat)
  /-- an instance of the class at C, its dict at dx, its attributes -/
  | ins (C dx : Addr) (fs : List (Str × V))
  /-- the dict of the instance at x -/
  | own (x : Addr)
  /-- the dict of an exception -/
  | xd (fs : List (Str × V))
  /-- a bound method, f of x -/
  | met (f x : Addr)
  /-- a range object lo, lo + 1, .. below hi -/
  | rng (lo hi : Int)
  /-- a thing that is known to the object (the script; a dict while a loop walks it): read, never written while it is so -/
  | frz (o : Obj) (u : HO)
  /-- a code object's table -/
  | tbl (ps : Array Value)
  /-- any other thing, by what is true of its one object (a def of one's own: SetO a S n := HO.ext fun h => ..) -/
  | ext (φ : Heap → Prop)
abbrev Hp := Addr → Option HO
def upd (H : Hp) (a : Addr) (o : HO) : Hp := fun b => if b = a then some o else H b
theorem upd_same {H : Hp} {a : Addr} {o : HO} : upd H a o a = some o := by unfold upd; rw [if_pos rfl]
theorem upd_ne {H : Hp} {a b : Addr} {o : HO} (h : b ≠ a) : upd H a o b = H b := by unfold upd; rw [if_neg h]
theorem ne_of_none {H : Hp} {a b : Addr} {o : HO} (h : H a = some o) (h' : H b = none) : a ≠ b := by
  intro e; subst e; rw [h] at h'; cases h'
section
variable (P : Program) (w : World)
def ObjOk (H : Hp) (h : Heap) (a : Addr) : HO → Prop
  | .lst xs => xs.length ≤ sizeLine ∧ ∃ (its : List Value) (n : Nat), Vals xs its ∧ h.get? a = some { cls := .type "list", data := .seq its.toArray n }
  | .tup xs => xs.length ≤ sizeLine ∧ ∃ its : List Value, Vals xs its ∧ IsTup h a its.toArray
  | .dK kvs => kvs.length ≤ sizeLine ∧ (a == sysModules) = false ∧ ∃ vs, KV kvs vs ∧ h.DictOf (mixKind P w) a vs
  | .dT kvs => kvs.length ≤ sizeLine ∧ (a == sysModules) = false ∧ ∃ xs : List (List Key × Addr × Value),
      Paired (fun (p : List Key × V) (q : List Key × Addr × Value) => p.1 = q.1 ∧ H q.2.1 = some (.tup (p.1.map kV)) ∧ RelV p.2 q.2.2) kvs xs ∧
      ∃ o es ep, h.get? a = some o ∧ o.ExactDict ∧ o.data = .dict es ep ∧ es.toList = xs.map (entryOfKey (tupleKind (mixKind P w))) ∧ (xs.map (·.1)).Nodup
  | .set S n => h.SetOf (intKind P w) a S n
  | .ins C dx fs => H dx = some (.own a) ∧ fs.length ≤ 1000 ∧ dx ≠ a ∧ h.get? a = some (PySem.W.instObj C dx) ∧
      ∃ mA, h.Ns1 dx mA ∧ (∀ f, RelO (fs.lookup f) (mA f)) ∧ PySem.Within mA (fs.map (·.1))
  | .own _ => ∃ o, h.get? a = some o
  | .xd fs => ∃ mA, h.Ns1 a mA ∧ ∀ f, RelO (fs.lookup f) (mA f)
  | .rng lo hi => ∃ t u v, h.get? a = some { cls := .type "range", data := .fields #[.int lo t, .int hi u, .int 1 v] }
  | .frz o u => h.get? a = some o ∧ ObjOk H h a u
  | .tbl ps => h.get? a = some { cls := .none, data := .fields ps }
  | .met f x => h.get? a = some (PySem.W.methodObj (.ref f) (.ref x))
  | .ext φ => φ h ∧ (∃ o, h.get? a = some o) ∧ ∀ h1 h2 : Heap, φ h1 → (∀ o, h1.get? a = some o → h2.get? a = some o) → φ h2
def HOk (H : Hp) (h : Heap) : Prop := ∀ a o, H a = some o → ObjOk P w H h a o
end
section
variable {P : Program} {w : World} {H H' : Hp} {h h' : Heap} {a : Addr} {o : HO}
theorem ObjOk.lt (x : ObjOk P w H h a o) : a < h.objs.size := by
  cases o with
  | lst xs => obtain ⟨_, _, _, _, e⟩ := x; exact Heap.lt_size e
  | tup xs => obtain ⟨_, _, _, p⟩ := x; exact p.lt
  | dK kvs => obtain ⟨_, _, _, _, o, _, _, e, _⟩ := x; exact Heap.lt_size e
  | dT kvs => obtain ⟨_, _, _, _, o, _, _, e, _⟩ := x; exact Heap.lt_size e
  | set S n => obtain ⟨o, _, _, _, e, _⟩ := x; exact Heap.lt_size e
  | ins C dx fs => obtain ⟨_, _, _, e, _⟩ := x; exact Heap.lt_size e
  | own y => obtain ⟨_, e⟩ := x; exact Heap.lt_size e
  | xd fs => obtain ⟨_, ⟨_, _, _, e, _⟩, _⟩ := x; exact Heap.lt_size e
  | rng lo hi => obtain ⟨_, _, _, e⟩ := x; exact Heap.lt_size e
  | frz ob u => obtain ⟨e, _⟩ := x; exact Heap.lt_size e
  | tbl ps => exact Heap.lt_size (show h.get? a = some _ from x)
  | met f y => exact Heap.lt_size (show h.get? a = some _ from x)
  | ext φ => obtain ⟨_, ⟨_, e⟩, _⟩ := x; exact Heap.lt_size e
theorem Paired.mapP {α β : Type} {F G : α → β → Prop} : ∀ {l₁ : List α} {l₂ : List β}, Paired F l₁ l₂ → (∀ a b, F a b → G a b) → Paired G l₁ l₂
  | _, _, .nil, _ => .nil
  | _, _, .cons r t, f => .cons (f _ _ r) (Paired.mapP t f)
theorem ObjOk.stay (x : ObjOk P w H h a o) (k : ∀ b u, (b = a ∨ H b = some (.own a)) → h.get? b = some u → h'.get? b = some u)
    (ho : ∀ b, H b = some (.own a) → H' b = some (.own a)) (ht : ∀ b xs, H b = some (.tup xs) → H' b = some (.tup xs)) : ObjOk P w H' h' a o := by
  induction o with
  | lst xs => obtain ⟨z, its, n, r, e⟩ := x; exact ⟨z, its, n, r, k _ _ (.inl rfl) e⟩
  | tup xs => obtain ⟨z, its, r, ob, e, c⟩ := x; exact ⟨z, its, r, ob, k _ _ (.inl rfl) e, c⟩
  | dK kvs => obtain ⟨z, y, vs, r, ob, es, ep, e, c⟩ := x; exact ⟨z, y, vs, r, ob, es, ep, k _ _ (.inl rfl) e, c⟩
  | dT kvs =>
    obtain ⟨z, y, xs, r, ob, es, ep, e, c⟩ := x
    exact ⟨z, y, xs, Paired.mapP r fun p q z => ⟨z.1, ht _ _ z.2.1, z.2.2⟩, ob, es, ep, k _ _ (.inl rfl) e, c⟩
  | set S n => obtain ⟨ob, es, ep, t, e, c⟩ := x; exact ⟨ob, es, ep, t, k _ _ (.inl rfl) e, c⟩
  | ins C dx fs =>
    obtain ⟨d, z, ne, e, mA, ⟨od, es, ep, e2, c⟩, r⟩ := x
    exact ⟨ho _ d, z, ne, k _ _ (.inl rfl) e, mA, ⟨od, es, ep, k _ _ (.inr d) e2, c⟩, r⟩
  | own y => obtain ⟨ob, e⟩ := x; exact ⟨ob, k _ _ (.inl rfl) e⟩
  | xd fs => obtain ⟨mA, ⟨od, es, ep, e, c⟩, r⟩ := x; exact ⟨mA, ⟨od, es, ep, k _ _ (.inl rfl) e, c⟩, r⟩
  | rng lo hi => obtain ⟨t, u, v, e⟩ := x; exact ⟨t, u, v, k _ _ (.inl rfl) e⟩
  | frz ob u ih => obtain ⟨e, q⟩ := x; exact ⟨k _ _ (.inl rfl) e, ih q⟩
  | tbl ps =>
    have e : h.get? a = some { cls := .none, data := .fields ps } := x
    show h'.get? a = some { cls := .none, data := .fields ps }
    exact k a _ (.inl rfl) e
  | met f y =>
    have e : h.get? a = some (PySem.W.methodObj (.ref f) (.ref y)) := x
    show h'.get? a = some (PySem.W.methodObj (.ref f) (.ref y))
    exact k a _ (.inl rfl) e
  | ext φ => obtain ⟨p, ⟨o, e⟩, st⟩ := x; exact ⟨st _ _ p fun o q => k _ _ (.inl rfl) q, ⟨o, k _ _ (.inl rfl) e⟩, st⟩
theorem HOk.lt (x : HOk P w H h) (e : H a = some o) : a < h.objs.size := (x a o e).lt
theorem HOk.fresh (x : HOk P w H h) (e : h.objs.size ≤ a) : H a = none := by
  cases q : H a with
  | none => rfl
  | some u => exact absurd (Nat.lt_of_lt_of_le (x.lt q) e) (Nat.lt_irrefl _)
theorem HOk.kept (x : HOk P w H h) (k : ∀ b u, h.get? b = some u → h'.get? b = some u) : HOk P w H h' := fun a o e =>
  (x a o e).stay (fun b u _ q => k b u q) (fun _ q => q) fun _ _ q => q
theorem HOk.laid (x : HOk P w H h) (k : ∀ b u, h.get? b = some u → h'.get? b = some u) (hp : h.objs.size ≤ a) (new : ObjOk P w (upd H a o) h' a o) : HOk P w (upd H a o) h' := fun b u e => by
  have hn := x.fresh hp
  by_cases hb : b = a
  · subst hb; rw [upd_same] at e; cases e; exact new
  · rw [upd_ne hb] at e
    exact (x b u e).stay (fun c v _ q => k c v q) (fun c q => by rw [upd_ne (ne_of_none q hn)]; exact q) fun c xs q => by rw [upd_ne (ne_of_none q hn)]; exact q
end
def Rd (H : Hp) (a : Addr) (u : HO) : Prop := H a = some u ∨ ∃ o, H a = some (.frz o u)
theorem Rd.of {H : Hp} {a : Addr} {u : HO} (h : H a = some u) : Rd H a u := .inl h
theorem Rd.ok {P : Program} {w : World} {H : Hp} {h : Heap} {a : Addr} {u : HO} (r : Rd H a u) (x : HOk P w H h) : ObjOk P w H h a u := by
  rcases r with r | ⟨o, r⟩
  · exact x a u r
  · obtain ⟨_, q⟩ := x a _ r
    exact q
def Mut : Option HO → Prop
  | some (.lst _) => True
  | some (.dK _) => True
  | some (.dT _) => True
  | some (.set _ _) => True
  | some (.ins _ _ _) => True
  | some (.ext _) => True
  | _ => False
section
variable {P : Program} {w : World} {H : Hp} {h h' : Heap} {x e : Addr} {o' : HO}
theorem HOk.write (ok : HOk P w H h) (mu : Mut (H x)) (he : e = x ∨ H e = some (.own x)) (k : ∀ b u, b ≠ e → h.get? b = some u → h'.get? b = some u) (heo : ∃ u, h'.get? e = some u)
    (new : ObjOk P w (upd H x o') h' x o') : HOk P w (upd H x o') h' := fun b u q => by
  have nown : ∀ c y, H c = some (.own y) → c ≠ x := fun c y r z => by subst z; rw [r] at mu; exact mu
  have ntup : ∀ c xs, H c = some (.tup xs) → c ≠ x := fun c xs r z => by subst z; rw [r] at mu; exact mu
  by_cases hb : b = x
  · subst hb; rw [upd_same] at q; cases q; exact new
  · rw [upd_ne hb] at q
    by_cases hbe : b = e
    · have q' : H b = some (.own x) := by
        rcases he with z | z
        · exact absurd (hbe.trans z) hb
        · rw [hbe]; exact z
      rw [q] at q'; cases q'
      obtain ⟨v, hv⟩ := heo
      exact ⟨v, by rw [hbe]; exact hv⟩
    · refine (ok b u q).stay (fun c v hc r => k c v ?_ r) (fun c r => by rw [upd_ne (nown c b r)]; exact r) fun c xs r => by rw [upd_ne (ntup c xs r)]; exact r
      rcases hc with rfl | hc
      · exact hbe
      · rintro rfl
        rcases he with z | z
        · exact nown c b hc z
        · rw [hc] at z; cases z; exact hb rfl
end
structure Un (fs ex : List Addr) (H H' : Hp) (h h' : Heap) : Prop where
  keep : ∀ b o, h.get? b = some o → H b = none → b ∉ fs → b ∉ ex → h'.get? b = some o
  slot : ∀ b o, h.get? b = some o → H b = none → b ∈ fs → b ∉ ex → ∃ sl, h'.get? b = some { o with slots := sl }
  free : ∀ b o, h.get? b = some o → H b = none → b ∉ ex → H' b = none
  there : ∀ b o, h.get? b = some o → b ∉ ex → ∃ o', h'.get? b = some o'
  tups : ∀ b xs, H b = some (.tup xs) → H' b = some (.tup xs)
  frzs : ∀ b o u, H b = some (.frz o u) → H' b = some (.frz o u)
  tbls : ∀ b ps, H b = some (.tbl ps) → ∃ more, H' b = some (.tbl (ps ++ more))
section
variable {fs fs' ex ex' : List Addr} {H H1 H2 : Hp} {h h1 h2 h' : Heap} {a x e : Addr} {o : HO}
theorem Un.any (u : Un fs ex H H1 h h1) {b : Addr} {ob : Obj} (q : h.get? b = some ob) (n : H b = none) (hx : b ∉ ex) : ∃ sl, h1.get? b = some { ob with slots := sl } := by
  by_cases hb : b ∈ fs
  · exact u.slot b ob q n hb hx
  · exact ⟨ob.slots, u.keep b ob q n hb hx⟩
theorem Un.trans (a : Un fs ex H H1 h h1) (b : Un fs ex H1 H2 h1 h2) : Un fs ex H H2 h h2 where
  keep := fun c ob q n hc hx => b.keep c ob (a.keep c ob q n hc hx) (a.free c ob q n hx) hc hx
  slot := fun c ob q n hc hx => by
    obtain ⟨sl, e1⟩ := a.slot c ob q n hc hx
    obtain ⟨sl', e2⟩ := b.slot c _ e1 (a.free c ob q n hx) hc hx
    exact ⟨sl', e2⟩
  free := fun c ob q n hx => by
    obtain ⟨o', e1⟩ := a.there c ob q hx
    exact b.free c o' e1 (a.free c ob q n hx) hx
  there := fun c ob q hx => by
    obtain ⟨o', e1⟩ := a.there c ob q hx
    exact b.there c o' e1 hx
  tups := fun c xs q => b.tups c xs (a.tups c xs q)
  frzs := fun c ob xs q => b.frzs c ob xs (a.frzs c ob xs q)
  tbls := fun c ps q => by
    obtain ⟨m1, e1⟩ := a.tbls c ps q
    obtain ⟨m2, e2⟩ := b.tbls c _ e1
    exact ⟨m1 ++ m2, by rw [e2, Array.append_assoc]⟩
theorem Un.kept (k : ∀ b u, h.get? b = some u → h'.get? b = some u) : Un fs ex H H h h' :=
  ⟨fun b ob q _ _ _ => k b ob q, fun b ob q _ _ _ => ⟨ob.slots, k b ob q⟩, fun _ _ _ n _ => n, fun b ob q _ => ⟨ob, k b ob q⟩, fun _ _ q => q, fun _ _ _ q => q, fun _ ps q => ⟨#[], by rw [q]; simp⟩⟩
theorem Un.refl : Un fs ex H H h h := Un.kept fun _ _ q => q
theorem Un.laid (k : ∀ b u, h.get? b = some u → h'.get? b = some u) (hp : h.objs.size ≤ a) (hn : H a = none) : Un fs ex H (upd H a o) h h' where
  keep := fun b u q _ _ _ => k b u q
  slot := fun b u q _ _ _ => ⟨u.slots, k b u q⟩
  free := fun b u q n _ => by rw [upd_ne (Nat.ne_of_lt (Nat.lt_of_lt_of_le (Heap.lt_size q) hp))]; exact n
  there := fun b u q _ => ⟨u, k b u q⟩
  tups := fun b xs q => by rw [upd_ne (ne_of_none q hn)]; exact q
  frzs := fun b u xs q => by rw [upd_ne (ne_of_none q hn)]; exact q
  tbls := fun b ps q => ⟨#[], by rw [upd_ne (ne_of_none q hn), q]; simp⟩
theorem Un.write (mu : Mut (H x)) (he : e = x ∨ H e = some (.own x)) (k : ∀ b u, b ≠ e → h.get? b = some u → h'.get? b = some u) (heo : ∃ u, h'.get? e = some u) : Un fs ex H (upd H x o) h h' := by
  have hx : ∀ b, H b = none → b ≠ x := fun b n z => by subst z; rw [n] at mu; exact mu
  have hb : ∀ b, H b = none → b ≠ e := fun b n z => by
    subst z
    rcases he with r | r
    · exact hx b n r
    · rw [n] at r; cases r
  have hm : ∀ b u, H b = some u → ¬ Mut (some u) → b ≠ x := fun b u q nm z => by subst z; rw [q] at mu; exact nm mu
  refine ⟨fun b u q n _ _ => k b u (hb b n) q, fun b u q n _ _ => ⟨u.slots, k b u (hb b n) q⟩, fun b u q n _ => by rw [upd_ne (hx b n)]; exact n, fun b u q _ => ?_,
    fun b xs q => by rw [upd_ne (hm b _ q fun z => z)]; exact q, fun b u xs q => by rw [upd_ne (hm b _ q fun z => z)]; exact q, fun b ps q => ⟨#[], by rw [upd_ne (hm b _ q fun z => z), q]; simp⟩⟩
  by_cases hbe : b = e
  · subst hbe; exact heo
  · exact ⟨u, k b u hbe q⟩
theorem Un.mono (u : Un fs ex H H1 h h1) (hs : ∀ b ∈ fs, b ∈ fs') (hx : ∀ b ∈ ex, b ∈ ex') : Un fs' ex' H H1 h h1 :=
  ⟨fun b ob q n hb he => u.keep b ob q n (fun z => hb (hs b z)) fun z => he (hx b z), fun _ _ q n _ he => u.any q n fun z => he (hx _ z), fun b ob q n he => u.free b ob q n fun z => he (hx b z), fun b ob q he => u.there b ob q fun z => he (hx b z), u.tups, u.frzs, u.tbls⟩
end
def trk (h : Heap) (H : Hp) : List Addr := (List.range h.objs.size).filter fun a => (H a).isSome
def hidT (h : Heap) (H : Hp) : Heap := PySem.W.hideAll h (trk h H)
theorem hidT_size (h : Heap) (H : Hp) : (hidT h H).objs.size = h.objs.size := PySem.W.hideAll_size _ _
theorem hidT_get {h : Heap} {H : Hp} {b : Addr} {o : Obj} (e : h.get? b = some o) (n : H b = none) : (hidT h H).get? b = some o :=
  PySem.W.hideAll_get _ e fun hm => by
    have q : (H b).isSome = true := (List.mem_filter.mp hm).2
    rw [n] at q; simp at q
theorem of_hidT {h : Heap} {H : Hp} {b : Addr} {o : Obj} (e : (hidT h H).get? b = some o) : h.get? b = some o ∧ H b = none := by
  have e' : h.get? b = some o := PySem.W.of_hideAll (trk h H) e
  refine ⟨e', ?_⟩
  cases q : H b with
  | none => rfl
  | some x =>
    have hm : b ∈ trk h H := List.mem_filter.mpr ⟨List.mem_range.mpr (Heap.lt_size e'), by simp [q]⟩
    have z : (hidT h H).get? b = none := PySem.W.hideAll_none (trk h H) hm
    rw [z] at e; cases e
def allNews (g h : Heap) (L : Addr) : List (Addr × Obj) := (List.range h.objs.size).filterMap fun a => if a = L ∨ (g.get? a).isSome = true then none else (h.get? a).map fun o => (a, o)
def rest (g h : Heap) (L d : Addr) : List (Addr × Obj) := (allNews g h L).filter fun p => decide (p.1 ≠ d)
end L2
namespace L2
open PySem PySem.Spec PyProof.Rows
structure Mod (K : PySem.W.Frag) (mg : Str → Option Value) (base : Heap) : Prop where
  kin : K.In base
  glob : base.Ns mainGlobals mg
  blt : ∃ mb, base.Ns builtinsNs mb ∧ ∀ x : Str, x ≠ "__name__" → mb x = bootBuiltins x
  nolimit : base.NoLimit
structure Cx where
  prog : Program
  w : World
  K : PySem.W.Frag
  mg : Str → Option Value
  base : Heap
  A : Around
  N : List Str
  s₀ : Shared
  H₀ : Hp
  env : Env
  outer : List Env
  stack : List Env
  ex : List Addr
  fn : Str → Bool
  calm : Bool
  pn : List (Addr × Obj)
  xe : Value → Shared → Prop
def frs (l : List Env) : List Addr := l.filterMap (·.frame)
abbrev Cx.fs (X : Cx) : List Addr := frs X.outer
def Vis (sc : Scope) (x : Str) : Prop := sc.names.lookup x = some .local ∨ sc.names.lookup x = some .cell ∨ sc.names.lookup x = some .free
def Loc (sc : Scope) (x : Str) : Prop := sc.names.lookup x = some .local ∨ sc.names.lookup x = some .cell
def Look (env : Env) (h : Heap) (m : Str → Option Value) (x : Str) (u : Value) : Prop :=
  (env.kindOf x = some .local ∧ m x = some u) ∨ ((env.kindOf x = some .cell ∨ env.kindOf x = some .free) ∧ ∃ c, env.cells.lookup x = some c ∧ h.IsCell c (some u))
structure Cx.Ok (X : Cx) : Prop where
  mod : Mod X.K X.mg X.base
  kind : X.env.scope.kind = .function
  glob : X.env.globals = mainGlobals
  blt : X.env.builtins = builtinsNs
  above : X.s₀.heap.objs.size ≤ X.env.locals
  inj : ∀ x y c, X.env.cells.lookup x = some c → X.env.cells.lookup y = some c → x = y
  has : ∀ x, (X.env.kindOf x = some .cell ∨ X.env.kindOf x = some .free) → ∃ c, X.env.cells.lookup x = some c
  cab : ∀ x c, X.fn x = true → X.env.cells.lookup x = some c → X.s₀.heap.objs.size ≤ c
  hd : X.calm = true → X.A.handled = none
  frames : X.A.frames = some X.stack
  stk : X.stack = X.outer ∨ (X.stack = X.env :: X.outer ∧ X.env.frame = some X.env.locals)
  exf : ∀ b ∈ X.ex, b ≠ X.env.locals ∧ ∀ x c, X.env.cells.lookup x = some c → c ≠ b
  bs : ∀ b o, X.base.get? b = some o → X.s₀.heap.get? b = some o ∧ X.H₀ b = none
  bsz : X.base.objs.size ≤ X.s₀.heap.objs.size
  noex : ∀ b o, X.base.get? b = some o → b ∉ X.ex
  exfs : ∀ b ∈ X.ex, b ∉ X.fs
  funs : X.s₀.heap.FunFrames X.base X.outer
  frf : ∀ b ∈ X.fs, X.H₀ b = none
structure Inv (X : Cx) (pins : List (Addr × Obj)) (σ : List (Option V)) (H : Hp) (s : Shared) : Prop where
  ok : X.Ok
  os : s.os = X.s₀.os
  bare : AllBare s.gens
  base : Un X.fs X.ex X.H₀ H X.s₀.heap s.heap
  loc : ∃ m, s.heap.Ns X.env.locals m ∧ ∀ (i : Nat) (x : Str) (v : V), X.N[i]? = some x → σ[i]? = some (some v) → Vis X.env.scope x → ∃ u, RelV v u ∧ Look X.env s.heap m x u
  cell : ∀ x c, X.env.cells.lookup x = some c → ∃ v, s.heap.IsCell c v
  free : H X.env.locals = none
  freeC : ∀ x c, X.env.cells.lookup x = some c → H c = none
  pin : ∀ p ∈ X.pn ++ pins, s.heap.get? p.1 = some p.2 ∧ H p.1 = none ∧ p.1 ≠ X.env.locals ∧ p.1 ∉ X.fs ∧ ∀ v, p.2.data ≠ .cell v
  hok : HOk X.prog X.w H s.heap
  len : σ.length = X.N.length
section
variable {X : Cx} {pins : List (Addr × Obj)} {σ : List (Option V)} {H H' : Hp} {s : Shared} {h' : Heap}
theorem Cx.Ok.nofr (ok : X.Ok) {b : Addr} {o : Obj} (e : X.base.get? b = some o) : b ∉ X.fs := fun hb => by
  have := (ok.funs.mem hb).1
  rw [e] at this; cases this
theorem Inv.bs (I : Inv X pins σ H s) : ∀ b o, X.base.get? b = some o → s.heap.get? b = some o ∧ H b = none := fun b o e =>
  ⟨I.base.keep b o (I.ok.bs b o e).1 (I.ok.bs b o e).2 (I.ok.nofr e) (I.ok.noex b o e), I.base.free b o (I.ok.bs b o e).1 (I.ok.bs b o e).2 (I.ok.noex b o e)⟩
theorem Inv.bk (I : Inv X pins σ H s) : ∀ b o, X.base.get? b = some o → s.heap.get? b = some o := fun b o e => (I.bs b o e).1
theorem Inv.mod (I : Inv X pins σ H s) : Mod X.K X.mg X.base := I.ok.mod
theorem Inv.kIn (I : Inv X pins σ H s) : X.K.In s.heap := I.ok.mod.kin.keeps I.bk
theorem Inv.nolimit (I : Inv X pins σ H s) : s.heap.NoLimit := I.ok.mod.nolimit.keeps I.bk
theorem Inv.lt (I : Inv X pins σ H s) : X.env.locals < s.heap.objs.size := let ⟨_, hn, _⟩ := I.loc; hn.lt
theorem Inv.sz (I : Inv X pins σ H s) : X.s₀.heap.objs.size ≤ s.heap.objs.size := Nat.le_trans I.ok.above (Nat.le_of_lt I.lt)
theorem Inv.nofs (I : Inv X pins σ H s) {a : Addr} (h : s.heap.objs.size ≤ a) : a ∉ X.fs := fun hb => by
  obtain ⟨_, o, ho, _⟩ := I.ok.funs.mem hb
  exact absurd (Nat.lt_of_lt_of_le (Heap.lt_size ho) (Nat.le_trans I.sz h)) (Nat.lt_irrefl _)
theorem Inv.cne (I : Inv X pins σ H s) : ∀ x c, X.env.cells.lookup x = some c → c ≠ X.env.locals := fun x c e z => by
  obtain ⟨v, o, ho, hd⟩ := I.cell x c e
  obtain ⟨m, ⟨o', es, ep, ho', hd', _⟩, _⟩ := I.loc
  rw [z, ho'] at ho; cases ho; rw [hd'] at hd; cases hd
theorem Inv.funs (I : Inv X pins σ H s) : s.heap.FunFrames X.base X.outer := by
  have all : ∀ (l : List Env), (∀ b ∈ frs l, b ∈ X.fs) → X.s₀.heap.FunFrames X.base l → s.heap.FunFrames X.base l := by
    intro l
    induction l with
    | nil => intro _ _; trivial
    | cons env r ih =>
      intro hs hl
      obtain ⟨hk, ⟨L, o, hf, hn, ho, hd⟩, hr⟩ := hl
      have hL : L ∈ X.fs := hs L (by unfold frs; rw [List.filterMap_cons, hf]; exact List.mem_cons_self)
      obtain ⟨sl, e⟩ := I.base.slot L o ho (I.ok.frf L hL) hL fun z => I.ok.exfs L z hL
      exact ⟨hk, ⟨L, _, hf, hn, e, hd⟩, ih (fun b hb => hs b (by unfold frs; rw [List.filterMap_cons, hf]; exact List.mem_cons_of_mem _ hb)) hr⟩
  exact all X.outer (fun _ hb => hb) I.ok.funs
theorem Inv.stack (I : Inv X pins σ H s) : s.heap.FunFrames X.base X.stack := by
  rcases I.ok.stk with e | ⟨e, hf⟩
  · rw [e]; exact I.funs
  · rw [e]
    obtain ⟨m, hn, _⟩ := I.loc
    refine .cons (by rw [I.ok.kind]; decide) hf hn ?_ I.funs
    exact Heap.get?_none_of_le (Nat.le_trans I.ok.bsz I.ok.above)
theorem Inv.stkSub (I : Inv X pins σ H s) : ∀ b ∈ frs X.stack, b ∈ X.env.locals :: X.fs := fun b hb => by
  rcases I.ok.stk with e | ⟨e, hf⟩
  · rw [e] at hb; exact List.mem_cons_of_mem _ hb
  · rw [e] at hb
    unfold frs at hb
    rw [List.filterMap_cons, hf] at hb
    exact hb
theorem Inv.stkFree (I : Inv X pins σ H s) : ∀ b ∈ frs X.stack, H b = none := fun b hb => by
  rcases List.mem_cons.mp (I.stkSub b hb) with e | hb
  · rw [e]; exact I.free
  · obtain ⟨_, o, ho, _⟩ := I.ok.funs.mem hb
    exact I.base.free b o ho (I.ok.frf b hb) fun z => I.ok.exfs b z hb
theorem Inv.step {g' : Array GenState} {t' : Nat} {d' : Drawn} {ch : List Addr} (I : Inv X pins σ H s)
    (hch : ∀ b ∈ ch, (b ∈ X.ex ∨ X.s₀.heap.objs.size ≤ b) ∧ b ≠ X.env.locals ∧ (∀ x c, X.env.cells.lookup x = some c → c ≠ b) ∧ ∀ p ∈ X.pn ++ pins, p.1 ≠ b)
    (keep : ∀ b o, b ≠ X.env.locals → b ∉ X.fs → b ∉ ch → s.heap.get? b = some o → H b = none → h'.get? b = some o)
    (slot : ∀ b o, b ≠ X.env.locals → b ∈ X.fs → b ∉ ch → s.heap.get? b = some o → H b = none → ∃ sl, h'.get? b = some { o with slots := sl }) (free : ∀ b o, b ∉ ch → s.heap.get? b = some o → H b = none → H' b = none)
    (there : ∀ b o, b ∉ ch → s.heap.get? b = some o → ∃ o', h'.get? b = some o')
    (tups : ∀ b xs, H b = some (.tup xs) → H' b = some (.tup xs)) (frzs : ∀ b o u, H b = some (.frz o u) → H' b = some (.frz o u)) (tbls : ∀ b ps, H b = some (.tbl ps) → ∃ more, H' b = some (.tbl (ps ++ more)))
    (ns : ∀ m, s.heap.Ns X.env.locals m → h'.Ns X.env.locals m) (hok : HOk X.prog X.w H' h') (hg : AllBare g') :
    Inv X pins σ H' { s with heap := h', gens := g', drawn := d', toks := t' } := by
  have neL : ∀ b o, X.s₀.heap.get? b = some o → b ≠ X.env.locals := fun b o e => Nat.ne_of_lt (Nat.lt_of_lt_of_le (Heap.lt_size e) I.ok.above)
  have neC : ∀ b o, X.s₀.heap.get? b = some o → b ∉ X.ex → b ∉ ch := fun b o e hx hb => by
    rcases (hch b hb).1 with z | z
    · exact hx z
    · exact absurd (Nat.lt_of_lt_of_le (Heap.lt_size e) z) (Nat.lt_irrefl _)
  have cellK : ∀ x c, X.env.cells.lookup x = some c → ∀ v, s.heap.IsCell c v → h'.IsCell c v := fun x c e v ⟨o, ho, hd⟩ => by
    have nch : c ∉ ch := fun z => (hch c z).2.2.1 x c e rfl
    by_cases hc : c ∈ X.fs
    · obtain ⟨sl, q⟩ := slot c o (I.cne x c e) hc nch ho (I.freeC x c e)
      exact ⟨_, q, hd⟩
    · exact ⟨o, keep c o (I.cne x c e) hc nch ho (I.freeC x c e), hd⟩
  refine ⟨I.ok, I.os, hg, ⟨fun b o e n hb hx => ?_, fun b o e n hb hx => ?_, fun b o e n hx => ?_, fun b o e hx => ?_, fun b xs e => tups b xs (I.base.tups b xs e), fun b o xs e => frzs b o xs (I.base.frzs b o xs e), fun b ps e => ?_⟩, ?_, fun x c e => ?_, ?_, fun x c e => ?_, fun p hp => ?_, hok, I.len⟩
  · exact keep b o (neL b o e) hb (neC b o e hx) (I.base.keep b o e n hb hx) (I.base.free b o e n hx)
  · obtain ⟨sl, e1⟩ := I.base.slot b o e n hb hx
    obtain ⟨sl', e2⟩ := slot b _ (neL b o e) hb (neC b o e hx) e1 (I.base.free b o e n hx)
    exact ⟨sl', e2⟩
  · obtain ⟨o', e1⟩ := I.base.there b o e hx
    exact free b o' (neC b o e hx) e1 (I.base.free b o e n hx)
  · obtain ⟨o', e1⟩ := I.base.there b o e hx
    exact there b o' (neC b o e hx) e1
  · obtain ⟨m1, e1⟩ := I.base.tbls b ps e
    obtain ⟨m2, e2⟩ := tbls b _ e1
    exact ⟨m1 ++ m2, by rw [e2, Array.append_assoc]⟩
  · obtain ⟨m, hn, hl⟩ := I.loc
    refine ⟨m, ns m hn, fun i x v e1 e2 e3 => ?_⟩
    obtain ⟨u, r, l⟩ := hl i x v e1 e2 e3
    refine ⟨u, r, ?_⟩
    rcases l with l | ⟨k, c, e, z⟩
    · exact .inl l
    · exact .inr ⟨k, c, e, cellK x c e _ z⟩
  · obtain ⟨v, z⟩ := I.cell x c e
    exact ⟨v, cellK x c e v z⟩
  · obtain ⟨m, ⟨o, _, _, ho, _⟩, _⟩ := I.loc
    exact free _ o (fun z => (hch _ z).2.1 rfl) ho I.free
  · obtain ⟨v, o, ho, hd⟩ := I.cell x c e
    exact free c o (fun z => (hch c z).2.2.1 x c e rfl) ho (I.freeC x c e)
  · obtain ⟨e, n, ne, nf, d⟩ := I.pin p hp
    have nch : p.1 ∉ ch := fun z => (hch p.1 z).2.2.2 p hp rfl
    exact ⟨keep p.1 p.2 ne nf nch e n, free p.1 p.2 nch e n, ne, nf, d⟩
theorem Inv.un {t' : Nat} (I : Inv X pins σ H s) (u : Un X.fs [] H H' s.heap h') (hok : HOk X.prog X.w H' h') : Inv X pins σ H' { s with heap := h', toks := t' } := by
  obtain ⟨m, ⟨o, es, ep, ho, r⟩, _⟩ := id I.loc
  obtain ⟨sl, hL⟩ := u.any ho I.free (by simp)
  exact I.step (g' := s.gens) (d' := s.drawn) (ch := []) (fun _ z => nomatch z) (fun b o _ hb _ e n => u.keep b o e n hb (by simp)) (fun b o _ hb _ e n => u.slot b o e n hb (by simp)) (fun b o _ e n => u.free b o e n (by simp)) (fun b o _ e => u.there b o e (by simp)) u.tups u.frzs u.tbls (fun m' hm => by
    obtain ⟨o', es', ep', ho', r'⟩ := hm
    rw [ho] at ho'; cases ho'
    exact ⟨_, es', ep', hL, r'⟩) hok I.bare
theorem Inv.call {g' : Array GenState} {t' : Nat} {d' : Drawn} {ch : List Addr} (I : Inv X pins σ H s) (u : Un (frs X.stack) ch H H' s.heap h') (hok : HOk X.prog X.w H' h') (hg : AllBare g')
    (hch : ∀ b ∈ ch, (b ∈ X.ex ∨ X.s₀.heap.objs.size ≤ b) ∧ b ≠ X.env.locals ∧ (∀ x c, X.env.cells.lookup x = some c → c ≠ b) ∧ ∀ p ∈ X.pn ++ pins, p.1 ≠ b) :
    Inv X pins σ H' { s with heap := h', gens := g', drawn := d', toks := t' } := by
  obtain ⟨m, ⟨o, es, ep, ho, r⟩, _⟩ := id I.loc
  obtain ⟨sl, hL⟩ := u.any ho I.free fun z => (hch _ z).2.1 rfl
  exact I.step (ch := ch) hch (fun b o hL hb hc e n => u.keep b o e n (fun z => (List.mem_cons.mp (I.stkSub b z)).elim hL hb) hc) (fun b o _ _ hc e n => u.any e n hc) (fun b o hc e n => u.free b o e n hc) (fun b o hc e => u.there b o e hc) u.tups u.frzs u.tbls (fun m' hm => by
    obtain ⟨o', es', ep', ho', r'⟩ := hm
    rw [ho] at ho'; cases ho'
    exact ⟨_, es', ep', hL, r'⟩) hok hg
theorem Inv.turned {t' : Nat} {it : Addr} (I : Inv X pins σ H s) (k : ∀ b o, b ≠ it → s.heap.get? b = some o → h'.get? b = some o) (hn : H it = none) (hL : it ≠ X.env.locals)
    (h1 : it ∈ X.ex ∨ X.s₀.heap.objs.size ≤ it) (h2 : ∀ x c, X.env.cells.lookup x = some c → c ≠ it) (h3 : ∀ p ∈ X.pn ++ pins, p.1 ≠ it) : Inv X pins σ H { s with heap := h', toks := t' } := by
  have nit : ∀ b u, H b = some u → b ≠ it := fun b u e z => by rw [z, hn] at e; cases e
  refine I.step (g' := s.gens) (d' := s.drawn) (ch := [it]) (fun b hb => ?_) (fun b o _ _ hc e _ => k b o (fun z => hc (by simp [z])) e) (fun b o _ _ hc e _ => ⟨o.slots, k b o (fun z => hc (by simp [z])) e⟩) (fun _ _ _ _ n => n)
    (fun b o hc e => ⟨o, k b o (fun z => hc (by simp [z])) e⟩) (fun _ _ e => e) (fun _ _ _ e => e) (fun b ps e => ⟨#[], by rw [e]; simp⟩) (fun m hm => ?_) (fun b u e => ?_) I.bare
  · have e : b = it := by simpa using hb
    subst e
    exact ⟨h1, hL, h2, h3⟩
  · obtain ⟨o, es, ep, ho, r⟩ := hm
    exact ⟨o, es, ep, k _ o (Ne.symm hL) ho, r⟩
  · refine (I.hok b u e).stay (fun c v hc q => k c v ?_ q) (fun _ q => q) fun _ _ q => q
    rcases hc with z | z
    · rw [z]; exact nit b u e
    · exact nit c _ z
theorem Inv.tok (I : Inv X pins σ H s) (t : Nat) : Inv X pins σ H { s with toks := t } := I.un (h' := s.heap) (t' := t) Un.refl I.hok
theorem Inv.kept {t' : Nat} (I : Inv X pins σ H s) (k : ∀ b u, s.heap.get? b = some u → h'.get? b = some u) : Inv X pins σ H { s with heap := h', toks := t' } := I.un (Un.kept k) (I.hok.kept k)
theorem Inv.laid {a : Addr} {o : HO} {t' : Nat} (I : Inv X pins σ H s) (k : ∀ b u, s.heap.get? b = some u → h'.get? b = some u) (hp : s.heap.objs.size ≤ a) (new : ObjOk X.prog X.w (upd H a o) h' a o) :
    Inv X pins σ (upd H a o) { s with heap := h', toks := t' } := I.un (Un.laid k hp (I.hok.fresh hp)) (I.hok.laid k hp new)
theorem Inv.write {x e : Addr} {o : HO} {t' : Nat} (I : Inv X pins σ H s) (mu : Mut (H x)) (he : e = x ∨ H e = some (.own x)) (k : ∀ b u, b ≠ e → s.heap.get? b = some u → h'.get? b = some u) (heo : ∃ u, h'.get? e = some u)
    (new : ObjOk X.prog X.w (upd H x o) h' x o) : Inv X pins σ (upd H x o) { s with heap := h', toks := t' } := I.un (Un.write mu he k heo) (I.hok.write mu he k heo new)
theorem Inv.pins_of {pins' : List (Addr × Obj)} (I : Inv X pins σ H s) (h : ∀ p ∈ pins', s.heap.get? p.1 = some p.2 ∧ H p.1 = none ∧ p.1 ≠ X.env.locals ∧ p.1 ∉ X.fs ∧ ∀ v, p.2.data ≠ .cell v) : Inv X pins' σ H s :=
  ⟨I.ok, I.os, I.bare, I.base, I.loc, I.cell, I.free, I.freeC, fun p hp => (List.mem_append.mp hp).elim (fun z => I.pin p (List.mem_append_left _ z)) (h p), I.hok, I.len⟩
theorem nodup_ix {N : List Str} (hN : N.Nodup) {i j : Nat} {x : Str} (a : N[i]? = some x) (b : N[j]? = some x) : i = j := by
  obtain ⟨h1, e1⟩ := List.getElem?_eq_some_iff.mp a
  obtain ⟨h2, e2⟩ := List.getElem?_eq_some_iff.mp b
  exact (List.getElem_inj hN).mp (e1.trans e2.symm)
theorem store_ok2 {M : Model} {A : Around} {E : Value → Shared → Prop} {i : Nat} {x : Str} {v : V} {u : Value} {Q : Unit → Shared → Prop} (I : Inv X pins σ H s) (hN : X.N.Nodup) (hi : X.N[i]? = some x) (hx : Loc X.env.scope x) (r : RelV v u)
    (h : ∀ s', Inv X pins (σ.set i (some v)) H s' → (∃ a, Heap.SameBut a s.heap s'.heap ∧ (a = X.env.locals ∨ X.env.cells.lookup x = some a)) → Q () s') (hf : X.fn x = true ∨ X.env.scope.names.lookup x = some .local := by first | exact .inl rfl | exact .inr rfl | assumption) : wpAny M A (storeName X.env x u) Q E s := by
  obtain ⟨m, hn, hl⟩ := id I.loc
  have hcls : (X.env.scope.kind == .class || (X.env.scope.kind == .module && X.env.locals != X.env.globals)) = false := by rw [I.ok.kind]; rfl
  have hiσ : i < σ.length := by rw [I.len]; exact (List.getElem?_eq_some_iff.mp hi).1
  have cne := I.cne
  have tracked : ∀ {a : Addr} {h' : Heap}, (∃ o, s.heap.get? a = some o ∧ H a = none) → Heap.SameBut a s.heap h' → HOk X.prog X.w H h' := fun {a h'} ha hs b ob e => by
    obtain ⟨_, _, hfree⟩ := ha
    refine (I.hok b ob e).stay (fun c w' hc q => (hs.2 c ?_).trans q) (fun _ q => q) fun _ _ q => q
    rintro rfl
    rcases hc with rfl | hc
    · rw [hfree] at e; cases e
    · rw [hfree] at hc; cases hc
  rcases hx with hk | hk
  · refine wpAny_storeName_local hk hn (fun h' hn' hs => ?_) hcls
    obtain ⟨oL, _, _, hoL, _⟩ := id hn
    refine h _ ⟨I.ok, I.os, I.bare, ⟨fun b o e n hb hx => ?_, fun b o e n hb hx => ?_, I.base.free, fun b o e hx => ?_, I.base.tups, I.base.frzs, I.base.tbls⟩, ⟨_, hn', fun j y v' e1 e2 e3 => ?_⟩, fun y c e => ?_, I.free, I.freeC, fun p hp => ?_, tracked ⟨oL, hoL, I.free⟩ hs, by simpa using I.len⟩ ⟨_, hs, .inl rfl⟩
    · exact (hs.2 b (Nat.ne_of_lt (Nat.lt_of_lt_of_le (Heap.lt_size e) I.ok.above))).trans (I.base.keep b o e n hb hx)
    · obtain ⟨sl, e1⟩ := I.base.slot b o e n hb hx
      exact ⟨sl, (hs.2 b (Nat.ne_of_lt (Nat.lt_of_lt_of_le (Heap.lt_size e) I.ok.above))).trans e1⟩
    · obtain ⟨o', e1⟩ := I.base.there b o e hx
      exact ⟨o', (hs.2 b (Nat.ne_of_lt (Nat.lt_of_lt_of_le (Heap.lt_size e) I.ok.above))).trans e1⟩
    · by_cases hj : j = i
      · subst hj
        rw [hi] at e1; cases e1
        rw [List.getElem?_set_self hiσ] at e2
        cases e2
        exact ⟨u, r, .inl ⟨hk, by simp⟩⟩
      · rw [List.getElem?_set_ne (Ne.symm hj)] at e2
        obtain ⟨u', r', q⟩ := hl j y v' e1 e2 e3
        refine ⟨u', r', ?_⟩
        rcases q with ⟨k, e⟩ | ⟨k, c, e, z⟩
        · refine .inl ⟨k, ?_⟩
          have : y ≠ x := fun e => hj (nodup_ix hN e1 (e ▸ hi))
          simp [this, e]
        · exact .inr ⟨k, c, e, z.sameBut hs (cne y c e)⟩
    · obtain ⟨w', z⟩ := I.cell y c e
      exact ⟨w', z.sameBut hs (cne y c e)⟩
    · obtain ⟨e, n, ne, nf, d⟩ := I.pin p hp
      exact ⟨(hs.2 p.1 ne).trans e, n, ne, nf, d⟩
  · have hfn : X.fn x = true := by
      rcases hf with z | z
      · exact z
      · rw [z] at hk; cases hk
    obtain ⟨c, hc⟩ := I.ok.has x (.inl hk)
    obtain ⟨w', z⟩ := I.cell x c hc
    refine wpAny_storeName_cell I.ok.kind hk hc z (fun h' hc' hs => ?_)
    obtain ⟨oc, hoc, hocd⟩ := id z
    refine h { s with heap := h' } ⟨I.ok, I.os, I.bare, ⟨fun b o e n hb hx => ?_, fun b o e n hb hx => ?_, I.base.free, fun b o e hx => ?_, I.base.tups, I.base.frzs, I.base.tbls⟩, ⟨m, hn.sameBut hs (Ne.symm (cne x c hc)), fun j y v' e1 e2 e3 => ?_⟩, fun y c' e => ?_, I.free, I.freeC, fun p hp => ?_, tracked ⟨oc, hoc, I.freeC x c hc⟩ hs, by simpa using I.len⟩ ⟨c, hs, .inr hc⟩
    · exact (hs.2 b (Nat.ne_of_lt (Nat.lt_of_lt_of_le (Heap.lt_size e) (I.ok.cab x c hfn hc)))).trans (I.base.keep b o e n hb hx)
    · obtain ⟨sl, e1⟩ := I.base.slot b o e n hb hx
      exact ⟨sl, (hs.2 b (Nat.ne_of_lt (Nat.lt_of_lt_of_le (Heap.lt_size e) (I.ok.cab x c hfn hc)))).trans e1⟩
    · obtain ⟨o', e1⟩ := I.base.there b o e hx
      exact ⟨o', (hs.2 b (Nat.ne_of_lt (Nat.lt_of_lt_of_le (Heap.lt_size e) (I.ok.cab x c hfn hc)))).trans e1⟩
    · by_cases hj : j = i
      · subst hj
        rw [hi] at e1; cases e1
        rw [List.getElem?_set_self hiσ] at e2
        cases e2
        exact ⟨u, r, .inr ⟨.inl hk, c, hc, hc'⟩⟩
      · rw [List.getElem?_set_ne (Ne.symm hj)] at e2
        obtain ⟨u', r', q⟩ := hl j y v' e1 e2 e3
        refine ⟨u', r', ?_⟩
        rcases q with q | ⟨k, c', e, z'⟩
        · exact .inl q
        · refine .inr ⟨k, c', e, z'.sameBut hs ?_⟩
          rintro rfl
          exact hj (nodup_ix hN e1 (I.ok.inj _ _ _ e hc ▸ hi))
    · by_cases hcc : c' = c
      · subst hcc; exact ⟨_, hc'⟩
      · obtain ⟨w2, z2⟩ := I.cell y c' e
        exact ⟨w2, z2.sameBut hs hcc⟩
    · obtain ⟨e, n, ne, nf, d⟩ := I.pin p hp
      refine ⟨(hs.2 p.1 ?_).trans e, n, ne, nf, d⟩
      intro q
      rw [q, hoc] at e
      have q' : oc = p.2 := Option.some.inj e
      exact d w' (by rw [← q']; exact hocd)
theorem store_ok {M : Model} {A : Around} {E : Value → Shared → Prop} {i : Nat} {x : Str} {v : V} {u : Value} {Q : Unit → Shared → Prop} (I : Inv X pins σ H s) (hN : X.N.Nodup) (hi : X.N[i]? = some x) (hx : Loc X.env.scope x) (r : RelV v u)
    (h : ∀ s', Inv X pins (σ.set i (some v)) H s' → Q () s') (hf : X.fn x = true ∨ X.env.scope.names.lookup x = some .local := by first | exact .inl rfl | exact .inr rfl | assumption) : wpAny M A (storeName X.env x u) Q E s :=
  store_ok2 I hN hi hx r (fun s' I' _ => h s' I') hf
theorem Inv.call' {s' : Shared} {ch : List Addr} (I : Inv X pins σ H s) (ho : s'.os = s.os) (u : Un (frs X.stack) ch H H' s.heap s'.heap) (hok : HOk X.prog X.w H' s'.heap) (hg : AllBare s'.gens)
    (hch : ∀ b ∈ ch, (b ∈ X.ex ∨ X.s₀.heap.objs.size ≤ b) ∧ b ≠ X.env.locals ∧ (∀ x c, X.env.cells.lookup x = some c → c ≠ b) ∧ ∀ p ∈ X.pn ++ pins, p.1 ≠ b) : Inv X pins σ H' s' := by
  obtain ⟨h', g', d', t', o'⟩ := s'
  have e : o' = s.os := ho
  subst e
  exact I.call (g' := g') (t' := t') (d' := d') u hok hg hch
end
abbrev XK := Value → Option Addr → Hp → Prop
abbrev St := List (Option V)
abbrev VK := V → Hp → Prop
abbrev TE := St → Hp → VK → Prop
abbrev TT := St → Hp → (Bool → Hp → Prop) → Prop
abbrev TA := St → Hp → (List V → Hp → Prop) → Prop
structure Ends where
  nx : St → Hp → Prop
  rt : VK
  bk : St → Hp → Prop := fun _ _ => False
  ct : St → Hp → Prop := fun _ _ => False
abbrev TS := Ends → St → Hp → Prop
def EP (X : Cx) (pins : List (Addr × Obj)) (σ : St) (Q : VK) (u : Value) (s' : Shared) : Prop := ∃ v H', Inv X pins σ H' s' ∧ RelV v u ∧ Q v H'
def TP (X : Cx) (pins : List (Addr × Obj)) (σ : St) (Q : Bool → Hp → Prop) (b : Bool) (s' : Shared) : Prop := ∃ H', Inv X pins σ H' s' ∧ Q b H'
def AP (X : Cx) (pins : List (Addr × Obj)) (σ : St) (Q : List V → Hp → Prop) (us : List Value) (s' : Shared) : Prop := ∃ vs H', Inv X pins σ H' s' ∧ Vals vs us ∧ Q vs H'
def SP (X : Cx) (pins : List (Addr × Obj)) (D : Ends) (f : Flow) (s' : Shared) : Prop :=
  match f with
  | .next => ∃ σ' H', Inv X pins σ' H' s' ∧ D.nx σ' H'
  | .brk => ∃ σ' H', Inv X pins σ' H' s' ∧ D.bk σ' H'
  | .cont => ∃ σ' H', Inv X pins σ' H' s' ∧ D.ct σ' H'
  | .ret u => ∃ v σ' H', Inv X pins σ' H' s' ∧ RelV v u ∧ D.rt v H'
def PE (X : Cx) (e : Expr) (t : TE) : Prop :=
  ∀ (pins : List (Addr × Obj)) (s : Shared) (σ : St) (H : Hp) (Q : VK), Inv X pins σ H s → t σ H Q → wpAny (model X.prog X.w) X.A (eval e X.env) (EP X pins σ Q) X.xe s
def PT (X : Cx) (e : Expr) (t : TT) : Prop :=
  ∀ (pins : List (Addr × Obj)) (s : Shared) (σ : St) (H : Hp) (Q : Bool → Hp → Prop), Inv X pins σ H s → t σ H Q → wpAny (model X.prog X.w) X.A (isTrue e X.env (eval e X.env)) (TP X pins σ Q) X.xe s
def PW (X : Cx) (e : Expr) (t : TT) : Prop :=
  ∀ (whole : Sem Value) (pins : List (Addr × Obj)) (s : Shared) (σ : St) (H : Hp) (Q : Bool → Hp → Prop), Inv X pins σ H s → t σ H Q → wpAny (model X.prog X.w) X.A (isTrue e X.env whole) (TP X pins σ Q) X.xe s
theorem PW.pt {X : Cx} {e : Expr} {t : TT} (h : PW X e t) : PT X e t := h _
def PA (X : Cx) (es : List Expr) (t : TA) : Prop :=
  ∀ (pos : Pos) (pins : List (Addr × Obj)) (s : Shared) (σ : St) (H : Hp) (Q : List V → Hp → Prop), Inv X pins σ H s → t σ H Q → wpAny (model X.prog X.w) X.A (spliced (backTo pos (starEach es X.env))) (AP X pins σ Q) X.xe s
def PS (X : Cx) (st : Stmt) (t : TS) : Prop :=
  ∀ (pins : List (Addr × Obj)) (s : Shared) (σ : St) (H : Hp) (D : Ends), Inv X pins σ H s → t D σ H → wpAny (model X.prog X.w) X.A (exec st X.env) (SP X pins D) X.xe s
def PSs (X : Cx) (st : List Stmt) (t : TS) : Prop :=
  ∀ (pins : List (Addr × Obj)) (s : Shared) (σ : St) (H : Hp) (D : Ends), Inv X pins σ H s → t D σ H → wpAny (model X.prog X.w) X.A (execs st X.env) (SP X pins D) X.xe s
theorem thn {α : Type} {t : Sem α} {Q Q' : α → Shared → Prop} {M : Model} {A : Around} {E : Value → Shared → Prop} {s : Shared} (h : wpAny M A t Q E s) (hQ : ∀ a s, Q a s → Q' a s) : wpAny M A t Q' E s := wpAny_mono h hQ fun _ _ x => x
end L2
namespace L2
open PySem PySem.Spec PyProof.Rows
section
variable {X : Cx}
def tVar (i : Nat) : TE := fun σ H Q => ∃ v, σ[i]? = some (some v) ∧ Q v H
def tC (v : V) : TE := fun _ H Q => Q v H
theorem pe_var {i : Nat} {x : Str} {pos : Pos} (hN : X.N[i]? = some x) (hv : Vis X.env.scope x) (hd : (x == ("__debug__" : Str)) = false := by decide) (hcd : (x == ("__classdict__" : Str)) = false := by decide) : PE X (.Name x pos) (tVar i) := by
  intro pins s σ H Q I h
  obtain ⟨v, e, h⟩ := h
  obtain ⟨m, hn, hl⟩ := I.loc
  obtain ⟨u, r, l⟩ := hl i x v hN e hv
  have fin : EP X pins σ Q u s := ⟨v, H, I, r, h⟩
  rcases l with ⟨hk, hm⟩ | ⟨hk, c, hc, hcell⟩
  · exact wpAny_Name (wpAny_loadName_local I.ok.kind hk hn hm fin) hd
  · rcases hk with hk | hk
    · exact wpAny_Name (wpAny_loadName_cell I.ok.kind hk hc hcell fin) hd
    · exact wpAny_Name (wpAny_loadName_free I.ok.kind hk hc hcell fin hcd) hd
theorem pe_int {i j pos} : PE X (.Constant (.int i) j pos) (tC (.int i)) := fun _ _ _ H _ I h => wpAny_Constant_int ⟨.int i, H, I.tok _, ⟨_, rfl⟩, h⟩
theorem pe_bl {b j pos} : PE X (.Constant (.bool b) j pos) (tC (.bl b)) := fun _ _ _ H _ I h => Constant_bool ⟨.bl b, H, I, rfl, h⟩
theorem pe_non {j pos} : PE X (.Constant .none j pos) (tC .non) := fun _ _ _ H _ I h => Constant_none ⟨.non, H, I, rfl, h⟩
theorem pe_str {x j pos} : PE X (.Constant (.str x) j pos) (tC (.str x)) := fun _ _ _ H _ I h => Calls.Constant_str ⟨.str x, H, I.tok _, ⟨_, rfl⟩, h⟩
def Gl (X : Cx) (x : Str) : Prop := X.env.kindOf x = some .globalImplicit
theorem ld_glob {E : Value → Shared → Prop} {pins : List (Addr × Obj)} {s : Shared} {σ : St} {H : Hp} {x : Str} {u : Value} {pos : Pos} {Q : Value → Shared → Prop} (I : Inv X pins σ H s) (hg : Gl X x) (hm : X.mg x = some u) (h : Q u s)
    (hd : (x == ("__debug__" : Str)) = false := by decide) : wpAny (model X.prog X.w) X.A (eval (.Name x pos) X.env) Q E s :=
  Calls.Name_function_global I.ok.kind hg (Calls.loadGlobal_global (by rw [I.ok.glob]; exact I.mod.glob.keeps I.bk) hm h) hd
theorem ld_blt {E : Value → Shared → Prop} {pins : List (Addr × Obj)} {s : Shared} {σ : St} {H : Hp} {x : Str} {u : Value} {pos : Pos} {Q : Value → Shared → Prop} (I : Inv X pins σ H s) (hg : Gl X x) (hm : X.mg x = none) (hv : bootBuiltins x = some u) (h : Q u s)
    (hn : x ≠ "__name__" := by decide) (hd : (x == ("__debug__" : Str)) = false := by decide) : wpAny (model X.prog X.w) X.A (eval (.Name x pos) X.env) Q E s := by
  obtain ⟨mb, h1, h2⟩ := I.mod.blt
  exact Calls.Name_function_global I.ok.kind hg (Calls.loadGlobal_builtin (by rw [I.ok.glob]; exact I.mod.glob.keeps I.bk) hm (by rw [I.ok.blt]; exact h1.keeps I.bk) ((h2 x hn).trans hv) h) hd
theorem pe_glob {x : Str} {v : V} {u : Value} {pos : Pos} (hg : Gl X x) (hm : X.mg x = some u) (r : RelV v u) (hd : (x == ("__debug__" : Str)) = false := by decide) : PE X (.Name x pos) (tC v) :=
  fun _ _ _ H _ I h => ld_glob I hg hm ⟨v, H, I, r, h⟩ hd
theorem pe_bltn {x : Str} {v : V} {u : Value} {pos : Pos} (hg : Gl X x) (hm : X.mg x = none) (hv : bootBuiltins x = some u) (r : RelV v u) (hn : x ≠ "__name__" := by decide) (hd : (x == ("__debug__" : Str)) = false := by decide) : PE X (.Name x pos) (tC v) :=
  fun _ _ _ H _ I h => ld_blt I hg hm hv ⟨v, H, I, r, h⟩ hn hd
variable {a b : Expr} {ta tb : TE} {pos : Pos}
def tB (t : TE) : TT := fun σ H Q => t σ H fun x H1 => ∃ c, x = .bl c ∧ Q c H1
theorem pt_val {e : Expr} {t : TE} (h : PE X e t) (he : ∀ whole, isTrue e X.env whole = (do let v ← whole; standAt e.pos; holding [v] (truthy v)) := by intro _; rfl) : PT X e (tB t) := by
  intro pins s σ H Q I hw
  refine isTrue_plain (thn (h pins s σ H _ I hw) fun v s1 ⟨x, H1, I1, r1, q1⟩ => ?_) (he _)
  obtain ⟨d, rfl, q⟩ := q1
  cases r1
  exact wpAny_truthy_bool ⟨H1, I1, q⟩
variable {tA tB' : TT} {rest : List Expr}
def tOr (t u : TT) : TT := fun σ H Q => t σ H fun c H1 => if c = true then Q true H1 else u σ H1 Q
def tNot (t : TT) : TT := fun σ H Q => t σ H fun c H1 => Q (!c) H1
theorem pw_or1 (ha : PT X a tA) : PW X (.BoolOp .Or [a] pos) tA := by
  intro wh pins s σ H Q I h
  refine isTrue_or (thn (ha pins s σ H Q I h) fun c s1 e => ?_)
  cases c with
  | false => exact isTrue_or_nil e
  | true => exact e
theorem pw_or (ha : PT X a tA) (hb : PW X (.BoolOp .Or (b :: rest) pos) tB') : PW X (.BoolOp .Or (a :: b :: rest) pos) (tOr tA tB') := by
  intro wh pins s σ H Q I h
  refine isTrue_or (thn (ha pins s σ H _ I h) fun c s1 ⟨H1, I1, q1⟩ => ?_)
  cases c with
  | true => exact ⟨H1, I1, q1⟩
  | false => exact hb wh pins s1 σ H1 Q I1 q1
theorem pt_not (ha : PT X a tA) : PT X (.UnaryOp .Not a pos) (tNot tA) := by
  intro pins s σ H Q I h
  exact isTrue_not (ha pins s σ H (fun c H1 => Q (!c) H1) I h)
def tAndV (ta tb : TE) : TE := fun σ H Q => ta σ H fun x H1 => ∃ c, x = .bl c ∧ if c = true then tb σ H1 Q else Q (.bl false) H1
def tNotV (ta : TE) : TE := fun σ H Q => ta σ H fun x H1 => ∃ c, x = .bl c ∧ Q (.bl (!c)) H1
theorem pe_one {op} {t : TE} (h : PE X a t) : PE X (.BoolOp op [a] pos) t := fun pins s σ H Q I hw => BoolOp_one (h pins s σ H Q I hw)
theorem pe_and (ha : PE X a ta) (hb : PE X (.BoolOp .And (b :: rest) pos) tb) : PE X (.BoolOp .And (a :: b :: rest) pos) (tAndV ta tb) := by
  intro pins s σ H Q I h
  refine BoolOp_and (thn (ha pins s σ H _ I h) fun v s1 ⟨x, H1, I1, r1, q1⟩ => ?_)
  obtain ⟨c, rfl, q1⟩ := q1
  cases r1
  refine wpAny_truthy_bool ?_
  cases c with
  | true => exact hb pins s1 σ H1 Q I1 q1
  | false => exact ⟨.bl false, H1, I1, rfl, q1⟩
theorem pe_not (ha : PE X a ta) : PE X (.UnaryOp .Not a pos) (tNotV ta) := by
  intro pins s σ H Q I h
  refine UnaryOp_ (thn (ha pins s σ H _ I h) fun v s1 ⟨x, H1, I1, r1, q1⟩ => ?_)
  obtain ⟨c, rfl, q1⟩ := q1
  cases r1
  exact not_of (wpAny_truthy_bool ⟨.bl (!c), H1, I1, rfl, q1⟩)
def tIf (t : TT) (ta tb : TE) : TE := fun σ H Q => t σ H fun c H1 => if c = true then ta σ H1 Q else tb σ H1 Q
theorem pe_ifExp {c : Expr} (hc : PT X c tA) (ha : PE X a ta) (hb : PE X b tb) : PE X (.IfExp c a b pos) (tIf tA ta tb) := by
  intro pins s σ H Q I h
  refine wpAny_IfExp (thn (hc pins s σ H _ I h) fun d s1 ⟨H1, I1, q1⟩ => ?_)
  cases d with
  | true => exact ha pins s1 σ H1 Q I1 q1
  | false => exact hb pins s1 σ H1 Q I1 q1
end
end L2
namespace L2
open PySem PySem.Spec PyProof.Rows
def SqL (K : PySem.W.Frag) (H : Hp) (a : Addr) (xs : List V) : Prop :=
  Rd H a (.lst xs) ∨
    ∃ (o : Obj) (its : Array Value) (n : Nat), K.lookup a = some o ∧ o.cls = .type "list" ∧ o.dict = none ∧ o.data = .seq its n ∧ its.size ≤ sizeLine ∧ Vals xs its.toList
def SqT (K : PySem.W.Frag) (H : Hp) (a : Addr) (xs : List V) : Prop :=
  Rd H a (.tup xs) ∨
    ∃ (o : Obj) (its : Array Value) (n : Nat), K.lookup a = some o ∧ o.cls = .type "tuple" ∧ o.data = .seq its n ∧ its.size ≤ sizeLine ∧ Vals xs its.toList
def absV : Value → Option V
  | .none => some .non
  | .bool b => some (.bl b)
  | .int i _ => some (.int i)
  | .str x _ => some (.str x)
  | .bytes b _ => some (.byt b)
  | .float b _ => some (.flt b)
  | .ref a => some (.ref a)
  | .type n => some (.ty n)
  | _ => none
theorem RelV.abs {x : V} {u : Value} (r : RelV x u) : absV u = some x := by
  cases x with
  | non => cases r; rfl
  | bl _ => cases r; rfl
  | int _ => obtain ⟨t, rfl⟩ := r; rfl
  | str _ => obtain ⟨t, rfl⟩ := r; rfl
  | byt _ => obtain ⟨t, rfl⟩ := r; rfl
  | flt _ => obtain ⟨t, rfl⟩ := r; rfl
  | ref _ => cases r; rfl
  | ty _ => cases r; rfl
theorem RelV.inj {x y : V} {u : Value} (r : RelV x u) (q : RelV y u) : x = y := Option.some.inj (r.abs.symm.trans q.abs)
theorem Vals.inj : ∀ {xs ys : List V} {us : List Value}, Vals xs us → Vals ys us → xs = ys
  | _, _, _, .nil, .nil => rfl
  | _, _, _, .cons r t, .cons r' t' => by rw [r.inj r', Vals.inj t t']
section
variable {X : Cx} {pins : List (Addr × Obj)} {σ : St} {H : Hp} {s : Shared} {a : Addr} {xs ys : List V}
theorem SqL.of {K : PySem.W.Frag} (h : H a = some (.lst xs)) : SqL K H a xs := .inl (.inl h)
theorem SqT.of {K : PySem.W.Frag} (h : H a = some (.tup xs)) : SqT K H a xs := .inl (.inl h)
theorem Inv.list (I : Inv X pins σ H s) (h : SqL X.K H a xs) : ∃ its : List Value, Vals xs its ∧ PlainL s.heap a its.toArray ∧ xs.length ≤ sizeLine := by
  rcases h with h | ⟨o, its, n, hk, hc, hd, hs, hz, r⟩
  · obtain ⟨z, its, n, r, e⟩ := h.ok I.hok
    exact ⟨its, r, ⟨_, n, e, rfl, rfl, rfl⟩, z⟩
  · refine ⟨its.toList, r, ⟨o, n, I.kIn a o hk, hc, hd, by simpa using hs⟩, ?_⟩
    have e := r.length
    simp only [Array.length_toList] at e
    omega
theorem Inv.tuple (I : Inv X pins σ H s) (h : SqT X.K H a xs) : ∃ its : List Value, Vals xs its ∧ IsTup s.heap a its.toArray ∧ xs.length ≤ sizeLine := by
  rcases h with h | ⟨o, its, n, hk, hc, hs, hz, r⟩
  · obtain ⟨z, its, r, p⟩ := h.ok I.hok
    exact ⟨its, r, p, z⟩
  · refine ⟨its.toList, r, ⟨o, I.kIn a o hk, hc, n, by simpa using hs⟩, ?_⟩
    have e := r.length
    simp only [Array.length_toList] at e
    omega
theorem Inv.list_inj (I : Inv X pins σ H s) (h : SqL X.K H a xs) (h' : SqL X.K H a ys) : xs = ys := by
  obtain ⟨its, r, ⟨o, n, e, _, _, d⟩, _⟩ := I.list h
  obtain ⟨its', r', ⟨o', n', e', _, _, d'⟩, _⟩ := I.list h'
  rw [e] at e'; cases e'
  rw [d] at d'
  injection d' with d1 _
  have : its = its' := by simpa using congrArg Array.toList d1
  subst this
  exact r.inj r'
theorem Inv.tuple_inj (I : Inv X pins σ H s) (h : SqT X.K H a xs) (h' : SqT X.K H a ys) : xs = ys := by
  obtain ⟨its, r, ⟨o, e, _, n, d⟩, _⟩ := I.tuple h
  obtain ⟨its', r', ⟨o', e', _, n', d'⟩, _⟩ := I.tuple h'
  rw [e] at e'; cases e'
  rw [d] at d'
  injection d' with d1 _
  have : its = its' := by simpa using congrArg Array.toList d1
  subst this
  exact r.inj r'
end
abbrev Cx.wish (X : Cx) (E : Value → Shared → Prop) : Cx := { X with xe := E }
abbrev Cx.nox (X : Cx) : Cx := X.wish fun _ _ => False
theorem Cx.Ok.wish {X : Cx} (ok : X.Ok) (E : Value → Shared → Prop) : (X.wish E).Ok :=
  ⟨ok.mod, ok.kind, ok.glob, ok.blt, ok.above, ok.inj, ok.has, ok.cab, ok.hd, ok.frames, ok.stk, ok.exf, ok.bs, ok.bsz, ok.noex, ok.exfs, ok.funs, ok.frf⟩
theorem Cx.Ok.unwish {X : Cx} {E : Value → Shared → Prop} (ok : (X.wish E).Ok) : X.Ok :=
  ⟨ok.mod, ok.kind, ok.glob, ok.blt, ok.above, ok.inj, ok.has, ok.cab, ok.hd, ok.frames, ok.stk, ok.exf, ok.bs, ok.bsz, ok.noex, ok.exfs, ok.funs, ok.frf⟩
section
variable {X : Cx} {pins : List (Addr × Obj)} {σ : St} {H : Hp} {s : Shared} {E : Value → Shared → Prop}
theorem Inv.wish (I : Inv X pins σ H s) (E : Value → Shared → Prop) : Inv (X.wish E) pins σ H s := ⟨I.ok.wish E, I.os, I.bare, I.base, I.loc, I.cell, I.free, I.freeC, I.pin, I.hok, I.len⟩
theorem Inv.unwish (I : Inv (X.wish E) pins σ H s) : Inv X pins σ H s := ⟨I.ok.unwish, I.os, I.bare, I.base, I.loc, I.cell, I.free, I.freeC, I.pin, I.hok, I.len⟩
theorem SP.unwish {D : Ends} {f : Flow} {s' : Shared} (h : SP (X.wish E) pins D f s') : SP X pins D f s' := by
  cases f with
  | next => obtain ⟨σ', H', I, q⟩ := h; exact ⟨σ', H', I.unwish, q⟩
  | brk => obtain ⟨σ', H', I, q⟩ := h; exact ⟨σ', H', I.unwish, q⟩
  | cont => obtain ⟨σ', H', I, q⟩ := h; exact ⟨σ', H', I.unwish, q⟩
  | ret u => obtain ⟨v, σ', H', I, r, q⟩ := h; exact ⟨v, σ', H', I.unwish, r, q⟩
theorem PE.nox {e : Expr} {t : TE} (h : PE X.nox e t) : PE X e t := fun pins s σ H Q I hw =>
  wpAny_mono (h pins s σ H Q (I.wish _) hw) (fun _ _ ⟨v, H', I', r, q⟩ => ⟨v, H', I'.unwish, r, q⟩) fun _ _ z => False.elim z
theorem PT.nox {e : Expr} {t : TT} (h : PT X.nox e t) : PT X e t := fun pins s σ H Q I hw =>
  wpAny_mono (h pins s σ H Q (I.wish _) hw) (fun _ _ ⟨H', I', q⟩ => ⟨H', I'.unwish, q⟩) fun _ _ z => False.elim z
theorem PSs.nox {st : List Stmt} {t : TS} (h : PSs X.nox st t) : PSs X st t := fun pins s σ H D I hw =>
  wpAny_mono (h pins s σ H D (I.wish _) hw) (fun _ _ q => q.unwish) fun _ _ z => False.elim z
end
section
variable {X : Cx} {st : Stmt} {rest : List Stmt} {t u : TS} {e : Expr} {te : TE} {pos : Pos}
def tNext : TS := fun D σ H => D.nx σ H
def tSeq (t u : TS) : TS := fun D σ H => t { D with nx := u D } σ H
theorem pss_nil : PSs X [] tNext := fun _ _ σ H _ I h => wpAny_execs_nil ⟨σ, H, I, h⟩
theorem pss_cons (h1 : PS X st t) (h2 : PSs X rest u) : PSs X (st :: rest) (tSeq t u) := by
  intro pins s σ H D I h
  refine wpAny_execs_cons (thn (h1 pins s σ H { D with nx := u D } I h) fun f s1 q => ?_)
  cases f with
  | next =>
    obtain ⟨σ', H', I', q⟩ := q
    exact h2 pins s1 σ' H' D I' q
  | ret v => exact q
  | brk => exact q
  | cont => exact q
theorem pss_one (h1 : PS X st t) : PSs X [st] t := by
  intro pins s σ H D I h
  refine wpAny_execs_cons (thn (h1 pins s σ H D I h) fun f s1 q => ?_)
  cases f with
  | next => exact wpAny_execs_nil q
  | ret v => exact q
  | brk => exact q
  | cont => exact q
theorem Inv.quiet {pins : List (Addr × Obj)} {σ : St} {H : Hp} {s : Shared} (I : Inv X pins σ H s) : interactive X.env = false := by simp [interactive, I.ok.kind]
def tDrop (te : TE) : TS := fun D σ H => te σ H fun _ H1 => D.nx σ H1
theorem ps_expr (he : PE X e te) (hs : swapsWith e none pos.line X.env = pure false := by rfl) : PS X (.Expr e pos) (tDrop te) := by
  intro pins s σ H D I h
  exact wpAny_Expr_any (thn (he pins s σ H _ I h) fun v s1 ⟨x, H1, I1, r1, q1⟩ => ⟨σ, H1, I1, q1⟩) I.quiet hs
def tRet (te : TE) : TS := fun D σ H => te σ H D.rt
theorem ps_ret (he : PE X e te) : PS X (.Return (some e) pos) (tRet te) := by
  intro pins s σ H D I h
  exact wpAny_Return_some (thn (he pins s σ H _ I h) fun v s1 ⟨x, H1, I1, r1, q1⟩ => ⟨x, σ, H1, I1, r1, q1⟩)
def tIfS (c : TT) (t u : TS) : TS := fun D σ H => c σ H fun b H1 => if b = true then t D σ H1 else u D σ H1
theorem ps_if {c : Expr} {a b : List Stmt} {tc : TT} (hc : PT X c tc) (ha : PSs X a t) (hb : PSs X b u) : PS X (.If c a b pos) (tIfS tc t u) := by
  intro pins s σ H D I h
  refine wpAny_If (thn (hc pins s σ H _ I h) fun d s1 ⟨H1, I1, q1⟩ => ?_)
  cases d with
  | true => exact ha pins s1 σ H1 D I1 q1
  | false => exact hb pins s1 σ H1 D I1 q1
end
abbrev TG := V → St → Hp → (St → Hp → Prop) → Prop
abbrev TGs := List V → St → Hp → (St → Hp → Prop) → Prop
def PG (X : Cx) (target : Expr) (t : TG) : Prop :=
  ∀ (pins : List (Addr × Obj)) (s : Shared) (σ : St) (H : Hp) (v : V) (u : Value) (Q : St → Hp → Prop), Inv X pins σ H s → RelV v u → t v σ H Q →
    wpAny (model X.prog X.w) X.A (assign target X.env u) (fun _ s' => ∃ σ' H', Inv X pins σ' H' s' ∧ Q σ' H') X.xe s
def PGs (X : Cx) (ts : List Expr) (t : TGs) : Prop :=
  ∀ (pins : List (Addr × Obj)) (s : Shared) (σ : St) (H : Hp) (vs : List V) (us : List Value) (Q : St → Hp → Prop), Inv X pins σ H s → Vals vs us → t vs σ H Q →
    wpAny (model X.prog X.w) X.A (assignInOrder ((assignEach ts X.env).map (·.2)) us) (fun _ s' => ∃ σ' H', Inv X pins σ' H' s' ∧ Q σ' H') X.xe s
abbrev TSet := V → V → V → Hp → (Hp → Prop) → Prop
def PSet (X : Cx) (t : TSet) : Prop :=
  ∀ (pins : List (Addr × Obj)) (s : Shared) (σ : St) (H : Hp) (o i v : V) (ov iv u : Value) (Q : Hp → Prop), Inv X pins σ H s → RelV o ov → RelV i iv → RelV v u → t o i v H Q →
    wpAny (model X.prog X.w) X.A (setItem ov iv u) (fun _ s' => ∃ H', Inv X pins σ H' s' ∧ Q H') X.xe s
section
variable {X : Cx} {pos : Pos}
def gName (i : Nat) : TG := fun v σ H Q => Q (σ.set i (some v)) H
theorem pg_name {i : Nat} {x : Str} (hN : X.N.Nodup) (hi : X.N[i]? = some x) (hx : Loc X.env.scope x) (hf : X.fn x = true ∨ X.env.scope.names.lookup x = some .local := by first | exact .inl rfl | exact .inr rfl | assumption) : PG X (.Name x pos) (gName i) := by
  intro pins s σ H v u Q I r h
  exact wpAny_assign_Name (store_ok I hN hi hx r (fun s' I' => ⟨_, H, I', h⟩) hf)
def gNil : TGs := fun vs σ H Q => vs = [] ∧ Q σ H
def gCons (t : TG) (u : TGs) : TGs := fun vs σ H Q => ∃ v r, vs = v :: r ∧ t v σ H fun σ' H' => u r σ' H' Q
theorem pgs_nil : PGs X [] gNil := by
  intro pins s σ H vs us Q I r h
  obtain ⟨e, h⟩ := h
  subst e
  cases r
  exact assignInOrder_nil ⟨σ, H, I, h⟩
theorem pgs_cons {e : Expr} {es : List Expr} {t : TG} {u : TGs} (h1 : PG X e t) (h2 : PGs X es u)
    (hs : (assignEach (e :: es) X.env).map (·.2) = assign e X.env :: (assignEach es X.env).map (·.2) := by rfl) : PGs X (e :: es) (gCons t u) := by
  intro pins s σ H vs us Q I r h
  obtain ⟨v, vr, e1, h⟩ := h
  subst e1
  cases r with
  | cons r rr =>
    rw [hs]
    refine assignInOrder_cons (thn (h1 pins s σ H _ _ _ I r h) fun _ s1 ⟨σ1, H1, I1, q1⟩ => ?_)
    exact h2 pins s1 σ1 H1 _ _ Q I1 rr q1
def gTup (K : PySem.W.Frag) (n : Nat) (t : TGs) : TG := fun v σ H Q => ∃ a xs, v = .ref a ∧ SqT K H a xs ∧ xs.length = n ∧ t xs σ H Q
theorem pg_tup {es : List Expr} {k : Nat} {t : TGs} {n : Nat} (hc : X.calm = true) (h : PGs X es t)
    (hn : (assignEach es X.env).length = n := by rfl) (hst : (assignEach es X.env).findIdx? (·.1) = none := by rfl) : PG X (.Tuple es k pos) (gTup X.K n t) := by
  intro pins s σ H v u Q I r hw
  obtain ⟨a, xs, e1, hq, hl, hw⟩ := hw
  subst e1
  cases r
  obtain ⟨its, rv, ht, hz⟩ := I.tuple hq
  refine assign_Tuple_tuple (I.ok.hd hc) ht (by simp [hn, ← hl, rv.length]) hst fun h' hx => ?_
  have I1 : Inv X pins σ H { s with heap := h' } := I.kept (t' := s.toks) fun b o e => hx b o (Nat.ne_of_lt (Heap.lt_size e)) e
  exact h pins _ σ H xs _ Q I1 (by simpa using rv) hw
def gSub (to ti : TE) (t : TSet) : TG := fun v σ H Q => to σ H fun o H1 => ti σ H1 fun i H2 => t o i v H2 fun H3 => Q σ H3
theorem pg_sub {o i : Expr} {to ti : TE} {t : TSet} (ho : PE X o to) (hi : PE X i ti) (hs : PSet X t)
    (ha : ∀ v, assign (.Subscript o i pos) X.env v = (do
      let ov ← holding [v] (eval o X.env)
      let iv ← holding [v, ov] (eval i X.env)
      standAt pos
      holding [v, ov, iv] (setItem ov iv v)
      release [v, ov, iv] []) := by intro _; rfl) : PG X (.Subscript o i pos) (gSub to ti t) := by
  intro pins s σ H v u Q I r h
  rw [ha]
  refine wpAny_bind (wpAny_holding (thn (ho pins s σ H _ I h) fun ov s1 ⟨x, H1, I1, r1, q1⟩ => ?_))
  refine wpAny_bind (wpAny_holding (thn (hi pins s1 σ H1 _ I1 q1) fun iv s2 ⟨y, H2, I2, r2, q2⟩ => ?_))
  refine wpAny_bind (wpAny_standAt (wpAny_bind (wpAny_holding (thn (hs pins s2 σ H2 x y v ov iv u _ I2 r1 r2 r q2) fun _ s3 ⟨H3, I3, q3⟩ => ?_))))
  exact wpAny_release ⟨σ, H3, I3, q3⟩
def tAsg (te : TE) (g : TG) : TS := fun D σ H => te σ H fun x H1 => g x σ H1 D.nx
theorem ps_asg {tg e : Expr} {te : TE} {g : TG} (he : PE X e te) (hg : PG X tg g) (hs : swapsWithSole [tg] e pos.line X.env = pure false := by rfl) (hw : swappedStores [tg] e X.env = pure none := by rfl)
    (h1 : (assignEach [tg] X.env).map (·.2) = [assign tg X.env] := by rfl) : PS X (.Assign [tg] e pos) (tAsg te g) := by
  intro pins s σ H D I h
  refine wpAny_Assign_stores (thn (he pins s σ H _ I h) fun v s1 ⟨x, H1, I1, r1, q1⟩ => ?_) hs hw
  rw [h1]
  exact thn (hg pins s1 σ H1 x v _ I1 r1 q1) fun _ s2 q => q
theorem ps_set {i : Nat} {x : Str} {e : Expr} {te : TE} {pos' : Pos} (hN : X.N.Nodup) (hi : X.N[i]? = some x) (hx : Loc X.env.scope x) (he : PE X e te) (hs : swapsWith e (some (.Name x pos')) pos.line X.env = pure false := by rfl) (hf : X.fn x = true ∨ X.env.scope.names.lookup x = some .local := by first | exact .inl rfl | exact .inr rfl | assumption) :
    PS X (.Assign [.Name x pos'] e pos) (tAsg te (gName i)) := by
  intro pins s σ H D I h
  refine wpAny_Assign_Name (thn (he pins s σ H _ I h) fun v s1 ⟨y, H1, I1, r1, q1⟩ => ?_) hs
  exact store_ok I1 hN hi hx r1 (fun s2 I2 => ⟨_, H1, I2, q1⟩) hf
def tPar (i j : Nat) (ta : TA) : TS := fun D σ H => ta σ H fun vs H1 => ∃ v w, vs = [v, w] ∧ D.nx ((σ.set i (some v)).set j (some w)) H1
theorem ps_par {i j : Nat} {x y : Str} {a b : Expr} {ta : TA} {px py pt : Pos} {kt k2 pt2} (hc : X.calm = true) (hN : X.N.Nodup) (hi : X.N[i]? = some x) (hj : X.N[j]? = some y) (hij : i ≠ j)
    (hx : X.env.scope.names.lookup x = some .local) (hy : X.env.scope.names.lookup y = some .local) (ha : PA X [a, b] ta)
    (hw : swappedStores [.Tuple [.Name x px, .Name y py] kt pt] (.Tuple [a, b] k2 pt2) X.env = pure (some [x, y]))
    (hs : swapsWithSole [.Tuple [.Name x px, .Name y py] kt pt] (.Tuple [a, b] k2 pt2) pos.line X.env = pure false := by rfl) :
    PS X (.Assign [.Tuple [.Name x px, .Name y py] kt pt] (.Tuple [a, b] k2 pt2) pos) (tPar i j ta) := by
  intro pins s σ H D I h
  rw [exec_Assign_arm]
  refine wpAny_bind (wpAny_standAt ?_)
  rw [hs]
  refine wpAny_bind (wpAny_pure ?_)
  rw [if_neg (by decide)]
  refine wpAny_bind (Tuple_ (thn (ha _ pins s σ H _ I h) fun us s1 ⟨vs, H1, I1, r1, q1⟩ => ?_))
  obtain ⟨v, w, e1, q1⟩ := q1
  subst e1
  obtain ⟨u1, u2, rfl, rv, rw'⟩ : ∃ u1 u2, us = [u1, u2] ∧ RelV v u1 ∧ RelV w u2 := by
    cases r1 with
    | cons p q =>
      cases q with
      | cons p' q' =>
        cases q'
        exact ⟨_, _, rfl, p, p'⟩
  refine wpAny_newObj_type ?_ (by show 2 ≤ sizeLine; decide)
  have I2 : Inv X pins σ H1 { s1 with heap := s1.heap.push { cls := .type "tuple", data := .seq [u1, u2].toArray } } := I1.kept (t' := s1.toks) fun b o e => Heap.get?_push_of_some _ e
  rw [hw]
  refine wpAny_bind (wpAny_pure ?_)
  show wpAny (model X.prog X.w) X.A (do rule "assign.swapped-stores"; let items ← unpackItems (.ref s1.heap.objs.size) 2 none; assignInOrder [fun v => bindName X.env y v, fun v => bindName X.env x v] items.reverse; pure Flow.next) _ _ _
  refine wpAny_bind (wpAny_rule (wpAny_bind (unpackItems_tuple (items := #[u1, u2]) (I.ok.hd hc) (IsTup.new s1.heap _) fun h' hx' => ?_)))
  have I3 := I2.kept (h' := h') (t' := s1.toks) fun b o e => hx' b o (Nat.ne_of_lt (Heap.lt_size e)) e
  show wpAny _ _ (assignInOrder [fun v => bindName X.env y v, fun v => bindName X.env x v] [u2, u1] >>= fun _ => pure Flow.next) _ _ _
  refine wpAny_bind (assignInOrder_cons (wpAny_bindName (store_ok I3 hN hj (.inl hy) rw' (fun s2 I4 => ?_) (.inr hy))))
  refine assignInOrder_cons (wpAny_bindName (store_ok I4 hN hi (.inl hx) rv (fun s3 I5 => assignInOrder_nil (wpAny_pure ?_)) (.inr hx)))
  rw [List.set_comm _ _ (Ne.symm hij)] at I5
  exact ⟨_, H1, I5, q1⟩
end
section
variable {X : Cx} {pos : Pos}
end
structure It where
  go : Nat → Hp → Prop
  yld : Nat → Hp → V → Hp → Prop
  stop : Nat → Hp → Prop
def FpOk (X : Cx) (pins : List (Addr × Obj)) (H : Hp) (b : Addr) : Prop :=
  H b = none ∧ b ≠ X.env.locals ∧ b ∉ X.fs ∧ (b ∈ X.ex ∨ X.s₀.heap.objs.size ≤ b) ∧ (∀ x c, X.env.cells.lookup x = some c → c ≠ b) ∧ ∀ p ∈ X.pn ++ pins, p.1 ≠ b
theorem Inv.fpOk {X : Cx} {pins : List (Addr × Obj)} {σ : St} {H H' : Hp} {s : Shared} {b : Addr} (I : Inv X pins σ H s) (hb : s.heap.objs.size ≤ b) (hn : H' b = none) : FpOk X pins H' b := by
  refine ⟨hn, Nat.ne_of_gt (Nat.lt_of_lt_of_le I.lt hb), I.nofs hb, .inr (Nat.le_trans I.sz hb), fun x c e z => ?_, fun p hp z => ?_⟩
  · obtain ⟨v, q⟩ := I.cell x c e
    exact absurd (Nat.lt_of_lt_of_le q.lt (by rw [z]; exact hb)) (Nat.lt_irrefl _)
  · exact absurd (Nat.lt_of_lt_of_le (Heap.lt_size (I.pin p hp).1) (by rw [z]; exact hb)) (Nat.lt_irrefl _)
structure Turn (P : Program) (w : World) (K : PySem.W.Frag) (tg : Expr) (J : It) (fp : List Addr) (it : Addr) (tn : Nat → Heap → Prop) : Prop where
  mem : it ∈ fp
  obj : ∀ i h, tn i h → ∀ b ∈ fp, ∃ o, h.get? b = some o ∧ ∀ v, o.data ≠ .cell v
  keep : ∀ i h h', tn i h → (∀ b ∈ fp, ∀ o, h.get? b = some o → h'.get? b = some o) → tn i h'
  item : ∀ (X : Cx), X.prog = P → X.w = w → X.K = K → X.calm = true → ∀ (i : Nat) (pins : List (Addr × Obj)) (s : Shared) (σ : St) (H : Hp) (E : Value → Shared → Prop), Inv X pins σ H s → (∀ b ∈ fp, FpOk X pins H b) → tn i s.heap → J.go i H →
    wpAny (model P w) X.A (pyNext (.ref it)) (fun r s1 => ∃ u, r = some u ∧
      wpAny (model P w) X.A (letOwnedTupleGo tg (.ref it) u) (fun _ s2 => ∃ x H', Inv X pins σ H' s2 ∧ RelV x u ∧ J.yld i H x H' ∧ tn (i + 1) s2.heap ∧ ∀ b ∈ fp, H' b = none) E s1) E s
  done : ∀ (X : Cx), X.prog = P → X.w = w → X.K = K → X.calm = true → ∀ (i : Nat) (pins : List (Addr × Obj)) (s : Shared) (σ : St) (H : Hp) (E : Value → Shared → Prop), Inv X pins σ H s → (∀ b ∈ fp, FpOk X pins H b) → tn i s.heap → J.stop i H →
    wpAny (model P w) X.A (pyNext (.ref it)) (fun r s1 => r = none ∧ Inv X pins σ H s1) E s
  self : ∀ (A : Around) (i : Nat) (s : Shared) (Q : Value → Shared → Prop) (E : Value → Shared → Prop), tn i s.heap → Q (.ref it) s → wpAny (model P w) A (pyIter (.ref it)) Q E s
abbrev TI := St → Hp → (It → Hp → Prop) → Prop
def PIE (X : Cx) (pins : List (Addr × Obj)) (σ : St) (tg : Expr) (R : It → Hp → Prop) (itv : Value) (s2 : Shared) : Prop :=
  ∃ (it : Addr) (fp : List Addr) (tn : Nat → Heap → Prop) (J : It) (H' : Hp), itv = .ref it ∧ Inv X pins σ H' s2 ∧ Turn X.prog X.w X.K tg J fp it tn ∧ tn 0 s2.heap ∧ (∀ b ∈ fp, FpOk X pins H' b) ∧ R J H'
def PI (X : Cx) (tg iter : Expr) (wi : TI) : Prop :=
  ∀ (pins : List (Addr × Obj)) (s : Shared) (σ : St) (H : Hp) (R : It → Hp → Prop), Inv X pins σ H s → wi σ H R →
    wpAny (model X.prog X.w) X.A (eval iter X.env) (fun v s1 => wpAny (model X.prog X.w) X.A (pyIter v) (PIE X pins σ tg R) X.xe s1) X.xe s
theorem go_of {M : Model} {A : Around} {E : Value → Shared → Prop} {s : Shared} {tg : Expr} {it : Addr} {u : Value} {o : Obj} {n : String} {vs : Array Value} {Q : Unit → Shared → Prop} (ho : s.heap.get? it = some o) (hc : o.cls = .type n) (hd : o.data = .fields vs)
    (hn : ["enumerate", "zip", "dict_itemiterator", "dict_reverseitemiterator", "odict_iterator", "itertools.zip_longest", "itertools.pairwise"].contains n = false) (hQ : Q () s) : wpAny M A (letOwnedTupleGo tg (.ref it) u) Q E s := by
  unfold letOwnedTupleGo
  cases tg <;> first
    | exact wpAny_pure hQ
    | (cases u <;> first
        | exact wpAny_pure hQ
        | (refine wpAny_bind (wpAny_load ho ?_)
           rw [hc, hd]
           show wpAny M A (if (["enumerate", "zip", "dict_itemiterator", "dict_reverseitemiterator", "odict_iterator", "itertools.zip_longest", "itertools.pairwise"].contains n && vs[0]? == some (rawInt _)) = true then _ else _) Q E s
           rw [if_neg (by intro h; rw [hn, Bool.false_and] at h; cases h)]
           exact wpAny_pure hQ))
def Itl (K : PySem.W.Frag) (a : Addr) : It :=
  ⟨fun i H => ∃ xs x, SqL K H a xs ∧ xs[i]? = some x, fun i H x H' => H' = H ∧ ∀ xs, SqL K H a xs → xs[i]? = some x, fun i H => ∃ xs, SqL K H a xs ∧ xs.length ≤ i⟩
def Itt (K : PySem.W.Frag) (a : Addr) : It :=
  ⟨fun i H => ∃ xs x, SqT K H a xs ∧ xs[i]? = some x, fun i H x H' => H' = H ∧ ∀ xs, SqT K H a xs → xs[i]? = some x, fun i H => ∃ xs, SqT K H a xs ∧ xs.length ≤ i⟩
def Itr (lo : Int) (n : Nat) : It := ⟨fun i _ => i < n, fun i H x H' => H' = H ∧ x = .int (lo + i), fun i _ => n ≤ i⟩
theorem turn_list {P : Program} {w : World} {K : PySem.W.Frag} {tg : Expr} (a it : Addr) : Turn P w K tg (Itl K a) [it] it (fun i h => h.IsListIter it a i) where
  mem := by simp
  obj := fun i h st b hb => by
    have e : b = it := by simpa using hb
    subst e
    obtain ⟨o, e, c, d⟩ := st
    exact ⟨o, e, fun v z => by rw [d] at z; cases z⟩
  keep := fun i h h' st k => st.at fun o e => k it (by simp) o e
  item := by
    intro X hP hw hK hc i pins s σ H E I hf st hg
    subst hP hw hK
    obtain ⟨xs, x, hq, hx⟩ := hg
    obtain ⟨its, rv, p, hz⟩ := I.list hq
    obtain ⟨u, hu, ru⟩ := rv.get hx
    obtain ⟨f0, f1, f2, f3, f4, f5⟩ := hf it (by simp)
    refine wpAny_pyNext_list_item st p.isList (x := u) (by simpa using hu) fun h' st' sb => ?_
    have I1 : Inv X pins σ H { s with heap := h' } := I.turned (t' := s.toks) (fun b o hb e => (sb.2 b hb).trans e) f0 f1 f3 f4 f5
    obtain ⟨o, e, c, d⟩ := id st'
    exact ⟨u, rfl, go_of (s := { s with heap := h' }) e c d (by decide) ⟨x, H, I1, ru, ⟨rfl, fun ys hy => by rw [I.list_inj hy hq]; exact hx⟩, st', fun b hb => (hf b hb).1⟩⟩
  done := by
    intro X hP hw hK hc i pins s σ H E I hf st hg
    subst hP hw hK
    obtain ⟨xs, hq, hx⟩ := hg
    obtain ⟨its, rv, p, hz⟩ := I.list hq
    obtain ⟨f0, f1, f2, f3, f4, f5⟩ := hf it (by simp)
    have hl := rv.length
    exact wpAny_pyNext_list_end (I.ok.hd hc) st p.isList (by simp; omega) fun h' eb => ⟨rfl, I.turned (t' := s.toks) (fun b o hb e => eb b o hb e) f0 f1 f3 f4 f5⟩
  self := fun _ _ _ _ _ st h => wpAny_pyIter_listiter st h
theorem turn_tuple {P : Program} {w : World} {K : PySem.W.Frag} {tg : Expr} (a it : Addr) : Turn P w K tg (Itt K a) [it] it (fun i h => h.IsTupleIter it a i) where
  mem := by simp
  obj := fun i h st b hb => by
    have e : b = it := by simpa using hb
    subst e
    obtain ⟨o, e, c, d⟩ := st
    exact ⟨o, e, fun v z => by rw [d] at z; cases z⟩
  keep := fun i h h' st k => st.at fun o e => k it (by simp) o e
  item := by
    intro X hP hw hK hc i pins s σ H E I hf st hg
    subst hP hw hK
    obtain ⟨xs, x, hq, hx⟩ := hg
    obtain ⟨its, rv, p, hz⟩ := I.tuple hq
    obtain ⟨u, hu, ru⟩ := rv.get hx
    obtain ⟨f0, f1, f2, f3, f4, f5⟩ := hf it (by simp)
    refine wpAny_pyNext_tuple_item st (show s.heap.IsTuple a its.toArray from p) (x := u) (by simpa using hu) fun h' st' sb => ?_
    have I1 : Inv X pins σ H { s with heap := h' } := I.turned (t' := s.toks) (fun b o hb e => (sb.2 b hb).trans e) f0 f1 f3 f4 f5
    obtain ⟨o, e, c, d⟩ := id st'
    exact ⟨u, rfl, go_of (s := { s with heap := h' }) e c d (by decide) ⟨x, H, I1, ru, ⟨rfl, fun ys hy => by rw [I.tuple_inj hy hq]; exact hx⟩, st', fun b hb => (hf b hb).1⟩⟩
  done := by
    intro X hP hw hK hc i pins s σ H E I hf st hg
    subst hP hw hK
    obtain ⟨xs, hq, hx⟩ := hg
    obtain ⟨its, rv, p, hz⟩ := I.tuple hq
    obtain ⟨f0, f1, f2, f3, f4, f5⟩ := hf it (by simp)
    have hl := rv.length
    exact wpAny_pyNext_tuple_end (I.ok.hd hc) st (show s.heap.IsTuple a its.toArray from p) (by simp; omega) fun h' eb => ⟨rfl, I.turned (t' := s.toks) (fun b o hb e => eb b o hb e) f0 f1 f3 f4 f5⟩
  self := fun _ _ _ _ _ st h => wpAny_pyIter_tupleiter st h
theorem turn_range {P : Program} {w : World} {K : PySem.W.Frag} {tg : Expr} (it : Addr) (lo : Int) (n : Nat) : Turn P w K tg (Itr lo n) [it] it (fun i h => IsRangeIter h it (lo + (i : Nat) * 1) ((n : Int) - (i : Nat)) 1) where
  mem := by simp
  obj := fun i h st b hb => by
    have e : b = it := by simpa using hb
    subst e
    exact ⟨_, st, fun v z => by
      have z' : Data.fields _ = Data.cell v := z
      cases z'⟩
  keep := fun i h h' st k => k it (by simp) _ st
  item := by
    intro X hP hw hK hc i pins s σ H E I hf st hg
    subst hP hw hK
    obtain ⟨f0, f1, f2, f3, f4, f5⟩ := hf it (by simp)
    have W := Walks.range (prog := X.prog) (w := X.w) (I.ok.hd hc) it lo 1 n
    refine W.item i s _ _ hg st fun v h' tk hv st' kk => ?_
    obtain ⟨t, rfl⟩ := hv
    have I1 : Inv X pins σ H { s with heap := h', toks := tk } := I.turned (fun b o hb e => kk b o (by simpa using hb) e) f0 f1 f3 f4 f5
    refine ⟨_, rfl, go_of (s := { s with heap := h', toks := tk }) (n := "range_iterator") st' rfl rfl (by decide) ⟨.int (lo + i), H, I1, ⟨t, ?_⟩, ⟨rfl, rfl⟩, st', fun b hb => (hf b hb).1⟩⟩
    rw [Int.mul_one]
  done := by
    intro X hP hw hK hc i pins s σ H E I hf st hg
    subst hP hw hK
    obtain ⟨f0, f1, f2, f3, f4, f5⟩ := hf it (by simp)
    exact wpAny_pyNext_range_end (I.ok.hd hc) st (by have : n ≤ i := hg; omega) fun h' eb => ⟨rfl, I.turned (t' := s.toks) (fun b o hb e => eb b o hb e) f0 f1 f3 f4 f5⟩
  self := fun _ _ _ _ _ st h => wpAny_pyIter_rangeiter st h
end L2
namespace L2
open PySem PySem.Spec PyProof.Rows
section
variable {X : Cx} {tg : Expr}
theorem range_it {pins : List (Addr × Obj)} {σ : St} {H : Hp} {s : Shared} {R : It → Hp → Prop} {E : Value → Shared → Prop} {lo hi : Int} {t u v : Tok} {tk : Nat} (I : Inv X pins σ H s) (h1 : -(2 ^ 62) ≤ lo) (h2 : lo < 2 ^ 62) (h3 : -(2 ^ 62) ≤ hi) (h4 : hi < 2 ^ 62)
    (q : R (Itr lo (hi - lo).toNat) H) : wpAny (model X.prog X.w) X.A (pyIter (.ref s.heap.objs.size)) (PIE X pins σ tg R) E { s with heap := s.heap.push { cls := .type "range", data := .fields #[.int lo t, .int hi u, .int 1 v] }, toks := tk } := by
  refine wpAny_pyIter_range (IsRange.new ..) (small_one h1 h2 h3 h4) ?_
  have I1 : Inv X pins σ H { s with heap := s.heap.push { cls := .type "range", data := .fields #[.int lo t, .int hi u, .int 1 v] }, toks := tk } := I.kept fun b o e => Heap.get?_push_of_some _ e
  refine ⟨(s.heap.push { cls := .type "range", data := .fields #[.int lo t, .int hi u, .int 1 v] }).objs.size, [(s.heap.push { cls := .type "range", data := .fields #[.int lo t, .int hi u, .int 1 v] }).objs.size], _, _, H, rfl,
    I1.kept (t' := tk) fun b o e => Heap.get?_push_of_some _ e, turn_range _ lo (hi - lo).toNat, ?_, fun b hb => ?_, q⟩
  · have e1 : lo + ((0 : Nat) : Int) * 1 = lo := by simp
    have e2 : (((hi - lo).toNat : Nat) : Int) - ((0 : Nat) : Int) = Builtin.Range.rangeSize lo hi 1 := by rw [rangeSize_one]; split <;> omega
    show IsRangeIter _ _ (lo + ((0 : Nat) : Int) * 1) ((((hi - lo).toNat : Nat) : Int) - ((0 : Nat) : Int)) 1
    rw [e1, e2]
    exact Heap.get?_push_size _ rfl
  · have e : b = (s.heap.push { cls := .type "range", data := .fields #[.int lo t, .int hi u, .int 1 v] }).objs.size := by simpa using hb
    subst e
    exact I1.fpOk (Nat.le_refl _) (I1.hok.fresh (Nat.le_refl _))
def iRng1 (ta : TA) : TI := fun σ H R => ta σ H fun vs H1 => ∃ j : Int, vs = [.int j] ∧ -(2 ^ 62) ≤ j ∧ j < 2 ^ 62 ∧ R (Itr 0 j.toNat) H1
def iRng2 (ta : TA) : TI := fun σ H R => ta σ H fun vs H1 => ∃ i j : Int, vs = [.int i, .int j] ∧ (-(2 ^ 62) ≤ i ∧ i < 2 ^ 62 ∧ -(2 ^ 62) ≤ j ∧ j < 2 ^ 62) ∧ R (Itr i (j - i).toNat) H1
theorem pi_range1 {a : Expr} {ta : TA} {p pos : Pos} (hg : Gl X "range") (hm : X.mg "range" = none) (ha : PA X [a] ta) (hs : starEach [a] X.env = [(false, eval a X.env)] := by rfl) : PI X tg (.Call (.Name "range" p) [a] [] pos) (iRng1 ta) := by
  intro pins s σ H R I h
  refine Call_ (ld_blt I hg hm boot_range (PyProof.Rows.callWith_type1 (thn (ha pos pins s σ H _ I h) fun us s1 ⟨vs, H1, I1, r1, q1⟩ => ?_) hs rfl))
  obtain ⟨j, e, q1, q2, q⟩ := q1
  subst e
  cases r1 with
  | cons r rr =>
    cases rr
    obtain ⟨t, rfl⟩ := r
    exact call_range_1 (range_it I1 (by omega) (by omega) q1 q2 (by simpa using q))
theorem pi_range2 {a b : Expr} {ta : TA} {p pos : Pos} (hg : Gl X "range") (hm : X.mg "range" = none) (ha : PA X [a, b] ta) (hs : starEach [a, b] X.env = [(false, eval a X.env), (false, eval b X.env)] := by rfl) (hs2 : starEach [b] X.env = [(false, eval b X.env)] := by rfl) :
    PI X tg (.Call (.Name "range" p) [a, b] [] pos) (iRng2 ta) := by
  intro pins s σ H R I h
  refine Call_ (ld_blt I hg hm boot_range (PyProof.Rows.callWith_type1 (thn (ha pos pins s σ H _ I h) fun us s1 ⟨vs, H1, I1, r1, q1⟩ => ?_) (by rw [hs, hs2]) (by rw [hs2]; rfl)))
  obtain ⟨i, j, e, ⟨q1, q2, q3, q4⟩, q⟩ := q1
  subst e
  cases r1 with
  | cons r rr =>
    cases rr with
    | cons r' rr =>
      cases rr
      obtain ⟨t, rfl⟩ := r
      obtain ⟨t', rfl⟩ := r'
      exact call_range_2 (range_it I1 q1 q2 q3 q4 q)
def tFor (wi : TI) (g : TG) (tb : TS) : TS := fun D σ H => wi σ H fun J H1 => ∃ W : Nat → Nat → St → Hp → Prop, (∃ m, W 0 m σ H1) ∧ ∀ i m σ H, W i m σ H →
  (J.stop i H ∧ D.nx σ H) ∨ (J.go i H ∧ ∃ N : St → Hp → Prop, (∀ σ' H', N σ' H' → ∃ m', m' < m ∧ W (i + 1) m' σ' H') ∧ ∀ x H', J.yld i H x H' → g x σ H' fun σ2 H2 => tb { D with nx := N, ct := N, bk := D.nx } σ2 H2)
def pinsAt (fp : List Addr) (h : Heap) : List (Addr × Obj) := fp.filterMap fun b => (h.get? b).map fun o => (b, o)
theorem mem_pinsAt {fp : List Addr} {h : Heap} {b : Addr} {o : Obj} (hb : b ∈ fp) (e : h.get? b = some o) : (b, o) ∈ pinsAt fp h := List.mem_filterMap.mpr ⟨b, hb, by rw [e]; rfl⟩
theorem of_pinsAt {fp : List Addr} {h : Heap} {p : Addr × Obj} (hp : p ∈ pinsAt fp h) : p.1 ∈ fp ∧ h.get? p.1 = some p.2 := by
  obtain ⟨b, hb, e⟩ := List.mem_filterMap.mp hp
  cases q : h.get? b with
  | none => rw [q] at e; cases e
  | some o =>
    rw [q] at e
    have e' : (b, o) = p := Option.some.inj e
    subst e'
    exact ⟨hb, q⟩
theorem Inv.pinned {pins : List (Addr × Obj)} {σ : St} {H : Hp} {s : Shared} {fp : List Addr} (I : Inv X pins σ H s) (hf : ∀ b ∈ fp, FpOk X pins H b) (ho : ∀ b ∈ fp, ∃ o, s.heap.get? b = some o ∧ ∀ v, o.data ≠ .cell v) : Inv X (pins ++ pinsAt fp s.heap) σ H s :=
  I.pins_of fun p hp => (List.mem_append.mp hp).elim (fun z => I.pin p (List.mem_append_right _ z)) fun z => by
    obtain ⟨hb, e⟩ := of_pinsAt z
    obtain ⟨f0, f1, f2, _⟩ := hf p.1 hb
    obtain ⟨o, e', d⟩ := ho p.1 hb
    rw [e] at e'; cases e'
    exact ⟨e, f0, f1, f2, d⟩
theorem Inv.unpinned {pins pl : List (Addr × Obj)} {σ : St} {H : Hp} {s : Shared} (I : Inv X (pins ++ pl) σ H s) : Inv X pins σ H s := I.pins_of fun p hp => I.pin p (List.mem_append_right _ (List.mem_append_left _ hp))
theorem ps_for {iter : Expr} {body : List Stmt} {wi : TI} {g : TG} {tb : TS} {pos : Pos} (hp : PassesOwn (model X.prog X.w) X.A X.env X.xe) (hc : X.calm = true) (hi : PI X tg iter wi) (hg : PG X tg g) (hb : PSs X body tb)
    (hs : ∀ x, foldedSetIterable iter X.env x = pure x := by intro _; rfl) : PS X (.For tg iter body [] pos) (tFor wi g tb) := by
  intro pins s σ H D I h
  refine wpAny_For (thn (hi pins s σ H _ I h) fun v s1 h1 => thn h1 fun itv s2 h2 => ?_) hs
  obtain ⟨it, fp, tn, J, H2, e, I2, T, st2, f2, W, ⟨m0, w0⟩, turn⟩ := h2
  subst e
  -- what stays true of the iterator's objects through the loop
  have stat : ∀ {H' : Hp}, (∀ b ∈ fp, H' b = none) → ∀ b ∈ fp, FpOk X pins H' b := fun hn b hb => ⟨hn b hb, (f2 b hb).2⟩
  refine codeAny_forLoop_any (fun n s' => ∃ i σ' H', Inv X pins σ' H' s' ∧ tn i s'.heap ∧ (∀ b ∈ fp, H' b = none) ∧ W i n σ' H') ?_ m0 ⟨0, σ, H2, I2, st2, fun b hb => (f2 b hb).1, w0⟩
  rintro n s3 ⟨i, σ3, H3, I3, st3, fr3, w3⟩
  rcases turn i n σ3 H3 w3 with ⟨stop, qn⟩ | ⟨go, N, hN, step⟩
  · refine wpAny_passesOwn hp (thn (T.done X rfl rfl rfl hc i pins s3 σ3 H3 X.xe I3 (stat fr3) st3 stop) fun r s4 ⟨hr, I4⟩ => ?_)
    subst hr
    exact wpAny_execs_nil ⟨σ3, H3, I4, qn⟩
  · refine wpAny_passesOwn hp (thn (T.item X rfl rfl rfl hc i pins s3 σ3 H3 X.xe I3 (stat fr3) st3 go) fun r s4 ⟨u, hr, h4⟩ => ?_)
    subst hr
    refine wpAny_passesOwn hp (thn h4 fun _ s5 ⟨x, H5, I5, r5, y5, st5, fr5⟩ => ?_)
    have I5' := I5.pinned (stat fr5) (T.obj _ _ st5)
    refine wpAny_passesOwn hp (thn (hg _ s5 σ3 H5 x u _ I5' r5 (step x H5 y5)) fun _ s6 ⟨σ6, H6, I6, q6⟩ => ?_)
    refine wpAny_passesOwn hp (thn (hb _ s6 σ6 H6 _ I6 q6) fun f s7 q7 => ?_)
    have again : ∀ {σ7 : St} {H7 : Hp}, Inv X (pins ++ pinsAt fp s5.heap) σ7 H7 s7 → N σ7 H7 → ∃ m, m < n ∧ ∃ i σ' H', Inv X pins σ' H' s7 ∧ tn i s7.heap ∧ (∀ b ∈ fp, H' b = none) ∧ W i m σ' H' := fun {σ7 H7} I7 n7 => by
      obtain ⟨m', hm, w7⟩ := hN σ7 H7 n7
      refine ⟨m', hm, i + 1, σ7, H7, I7.unpinned, T.keep _ _ _ st5 fun b hb o e => (I7.pin (b, o) (List.mem_append_right _ (List.mem_append_right _ (mem_pinsAt hb e)))).1, fun b hb => ?_, w7⟩
      obtain ⟨o, e, d⟩ := T.obj _ _ st5 b hb
      exact (I7.pin (b, o) (List.mem_append_right _ (List.mem_append_right _ (mem_pinsAt hb e)))).2.1
    cases f with
    | next => obtain ⟨σ7, H7, I7, n7⟩ := q7; exact again I7 n7
    | cont => obtain ⟨σ7, H7, I7, n7⟩ := q7; exact again I7 n7
    | brk => obtain ⟨σ7, H7, I7, q7⟩ := q7; exact ⟨σ7, H7, I7.unpinned, q7⟩
    | ret v => obtain ⟨x7, σ7, H7, I7, r7, q7⟩ := q7; exact ⟨x7, σ7, H7, I7.unpinned, r7, q7⟩
end
end L2
namespace L2
open PySem PySem.Spec PyProof.Rows
abbrev R2 := V → V → Hp → VK → Prop
def OpR (X : Cx) (f : Value → Value → Sem Value) (r : R2) : Prop :=
  ∀ (pins : List (Addr × Obj)) (s : Shared) (σ : St) (H : Hp) (x y : V) (v u : Value) (Q : VK), Inv X pins σ H s → RelV x v → RelV y u → r x y H Q →
    wpAny (model X.prog X.w) X.A (f v u) (EP X pins σ Q) X.xe s
def UnR (X : Cx) (f : Value → Sem Value) (r : V → Hp → VK → Prop) : Prop :=
  ∀ (pins : List (Addr × Obj)) (s : Shared) (σ : St) (H : Hp) (x : V) (v : Value) (Q : VK), Inv X pins σ H s → RelV x v → r x H Q →
    wpAny (model X.prog X.w) X.A (f v) (EP X pins σ Q) X.xe s
def CallR (X : Cx) (f : Value) (r : List V → Hp → VK → Prop) : Prop :=
  ∀ (pins : List (Addr × Obj)) (s : Shared) (σ : St) (H : Hp) (xs : List V) (us : List Value) (Q : VK), Inv X pins σ H s → Vals xs us → r xs H Q →
    wpAny (model X.prog X.w) X.A (call f us) (EP X pins σ Q) X.xe s
def tOp (r : R2) (ta tb : TE) : TE := fun σ H Q => ta σ H fun x H1 => tb σ H1 fun y H2 => r x y H2 Q
def tUn (r : V → Hp → VK → Prop) (ta : TE) : TE := fun σ H Q => ta σ H fun x H1 => r x H1 Q
def rI (C : Int → Int → Prop) (g : Int → Int → V) : R2 := fun x y H Q => ∃ i j, x = .int i ∧ y = .int j ∧ C i j ∧ Q (g i j) H
def rI0 (g : Int → Int → V) : R2 := fun x y H Q => ∃ i j, x = .int i ∧ y = .int j ∧ Q (g i j) H
def rU (g : Int → V) : V → Hp → VK → Prop := fun x H Q => ∃ i, x = .int i ∧ Q (g i) H
section
variable {X : Cx} {a b c : Expr} {ta tb tc : TE} {pos : Pos}
theorem binT (ha : PE X a ta) (hb : PE X b tb) {pins : List (Addr × Obj)} {s : Shared} {σ : St} {H : Hp} {R : V → V → Hp → Prop} (I : Inv X pins σ H s)
    (h : ta σ H fun x H1 => tb σ H1 fun y H2 => R x y H2) {Q : Value → Shared → Prop} {f : Value → Value → Sem Value}
    (hf : ∀ v u s2 x y H2, Inv X pins σ H2 s2 → RelV x v → RelV y u → R x y H2 → wpAny (model X.prog X.w) X.A (f v u) Q X.xe s2) :
    wpAny (model X.prog X.w) X.A (eval a X.env) (fun v s₁ => wpAny (model X.prog X.w) X.A (eval b X.env) (fun u s₂ => wpAny (model X.prog X.w) X.A (f v u) Q X.xe s₂) X.xe s₁) X.xe s := by
  refine thn (ha pins s σ H _ I h) fun v s1 ⟨x, H1, I1, r1, q1⟩ => ?_
  refine thn (hb pins s1 σ H1 _ I1 q1) fun u s2 ⟨y, H2, I2, r2, q2⟩ => ?_
  exact hf v u s2 x y H2 I2 r1 r2 q2
theorem pe_op {op : Operator} {r : R2} (ho : OpR X (binaryOp op) r) (ha : PE X a ta) (hb : PE X b tb) : PE X (.BinOp a op b pos) (tOp r ta tb) := by
  intro pins s σ H Q I h
  exact wpAny_BinOp (binT ha hb I h fun v u s2 x y H2 I2 rx ry q => ho pins s2 σ H2 x y v u Q I2 rx ry q)
theorem pe_un {op : UnaryOp} {r : V → Hp → VK → Prop} (ho : UnR X (unaryOp op) r) (ha : PE X a ta) : PE X (.UnaryOp op a pos) (tUn r ta) := by
  intro pins s σ H Q I h
  exact UnaryOp_ (thn (ha pins s σ H _ I h) fun v s1 ⟨x, H1, I1, r1, q1⟩ => ho pins s1 σ H1 x v Q I1 r1 q1)
theorem opI {f : Value → Value → Sem Value} {C : Int → Int → Prop} {g : Int → Int → Int}
    (rule : ∀ (i j : Int) (t u : Tok) (s : Shared) (Q : Value → Shared → Prop) (E : Value → Shared → Prop), C i j → Q (.int (g i j) s.toks) { s with toks := s.toks + 1 } → wpAny (model X.prog X.w) X.A (f (.int i t) (.int j u)) Q E s) :
    OpR X f (rI C fun i j => .int (g i j)) := by
  intro pins s σ H x y v u Q I rx ry h
  obtain ⟨i, j, rfl, rfl, hc, q⟩ := h
  obtain ⟨t, rfl⟩ := rx
  obtain ⟨t', rfl⟩ := ry
  exact rule i j t t' s _ _ hc ⟨.int (g i j), H, I.tok _, ⟨_, rfl⟩, q⟩
theorem opI0 {f : Value → Value → Sem Value} {g : Int → Int → Int}
    (rule : ∀ (i j : Int) (t u : Tok) (s : Shared) (Q : Value → Shared → Prop) (E : Value → Shared → Prop), Q (.int (g i j) s.toks) { s with toks := s.toks + 1 } → wpAny (model X.prog X.w) X.A (f (.int i t) (.int j u)) Q E s) :
    OpR X f (rI0 fun i j => .int (g i j)) := by
  intro pins s σ H x y v u Q I rx ry h
  obtain ⟨i, j, rfl, rfl, q⟩ := h
  obtain ⟨t, rfl⟩ := rx
  obtain ⟨t', rfl⟩ := ry
  exact rule i j t t' s _ _ ⟨.int (g i j), H, I.tok _, ⟨_, rfl⟩, q⟩
theorem opB0 {f : Value → Value → Sem Value} {g : Int → Int → Bool}
    (rule : ∀ (i j : Int) (t u : Tok) (s : Shared) (Q : Value → Shared → Prop) (E : Value → Shared → Prop), Q (.bool (g i j)) s → wpAny (model X.prog X.w) X.A (f (.int i t) (.int j u)) Q E s) :
    OpR X f (rI0 fun i j => .bl (g i j)) := by
  intro pins s σ H x y v u Q I rx ry h
  obtain ⟨i, j, rfl, rfl, q⟩ := h
  obtain ⟨t, rfl⟩ := rx
  obtain ⟨t', rfl⟩ := ry
  exact rule i j t t' s _ _ ⟨.bl (g i j), H, I, rfl, q⟩
def CDiv (i j : Int) : Prop := 0 < j ∧ j < 1073741824
def CPow (i j : Int) : Prop := 0 ≤ j ∧ j ≤ 1000000 ∧ i.natAbs < 2 ^ 64
def CMul (i j : Int) : Prop := (-(2 ^ 64) < i ∧ i < 2 ^ 64) ∨ (-(2 ^ 64) < j ∧ j < 2 ^ 64)
theorem CMul.ok {i j : Int} (h : CMul i j) : IntMulOk i j := by
  rcases h with ⟨h1, h2⟩ | ⟨h1, h2⟩
  · exact .of_left (intBits_le_64 h1 h2)
  · exact .of_right (intBits_le_64 h1 h2)
theorem op_add : OpR X (binaryOp .Add) (rI0 fun i j => .int (i + j)) := opI0 fun _ _ _ _ _ _ _ q => add_int q
theorem op_sub : OpR X (binaryOp .Sub) (rI0 fun i j => .int (i - j)) := opI0 fun _ _ _ _ _ _ _ q => sub_int q
theorem op_mul : OpR X (binaryOp .Mult) (rI CMul fun i j => .int (i * j)) := opI fun _ _ _ _ _ _ _ hc q => mul_int q hc.ok
theorem op_fdiv : OpR X (binaryOp .FloorDiv) (rI CDiv fun i j => .int (i / j)) := opI fun i j _ _ _ _ _ hc q => by
  have h1 : (0 : Int) < j := hc.1
  have h2 : j < 1073741824 := hc.2
  exact floordiv_int (by omega) (by rw [Int.fdiv_eq_ediv_of_nonneg i (by omega)]; exact q) (.inl (PyProof.noPylong_small (by omega)))
theorem op_mod : OpR X (binaryOp .Mod) (rI (fun _ j => 0 < j) fun i j => .int (i % j)) := opI fun i j _ _ _ _ _ hc q => by
  have h1 : (0 : Int) < j := hc
  exact mod_int' (by omega) (by rw [Int.fmod_eq_emod_of_nonneg i (by omega)]; exact q)
theorem op_pow : OpR X (binaryOp .Pow) (rI CPow fun i j => .int (i ^ j.toNat)) := opI fun _ _ _ _ _ _ _ hc q => pow_int_small hc.1 hc.2.1 hc.2.2 q
theorem unI {f : Value → Sem Value} {g : Int → Int}
    (rule : ∀ (i : Int) (t : Tok) (s : Shared) (Q : Value → Shared → Prop) (E : Value → Shared → Prop), Q (.int (g i) s.toks) { s with toks := s.toks + 1 } → wpAny (model X.prog X.w) X.A (f (.int i t)) Q E s) :
    UnR X f (rU fun i => .int (g i)) := by
  intro pins s σ H x v Q I rx h
  obtain ⟨i, rfl, q⟩ := h
  obtain ⟨t, rfl⟩ := rx
  exact rule i t s _ _ ⟨.int (g i), H, I.tok _, ⟨_, rfl⟩, q⟩
theorem un_neg : UnR X (unaryOp .USub) (rU fun i => .int (-i)) := unI fun _ _ _ _ _ q => neg_int q
end
def scal : V → V → Bool
  | .non, .non => true | .non, .int _ => true | .int _, .non => true | .non, .bl _ => true | .bl _, .non => true | .non, .str _ => true | .str _, .non => true
  | .int _, .int _ => true | .bl _, .bl _ => true | .str _, .str _ => true | .byt _, .byt _ => true
  | .int _, .str _ => true | .str _, .int _ => true | .bl _, .str _ => true | .str _, .bl _ => true
  | _, _ => false
def rEq : R2 := fun x y H Q => scal x y = true ∧ Q (.bl (decide (x = y))) H
def rNe : R2 := fun x y H Q => scal x y = true ∧ Q (.bl (!decide (x = y))) H
theorem dec_int {i j : Int} : decide (V.int i = V.int j) = (i == j) := by
  rw [Bool.eq_iff_iff]
  simp
theorem dec_bl {i j : Bool} : decide (V.bl i = V.bl j) = (i == j) := by
  rw [Bool.eq_iff_iff]
  simp
theorem dec_str {i j : Str} : decide (V.str i = V.str j) = (i == j) := by
  rw [Bool.eq_iff_iff]
  simp
theorem dec_byt {i j : Array UInt8} : decide (V.byt i = V.byt j) = (i.toList == j.toList) := by
  rw [Bool.eq_iff_iff]
  cases i
  cases j
  simp
section
variable {X : Cx} {a b c : Expr} {ta tb tc : TE} {pos : Pos}
theorem fin_bl {pins : List (Addr × Obj)} {σ : St} {H : Hp} {s : Shared} {Q : VK} {k k' : Bool} (I : Inv X pins σ H s) (q : Q (.bl k) H) (e : k = k') : EP X pins σ Q (.bool k') s := by
  subst e
  exact ⟨.bl k, H, I, rfl, q⟩
theorem op_eq : OpR X (compareOp .Eq) rEq := by
  intro pins s σ H x y v u Q I rx ry h
  obtain ⟨hs, q⟩ := h
  cases x with
  | non =>
    cases rx
    cases y with
    | non => cases ry; exact PySem.EqNone.eq_none_none (fin_bl I q (by simp))
    | bl j => cases ry; exact PySem.EqNone.eq_none_bool (fin_bl I q (by simp))
    | int j => obtain ⟨t', rfl⟩ := ry; exact PySem.EqNone.eq_none_int (fin_bl I q (by simp))
    | str j => obtain ⟨t', rfl⟩ := ry; exact PySem.EqNone.eq_none_str (fin_bl I q (by simp))
    | _ => exact absurd (show false = true from hs) Bool.false_ne_true
  | bl i =>
    cases rx
    cases y with
    | non => cases ry; exact PySem.EqNone.eq_bool_none (fin_bl I q (by simp))
    | bl j => cases ry; exact eq_bool (fin_bl I q dec_bl)
    | str j => obtain ⟨t', rfl⟩ := ry; exact PySem.EqMixed.eq_bool_str (fin_bl I q (by simp))
    | _ => exact absurd (show false = true from hs) Bool.false_ne_true
  | int i =>
    obtain ⟨t, rfl⟩ := rx
    cases y with
    | non => cases ry; exact PySem.EqNone.eq_int_none (fin_bl I q (by simp))
    | int j => obtain ⟨t', rfl⟩ := ry; exact eq_int (fin_bl I q dec_int)
    | str j => obtain ⟨t', rfl⟩ := ry; exact PySem.EqMixed.eq_int_str (fin_bl I q (by simp))
    | _ => exact absurd (show false = true from hs) Bool.false_ne_true
  | str i =>
    obtain ⟨t, rfl⟩ := rx
    cases y with
    | non => cases ry; exact PySem.EqNone.eq_str_none (fin_bl I q (by simp))
    | bl j => cases ry; exact PySem.EqMixed.eq_str_bool (fin_bl I q (by simp))
    | int j => obtain ⟨t', rfl⟩ := ry; exact PySem.EqMixed.eq_str_int (fin_bl I q (by simp))
    | str j => obtain ⟨t', rfl⟩ := ry; exact eq_str (fin_bl I q dec_str)
    | _ => exact absurd (show false = true from hs) Bool.false_ne_true
  | byt i =>
    obtain ⟨t, rfl⟩ := rx
    cases y with
    | byt j => obtain ⟨t', rfl⟩ := ry; exact PySem.W.eq_bytes (fin_bl I q dec_byt)
    | _ => exact absurd (show false = true from hs) Bool.false_ne_true
  | _ => cases y <;> exact absurd (show false = true from hs) Bool.false_ne_true
theorem op_ne : OpR X (compareOp .NotEq) rNe := by
  intro pins s σ H x y v u Q I rx ry h
  obtain ⟨hs, q⟩ := h
  cases x with
  | non =>
    cases rx
    cases y with
    | non => cases ry; exact PySem.EqNone.ne_none_none (fin_bl I q (by simp))
    | bl j => cases ry; exact PySem.EqNone.ne_none_bool (fin_bl I q (by simp))
    | int j => obtain ⟨t', rfl⟩ := ry; exact PySem.EqNone.ne_none_int (fin_bl I q (by simp))
    | str j => obtain ⟨t', rfl⟩ := ry; exact PySem.EqNone.ne_none_str (fin_bl I q (by simp))
    | _ => exact absurd (show false = true from hs) Bool.false_ne_true
  | bl i =>
    cases rx
    cases y with
    | non => cases ry; exact PySem.EqNone.ne_bool_none (fin_bl I q (by simp))
    | bl j => cases ry; exact ne_bool (fin_bl I q (congrArg not dec_bl))
    | str j => obtain ⟨t', rfl⟩ := ry; exact PySem.EqMixed.ne_bool_str (fin_bl I q (by simp))
    | _ => exact absurd (show false = true from hs) Bool.false_ne_true
  | int i =>
    obtain ⟨t, rfl⟩ := rx
    cases y with
    | non => cases ry; exact PySem.EqNone.ne_int_none (fin_bl I q (by simp))
    | int j => obtain ⟨t', rfl⟩ := ry; exact ne_int (fin_bl I q (congrArg not dec_int))
    | str j => obtain ⟨t', rfl⟩ := ry; exact PySem.EqMixed.ne_int_str (fin_bl I q (by simp))
    | _ => exact absurd (show false = true from hs) Bool.false_ne_true
  | str i =>
    obtain ⟨t, rfl⟩ := rx
    cases y with
    | non => cases ry; exact PySem.EqNone.ne_str_none (fin_bl I q (by simp))
    | bl j => cases ry; exact PySem.EqMixed.ne_str_bool (fin_bl I q (by simp))
    | int j => obtain ⟨t', rfl⟩ := ry; exact PySem.EqMixed.ne_str_int (fin_bl I q (by simp))
    | str j => obtain ⟨t', rfl⟩ := ry; exact ne_str (fin_bl I q (congrArg not dec_str))
    | _ => exact absurd (show false = true from hs) Bool.false_ne_true
  | byt i =>
    obtain ⟨t, rfl⟩ := rx
    cases y with
    | byt j => obtain ⟨t', rfl⟩ := ry; exact PySem.W.ne_bytes (fin_bl I q (congrArg not dec_byt))
    | _ => exact absurd (show false = true from hs) Bool.false_ne_true
  | _ => cases y <;> exact absurd (show false = true from hs) Bool.false_ne_true
theorem op_lt : OpR X (compareOp .Lt) (rI0 fun i j => .bl (decide (i < j))) := opB0 fun _ _ _ _ _ _ _ q => lt_int q
theorem op_gt : OpR X (compareOp .Gt) (rI0 fun i j => .bl (decide (j < i))) := opB0 fun _ _ _ _ _ _ _ q => gt_int q
theorem op_ge : OpR X (compareOp .GtE) (rI0 fun i j => .bl (decide (j ≤ i))) := opB0 fun _ _ _ _ _ _ _ q => ge_int q
theorem op_isN : OpR X (compareOp .Is) (fun x y H Q => y = .non ∧ Q (.bl (decide (x = .non))) H) := by
  intro pins s σ H x y v u Q I rx ry h
  obtain ⟨rfl, q⟩ := h
  cases ry
  refine is_none_gen (fin_bl I q ?_)
  cases x <;> first
    | (cases rx; rfl)
    | (obtain ⟨t, rfl⟩ := rx; rfl)
theorem op_notN : OpR X (compareOp .IsNot) (fun x y H Q => y = .non ∧ Q (.bl (!decide (x = .non))) H) := by
  intro pins s σ H x y v u Q I rx ry h
  obtain ⟨rfl, q⟩ := h
  cases ry
  refine isnot_none_gen (fin_bl I q ?_)
  cases x <;> first
    | (cases rx; rfl)
    | (obtain ⟨t, rfl⟩ := rx; rfl)
theorem OpR.or {f : Value → Value → Sem Value} {r r' : R2} (h : OpR X f r) (h' : OpR X f r') : OpR X f (fun x y H Q => r x y H Q ∨ r' x y H Q) := by
  intro pins s σ H x y v u Q I rx ry q
  rcases q with q | q
  · exact h pins s σ H x y v u Q I rx ry q
  · exact h' pins s σ H x y v u Q I rx ry q
theorem nomark (b : Expr) {op : CmpOp} (h : op ≠ .In := by decide) (h2 : op ≠ .NotIn := by decide) : behindInMarks op b = false := by
  have e1 : (op == CmpOp.In) = false := by cases op <;> first | rfl | exact absurd rfl h
  have e2 : (op == CmpOp.NotIn) = false := by cases op <;> first | rfl | exact absurd rfl h2
  cases b <;> simp [behindInMarks, e1, e2]
theorem pe_cmpR {op : CmpOp} {r : R2} (ho : OpR X (compareOp op) r) (ha : PE X a ta) (hb : PE X b tb) (hm : behindInMarks op b = false) : PE X (.Compare a [op] [b] pos) (tOp r ta tb) := by
  intro pins s σ H Q I h
  exact wpAny_Compare1 (binT ha hb I h fun v u s2 x y H2 I2 rx ry q => ho pins s2 σ H2 x y v u Q I2 rx ry q) hm
def tTest (t : TE) : TT := fun σ H Q => t σ H fun x H' => ∃ k, x = .bl k ∧ Q k H'
theorem pt_cmpR {op : CmpOp} {r : R2} (ho : OpR X (compareOp op) r) (ha : PE X a ta) (hb : PE X b tb) (hm : behindInMarks op b = false) : PT X (.Compare a [op] [b] pos) (tTest (tOp r ta tb)) := by
  intro pins s σ H Q I h
  refine wpAny_isTrue_Compare1 (thn (ha pins s σ H _ I h) fun v s1 ⟨x, H1, I1, r1, q1⟩ => thn (hb pins s1 σ H1 _ I1 q1) fun u s2 ⟨y, H2, I2, r2, q2⟩ =>
    thn (ho pins s2 σ H2 x y v u _ I2 r1 r2 q2) fun c s3 ⟨z, H3, I3, r3, k, e, q3⟩ => ?_) hm
  subst e
  cases r3
  exact wpAny_truthy_bool ⟨H3, I3, q3⟩
theorem line63 : (sizeLine : Nat) < 2 ^ 63 := by rw [sizeLine_eq]; decide
theorem vals1 {x : V} {us : List Value} (r : Vals [x] us) : ∃ u, us = [u] ∧ RelV x u := by
  cases r with
  | cons r1 r2 => cases r2; exact ⟨_, rfl, r1⟩
theorem vals2 {x y : V} {us : List Value} (r : Vals [x, y] us) : ∃ u w', us = [u, w'] ∧ RelV x u ∧ RelV y w' := by
  cases r with
  | cons r1 r2 =>
    cases r2 with
    | cons r3 r4 => cases r4; exact ⟨_, _, rfl, r1, r3⟩
theorem call_abs : CallR X (.builtin "abs") (fun xs H Q => ∃ i, xs = [.int i] ∧ Q (.int (if i < 0 then -i else i)) H) := by
  intro pins s σ H xs us Q I r h
  obtain ⟨i, rfl, q⟩ := h
  obtain ⟨u, rfl, t, rfl⟩ := vals1 r
  exact call_abs_int fun u tk => ⟨.int (if i < 0 then -i else i), H, I.tok _, ⟨_, rfl⟩, q⟩
theorem call_min2 (hc : X.calm = true) : CallR X (.builtin "min") (fun xs H Q => ∃ i j, xs = [.int i, .int j] ∧ Q (.int (if j < i then j else i)) H) := by
  intro pins s σ H xs us Q I r h
  obtain ⟨i, j, rfl, q⟩ := h
  obtain ⟨u, w', rfl, ⟨t, rfl⟩, ⟨t', rfl⟩⟩ := vals2 r
  refine min_two_ints (I.ok.hd hc) fun h' tk k => ⟨_, H, I.kept k, ?_, q⟩
  by_cases hj : j < i
  · rw [if_pos hj, if_pos hj]; exact ⟨_, rfl⟩
  · rw [if_neg hj, if_neg hj]; exact ⟨_, rfl⟩
theorem call_int1 : CallR X (.type "int") (fun xs H Q => (∃ i, xs = [.int i] ∧ Q (.int i) H) ∨ ∃ k, xs = [.bl k] ∧ Q (.int (if k then 1 else 0)) H) := by
  intro pins s σ H xs us Q I r h
  rcases h with ⟨i, rfl, q⟩ | ⟨k, rfl, q⟩
  · obtain ⟨u, rfl, t, rfl⟩ := vals1 r
    exact call_int_int ⟨.int i, H, I, ⟨_, rfl⟩, q⟩
  · obtain ⟨u, rfl, r1⟩ := vals1 r
    cases r1
    exact call_int_bool ⟨.int (if k then 1 else 0), H, I.tok _, ⟨_, rfl⟩, q⟩
def LenV (K : PySem.W.Frag) (x : V) (H : Hp) (n : Nat) : Prop :=
  match x with
  | .str y => y.length ≤ sizeLine ∧ n = y.length
  | .byt y => y.size ≤ sizeLine ∧ n = y.size
  | .ref p => (∃ xs, SqL K H p xs ∧ n = xs.length) ∨ ∃ xs, SqT K H p xs ∧ n = xs.length
  | _ => False
theorem call_len : CallR X (.builtin "len") (fun xs H Q => ∃ x n, xs = [x] ∧ LenV X.K x H n ∧ Q (.int n) H) := by
  intro pins s σ H xs us Q I r h
  obtain ⟨x, n, rfl, e, q⟩ := h
  obtain ⟨u, rfl, rx⟩ := vals1 r
  have hl := line63
  have hs : sizeLine = 16777216 := sizeLine_eq
  cases x with
  | str y =>
    obtain ⟨t, rfl⟩ := rx
    obtain ⟨hy, e'⟩ : y.length ≤ sizeLine ∧ n = y.length := e
    subst e'
    exact len_str (by omega) ⟨.int _, H, I.tok _, ⟨_, rfl⟩, q⟩
  | byt y =>
    obtain ⟨t, rfl⟩ := rx
    obtain ⟨hy, e'⟩ : y.size ≤ sizeLine ∧ n = y.size := e
    subst e'
    exact PySem.W.len_bytes (by omega) ⟨.int _, H, I.tok _, ⟨_, rfl⟩, q⟩
  | ref p =>
    cases rx
    have e' : (∃ xs, SqL X.K H p xs ∧ n = xs.length) ∨ ∃ xs, SqT X.K H p xs ∧ n = xs.length := e
    rcases e' with ⟨xs, hx, e'⟩ | ⟨xs, hx, e'⟩
    · subst e'
      obtain ⟨its, r', pl, hz⟩ := I.list hx
      have hlen := r'.length
      exact Calls.call_len_list pl.isList (by simp only [List.size_toArray]; omega) ⟨.int xs.length, H, I.tok _, ⟨_, by simp only [List.size_toArray]; rw [hlen]⟩, q⟩
    · subst e'
      obtain ⟨its, r', pl, hz⟩ := I.tuple hx
      have hlen := r'.length
      exact len_tuple pl (by simp only [List.size_toArray]; omega) ⟨.int xs.length, H, I.tok _, ⟨_, by simp only [List.size_toArray]; rw [hlen]⟩, q⟩
  | _ => exact (show False from e).elim
end
end L2
namespace L2
open PySem PySem.Spec PyProof.Rows
section
variable {prog : Program} {w : World} {A : Around} {E : Value → Shared → Prop} {s : Shared} {K : PySem.W.Frag} {x dx C f : Addr} {mA : Str → Option Value} {name : Str} {v : Value}
end
section
variable {P : Program} {w : World} {H H' : Hp} {h h' : Heap} {a C dx : Addr} {fs fs' : List (Str × V)}
end
structure Cls (K : PySem.W.Frag) (C : Addr) : Prop where
  pg : PySem.W.plainGet K C Str.empty = true
  hd : PySem.W.hasDictIn K C = true
  po : PySem.W.plainOver K C = true
  sa : PySem.W.findIn K (.ref C) "__setattr__" = some (some (.builtin "object.__setattr__"))
theorem Cls.get {K : PySem.W.Frag} {C : Addr} (c : Cls K C) (f : Str) : PySem.W.plainGet K C f = true := c.pg
section
variable {X : Cx} {pins : List (Addr × Obj)} {σ : St} {H : Hp} {s : Shared} {a C dx : Addr} {fs : List (Str × V)} {f : Str} {v : V} {A : Around} {E : Value → Shared → Prop}
end
section
variable {X : Cx} {o e value : Expr} {f : Str} {pos pos' tpos : Pos} {ta tv : TE}
end
section
variable {X : Cx} {pins : List (Addr × Obj)} {σ : St} {H : Hp} {s : Shared} {A : Around} {E : Value → Shared → Prop} {Q : Value → Shared → Prop} {c : Value} {b : Bool}
end
end L2
namespace L2
open PySem PySem.Spec PyProof.Rows
structure Room (k : Nat) (A : Around) : Prop where
  hd : A.handled = none
  dp : A.depth + 3 * k + 5 < recursionLimit
  un : A.units + 16 * k + 200 < cLine
  gd : A.guards = some []
theorem Room.mono {j k : Nat} {A : Around} (r : Room k A) (h : j ≤ k) : Room j A := ⟨r.hd, by have := r.dp; omega, by have := r.un; omega, r.gd⟩
theorem Room.deeper {k : Nat} {A : Around} (r : Room (k + 1) A) (env : Env) : Room k (A.deeper env) :=
  ⟨r.hd, by have := r.dp; show A.depth + 1 + 3 * k + 5 < _; omega, by have := r.un; show A.units + 3 + 16 * k + 200 < _; omega, r.gd⟩
theorem Room.in1 {k : Nat} {A : Around} (r : Room (k + 1) A) : Room k A.in1 :=
  ⟨r.hd, by have := r.dp; show A.depth + 3 * k + 5 < _; omega, by have := r.un; show A.units + 1 + 16 * k + 200 < _; omega, r.gd⟩
theorem Room.depth {k : Nat} {A : Around} (r : Room k A) : A.depth < recursionLimit := by have := r.dp; omega
theorem Room.units {k : Nat} {A : Around} (r : Room k A) : A.units + 64 < cLine := by have := r.un; omega
def tNil : TA := fun _ H Q => Q [] H
def tCons (ta : TE) (tr : TA) : TA := fun σ H Q => ta σ H fun x H1 => tr σ H1 fun xs H2 => Q (x :: xs) H2
section
variable {X : Cx} {e : Expr} {es : List Expr} {te : TE} {t : TA} {pos : Pos}
theorem pa_nil : PA X [] tNil := fun _ _ _ _ H Q I h => Calls.spliced_nil ⟨[], H, I, .nil, h⟩
theorem pa_cons (ha : PE X e te) (hr : PA X es t) (hs : starEach (e :: es) X.env = (false, eval e X.env) :: starEach es X.env := by rfl) : PA X (e :: es) (tCons te t) := by
  intro pos pins s σ H Q I h
  rw [hs]
  show wpAny _ _ (spliced ((false, eval e X.env) :: backTo pos (starEach es X.env))) _ _ s
  refine Calls.spliced_cons (thn (ha pins s σ H _ I h) fun u s1 ⟨x, H1, I1, r1, q1⟩ => ?_)
  exact thn (hr pos pins s1 σ H1 _ I1 q1) fun us s2 ⟨xs, H2, I2, r2, q2⟩ => ⟨x :: xs, H2, I2, .cons r1 r2, q2⟩
def tTup (t : TA) : TE := fun σ H Q => t σ H fun xs H1 => xs.length ≤ sizeLine ∧ ∀ p, H1 p = none → Q (.ref p) (upd H1 p (.tup xs))
def tLst (t : TA) : TE := fun σ H Q => t σ H fun xs H1 => xs.length ≤ sizeLine ∧ ∀ p, H1 p = none → Q (.ref p) (upd H1 p (.lst xs))
theorem pe_tup {x1} (h : PA X es t) : PE X (.Tuple es x1 pos) (tTup t) := by
  intro pins s σ H Q I hq
  refine wpAny_Tuple_spliced (thn (h pos pins s σ H _ I hq) fun us s1 ⟨xs, H1, I1, r, z, q⟩ => ⟨by rw [← r.length]; exact z, ?_⟩)
  have hf : H1 s1.heap.objs.size = none := I1.hok.fresh (Nat.le_refl _)
  refine ⟨.ref s1.heap.objs.size, upd H1 s1.heap.objs.size (.tup xs), I1.laid (t' := s1.toks) (fun b u e => Heap.get?_push_of_some _ e) (Nat.le_refl _) ?_, rfl, q _ hf⟩
  exact ⟨z, us, r, ⟨_, Heap.get?_push_size _ rfl, rfl, _, rfl⟩⟩
theorem pe_lst (h : PA X es t) : PE X (.List es pos) (tLst t) := by
  intro pins s σ H Q I hq
  refine wpAny_List_spliced (thn (h pos pins s σ H _ I hq) fun us s1 ⟨xs, H1, I1, r, z, q⟩ => ⟨by rw [← r.length]; exact z, ?_⟩)
  have hf : H1 s1.heap.objs.size = none := I1.hok.fresh (Nat.le_refl _)
  refine ⟨.ref s1.heap.objs.size, upd H1 s1.heap.objs.size (.lst xs), I1.laid (t' := s1.toks) (fun b u e => Heap.get?_push_of_some _ e) (Nat.le_refl _) ?_, rfl, q _ hf⟩
  exact ⟨z, us, 0, r, Heap.get?_push_size _ rfl⟩
end
abbrev Sp := List V → Hp → VK → XK → Prop
abbrev CXT := List Env → Hp → Shared → XK → Value → Shared → Prop
structure Env0 (P : Program) (w : World) (K : PySem.W.Frag) (mg : Str → Option Value) (base : Heap) (A : Around) (outer : List Env) (s : Shared) (H : Hp) : Prop where
  frames : A.frames = some outer
  mod : Mod K mg base
  bs : ∀ b o, base.get? b = some o → s.heap.get? b = some o ∧ H b = none
  bsz : base.objs.size ≤ s.heap.objs.size
  funs : s.heap.FunFrames base outer
  frf : ∀ b ∈ frs outer, H b = none
  hok : HOk P w H s.heap
  bare : AllBare s.gens
def CE (outer : List Env) (P : Program) (w : World) (H : Hp) (s : Shared) (Q : VK) (u : Value) (s' : Shared) : Prop :=
  ∃ v H', s'.os = s.os ∧ AllBare s'.gens ∧ Un (frs outer) [] H H' s.heap s'.heap ∧ HOk P w H' s'.heap ∧ RelV v u ∧ Q v H'
def CR (CX : CXT) (outer : List Env) (P : Program) (w : World) (H : Hp) (s : Shared) (Q : VK) (E : XK) (r : Result) (s' : Shared) : Prop :=
  match r with
  | .ok (.ret u) => CE outer P w H s Q u s'
  | .ok _ => False
  | .error e => CX outer H s E e s'
structure FnOk (P : Program) (w : World) (K : PySem.W.Frag) (mg : Str → Option Value) (base : Heap) (CX : CXT) (k : Nat) (f : Addr) (fd : FuncData) (ps : List Str) (sp : Sp) : Prop where
  len : ∀ vs H Q E, sp vs H Q E → vs.length = ps.length
  run : ∀ (A : Around) (outer : List Env) (s : Shared) (H : Hp) (args : Args) (us : List Value) (vs : List V) (Q : VK) (E : XK), Room k A → Env0 P w K mg base A outer s H → BindsTo s fd args (ps.zip us) → Vals vs us → sp vs H Q E →
    codeAny (model P w) A (.call (.ref f) args) (CR CX outer P w H s Q E) s
theorem FnOk.mono {P : Program} {w : World} {K : PySem.W.Frag} {mg : Str → Option Value} {base : Heap} {CX : CXT} {j k : Nat} {f : Addr} {fd : FuncData} {ps : List Str} {sp : Sp} (F : FnOk P w K mg base CX j f fd ps sp) (h : j ≤ k) :
    FnOk P w K mg base CX k f fd ps sp := ⟨F.len, fun A outer s H args us vs Q E hr => F.run A outer s H args us vs Q E (hr.mono h)⟩
theorem Env0.in1 {P : Program} {w : World} {K : PySem.W.Frag} {mg : Str → Option Value} {base : Heap} {A : Around} {outer : List Env} {s : Shared} {H : Hp} (e : Env0 P w K mg base A outer s H) :
    Env0 P w K mg base A.in1 outer s H := ⟨e.frames, e.mod, e.bs, e.bsz, e.funs, e.frf, e.hok, e.bare⟩
section
variable {X : Cx} {pins : List (Addr × Obj)} {σ : St} {H : Hp} {s s' : Shared}
theorem Inv.env0 (I : Inv X pins σ H s) : Env0 X.prog X.w X.K X.mg X.base X.A X.stack s H :=
  ⟨I.ok.frames, I.ok.mod, I.bs, Nat.le_trans I.ok.bsz I.sz, I.stack, I.stkFree, I.hok, I.bare⟩
theorem Inv.after {Q : VK} {u : Value} (I : Inv X pins σ H s) (h : CE X.stack X.prog X.w H s Q u s') : EP X pins σ Q u s' := by
  obtain ⟨v, H', os, bare, un, hok, r, q⟩ := h
  obtain ⟨hh, g, d, t, os'⟩ := s'
  obtain rfl : os' = s.os := os
  exact ⟨v, H', I.call (h' := hh) (g' := g) (d' := d) (t' := t) (ch := []) un hok bare (fun b z => absurd z (by simp)), r, q⟩
end
def tCall (sp : Sp) (dvs : List V) (E : XK) (t : TA) : TE := fun σ H Q => t σ H fun vs H1 => sp (vs ++ dvs) H1 Q E
def Binds (K : PySem.W.Frag) (fd : FuncData) (ps : List Str) (ds : List Value) : Prop :=
  ∀ (s : Shared) (us : List Value), K.In s.heap → (us ++ ds).length = ps.length → BindsTo s fd ⟨us, []⟩ (ps.zip (us ++ ds))
theorem Binds.all {K : PySem.W.Frag} {fd : FuncData} {ps : List Str} (h : ∀ us : List Value, us.length = ps.length → bindArgs fd ⟨us, []⟩ = pure (ps.zip us)) : Binds K fd ps [] := fun s us _ hl => by
  rw [List.append_nil] at hl ⊢
  exact .of_eq (h us hl)
def Passes (CX : CXT) (X : Cx) (E : XK) : Prop := ∀ (pins : List (Addr × Obj)) (σ : St) (H : Hp) (s : Shared) (e : Value) (s' : Shared), Inv X pins σ H s → CX X.stack H s E e s' → X.xe e s'
section
variable {X : Cx} {CX : CXT} {k : Nat} {f C : Addr} {fd : FuncData} {ps : List Str} {sp : Sp} {dvs : List V} {ds : List Value} {E : XK} {x m : Str} {p pos apos : Pos} {e o : Expr} {es : List Expr} {ta : TE} {t : TA}
theorem run_fn {pins : List (Addr × Obj)} {σ : St} {H : Hp} {s : Shared} {Q : VK} {us : List Value} {vs : List V} (F : FnOk X.prog X.w X.K X.mg X.base CX k f fd ps sp) (hr : Room k X.A) (hb : Binds X.K fd ps ds) (hd : Vals dvs ds) (hx : Passes CX X E)
    (I : Inv X pins σ H s) (r : Vals vs us) (h : sp (vs ++ dvs) H Q E) : wpAny (model X.prog X.w) X.A (call (.ref f) us) (EP X pins σ Q) X.xe s := by
  have r2 : Vals (vs ++ dvs) (us ++ ds) := r.append hd
  have hl : (us ++ ds).length = ps.length := by rw [← r2.length]; exact F.len _ _ _ _ h
  refine wpAny_call (codeAny_mono (F.run X.A X.stack s H ⟨us, []⟩ (us ++ ds) (vs ++ dvs) Q E hr I.env0 (hb s us I.kIn hl) r2 h) fun r s' hq => ?_)
  cases r with
  | error e => exact hx pins σ H s e s' I hq
  | ok fl =>
    cases fl with
    | ret u => exact I.after hq
    | next => exact False.elim hq
    | brk => exact False.elim hq
    | cont => exact False.elim hq
theorem pe_call (F : FnOk X.prog X.w X.K X.mg X.base CX k f fd ps sp) (hr : Room k X.A) (hg : Gl X x) (hm : X.mg x = some (.ref f)) (hk : PySem.W.keepIn X.K (.ref f) = true) (hb : Binds X.K fd ps ds) (hd : Vals dvs ds) (hx : Passes CX X E)
    (ha : PA X (e :: es) t) (hdb : (x == ("__debug__" : Str)) = false := by decide) (he : starEach (e :: es) X.env = (false, eval e X.env) :: starEach es X.env := by rfl) (hpl : (backTo pos (starEach es X.env)).any (·.1) = false := by rfl) :
    PE X (.Call (.Name x p) (e :: es) [] pos) (tCall sp dvs E t) := by
  intro pins s σ H Q I h
  refine wpAny_Call_Name_kw (ld_glob I hg hm ?_ hdb)
  refine PySem.W.callWith_K (h₀ := X.base) I.ok.mod.kin hk (thn (ha pos pins s σ H _ I h) fun us s1 ⟨vs, H1, I1, r, q⟩ => ⟨I1.kIn, ?_⟩) he hpl
  exact run_fn F hr hb hd hx I1 r q
end
section
variable {X : Cx} {CX : CXT} {k : Nat} {f C : Addr} {fd : FuncData} {ps ks : List Str} {sp : Sp} {E : XK} {x m : Str} {p pos apos kpos : Pos} {e o : Expr} {es : List Expr} {kws : List Keyword} {te ta : TE} {t tk : TA} {nm : Option Str}
variable {g : List Value → List Value → List Value} {gV : List V → List V → List V}
end
structure FnScope (N P : List Str) (sc : Scope) : Prop where
  kind : sc.kind = .function
  co : sc.isCoroutine = false
  gen : sc.isGenerator = false
  nd : N.Nodup
  pre : N.take P.length = P
  par : ∀ x ∈ P, sc.names.lookup x = some .local ∨ sc.names.lookup x = some .cell
  nofree : ∀ y ∈ sc.names, y.2 ≠ .free
theorem bindL_out {kindOf : Str → Option NameKind} {x : Str} : ∀ {binds : List (Str × Value)} {m : Str → Option Value}, (∀ v, (x, v) ∉ binds) → bindL kindOf binds m x = m x
  | [], _, _ => rfl
  | (n, v) :: r, m, h => by
    unfold bindL
    rw [bindL_out fun w hw => h w (List.mem_cons_of_mem _ hw)]
    split
    · have : x ≠ n := by rintro rfl; exact h v List.mem_cons_self
      simp [this]
    · rfl
theorem bindC_out {kindOf : Str → Option NameKind} {x : Str} : ∀ {binds : List (Str × Value)} {m : Str → Option Value}, (∀ v, (x, v) ∉ binds) → bindC kindOf binds m x = m x
  | [], _, _ => rfl
  | (n, v) :: r, m, h => by
    unfold bindC
    rw [bindC_out fun w hw => h w (List.mem_cons_of_mem _ hw)]
    split
    · rfl
    · have : x ≠ n := by rintro rfl; exact h v List.mem_cons_self
      simp [this]
theorem bindL_get {kindOf : Str → Option NameKind} {x : Str} {v : Value} : ∀ {P : List Str} {vs : List Value} {i : Nat} {m : Str → Option Value}, P.Nodup → P[i]? = some x → vs[i]? = some v → kindOf x = some .local →
    bindL kindOf (P.zip vs) m x = some v
  | [], _, _, _, _, h, _, _ => by simp at h
  | _ :: _, [], _, _, _, _, h, _ => by simp at h
  | p :: P, w :: vs, 0, m, nd, h1, h2, hk => by
    simp at h1 h2; subst h1; subst h2
    show bindL kindOf ((p, w) :: P.zip vs) m p = _
    unfold bindL
    rw [bindL_out fun v hv => (List.nodup_cons.mp nd).1 (List.of_mem_zip hv).1, if_pos hk]
    simp
  | p :: P, w :: vs, i + 1, m, nd, h1, h2, hk => by
    show bindL kindOf ((p, w) :: P.zip vs) m x = _
    unfold bindL
    exact bindL_get (i := i) (List.nodup_cons.mp nd).2 (by simpa using h1) (by simpa using h2) hk
theorem bindC_get {kindOf : Str → Option NameKind} {x : Str} {v : Value} : ∀ {P : List Str} {vs : List Value} {i : Nat} {m : Str → Option Value}, P.Nodup → P[i]? = some x → vs[i]? = some v → kindOf x ≠ some .local →
    bindC kindOf (P.zip vs) m x = some v
  | [], _, _, _, _, h, _, _ => by simp at h
  | _ :: _, [], _, _, _, _, h, _ => by simp at h
  | p :: P, w :: vs, 0, m, nd, h1, h2, hk => by
    simp at h1 h2; subst h1; subst h2
    show bindC kindOf ((p, w) :: P.zip vs) m p = _
    unfold bindC
    rw [bindC_out fun v hv => (List.nodup_cons.mp nd).1 (List.of_mem_zip hv).1, if_neg hk]
    simp
  | p :: P, w :: vs, i + 1, m, nd, h1, h2, hk => by
    show bindC kindOf ((p, w) :: P.zip vs) m x = _
    unfold bindC
    exact bindC_get (i := i) (List.nodup_cons.mp nd).2 (by simpa using h1) (by simpa using h2) hk
def start (N : List Str) (vs : List V) : St := vs.map some ++ List.replicate (N.length - vs.length) none
def cxOf (CX : CXT) (P : Program) (w : World) (K : PySem.W.Frag) (mg : Str → Option Value) (base : Heap) (N : List Str) (qual : Str) (scope : Scope) (f : Addr) (cd : Value) (A : Around) (outer : List Env) (s : Shared) (H : Hp) (E : XK) : Cx where
  prog := P
  w := w
  K := K
  mg := mg
  base := base
  A := A.deeper (envOfC qual scope s.heap.objs.size f cd)
  N := N
  s₀ := s
  H₀ := H
  env := envOfC qual scope s.heap.objs.size f cd
  outer := outer
  stack := envOfC qual scope s.heap.objs.size f cd :: outer
  ex := []
  calm := true
  fn := fun _ => true
  pn := []
  xe := fun e s' => wpAny (model P w) (A.deeper (envOfC qual scope s.heap.objs.size f cd)) (leaving (envOfC qual scope s.heap.objs.size f cd) e) (fun _ s'' => CX outer H s E e s'') (fun e' s'' => CX outer H s E e' s'') s'
theorem cell_has {sc : Scope} {n : Nat} {x : Str} (h : sc.names.lookup x = some .cell) : ∃ c, (cellsFrom n sc.names []).lookup x = some c := by
  have q := PySem.W.cellsFrom_some sc.names n [] (.inl h)
  exact Option.isSome_iff_exists.mp q
theorem inv_start {CX : CXT} {P : Program} {w : World} {K : PySem.W.Frag} {mg : Str → Option Value} {base : Heap} {N ps : List Str} {qual : Str} {scope : Scope} {f : Addr} {cd : Value} {A : Around} {outer : List Env} {s s1 : Shared} {H : Hp} {E : XK} {us : List Value} {vs : List V}
    (S : FnScope N ps scope) (hd : A.handled = none) (e0 : Env0 P w K mg base A outer s H) (hl : vs.length = ps.length) (r : Vals vs us)
    (x : InCallC s s.heap.objs.size (bindL (envOfC qual scope s.heap.objs.size f cd).kindOf (ps.zip us) fun _ => none) (cellsFrom (s.heap.objs.size + 1) scope.names []) (bindC (envOfC qual scope s.heap.objs.size f cd).kindOf (ps.zip us) fun _ => none) s1) :
    Inv (cxOf CX P w K mg base N qual scope f cd A outer s H E) [] (start N vs) H s1 := by
  have hpl : ps.length ≤ N.length := by have := congrArg List.length S.pre; rw [List.length_take] at this; omega
  obtain ⟨h1, tk, rfl, hk⟩ := x.done
  have noA : ∀ b : Addr, b ∉ (cxOf CX P w K mg base N qual scope f cd A outer s H E).ex := fun b z => absurd (show b ∈ ([] : List Addr) from z) (by simp)
  refine ⟨⟨e0.mod, S.kind, rfl, rfl, Nat.le_refl _, fun y z c h1 h2 => ?_, fun y hy => ?_, fun y c _ h => ?_, fun _ => hd, Around.frames_deeper e0.frames, .inr ⟨rfl, rfl⟩, fun b z => absurd z (noA b), e0.bs, e0.bsz, fun b _ _ => noA b, fun b z => absurd z (noA b), e0.funs, e0.frf⟩,
    rfl, e0.bare, Un.kept hk, ⟨_, x.toInCall.ns, fun i y v h1 h2 h3 => ?_⟩, fun y c h => ⟨_, x.cell y c h⟩, e0.hok.fresh (Nat.le_refl _), fun y c h => ?_, fun p hp => absurd (show p ∈ ([] : List (Addr × Obj)) from hp) (by simp), e0.hok.kept hk, ?_⟩
  · exact name_of_addr x.apart (PySem.mem_of_lookup h1) (PySem.mem_of_lookup h2)
  · have hy : scope.names.lookup y = some .cell ∨ scope.names.lookup y = some .free := hy
    rcases hy with hy | hy
    · exact cell_has hy
    · exact absurd rfl (S.nofree _ (PySem.mem_of_lookup hy))
  · exact Nat.le_of_lt (x.above y c (PySem.mem_of_lookup h))
  · have hi : i < vs.length := by
      unfold start at h2
      by_cases hi : i < vs.length
      · exact hi
      · rw [List.getElem?_append_right (by simpa using hi)] at h2
        rw [List.getElem?_replicate] at h2
        split at h2 <;> cases h2
    have ha : vs[i]? = some v := by
      unfold start at h2
      rw [List.getElem?_append_left (by simpa using hi), List.getElem?_map] at h2
      cases e : vs[i]? with
      | none => rw [e] at h2; cases h2
      | some a => rw [e] at h2; cases h2; rfl
    obtain ⟨u, hu, rv⟩ := r.get ha
    have hp : ps[i]? = some y := by
      rw [← S.pre, List.getElem?_take_of_lt (by omega)]; exact h1
    have ndP : ps.Nodup := by rw [← S.pre]; exact S.nd.sublist (List.take_sublist _ _)
    refine ⟨u, rv, ?_⟩
    rcases S.par y (List.mem_of_getElem? hp) with k | k
    · exact .inl ⟨k, bindL_get ndP hp hu k⟩
    · obtain ⟨c, e⟩ := cell_has (n := s.heap.objs.size + 1) k
      refine .inr ⟨.inl k, c, e, ?_⟩
      have q := x.cell y c e
      rw [bindC_get ndP hp hu (by show scope.names.lookup y ≠ _; rw [k]; decide)] at q
      exact q
  · exact e0.hok.fresh (Nat.le_of_lt (x.above y c (PySem.mem_of_lookup h)))
  · unfold start
    show _ = N.length
    rw [List.length_append, List.length_map, List.length_replicate]
    omega
theorem fn_of {CX : CXT} {P : Program} {w : World} {K : PySem.W.Frag} {mg : Str → Option Value} {base : Heap} {k : Nat} {f : Addr} {name qual : Str} {params : Arguments} {body : List Stmt} {scope : Scope} {dV kV doc pm cdv ct oc : Value} {an od : Option Addr}
    {osl : Array (Option Value)} {N ps : List Str} {sp : Sp} (lk : K.lookup f = some ⟨oc, od, .func (PySem.W.fnOf name qual params body scope dV kV doc pm an cdv ct), osl⟩) (hcd : PySem.W.codeIn K cdv qual = true) (S : FnScope N ps scope)
    (len : ∀ vs H Q E, sp vs H Q E → vs.length = ps.length)
    (hbody : ∀ (A : Around) (outer : List Env) (s : Shared) (H : Hp) (vs : List V) (Q : VK) (E : XK), Room k (A.deeper (envOfC qual scope s.heap.objs.size f cdv)) → sp vs H Q E →
      ∃ t, PSs (cxOf CX P w K mg base N qual scope f cdv A outer s H E) body t ∧ t { nx := fun _ H' => Q .non H', rt := Q } (start N vs) H) :
    FnOk P w K mg base CX (k + 1) f (PySem.W.fnOf name qual params body scope dV kV doc pm an cdv ct) ps sp := by
  refine ⟨len, fun A outer s H args us vs Q E hr e0 hb r hsp => ?_⟩
  have hl := len _ _ _ _ hsp
  have KX : K.In s.heap := e0.mod.kin.keeps fun b o e => (e0.bs b o e).1
  have lim : s.heap.NoLimit := e0.mod.nolimit.keeps fun b o e => (e0.bs b o e).1
  have hkind : ∀ y ∈ ps.zip us, scope.names.lookup y.1 = some .local ∨ (scope.names.lookup y.1 = some .cell ∧ ((cellsFrom (s.heap.objs.size + 1) scope.names []).lookup y.1).isSome = true) := fun ⟨n, v⟩ hy => by
    rcases S.par n (List.of_mem_zip hy).1 with q | q
    · exact .inl q
    · exact .inr ⟨q, PySem.W.cellsFrom_some _ _ _ (.inl q)⟩
  refine codeAny_call_function hr.depth (KX _ _ lk) rfl S.co S.gen rfl (PySem.W.codeRec_of KX hcd) (hb _ _ _ _ ?_)
  refine wpAny_newFunctionEnv_cells S.kind hkind fun env he s1 x => ?_
  subst he
  refine ⟨lim.keeps x.toInCall.keep, codeAny_func ?_⟩
  obtain ⟨t, ht, hq⟩ := hbody A outer s H vs Q E (hr.deeper _) hsp
  have I : Inv (cxOf CX P w K mg base N qual scope f cdv A outer s H E) [] (start N vs) H s1 := inv_start S hr.hd e0 hl r x
  refine wpAny_mono (ht [] s1 (start N vs) H _ I hq) (fun fl s' hs => ?_) fun e s' hs => hs
  have fin : ∀ {σ' : St} {H' : Hp} {v : V} {u : Value}, Inv (cxOf CX P w K mg base N qual scope f cdv A outer s H E) [] σ' H' s' → RelV v u → Q v H' → CE outer P w H s Q u s' :=
    fun {σ' H' v u} J rv q => ⟨v, H', J.os, J.bare, J.base, J.hok, rv, q⟩
  cases fl with
  | ret u =>
    obtain ⟨v, σ', H', J, rv, q⟩ := hs
    exact fin J rv q
  | next =>
    obtain ⟨σ', H', J, q⟩ := hs
    exact fin (v := V.non) (u := Value.none) J rfl q
  | brk =>
    obtain ⟨_, _, _, q⟩ := hs
    exact False.elim q
  | cont =>
    obtain ⟨_, _, _, q⟩ := hs
    exact False.elim q
end L2
namespace L2
open PySem PySem.Spec PyProof.Rows
section
variable {X : Cx} {x : Str} {p pos : Pos} {e : Expr} {es : List Expr} {t : TA} {id T : String} {r : List V → Hp → VK → Prop}
def tCB (r : List V → Hp → VK → Prop) (t : TA) : TE := fun σ H Q => t σ H fun vs H1 => r vs H1 Q
theorem pe_callB (hc : CallR X (.builtin id) r) (hg : Gl X x) (hm : X.mg x = none) (hv : bootBuiltins x = some (.builtin id)) (ha : PA X (e :: es) t) (hn : x ≠ "__name__" := by decide) (hdb : (x == ("__debug__" : Str)) = false := by decide)
    (he : starEach (e :: es) X.env = (false, eval e X.env) :: starEach es X.env := by rfl) (hpl : (backTo pos (starEach es X.env)).any (·.1) = false := by rfl) : PE X (.Call (.Name x p) (e :: es) [] pos) (tCB r t) := by
  intro pins s σ H Q I h
  refine wpAny_Call_Name_kw (ld_blt I hg hm hv ?_ hn hdb)
  exact PyProof.Rows.callWith_builtin1 (thn (ha pos pins s σ H _ I h) fun us s1 ⟨vs, H1, I1, r1, q1⟩ => hc pins s1 σ H1 vs us Q I1 r1 q1) he hpl
theorem pe_callTy (hc : CallR X (.type T) r) (hg : Gl X x) (hm : X.mg x = none) (hv : bootBuiltins x = some (.type T)) (ha : PA X (e :: es) t) (hn : x ≠ "__name__" := by decide) (hdb : (x == ("__debug__" : Str)) = false := by decide)
    (he : starEach (e :: es) X.env = (false, eval e X.env) :: starEach es X.env := by rfl) (hpl : (backTo pos (starEach es X.env)).any (·.1) = false := by rfl) : PE X (.Call (.Name x p) (e :: es) [] pos) (tCB r t) := by
  intro pins s σ H Q I h
  refine wpAny_Call_Name_kw (ld_blt I hg hm hv ?_ hn hdb)
  exact PyProof.Rows.callWith_type1 (thn (ha pos pins s σ H _ I h) fun us s1 ⟨vs, H1, I1, r1, q1⟩ => hc pins s1 σ H1 vs us Q I1 r1 q1) he hpl
end
end L2
namespace HT
open PySem PyProof.Rows
section
open PySem.SeqAt
open PySem.AutoSeq1 (wpAny_loadPart')
open PySem.MeetsSeq PySem.MeetsSeq2 PySem.MeetsSeq3
end
section
variable {prog : Program} {w : World} {A : Around} {E : Value → Shared → Prop} {s : Shared}
theorem cat_tup {t b : Addr} {vs ws : List Value} {Q : Value → Shared → Prop} (ht : IsTup s.heap t vs.toArray) (hb : IsTup s.heap b ws.toArray) (hv : vs ≠ [])
    (h1 : ws = [] → Q (.ref t) s) (h2 : ws ≠ [] → Q (.ref s.heap.objs.size) { s with heap := s.heap.push { cls := .type "tuple", data := .seq (vs ++ ws).toArray } })
    (hsz : vs.length + ws.length ≤ sizeLine) : wpAny (model prog w) A (binaryOp .Add (.ref t) (.ref b)) Q E s := by
  obtain ⟨⟨cls, dd, data, sl⟩, ho, hc, n, hd⟩ := id ht
  obtain ⟨⟨cls2, dd2, data2, sl2⟩, ho2, hc2, n2, hd2⟩ := id hb
  simp only at hc hd hc2 hd2
  subst hc hd hc2 hd2
  have e : vs.toArray ++ ws.toArray = (vs ++ ws).toArray := by simp
  by_cases hw : ws = []
  · exact concat_meets ⟨_, ho, rfl⟩ ⟨_, ho2, rfl⟩ noFill_tuple_add seq_tuple_add PySem.F.slot_tuple_add PySem.F.entry_tuple_add (PySem.F.args_tuple_add_2 _ _)
      (tuple_addW1 t b vs.toArray ws.toArray n n2 dd dd2 sl sl2 (by simpa using hv) (by simp [hw])) ⟨ho, ho2, h1 hw⟩
  · refine concat_meets ⟨_, ho, rfl⟩ ⟨_, ho2, rfl⟩ noFill_tuple_add seq_tuple_add PySem.F.slot_tuple_add PySem.F.entry_tuple_add (PySem.F.args_tuple_add_2 _ _)
      (tuple_addW2 t b vs.toArray ws.toArray n n2 dd dd2 sl sl2 (by simpa using hv) (by simpa using hw) (by rw [List.size_toArray, List.size_toArray]; exact hsz)) ⟨ho, ho2, ?_⟩
    rw [e]
    exact h2 hw
def sIx (n d : Nat) : Option Int → Nat
  | none => d
  | some v => if v < 0 then (v + (n : Int)).toNat else min v.toNat n
theorem sIx_le (n d : Nat) (hd : d ≤ n) (o : Option Int) : sIx n d o ≤ n := by
  cases o with
  | none => exact hd
  | some v =>
    show (if v < 0 then (v + (n : Int)).toNat else min v.toNat n) ≤ n
    by_cases hv : v < 0
    · rw [if_pos hv]; omega
    · rw [if_neg hv]; exact Nat.min_le_right _ _
theorem clip_eq (v : Int) (n d : Nat) : (if v < 0 then max (v + (n : Int)) 0 else min v (n : Int)) = ((sIx n d (some v) : Nat) : Int) := by
  show (if v < 0 then max (v + (n : Int)) 0 else min v (n : Int)) = (((if v < 0 then (v + (n : Int)).toNat else min v.toNat n) : Nat) : Int)
  by_cases hv : v < 0
  · simp only [if_pos hv]; omega
  · simp only [if_neg hv]; omega
theorem adjust_gen (lo hi : Option Int) (n : Nat) : Builtin.Slice.sliceAdjust lo hi 1 (n : Int) = (((sIx n 0 lo : Nat) : Int), ((sIx n n hi : Nat) : Int)) := by
  have h1 : ¬ ((1 : Int) < 0) := by omega
  unfold Builtin.Slice.sliceAdjust
  simp only [h1, if_false]
  refine Prod.ext ?_ ?_
  · cases lo with
    | none => rfl
    | some v => exact clip_eq v n 0
  · cases hi with
    | none => rfl
    | some v => exact clip_eq v n n
theorem places_gen (i j : Nat) : Builtin.Slice.slicePlaces (i : Int) (j : Int) 1 = j - i := by
  unfold Builtin.Slice.slicePlaces
  have h1 : (1 : Int) > 0 := by omega
  simp only [h1, if_true, Int.ediv_one]
  split <;> omega
theorem slicePart_ {v : Value} {o : Option Int} {Q : Option Int → Shared → Prop} (p : IsPart v o) (h : Q o s) : wpAny (model prog w) A (Builtin.Slice.slicePartIndex v) Q E s := by
  cases p with
  | none => exact slicePart_none h
  | int i t => exact slicePart_int h
theorem sliceApplied_gen {sl : Addr} {vl vu : Value} {lo hi : Option Int} {n : Nat} {Q : Int × Int × Nat → Shared → Prop} (hs : s.heap.IsSliceOf sl vl vu .none) (pl : IsPart vl lo) (pu : IsPart vu hi)
    (h : Q (((sIx n 0 lo : Nat) : Int), 1, sIx n n hi - sIx n 0 lo) s) : wpAny (model prog w) A (Builtin.Slice.sliceApplied (.ref sl) (pure (n : Int))) Q E s := by
  obtain ⟨os, hos, hcs, hds⟩ := id hs
  unfold Builtin.Slice.sliceApplied Builtin.Slice.sliceFields
  refine wpAny_bind (wpAny_bind (wpAny_field hos hds (x := vl) rfl (wpAny_bind (wpAny_field hos hds (x := vu) rfl (wpAny_bind (wpAny_field hos hds (x := .none) rfl (wpAny_pure ?_)))))))
  refine wpAny_bind (slicePart_none ?_)
  show wpAny _ _ (if ((1 : Int) == 0) = true then _ else _) _ _ s
  rw [if_neg (by decide)]
  refine wpAny_bind (slicePart_ pl (wpAny_bind (slicePart_ pu (wpAny_bind (wpAny_pure ?_)))))
  show wpAny _ _ (match Builtin.Slice.sliceAdjust lo hi 1 (n : Int) with | (lo, hi) => pure (lo, (1 : Int), Builtin.Slice.slicePlaces lo hi 1)) _ _ s
  rw [adjust_gen lo hi n]
  show wpAny _ _ (pure (((sIx n 0 lo : Nat) : Int), (1 : Int), Builtin.Slice.slicePlaces ((sIx n 0 lo : Nat) : Int) ((sIx n n hi : Nat) : Int) 1)) _ _ s
  rw [places_gen]
  exact wpAny_pure h
theorem pick_gen (xs : Array Value) (i k : Nat) : ((List.range k).filterMap fun (m : Nat) => xs[((i : Int) + (m : Int) * 1).toNat]?).toArray = ((xs.toList.drop i).take k).toArray := by
  have e : (fun (m : Nat) => xs[((i : Int) + (m : Int) * 1).toNat]?) = fun m => xs[i + m]? := by
    funext m
    have : ((i : Int) + (m : Int) * 1).toNat = i + m := by omega
    rw [this]
  rw [e]
  have := pick_run xs i k
  rw [List.filterMap_map] at this
  have e2 : ((fun x => xs[x]?) ∘ fun x => i + x) = fun m => xs[i + m]? := rfl
  rw [e2] at this
  rw [this]
theorem getItem_tuple_cut {t sl : Addr} {items : Array Value} {vl vu : Value} {lo hi : Option Int} {Q : Value → Shared → Prop} (ht : IsTup s.heap t items) (hs : s.heap.IsSliceOf sl vl vu .none) (pl : IsPart vl lo) (pu : IsPart vu hi)
    (hw : ¬ (sIx items.size 0 lo = 0 ∧ sIx items.size items.size hi = items.size))
    (h : Q (.ref s.heap.objs.size) { s with heap := s.heap.push { cls := .type "tuple", data := .seq ((items.toList.drop (sIx items.size 0 lo)).take (sIx items.size items.size hi - sIx items.size 0 lo)).toArray } })
    (hsz : items.size ≤ sizeLine) : wpAny (model prog w) A (getItem (.ref t) (.ref sl)) Q E s := by
  have htake : sizeOk (.seq ((items.toList.drop (sIx items.size 0 lo)).take (sIx items.size items.size hi - sIx items.size 0 lo)).toArray) := by
    show ((items.toList.drop (sIx items.size 0 lo)).take (sIx items.size items.size hi - sIx items.size 0 lo)).toArray.size ≤ sizeLine
    rw [List.size_toArray, List.length_take, List.length_drop, Array.length_toList]
    omega
  have hj : sIx items.size items.size hi ≤ items.size := sIx_le _ _ (Nat.le_refl _) hi
  obtain ⟨os, hos, hcs, hds⟩ := id hs
  have hTs : s.TypeIs (.ref sl) "slice" := ⟨os, hos, hcs⟩
  unfold getItem
  try with_reducible refine wpAny_holding ?_
  first | refine wpAny_bind (wpAny_pure ?_) | skip
  refine wpAny_bind (wpAny_sequenceKey ht.typeIs (by decide) ?_)
  refine wpAny_bind (wpAny_callSpecial?_slot (name := Str.ofString "__getitem__") ht.typeIs PyProof.Rows.slot_tuple_getitem
    (wpAny_call_entry PyProof.Rows.slot_tuple_getitem ht.typeIs entry_tuple_getitem ?_ (args_tuple_getitem _ _)))
  show wpAny _ _ (Builtin.Tuple.tupleItemsOf (.ref t) >>= _) _ _ s
  refine wpAny_bind (tupleItemsOf_ ht ?_)
  refine wpAny_bind (wpAny_typeOf hTs ?_)
  rw [if_pos (by decide)]
  refine wpAny_bind (sliceApplied_gen hs pl pu ?_)
  have hno : ¬ ((((sIx items.size 0 lo : Nat) : Int) == 0 && (1 : Int) == 1 && (sIx items.size items.size hi - sIx items.size 0 lo) == items.size) = true) := by
    intro q
    rw [Bool.and_eq_true, Bool.and_eq_true] at q
    have q1 : ((sIx items.size 0 lo : Nat) : Int) = 0 := eq_of_beq q.1.1
    have q2 : sIx items.size items.size hi - sIx items.size 0 lo = items.size := eq_of_beq q.2
    exact hw ⟨by omega, by omega⟩
  show wpAny _ _ (if (((sIx items.size 0 lo : Nat) : Int) == 0 && (1 : Int) == 1 && (sIx items.size items.size hi - sIx items.size 0 lo) == items.size) = true then _ else _) _ _ s
  rw [if_neg hno, pick_gen]
  first
    | exact wpAny_bind (m := Builtin.Tuple.tupleExact _) (wpAny_newObj_type (wpAny_pure ⟨_, rfl, wpAny_pure h⟩) htake)
    | exact wpAny_bind (m := Builtin.Tuple.tupleExact _) (wpAny_newObj_type (wpAny_bind (wpAny_pure (wpAny_pure ⟨_, rfl, wpAny_pure h⟩))) htake)
    | exact wpAny_bind (wpAny_bind (m := Builtin.Tuple.tupleExact _) (wpAny_newObj_type (wpAny_pure (wpAny_pure ⟨_, rfl, wpAny_pure h⟩)) htake))
    | exact wpAny_bind (wpAny_bind (m := Builtin.Tuple.tupleExact _) (wpAny_newObj_type (wpAny_pure ⟨_, rfl, wpAny_pure h⟩) htake))
end
end HT
namespace L2
open PySem PySem.Spec PyProof.Rows
abbrev TO := St → Hp → (Option Int → Hp → Prop) → Prop
def PO (X : Cx) (e : Option Expr) (t : TO) : Prop :=
  ∀ (pins : List (Addr × Obj)) (s : Shared) (σ : St) (H : Hp) (Q : Option Int → Hp → Prop), Inv X pins σ H s → t σ H Q →
    wpAny (model X.prog X.w) X.A (evalPart e X.env) (fun u s' => ∃ o H', Inv X pins σ H' s' ∧ IsPart u o ∧ Q o H') X.xe s
def tNoPart : TO := fun _ H Q => Q none H
def tPart (t : TE) : TO := fun σ H Q => t σ H fun x H1 => ∃ i, x = .int i ∧ Q (some i) H1
theorem intsAre_of {ns : List Int} : ∀ {us : List Value}, Vals (ns.map V.int) us → IntsAre us ns := by
  induction ns with
  | nil => intro us r; rw [List.map_nil] at r; cases r; exact .nil
  | cons n ns ih =>
    intro us r
    rw [List.map_cons] at r
    cases r with
    | cons r1 r2 =>
      obtain ⟨t, e⟩ := r1
      subst e
      exact .cons n t (ih r2)
section
variable {X : Cx} {e : Expr} {te : TE} {lo hi : Option Expr} {tl th : TO} {pos p2 : Pos}
theorem po_none : PO X none tNoPart := by
  intro pins s σ H Q I h
  rw [evalPart_none]
  exact wpAny_pure ⟨none, H, I, .none, h⟩
theorem po_some (h : PE X e te) : PO X (some e) (tPart te) := by
  intro pins s σ H Q I hw
  rw [evalPart_some]
  refine thn (h pins s σ H _ I hw) fun u s1 ⟨x, H1, I1, r1, q1⟩ => ?_
  obtain ⟨i, rfl, q⟩ := q1
  obtain ⟨t, rfl⟩ := r1
  exact ⟨some i, H1, I1, .int i t, q⟩
def SlR (X : Cx) (r : V → Option Int → Option Int → Hp → VK → Prop) : Prop :=
  ∀ (pins : List (Addr × Obj)) (s : Shared) (σ : St) (H : Hp) (x : V) (v vl vu : Value) (lo hi : Option Int) (sl : Addr) (Q : VK), Inv X pins σ H s → RelV x v → s.heap.IsSliceOf sl vl vu .none → IsPart vl lo → IsPart vu hi → r x lo hi H Q →
    ∃ T id, typeLookup (.type T) "__getitem__" = pure (some (.builtin id)) ∧ s.TypeIs v T ∧ wpAny (model X.prog X.w) X.A (getItem v (.ref sl)) (EP X pins σ Q) X.xe s
theorem SlR.or {r r' : V → Option Int → Option Int → Hp → VK → Prop} (h : SlR X r) (h' : SlR X r') : SlR X (fun x lo hi H Q => r x lo hi H Q ∨ r' x lo hi H Q) := by
  intro pins s σ H x v vl vu lo hi sl Q I rx hs pl pu q
  rcases q with q | q
  · exact h pins s σ H x v vl vu lo hi sl Q I rx hs pl pu q
  · exact h' pins s σ H x v vl vu lo hi sl Q I rx hs pl pu q
def tSl (r : V → Option Int → Option Int → Hp → VK → Prop) (te : TE) (tl th : TO) : TE := fun σ H Q => te σ H fun x H1 => tl σ H1 fun l H2 => th σ H2 fun u H3 => r x l u H3 Q
theorem pe_slice {r : V → Option Int → Option Int → Hp → VK → Prop} (hr : SlR X r) (he : PE X e te) (hl : PO X lo tl) (hu : PO X hi th) : PE X (.Subscript e (.Slice lo hi none p2) pos) (tSl r te tl th) := by
  intro pins s σ H Q I h
  refine Subscript_ (thn (he pins s σ H _ I h) fun v s1 ⟨x, H1, I1, r1, q1⟩ => ?_)
  refine wpAny_Slice (thn (hl pins s1 σ H1 _ I1 q1) fun vl s2 ⟨l, H2, I2, pl, q2⟩ => thn (hu pins s2 σ H2 _ I2 q2) fun vu s3 ⟨u, H3, I3, pu, q3⟩ => ?_)
  rw [evalPart_none]
  refine wpAny_pure ?_
  have I4 : Inv X pins σ H3 { s3 with heap := s3.heap.push { cls := .type "slice", data := .fields #[vl, vu, .none] } } := I3.kept (t' := s3.toks) fun b ob q => Heap.get?_push_of_some _ q
  obtain ⟨T, id, hT, ht, hg⟩ := hr pins { s3 with heap := s3.heap.push { cls := .type "slice", data := .fields #[vl, vu, .none] } } σ H3 x v vl vu l u s3.heap.objs.size Q I4 r1 (Heap.IsSliceOf.new ..) pl pu q3
  show wpAny (model X.prog X.w) X.A (subscriptTail e (.Slice lo hi none p2) v (.ref s3.heap.objs.size)) (EP X pins σ Q) X.xe { s3 with heap := s3.heap.push { cls := .type "slice", data := .fields #[vl, vu, .none] } }
  exact tail_any (ops := [.ref s3.heap.objs.size, v]) ht hT hg (by with_unfolding_all rfl)
def cutV (xs : List V) (lo hi : Option Int) : List V := (xs.drop (HT.sIx xs.length 0 lo)).take (HT.sIx xs.length xs.length hi - HT.sIx xs.length 0 lo)
theorem cutV_length (xs : List V) (lo hi : Option Int) : (cutV xs lo hi).length ≤ xs.length := by
  unfold cutV
  rw [List.length_take, List.length_drop]
  omega
def rSlT (K : PySem.W.Frag) : V → Option Int → Option Int → Hp → VK → Prop := fun x lo hi H Q => ∃ a xs, x = .ref a ∧ SqT K H a xs ∧
  ¬ (HT.sIx xs.length 0 lo = 0 ∧ HT.sIx xs.length xs.length hi = xs.length) ∧ ∀ p, H p = none → Q (.ref p) (upd H p (.tup (cutV xs lo hi)))
theorem sl_tup : SlR X (rSlT X.K) := by
  intro pins s σ H x v vl vu lo hi sl Q I rx hs pl pu h
  obtain ⟨a, xs, rfl, hx, hw, q⟩ := h
  cases rx
  obtain ⟨its, r, ht, hz⟩ := I.tuple hx
  have hlen : its.toArray.size = xs.length := by rw [List.size_toArray]; exact r.length.symm
  refine ⟨"tuple", _, PyProof.Rows.slot_tuple_getitem.lookup, ht.typeIs, ?_⟩
  refine HT.getItem_tuple_cut ht hs pl pu (by rw [hlen]; exact hw) ?_ (by rw [hlen]; exact hz)
  rw [hlen]
  refine ⟨.ref s.heap.objs.size, _, I.laid (t' := s.toks) (o := .tup (cutV xs lo hi)) (fun b ob q => Heap.get?_push_of_some _ q) (Nat.le_refl _) ?_, rfl, q _ (I.hok.fresh (Nat.le_refl _))⟩
  exact ⟨Nat.le_trans (cutV_length xs lo hi) hz, _, (r.drop (HT.sIx xs.length 0 lo)).take (HT.sIx xs.length xs.length hi - HT.sIx xs.length 0 lo), IsTup.new _ _⟩
def rCatT (K : PySem.W.Frag) : R2 := fun x y H Q => ∃ a b xs ys, x = .ref a ∧ y = .ref b ∧ SqT K H a xs ∧ SqT K H b ys ∧ xs ≠ [] ∧ xs.length + ys.length ≤ sizeLine ∧
  (ys = [] → Q (.ref a) H) ∧ (ys ≠ [] → ∀ p, H p = none → Q (.ref p) (upd H p (.tup (xs ++ ys))))
theorem Vals.nil_iff {xs : List V} {us : List Value} (r : Vals xs us) : us = [] ↔ xs = [] := by
  cases r with
  | nil => simp
  | cons _ _ => simp
theorem op_catT : OpR X (binaryOp .Add) (rCatT X.K) := by
  intro pins s σ H x y v u Q I rx ry h
  obtain ⟨a, b, xs, ys, rfl, rfl, ha, hb, hx, hz, q1, q2⟩ := h
  cases rx
  cases ry
  obtain ⟨its, r1, p1, _⟩ := I.tuple ha
  obtain ⟨its2, r2, p2, _⟩ := I.tuple hb
  refine HT.cat_tup p1 p2 (fun z => hx (r1.nil_iff.mp z)) (fun z => ⟨.ref a, H, I, rfl, q1 (r2.nil_iff.mp z)⟩) (fun z => ?_) (by rw [← r1.length, ← r2.length]; exact hz)
  refine ⟨.ref s.heap.objs.size, _, I.laid (t' := s.toks) (o := .tup (xs ++ ys)) (fun b ob q => Heap.get?_push_of_some _ q) (Nat.le_refl _) ?_, rfl, q2 (fun w => z (r2.nil_iff.mpr w)) _ (I.hok.fresh (Nat.le_refl _))⟩
  exact ⟨by rw [List.length_append]; exact hz, _, r1.append r2, IsTup.new _ _⟩
end
end L2
namespace L2
open PySem PySem.Spec PyProof.Rows
def ixN (n : Nat) (i : Int) : Option Nat := if 0 ≤ i then (if i < n then some i.toNat else none) else if -(n : Int) ≤ i then some (i + n).toNat else none
def atI {α : Type} (xs : List α) (i : Int) : Option α := (ixN xs.length i).bind fun j => xs[j]?
theorem ixN_seq {n : Nat} {i : Int} {j : Nat} (h : ixN n i = some j) : seqIndex? i n = some j ∧ j < n ∧ -(n : Int) ≤ i ∧ i < n := by
  unfold ixN at h
  by_cases h0 : 0 ≤ i
  · rw [if_pos h0] at h
    by_cases h1 : i < n
    · rw [if_pos h1] at h
      have e : i.toNat = j := Option.some.inj h
      exact ⟨by rw [seqIndex_of h0 h1, e], by omega, by omega, h1⟩
    · rw [if_neg h1] at h; cases h
  · rw [if_neg h0] at h
    by_cases h1 : -(n : Int) ≤ i
    · rw [if_pos h1] at h
      have e : (i + n).toNat = j := Option.some.inj h
      exact ⟨by rw [seqIndex_neg (by omega) h1, e], by omega, h1, by omega⟩
    · rw [if_neg h1] at h; cases h
theorem atI_get {α : Type} {xs : List α} {i : Int} {v : α} (h : atI xs i = some v) : ∃ j, seqIndex? i xs.length = some j ∧ xs[j]? = some v ∧ j < xs.length ∧ -(xs.length : Int) ≤ i ∧ i < xs.length := by
  unfold atI at h
  cases e : ixN xs.length i with
  | none => rw [e] at h; cases h
  | some j =>
    rw [e] at h
    obtain ⟨h1, h2, h3, h4⟩ := ixN_seq e
    exact ⟨j, h1, h, h2, h3, h4⟩
def PlainIx (b : Expr) : Prop := ∀ o i, subscripted b false o i = operate [o, i] (getItem o i)
def IxR (X : Cx) (r : R2) : Prop :=
  ∀ (value slice : Expr) (pins : List (Addr × Obj)) (s : Shared) (σ : St) (H : Hp) (x y : V) (v u : Value) (Q : VK), Inv X pins σ H s → RelV x v → RelV y u → r x y H Q →
    subscripted slice false v u = operate [v, u] (getItem v u) → wpAny (model X.prog X.w) X.A (subscriptTail value slice v u) (EP X pins σ Q) X.xe s
def MtR (X : Cx) (id : String) (r : V → List V → Hp → VK → Prop) : Prop :=
  ∀ (pins : List (Addr × Obj)) (s : Shared) (σ : St) (H : Hp) (x : V) (xs : List V) (v : Value) (us : List Value) (Q : VK), Inv X pins σ H s → RelV x v → Vals xs us → r x xs H Q →
    wpAny (model X.prog X.w) X.A (call (.builtin id) (v :: us)) (EP X pins σ Q) X.xe s
section
variable {X : Cx} {a b : Expr} {ta tb : TE} {pos : Pos}
theorem IxR.or {r r' : R2} (h : IxR X r) (h' : IxR X r') : IxR X (fun x y H Q => r x y H Q ∨ r' x y H Q) := by
  intro value slice pins s σ H x y v u Q I rx ry q hs
  rcases q with q | q
  · exact h value slice pins s σ H x y v u Q I rx ry q hs
  · exact h' value slice pins s σ H x y v u Q I rx ry q hs
theorem MtR.or {id : String} {r r' : V → List V → Hp → VK → Prop} (h : MtR X id r) (h' : MtR X id r') : MtR X id (fun x xs H Q => r x xs H Q ∨ r' x xs H Q) := by
  intro pins s σ H x xs v us Q I rx rs q
  rcases q with q | q
  · exact h pins s σ H x xs v us Q I rx rs q
  · exact h' pins s σ H x xs v us Q I rx rs q
theorem pe_ix {r : R2} (hr : IxR X r) (ha : PE X a ta) (hb : PE X b tb) (hs : PlainIx b) : PE X (.Subscript a b pos) (tOp r ta tb) := by
  intro pins s σ H Q I h
  exact Subscript_ (binT ha hb I h fun v u s2 x y H2 I2 rx ry q => hr a b pins s2 σ H2 x y v u Q I2 rx ry q (hs _ _))
def rIxL (K : PySem.W.Frag) : R2 := fun x y H Q => ∃ p xs i v, x = .ref p ∧ y = .int i ∧ SqL K H p xs ∧ atI xs i = some v ∧ Q v H
def rIxT (K : PySem.W.Frag) : R2 := fun x y H Q => ∃ p xs i v, x = .ref p ∧ y = .int i ∧ SqT K H p xs ∧ atI xs i = some v ∧ Q v H
def rIxS : R2 := fun x y H Q => ∃ z i c, x = .str z ∧ y = .int i ∧ z.length ≤ sizeLine ∧ atI z.cps.toList i = some c ∧ Q (.str ⟨#[c]⟩) H
theorem ix_list : IxR X (rIxL X.K) := by
  intro value slice pins s σ H x y v u Q I rx ry h hs
  obtain ⟨p, xs, i, z, rfl, rfl, hq, he, q⟩ := h
  cases rx
  obtain ⟨t, rfl⟩ := ry
  obtain ⟨its, r, pl, hz⟩ := I.list hq
  obtain ⟨j, h1, h2, h3, h4, h5⟩ := atI_get he
  obtain ⟨w, ew, rw'⟩ := r.get h2
  have hl := r.length
  have hn := line63
  have fin : EP X pins σ Q w s := ⟨z, H, I, rw', q⟩
  by_cases h0 : 0 ≤ i
  · have hj : i.toNat = j := by
      rw [seqIndex_of h0 h5] at h1
      exact Option.some.inj h1
    exact item_listR pl.isList h0 (by omega) (by rw [hj]; simpa using ew) fin hs
  · have hj : (i + (its.toArray.size : Int)).toNat = j := by
      rw [seqIndex_neg (by omega) h4] at h1
      rw [List.size_toArray, ← hl]
      exact Option.some.inj h1
    exact subscriptTail_builtinR (x := w) pl.isList.typeIs slot_list_getitem.lookup
      (wpAny_getItem_list_neg (Q := fun r s' => r = w ∧ EP X pins σ Q r s') pl.isList (by omega) (by rw [List.size_toArray] <;> omega) (by omega) (by rw [hj]; simpa using ew) ⟨rfl, fin⟩) hs
theorem ix_tup : IxR X (rIxT X.K) := by
  intro value slice pins s σ H x y v u Q I rx ry h hs
  obtain ⟨p, xs, i, z, rfl, rfl, hq, he, q⟩ := h
  cases rx
  obtain ⟨t, rfl⟩ := ry
  obtain ⟨its, r, pl, hz⟩ := I.tuple hq
  obtain ⟨j, h1, h2, h3, h4, h5⟩ := atI_get he
  obtain ⟨w, ew, rw'⟩ := r.get h2
  have hl := r.length
  have hn := line63
  have fin : EP X pins σ Q w s := ⟨z, H, I, rw', q⟩
  exact subscriptTail_builtinR (x := w) pl.typeIs slot_tuple_getitem.lookup
    (getItem_tuple (j := j) (Q := fun r s' => r = w ∧ EP X pins σ Q r s') pl (by omega) (by omega) (by rw [List.size_toArray, ← hl]; exact h1) (by simpa using ew) ⟨rfl, fin⟩) hs
theorem ix_str : IxR X rIxS := by
  intro value slice pins s σ H x y v u Q I rx ry h hs
  obtain ⟨z, i, c, rfl, rfl, hz, he, q⟩ := h
  obtain ⟨t, rfl⟩ := rx
  obtain ⟨t', rfl⟩ := ry
  obtain ⟨j, h1, h2, h3, h4, h5⟩ := atI_get he
  have hl : z.cps.toList.length = z.length := by simp [Str.length]
  rw [hl] at h1 h4 h5
  have hn := line63
  exact tail_any (typeIs_str s z t) slot_str_getitem.lookup (getItem_str (c := c) (by
    have e1 : decide (i < -(2 ^ 63 : Int)) = false := decide_eq_false (by omega)
    have e2 : decide (i ≥ 2 ^ 63) = false := decide_eq_false (by omega)
    rw [e1, e2, Bool.or_false]) (by rw [h1]; simpa using h2) ⟨.str ⟨#[c]⟩, H, I.tok _, ⟨_, rfl⟩, q⟩) hs
def rIx (K : PySem.W.Frag) : R2 := fun x y H Q => rIxL K x y H Q ∨ rIxT K x y H Q ∨ rIxS x y H Q
theorem ix_seq : IxR X (rIx X.K) := ix_list.or (ix_tup.or ix_str)
theorem mapSeq_set (its : List Value) (n j : Nat) (u : Value) : Obj.mapSeq (·.setIfInBounds j u) { cls := .type "list", data := .seq its.toArray n } = { cls := .type "list", data := .seq (its.set j u).toArray n } := by
  simp [Obj.mapSeq]
theorem Inv.lst {pins : List (Addr × Obj)} {σ : St} {H : Hp} {s : Shared} {p : Addr} {xs : List V} (I : Inv X pins σ H s) (h : H p = some (.lst xs)) :
    ∃ (its : List Value) (n : Nat), Vals xs its ∧ s.heap.get? p = some { cls := .type "list", data := .seq its.toArray n } ∧ xs.length ≤ sizeLine := by
  obtain ⟨z, its, n, r, e⟩ := I.hok p _ h
  exact ⟨its, n, r, e, z⟩
theorem Inv.lstUpd {pins : List (Addr × Obj)} {σ : St} {H : Hp} {s : Shared} {p : Addr} {xs ys : List V} {its its' : List Value} {n n' : Nat} {f : Obj → Obj} (I : Inv X pins σ H s) (h : H p = some (.lst xs))
    (ho : s.heap.get? p = some { cls := .type "list", data := .seq its.toArray n }) (hf : f { cls := .type "list", data := .seq its.toArray n } = { cls := .type "list", data := .seq its'.toArray n' }) (r : Vals ys its') (hz : ys.length ≤ sizeLine) (t : Nat) :
    Inv X pins σ (upd H p (.lst ys)) { s with heap := s.heap.update p f, toks := t } := by
  have e : (s.heap.update p f).get? p = some { cls := .type "list", data := .seq its'.toArray n' } := by
    rw [Heap.get?_update_self f ho (by rw [hf] <;> rfl), hf]
  refine I.write (x := p) (e := p) (by rw [h]; trivial) (.inl rfl) (fun b u hb q => (Heap.get?_update_other _ _ (Ne.symm hb)).trans q) ⟨_, e⟩ ?_
  exact ⟨hz, its', n', r, e⟩
def rSetL : V → V → V → Hp → (Hp → Prop) → Prop := fun o i v H Q => ∃ p xs k j, o = .ref p ∧ i = .int k ∧ H p = some (.lst xs) ∧ ixN xs.length k = some j ∧ Q (upd H p (.lst (xs.set j v)))
theorem set_list : PSet X rSetL := by
  intro pins s σ H o i v ov iv u Q I ro ri rv h
  obtain ⟨p, xs, k, j, rfl, rfl, hp, hj, q⟩ := h
  cases ro
  obtain ⟨t, rfl⟩ := ri
  obtain ⟨its, n, r, ho, hz⟩ := I.lst hp
  obtain ⟨h1, h2, h3, h4⟩ := ixN_seq hj
  have hl := r.length
  have hn := line63
  have I' : Inv X pins σ (upd H p (.lst (xs.set j v))) { s with heap := s.heap.update p (Obj.mapSeq (·.setIfInBounds j u)) } :=
    I.lstUpd hp ho (mapSeq_set its n j u) (r.set rv j) (by rw [List.length_set]; exact hz) s.toks
  by_cases h0 : 0 ≤ k
  · have hk : k.toNat = j := by
      rw [seqIndex_of h0 h4] at h1
      exact Option.some.inj h1
    exact PySem.W.ki_setAt ho h0 (by omega) (by rw [List.size_toArray, ← hl]; exact h4) (by rw [hk]; exact ⟨_, I', q⟩)
  · have hk : (k + (its.toArray.size : Int)).toNat = j := by
      rw [seqIndex_neg (by omega) h3] at h1
      rw [List.size_toArray, ← hl]
      exact Option.some.inj h1
    exact PySem.W.ki_setBack ho (by omega) (by rw [List.size_toArray, ← hl]; exact h3) (by omega) (by rw [hk]; exact ⟨_, I', q⟩)
theorem slice_bounds (lo hi : Option Int) (n : Nat) : (sliceBounds lo hi none n).1 = ((HT.sIx n 0 lo : Nat) : Int) ∧ (sliceBounds lo hi none n).2.1 = ((HT.sIx n n hi : Nat) : Int) ∧ (sliceBounds lo hi none n).2.2 = 1 := by
  refine ⟨?_, ?_, rfl⟩
  · cases lo with
    | none => simp [sliceBounds, HT.sIx]
    | some i =>
      simp only [sliceBounds, HT.sIx, Option.getD_none, show (1 : Int) > 0 by decide, if_true]
      by_cases h : i < 0
      · simp only [h, if_true] <;> omega
      · simp only [h, if_false] <;> omega
  · cases hi with
    | none => simp [sliceBounds, HT.sIx]
    | some i =>
      simp only [sliceBounds, HT.sIx, Option.getD_none, show (1 : Int) > 0 by decide, if_true]
      by_cases h : i < 0
      · simp only [h, if_true] <;> omega
      · simp only [h, if_false] <;> omega
theorem slicePick_cut (its : List Value) (lo hi : Option Int) : slicePick its.toArray lo hi none = ((its.drop (HT.sIx its.length 0 lo)).take (HT.sIx its.length its.length hi - HT.sIx its.length 0 lo)).toArray := by
  obtain ⟨h1, h2, h3⟩ := slice_bounds lo hi its.toArray.size
  unfold slicePick
  rw [h1, h2, h3]
  simp only [sliceRange_one, pick_run, List.size_toArray] <;> rfl
def rSlL (K : PySem.W.Frag) : V → Option Int → Option Int → Hp → VK → Prop := fun x lo hi H Q => ∃ a xs, x = .ref a ∧ SqL K H a xs ∧ ∀ p, H p = none → Q (.ref p) (upd H p (.lst (cutV xs lo hi)))
theorem sl_list : SlR X (rSlL X.K) := by
  intro pins s σ H x v vl vu lo hi sl Q I rx hs pl pu h
  obtain ⟨a, xs, rfl, hx, q⟩ := h
  cases rx
  obtain ⟨its, r, ht, hz⟩ := I.list hx
  have hlen := r.length
  refine ⟨"list", _, slot_list_getitem.lookup, ht.isList.typeIs, ?_⟩
  refine wpAny_getItem_list_slice ht.isList hs pl pu .none (by simp) ?_ (by rw [List.size_toArray] <;> omega)
  rw [slicePick_cut, ← hlen]
  refine ⟨.ref s.heap.objs.size, _, I.laid (t' := s.toks) (o := .lst (cutV xs lo hi)) (fun b ob q => Heap.get?_push_of_some _ q) (Nat.le_refl _) ?_, rfl, q _ (I.hok.fresh (Nat.le_refl _))⟩
  exact ⟨Nat.le_trans (cutV_length xs lo hi) hz, _, 0, (r.drop (HT.sIx xs.length 0 lo)).take (HT.sIx xs.length xs.length hi - HT.sIx xs.length 0 lo), Heap.get?_push_size _ rfl⟩
theorem CallR.or {f : Value} {r r' : List V → Hp → VK → Prop} (h : CallR X f r) (h' : CallR X f r') : CallR X f (fun xs H Q => r xs H Q ∨ r' xs H Q) := by
  intro pins s σ H xs us Q I rs q
  rcases q with q | q
  · exact h pins s σ H xs us Q I rs q
  · exact h' pins s σ H xs us Q I rs q
theorem call_list_of : CallR X (.type "list") (fun xs H Q => ∃ p ys, xs = [.ref p] ∧ (SqL X.K H p ys ∨ SqT X.K H p ys) ∧ ∀ l, H l = none → Q (.ref l) (upd H l (.lst ys))) := by
  intro pins s σ H xs us Q I r h
  obtain ⟨p, ys, rfl, hq, q⟩ := h
  obtain ⟨u, rfl, rx⟩ := vals1 r
  cases rx
  have fin : ∀ (its : List Value), Vals ys its → ys.length ≤ sizeLine → ∀ (h' : Heap) (c' : Nat), (∀ b o', s.heap.get? b = some o' → h'.get? b = some o') →
      h'.get? s.heap.objs.size = some { cls := .type "list", dict := none, data := .seq its.toArray c', slots := #[] } → EP X pins σ Q (.ref s.heap.objs.size) { s with heap := h' } := fun its r' hz h' c' kp e =>
    ⟨.ref s.heap.objs.size, _, I.laid (t' := s.toks) kp (Nat.le_refl _) (show ObjOk X.prog X.w _ h' _ (.lst ys) from ⟨hz, its, c', r', e⟩), rfl, q _ (I.hok.fresh (Nat.le_refl _))⟩
  rcases hq with hq | hq
  · obtain ⟨its, r', pl, hz⟩ := I.list hq
    have hlen := r'.length
    obtain ⟨o, ho, hc, n, hd⟩ := pl.isList
    exact call_list_seq p (.inl rfl) ho hc hd (fun h' c' kp e => fin its r' hz h' c' kp e) (by simp only [List.size_toArray] <;> omega)
  · obtain ⟨its, r', pl, hz⟩ := I.tuple hq
    have hlen := r'.length
    obtain ⟨o, ho, hc, n, hd⟩ := pl
    exact call_list_seq p (.inr rfl) ho hc hd (fun h' c' kp e => fin its r' hz h' c' kp e) (by simp only [List.size_toArray] <;> omega)
theorem call_tuple_of : CallR X (.type "tuple") (fun xs H Q => ∃ p ys, xs = [.ref p] ∧ ((SqL X.K H p ys ∧ ∀ l, H l = none → Q (.ref l) (upd H l (.tup ys))) ∨ (SqT X.K H p ys ∧ Q (.ref p) H))) := by
  intro pins s σ H xs us Q I r h
  obtain ⟨p, ys, rfl, h⟩ := h
  obtain ⟨u, rfl, rx⟩ := vals1 r
  cases rx
  rcases h with ⟨hq, q⟩ | ⟨hq, q⟩
  · obtain ⟨its, r', pl, hz⟩ := I.list hq
    have hlen := r'.length
    refine call_tuple_list pl.isList (fun h' kp => ?_) (by simp only [List.size_toArray] <;> omega)
    have I1 : Inv X pins σ H { s with heap := h' } := I.kept (t' := s.toks) kp
    have I2 : Inv X pins σ (upd H h'.objs.size (.tup ys)) { s with heap := h'.push { cls := .type "tuple", data := .seq its.toArray } } :=
      I1.laid (t' := s.toks) (fun b o e => Heap.get?_push_of_some _ e) (Nat.le_refl _) (show ObjOk X.prog X.w _ _ _ (.tup ys) from ⟨hz, its, r', IsTup.new _ _⟩)
    exact ⟨.ref h'.objs.size, _, I2, rfl, q _ (I1.hok.fresh (Nat.le_refl _))⟩
  · obtain ⟨its, r', pl, hz⟩ := I.tuple hq
    exact call_tuple_same pl ⟨.ref p, H, I, rfl, q⟩
def tyV (K : PySem.W.Frag) (T : String) (x : V) (H : Hp) : Prop := match x with
  | .str _ => T = "str"
  | .int _ => T = "int"
  | .ref p => (T = "list" ∧ ∃ xs, SqL K H p xs) ∨ (T = "tuple" ∧ ∃ o, K.lookup p = some o ∧ o.cls = .type "tuple" ∧ o.dict = none) ∨
      (T = "dict" ∧ ((∃ kvs, H p = some (.dK kvs)) ∨ ∃ kvs, H p = some (.dT kvs))) ∨ (T = "set" ∧ ∃ S n, H p = some (.set S n))
  | _ => False
theorem tyV_is {pins : List (Addr × Obj)} {σ : St} {H : Hp} {s : Shared} {T : String} {x : V} {v : Value} (I : Inv X pins σ H s) (r : RelV x v) (ty : tyV X.K T x H) :
    s.TypeIs v T ∧ ∀ a, v = .ref a → ∃ ob, s.heap.get? a = some ob ∧ ob.dict = none := by
  cases x with
  | str z =>
    obtain ⟨t, rfl⟩ := r
    cases (show T = "str" from ty)
    exact ⟨typeIs_str s z t, fun _ e => nomatch e⟩
  | int i =>
    obtain ⟨t, rfl⟩ := r
    cases (show T = "int" from ty)
    exact ⟨typeIs_int s i t, fun _ e => nomatch e⟩
  | ref p =>
    cases r
    rcases ty with ⟨rfl, xs, hq⟩ | ⟨rfl, o, hk, hc, hd⟩ | ⟨rfl, hk⟩ | ⟨rfl, S, n, hk⟩
    · obtain ⟨its, _, pl, _⟩ := I.list hq
      refine ⟨pl.isList.typeIs, fun a e => ?_⟩
      cases e
      obtain ⟨o, n, e, c, hd, _⟩ := pl
      exact ⟨o, e, hd⟩
    · refine ⟨⟨o, I.kIn p o hk, hc⟩, fun a e => ?_⟩
      cases e
      exact ⟨o, I.kIn _ o hk, hd⟩
    · have z : ∃ o, s.heap.get? p = some o ∧ o.ExactDict := by
        rcases hk with ⟨kvs, hk⟩ | ⟨kvs, hk⟩
        · obtain ⟨_, _, _, _, o, _, _, e, ex, _⟩ := I.hok p _ hk
          exact ⟨o, e, ex⟩
        · obtain ⟨_, _, _, _, o, _, _, e, ex, _⟩ := I.hok p _ hk
          exact ⟨o, e, ex⟩
      obtain ⟨o, e, ex⟩ := z
      refine ⟨⟨o, e, ex.1⟩, fun a e2 => ?_⟩
      cases e2
      exact ⟨o, e, ex.2.1⟩
    · obtain ⟨o, _, _, _, e, ex, _⟩ := I.hok p _ hk
      refine ⟨⟨o, e, ex.1⟩, fun a e2 => ?_⟩
      cases e2
      exact ⟨o, e, ex.2.1⟩
  | _ => exact False.elim ty
def tBM (K : PySem.W.Frag) (T : String) (r : V → List V → Hp → VK → Prop) (to : TE) (t : TA) : TE := fun σ H Q => to σ H fun x H1 => tyV K T x H1 ∧ t σ H1 fun xs H2 => r x xs H2 Q
variable {o e : Expr} {es : List Expr} {to : TE} {t : TA} {name : Str} {apos cpos : Pos} {T id : String} {r : V → List V → Hp → VK → Prop}
theorem pe_bm (pa : PlainAttrs T) (slot : Slot T name id) (hty : typeOf (.builtin id) = pure (.type "method_descriptor")) (hm : MtR X id r) (ho : PE X o to) (ha : PA X (e :: es) t)
    (hbase : attributeBase o name X.env (eval o X.env) = eval o X.env := by rfl)
    (hfew : ((backTo cpos (starEach (e :: es) X.env)).all (fun x => !x.1) && (backToKw cpos (keywordEach [] X.env)).all (fun x => x.1.isSome)
      && decide ((e :: es).length + ([] : List Keyword).length + (if ([] : List Keyword).isEmpty then 0 else 1) < 30)) = true := by rfl)
    (hline : (apos.endLine == cpos.line) = true := by rfl) (hs : starEach (e :: es) X.env = (false, eval e X.env) :: starEach es X.env := by rfl) (hplain : (backTo cpos (starEach es X.env)).any (·.1) = false := by rfl) :
    PE X (.Call (.Attribute o name apos) (e :: es) [] cpos) (tBM X.K T r to t) := by
  intro pins s σ H Q I h
  refine wpAny_Call_method_late hbase hfew hline rfl (thn (ho pins s σ H _ I h) fun v s1 ⟨x, H1, I1, r1, ty, q1⟩ => ?_)
  obtain ⟨h1, h2⟩ := tyV_is I1 r1 ty
  refine ⟨T, id, pa, slot, hty, h1, h2, ?_⟩
  have hA := ha cpos pins s1 σ H1 _ I1 q1
  rw [hs] at hA ⊢
  refine Calls.callWith_builtin (by show (false || (backTo cpos (starEach es X.env)).any (·.1)) = false; rw [hplain] <;> rfl) (Calls.evalArgs_plain ?_)
  exact thn hA fun us s2 ⟨vs, H2, I2, r2, q2⟩ => hm pins s2 σ H2 x vs v us Q I2 r1 r2 q2
end
end L2
namespace L2
open PySem PySem.Spec PyProof.Rows
def MtM (X : Cx) (id : String) (r : V → List V → Hp → VK → Prop) : Prop :=
  ∀ (pins : List (Addr × Obj)) (s : Shared) (σ : St) (H : Hp) (x : V) (xs : List V) (v : Value) (us : List Value) (Q : VK), Inv X pins σ H s → RelV x v → Vals xs us → r x xs H Q →
    wpAny (model X.prog X.w) X.A (call (.builtin id) (v :: us)) (EP X pins σ Q) X.xe s
theorem Vals.one : ∀ {x : V} {us : List Value}, Vals [x] us → ∃ u, us = [u] ∧ RelV x u
  | _, _, .cons r .nil => ⟨_, rfl, r⟩
theorem Vals.zero : ∀ {us : List Value}, Vals [] us → us = []
  | _, .nil => rfl
theorem Vals.reverse {xs : List V} {us : List Value} (h : Vals xs us) : Vals xs.reverse us.reverse := by
  induction h with
  | nil => exact .nil
  | cons r t ih => rw [List.reverse_cons, List.reverse_cons]; exact Vals.append ih (.cons r .nil)
section
variable {X : Cx} {pins : List (Addr × Obj)} {σ : St} {H : Hp} {s : Shared} {l b : Addr} {xs ys zs : List V}
theorem Inv.lset {its its' : List Value} {n : Nat} {f : Array Value → Array Value} {t' : Nat} (I : Inv X pins σ H s) (hH : H l = some (.lst xs))
    (e : s.heap.get? l = some { cls := .type "list", data := .seq its.toArray n }) (hf : f its.toArray = its'.toArray) (hv : Vals ys its') (hz : ys.length ≤ sizeLine) :
    Inv X pins σ (upd H l (.lst ys)) { s with heap := s.heap.update l (Obj.mapSeq f), toks := t' } := by
  have q := PySem.IsL.update e f
  rw [hf] at q
  refine I.write (x := l) (e := l) (by rw [hH]; exact trivial) (.inl rfl) (fun b' u hb hu => (Heap.get?_update_other s.heap (Obj.mapSeq f) (Ne.symm hb)).trans hu) ⟨_, q⟩ ?_
  exact ⟨hz, its', _, hv, q⟩
theorem Inv.lnew {its : List Value} {t' : Nat} (I : Inv X pins σ H s) (hv : Vals ys its) (hz : ys.length ≤ sizeLine) :
    Inv X pins σ (upd H s.heap.objs.size (.lst ys)) { s with heap := s.heap.push { cls := .type "list", data := .seq its.toArray }, toks := t' } :=
  I.laid (fun _ _ q => Heap.get?_push_of_some _ q) (Nat.le_refl _) ⟨hz, its, 0, hv, Heap.get?_push_size _ rfl⟩
theorem Inv.fresh (I : Inv X pins σ H s) : H s.heap.objs.size = none := I.hok.fresh (Nat.le_refl _)
theorem Inv.lstM (I : Inv X pins σ H s) (hH : H l = some (.lst xs)) : xs.length ≤ sizeLine ∧ ∃ (its : List Value) (n : Nat), Vals xs its ∧ xs.length = its.length ∧ s.heap.get? l = some { cls := .type "list", data := .seq its.toArray n } := by
  obtain ⟨z, its, n, r, e⟩ := I.hok l _ hH
  exact ⟨z, its, n, r, r.length, e⟩
theorem notLongL {n : Nat} (h : n ≤ sizeLine) : Builtin.List.listTooLong n = false := by
  unfold Builtin.List.listTooLong
  exact decide_eq_false (by omega)
end
section
variable {X : Cx}
def rAppend : V → List V → Hp → VK → Prop := fun x vs H Q => ∃ l xs y, x = .ref l ∧ vs = [y] ∧ H l = some (.lst xs) ∧ xs.length < sizeLine ∧ Q .non (upd H l (.lst (xs ++ [y])))
theorem mt_append : MtM X "list.append" rAppend := by
  intro pins s σ H x vs v us Q I rx rv h
  obtain ⟨l, xs, y, rfl, rfl, hH, hz, q⟩ := h
  cases rx
  obtain ⟨u, rfl, ru⟩ := rv.one
  obtain ⟨z, its, n, r, hl, e⟩ := I.lstM hH
  refine call_meets F.slot_list_append ⟨_, e, rfl⟩ F.entry_list_append (F.args_list_append_2 _ _) (PySem.list_append l its.toArray n u (by rw [List.size_toArray]; omega)) ⟨e, ?_⟩
  refine ⟨.non, _, I.lset (its' := its ++ [u]) hH e (by simp) (r.append (.cons ru .nil)) ?_, rfl, q⟩
  rw [List.length_append, List.length_singleton]
  omega
def rExtend : V → List V → Hp → VK → Prop := fun x vs H Q => ∃ l b xs zs, x = .ref l ∧ vs = [.ref b] ∧ H l = some (.lst xs) ∧ H b = some (.lst zs) ∧ xs.length + zs.length ≤ sizeLine ∧ Q .non (upd H l (.lst (xs ++ zs)))
theorem mt_extend : MtM X "list.extend" rExtend := by
  intro pins s σ H x vs v us Q I rx rv h
  obtain ⟨l, b, xs, zs, rfl, rfl, hH, hB, hz, q⟩ := h
  cases rx
  obtain ⟨u, rfl, ru⟩ := rv.one
  cases ru
  obtain ⟨z, its, n, r, hl, e⟩ := I.lstM hH
  obtain ⟨z2, its2, n2, r2, hl2, e2⟩ := I.lstM hB
  have hsz : its.toArray.size + its2.toArray.size ≤ sizeLine := by rw [List.size_toArray, List.size_toArray]; omega
  have hlong : ¬ (!its.toArray.isEmpty && Builtin.List.listTooLong (its.toArray.size + its2.toArray.size)) = true := by
    rw [notLongL hsz, Bool.and_false]
    exact Bool.false_ne_true
  refine call_meets F.slot_list_extend ⟨_, e, rfl⟩ F.entry_list_extend (F.args_list_extend_2 _ _)
    (AutoSeq1.list_extend_list_list_0 l its.toArray n b its2.toArray n2 hlong (by rw [List.size_toArray]; omega) (by omega)) ⟨e, e2, ?_⟩
  refine ⟨.non, _, I.lset (its' := its ++ its2) hH e (by simp) (r.append r2) ?_, rfl, q⟩
  rw [List.length_append]
  omega
def rCat : R2 := fun x y H Q => ∃ l b xs zs, x = .ref l ∧ y = .ref b ∧ H l = some (.lst xs) ∧ H b = some (.lst zs) ∧ xs.length + zs.length ≤ sizeLine ∧ ∀ p, H p = none → Q (.ref p) (upd H p (.lst (xs ++ zs)))
theorem op_cat : OpR X (binaryOp .Add) rCat := by
  intro pins s σ H x y v u Q I rx ry h
  obtain ⟨l, b, xs, zs, rfl, rfl, hH, hB, hz, q⟩ := h
  cases rx
  cases ry
  obtain ⟨z, its, n, r, hl, e⟩ := I.lstM hH
  obtain ⟨z2, its2, n2, r2, hl2, e2⟩ := I.lstM hB
  refine PySem.P.add_list e e2 ?_ (by rw [List.size_toArray, List.size_toArray]; omega)
  have ea : its.toArray ++ its2.toArray = (its ++ its2).toArray := by simp
  rw [ea]
  exact ⟨.ref _, _, I.lnew (t' := s.toks) (r.append r2) (by rw [List.length_append]; omega), rfl, q _ I.fresh⟩
end
section
variable {prog : Program} {w : World} {A : Around} {E : Value → Shared → Prop} {s : Shared}
end
section
variable {X : Cx}
end
end L2
namespace Att
open PySem PySem.W PySem.Calls PyProof.Rows
theorem ints_of_wellAll {P : Params} {h : Heap} : ∀ (ns : List Int) (vs : List Value), WellAll P h vs (ns.map WData.int) → IntsAre vs ns := by
  intro ns
  induction ns with
  | nil =>
    intro vs w
    rw [List.map_nil] at w
    cases w
    exact .nil
  | cons n ns ih =>
    intro vs w
    rw [List.map_cons] at w
    cases w with
    | cons a b =>
      cases a
      exact .cons _ _ (ih _ b)
theorem script_of {l : OpenLaw} {n : Nat} (hn : l.most = some n) {P : Params} {h : Heap} {args : List WData} {vals : List Value}
    (hpre : l.row.toRowW.claim.pre args = true) (hwl : WellAll P h vals args) :
    ∃ a vs ns, vals = [Value.ref a] ∧ args = [WData.list (ns.map WData.int)] ∧ h.get? a = some { cls := .type "list", data := .seq vs.toArray } ∧ IntsAre vs ns ∧ ns.length ≤ n := by
  have hsh : WShape.hasAll [] args [.list .int] = true := (pre_splitW hpre).1
  have hc : l.pre.holds [] { args := args } = true := (pre_splitW hpre).2
  obtain ⟨d, r, rfl, h1, h2⟩ := hasAllW_cons hsh
  obtain rfl := hasAllW_nil h2
  obtain ⟨xs, rfl, h3⟩ := hasW_list h1
  obtain ⟨ns, rfl⟩ := items_int h3
  have hlen : ns.length ≤ n := by
    unfold OpenLaw.pre at hc
    have h4 : (WTm.not (.lt (.lit (.int (n : Int))) (.len (.arg 0)))).holds [] { args := [.list (ns.map .int)] } = true := by
      have h4 := (holds_andW hc).1
      rw [hn] at h4
      exact h4
    have h5 := condW_of h4 (w_not (w_lt w_lit (w_len_list (w_arg rfl))))
    rw [List.length_map] at h5
    refine Nat.le_of_not_lt fun q => ?_
    have q' : (n : Int) < ((ns.length : Nat) : Int) := by omega
    first
      | (rw [decide_eq_true q'] at h5; exact absurd h5 (by decide))
      | (simp at h5; omega)
  cases hwl with
  | cons w1 w2 =>
    cases w2
    cases w1 with
    | list ho hall => exact ⟨_, _, ns, rfl, rfl, ho, ints_of_wellAll ns _ hall, hlen⟩
theorem post_true (l : OpenLaw) (args : List WData) : l.row.toRowW.claim.post args (.bool true) args = true :=
  postW_of (r := l.row.toRowW) (X := (true == true))
    (show WShape.has [] (.bool true) .bool = true by first | rfl | decide | simp [WShape.has, WShape.arms, WShape.armsAll])
    (show (WTm.eq .res (.lit (.bool true))).value [] { args := args, res := some (.bool true), after := args } = some (.bool (true == true)) from w_eq_bool (w_res rfl) w_lit) rfl
theorem attach_call {l : OpenLaw} {n : Nat} {q : Program} {loose : List Str} {XP : (Str → Option Value) → Heap → Prop} {YP : World → Heap → Prop} {d : DefRec}
    (hn : l.most = some n) (hdf : d.params.defaults = [])
    (call : ∀ (w : World) (s₀ s₁ : Shared) (mg mb : Str → Option Value) (fa : Addr) (o : Obj) (pm cd doc : Value) (a : Addr) (vs : List Value) (ns : List Int),
      Ground q loose [] XP w s₀ mg mb s₁.heap → YP w s₁.heap →
      s₁.heap.get? fa = some o → o.data = .func (docDef d.name d.params d.body d.scope pm cd doc) → s₁.heap.CodeRec cd d.name → mg d.name = some (.ref fa) →
      s₁.heap.get? a = some { cls := .type "list", data := .seq vs.toArray } → IntsAre vs ns → ns.length ≤ n → s₁.gens = #[] →
      codeAny (model l.prog w) callerA (.call (.ref fa) ⟨[.ref a], []⟩) (fun r s' => r = .ok (.ret (.bool true)) ∧ OldK s₁.heap s'.heap ∧ s'.os = s₁.os ∧ AllBare s'.gens) s₁) :
    WalkO q loose XP YP l.row.toRowW d [] (fun f vs => PySem.call f vs) := by
  intro w s₀ s₁ mg mb G Y fa o pm cd doc dV kV ho hd hcd hD hmg hg args vals as hpre hlay hrd hwl hlo
  obtain rfl : dV = .none := Dflts.none hD hdf
  obtain rfl : kV = .none := Dflts.noKw hD
  obtain ⟨a, vs, ns, rfl, rfl, hobj, hints, hlen⟩ := script_of hn hpre hwl
  refine enter_call (codeAny_mono (call w s₀ s₁ mg mb fa o pm cd doc a vs ns G Y ho (fd_plain hd) hcd hmg hobj hints hlen hg) fun r s' hq => ?_)
  obtain ⟨rfl, h2, h3, h4⟩ := hq
  exact ⟨.inl ⟨.bool true, .bool true, [], rfl, fun _ => rfl, .bool true, post_true l _, fun _ => ⟨List.Pairwise.nil, fun _ hm => (nomatch hm)⟩⟩, h2, h3, h4⟩
section
variable {prog : Program} {w : World} {A : Around} {E : Value → Shared → Prop} {s : Shared} {K : Frag}
end
end Att
namespace L2
open PySem PySem.Spec PyProof.Rows
theorem vals_ints : ∀ {vs : List Value} {ns : List Int}, IntsAre vs ns → Vals (ns.map V.int) vs
  | _, _, .nil => .nil
  | _, _, .cons n t h => .cons ⟨t, rfl⟩ (vals_ints h)
def Only (H : Hp) : Prop := ∀ b, H b = none ∨ ∃ o xs, H b = some (.frz o (.lst xs))
theorem law_call {P : Program} {w : World} {K : PySem.W.Frag} {mg mb : Str → Option Value} {CX : CXT} {k : Nat} {fa a : Addr} {fd : FuncData} {x : Str} {sp : Sp} {s₁ : Shared} {vs : List Value} {ns : List Int}
    (KX : K.In s₁.heap) (hns : s₁.heap.Ns mainGlobals mg) (hb : s₁.heap.Ns builtinsNs mb) (hbb : ∀ x : Str, x ≠ "__name__" → mb x = bootBuiltins x) (hlim : s₁.heap.NoLimit) (hg : s₁.gens = #[])
    (ha : s₁.heap.get? a = some { cls := .type "list", data := .seq vs.toArray }) (hi : IntsAre vs ns) (hl : ns.length ≤ sizeLine) (hr : Room k callerA)
    (F : ∀ base : Heap, K.In base → base.Ns mainGlobals mg → FnOk P w K mg base CX k fa fd [x] sp) (hbind : ∀ (s : Shared) (u : Value), BindsTo s fd ⟨[u], []⟩ [(x, u)])
    (hsp : ∀ H : Hp, Only H → SqL K H a (ns.map V.int) → sp [.ref a] H (fun v _ => v = .bl true) fun _ _ _ => False)
    (hCX : ∀ H e s', CX [] H s₁ (fun _ _ _ => False) e s' → False) :
    codeAny (model P w) callerA (.call (.ref fa) ⟨[.ref a], []⟩) (fun r s' => r = .ok (.ret (.bool true)) ∧ OldK s₁.heap s'.heap ∧ s'.os = s₁.os ∧ AllBare s'.gens) s₁ := by
  have rv := vals_ints hi
  have lenV := hi.length
  -- from an abstract heap in which nothing but the script may be tracked
  have core : ∀ H : Hp, Only H → SqL K H a (ns.map V.int) → HOk P w H s₁.heap → (∀ b, H b ≠ none → b = a) → (H a ≠ none → K.lookup a = none) →
      codeAny (model P w) callerA (.call (.ref fa) ⟨[.ref a], []⟩) (fun r s' => r = .ok (.ret (.bool true)) ∧ OldK s₁.heap s'.heap ∧ s'.os = s₁.os ∧ AllBare s'.gens) s₁ := by
    intro H hO hS hok hA hK
    have base_of : ∀ {b : Addr} {o : Obj}, s₁.heap.get? b = some o → H b = none → (hidT s₁.heap H).get? b = some o := fun e n => hidT_get e n
    have noA : ∀ {b : Addr} {o : Obj} {es : Array DictEntry} {ep : Nat}, s₁.heap.get? b = some o → o.data = .dict es ep → H b = none := fun {b o es ep} e d => by
      cases q : H b with
      | none => rfl
      | some u =>
        have e' : b = a := hA b (by rw [q]; simp)
        subst e'
        rw [ha] at e; cases e
        have d' : Data.seq vs.toArray _ = Data.dict es ep := d
        cases d'
    have nsK : ∀ {b : Addr} {m : Str → Option Value}, s₁.heap.Ns b m → (hidT s₁.heap H).Ns b m := fun {b m} ⟨o, es, ep, e, d, r⟩ => ⟨o, es, ep, base_of e (noA e d), d, r⟩
    have hKb : K.In (hidT s₁.heap H) := fun b o e => base_of (KX b o e) (by
      cases q : H b with
      | none => rfl
      | some u =>
        have e' : b = a := hA b (by rw [q]; simp)
        subst e'
        rw [hK (by rw [q]; simp)] at e; cases e)
    have hM : Mod K mg (hidT s₁.heap H) := ⟨hKb, nsK hns, ⟨mb, nsK hb, hbb⟩, let ⟨mc, h1, h2⟩ := hlim; ⟨mc, nsK h1, h2⟩⟩
    have e0 : Env0 P w K mg (hidT s₁.heap H) callerA [] s₁ H := ⟨rfl, hM, fun b o e => of_hidT e, Nat.le_of_eq (hidT_size _ _), trivial, fun b hb => absurd (show b ∈ ([] : List Addr) from hb) (by simp), hok, .of_eq hg⟩
    refine codeAny_mono ((F _ hKb (nsK hns)).run callerA [] s₁ H ⟨[.ref a], []⟩ [.ref a] [.ref a] _ _ hr e0 (hbind s₁ (.ref a)) (.cons rfl .nil) (hsp H hO hS)) fun r s' h => ?_
    cases r with
    | error e => exact (hCX H e s' h).elim
    | ok fl =>
      cases fl with
      | next => exact False.elim h
      | brk => exact False.elim h
      | cont => exact False.elim h
      | ret u =>
        obtain ⟨v, H', os, bare, un, hok', r', q⟩ := h
        have q' : v = .bl true := q
        subst q'
        obtain rfl : u = Value.bool true := r'
        refine ⟨rfl, OldK.of_keep fun b o e => ?_, os, bare⟩
        cases q : H b with
        | none => exact un.keep b o e q (by intro z; exact absurd (show b ∈ ([] : List Addr) from z) (by simp)) (by simp)
        | some u =>
          rcases hO b with z | ⟨ob, xs, z⟩
          · rw [q] at z; cases z
          · have z2 := un.frzs b ob _ z
            obtain ⟨e1, _⟩ := hok b _ z
            obtain ⟨e2, _⟩ := hok' b _ z2
            rw [e] at e1; cases e1
            exact e2
  cases hk : K.lookup a with
  | some o =>
    -- the script is one of the module's own objects
    have e := KX a o hk
    rw [ha] at e
    cases e
    refine core (fun _ => none) (fun _ => .inl rfl) (.inr ⟨_, vs.toArray, _, hk, rfl, rfl, rfl, by rw [List.size_toArray, lenV]; exact hl, by simpa using rv⟩) (fun b u z => by have z' : (none : Option HO) = some u := z; cases z') (fun b z => absurd rfl z) fun z => absurd rfl z
  | none =>
    refine core (fun b => if b = a then some (.frz { cls := .type "list", data := .seq vs.toArray } (.lst (ns.map V.int))) else none) (fun b => ?_) (.inl (.inr ⟨{ cls := .type "list", data := .seq vs.toArray }, if_pos rfl⟩)) (fun b u z => ?_) (fun b z => ?_) fun _ => hk
    · by_cases hb : b = a
      · exact .inr ⟨_, _, if_pos hb⟩
      · exact .inl (if_neg hb)
    · by_cases hb : b = a
      · have z' := (if_pos hb).symm.trans z
        cases z'
        subst hb
        exact ⟨ha, by rw [List.length_map]; exact hl, vs, _, rv, ha⟩
      · have z' := (if_neg hb).symm.trans z
        cases z'
    · by_cases hb : b = a
      · exact hb
      · exact absurd (if_neg hb) z
end L2
namespace L2
open PySem PySem.Spec PyProof.Rows
theorem walk_of {l : PySem.W.OpenLaw} {n k : Nat} {q : Program} {loose : List Str} {XP : (Str → Option Value) → Heap → Prop} {YP : World → Heap → Prop} {d : DefRec} {K : Params → PySem.W.Frag} {CX : World → CXT} {sp : World → Sp} {x : Str}
    (hn : l.most = some n) (hn2 : n ≤ sizeLine) (hdf : d.params.defaults = []) (hr : Room k callerA)
    (hY : ∀ (w : World) (h : Heap), YP w h → (K w.params).In h)
    (F : ∀ (w : World) (mg : Str → Option Value) (fa : Addr) (h : Heap), (K w.params).In h → h.Ns mainGlobals mg → mg d.name = some (.ref fa) →
      ∃ fd : FuncData, (∀ (s : Shared) (u : Value), BindsTo s fd ⟨[u], []⟩ [(x, u)]) ∧
        ∀ base : Heap, (K w.params).In base → base.Ns mainGlobals mg → FnOk l.prog w (K w.params) mg base (CX w) k fa fd [x] (sp w))
    (hsp : ∀ (w : World) (H : Hp) (a : Addr) (ns : List Int), ns.length ≤ n → Only H → SqL (K w.params) H a (ns.map V.int) → sp w [.ref a] H (fun v _ => v = .bl true) fun _ _ _ => False)
    (hCX : ∀ (w : World) (H : Hp) (s : Shared) (e : Value) (s' : Shared), CX w [] H s (fun _ _ _ => False) e s' → False) :
    PySem.W.WalkO q loose XP YP l.row.toRowW d [] (fun f vs => PySem.call f vs) := by
  refine Att.attach_call hn hdf fun w s₀ s₁ mg mb fa o pm cd doc a vs ns G Y ho hd hcd hmg hobj hints hlen hg => ?_
  have KX := hY w _ Y
  obtain ⟨fd, hb, hF⟩ := F w mg fa _ KX G.T.g hmg
  exact law_call KX G.T.g G.T.b G.T.builtins G.T.nolimit hg hobj hints (Nat.le_trans hlen hn2) hr hF hb (fun H hO hS => hsp w H a ns hlen hO hS) fun H e s' => hCX w H s₁ e s'
end L2
namespace L2
open PySem PySem.Spec PyProof.Rows
def defArgs (s : Stmt) : Arguments := match s with
  | .FunctionDef _ a _ _ _ _ _ _ _ _ => a
  | _ => { posonlyargs := [], args := [], vararg := none, kwonlyargs := [], kw_defaults := [], kwarg := none, defaults := [] }
def defBody (s : Stmt) : List Stmt := match s with
  | .FunctionDef _ _ b _ _ _ _ _ _ _ => b
  | _ => []
def defScope (s : Stmt) : Scope := match s with
  | .FunctionDef _ _ _ _ _ _ sc _ _ _ => sc
  | _ => { kind := .function, names := [], isGenerator := false, isCoroutine := false }
abbrev CX0 : CXT := fun _ _ _ _ _ _ => False
abbrev E0 : XK := fun _ _ _ => False
theorem pass0 {X : Cx} : Passes CX0 X E0 := fun _ _ _ _ _ _ _ h => h.elim
structure Fun (K : PySem.W.Frag) (x qual : Str) (st : Stmt) (f : Addr) (fd : FuncData) : Prop where
  ex : ∃ (oc : Value) (od : Option Addr) (kV doc pm : Value) (an : Option Addr) (cdv ct : Value) (osl : Array (Option Value)),
    fd = PySem.W.fnOf x qual (defArgs st) (defBody st) (defScope st) .none kV doc pm an cdv ct ∧ K.lookup f = some ⟨oc, od, .func fd, osl⟩ ∧ PySem.W.codeIn K cdv qual = true
  kp : PySem.W.keepIn K (.ref f) = true
section
variable {P : Program} {w : World} {K : PySem.W.Frag} {mg : Str → Option Value} {base : Heap}
theorem Fun.ok {x qual : Str} {st : Stmt} {f : Addr} {fd : FuncData} {N ps : List Str} {k : Nat} {sp : Sp} (F : Fun K x qual st f fd) (S : FnScope N ps (defScope st)) (len : ∀ vs H Q E, sp vs H Q E → vs.length = ps.length)
    (hbody : ∀ (cdv : Value) (A : Around) (outer : List Env) (s : Shared) (H : Hp) (vs : List V) (Q : VK) (E : XK), Room k (A.deeper (envOfC qual (defScope st) s.heap.objs.size f cdv)) → sp vs H Q E →
      ∃ t, PSs (cxOf CX0 P w K mg base N qual (defScope st) f cdv A outer s H E).nox (defBody st) t ∧ t { nx := fun _ H' => Q .non H', rt := Q } (start N vs) H) : FnOk P w K mg base CX0 (k + 1) f fd ps sp := by
  obtain ⟨oc, od, kV, doc, pm, an, cdv, ct, osl, rfl, lk, hcd⟩ := F.ex
  refine fn_of lk hcd S len fun A outer s H vs Q E hr hsp => ?_
  obtain ⟨t, h, q⟩ := hbody cdv A outer s H vs Q E hr hsp
  exact ⟨t, h.nox, q⟩
theorem Fun.binds {x qual : Str} {st : Stmt} {f : Addr} {fd : FuncData} {ps : List Str} (F : Fun K x qual st f fd)
    (h : ∀ (kV doc pm : Value) (an : Option Addr) (cdv ct : Value) (us : List Value), us.length = ps.length → bindArgs (PySem.W.fnOf x qual (defArgs st) (defBody st) (defScope st) .none kV doc pm an cdv ct) ⟨us, []⟩ = pure (ps.zip us)) : Binds K fd ps [] := by
  obtain ⟨oc, od, kV, doc, pm, an, cdv, ct, osl, rfl, lk, hcd⟩ := F.ex
  exact .all (h kV doc pm an cdv ct)
theorem fun_mk {x qual : Str} {st : Stmt} {f : Addr} {oc : Value} {od an : Option Addr} {osl : Array (Option Value)} {kV doc pm cdv ct : Value} (l : K.lookup f = some ⟨oc, od, .func (PySem.W.fnOf x qual (defArgs st) (defBody st) (defScope st) .none kV doc pm an cdv ct), osl⟩)
    (c : PySem.W.codeIn K cdv qual = true) (k : PySem.W.keepIn K (.ref f) = true) : Fun K x qual st f (PySem.W.fnOf x qual (defArgs st) (defBody st) (defScope st) .none kV doc pm an cdv ct) := ⟨⟨oc, od, kV, doc, pm, an, cdv, ct, osl, rfl, l, c⟩, k⟩
end
section
variable {X : Cx}
end
theorem iteF {A B : Prop} (h : B) : if false = true then A else B := by
  rw [if_neg Bool.false_ne_true]
  exact h
theorem iteT {A B : Prop} (h : A) : if true = true then A else B := by
  rw [if_pos rfl]
  exact h
def Same (H H' : Hp) : Prop := ∀ b o, H b = some o → H' b = some o
theorem Same.refl (H : Hp) : Same H H := fun _ _ h => h
theorem Same.trans {H H1 H2 : Hp} (a : Same H H1) (b : Same H1 H2) : Same H H2 := fun c o h => b c o (a c o h)
theorem Same.free {H H' : Hp} (e : Same H H') {l : Addr} (h : H' l = Option.none) : H l = Option.none := by
  cases q : H l with
  | none => rfl
  | some o =>
    rw [e l o q] at h
    cases h
theorem Same.seq {K : PySem.W.Frag} {H H' : Hp} {a : Addr} {xs : List V} (e : Same H H') (h : SqL K H a xs) : SqL K H' a xs := by
  rcases h with (h | ⟨o, h⟩) | h
  · exact .inl (.inl (e _ _ h))
  · exact .inl (.inr ⟨o, e _ _ h⟩)
  · exact .inr h
end L2
set_option Elab.async false
set_option linter.all false
set_option maxRecDepth 100000
set_option maxHeartbeats 4000000
namespace L3
open PySem PySem.Spec PyProof.Rows L2
inductive T where
  | non | bl (b : Bool) | int (i : Int) | str (x : Str) | tup (xs : List T) | ref (a : Addr)
inductive O where
  | lst (xs : List T)
  | frz (xs : List T)
abbrev Gp := Addr → Option O
def gu (G : Gp) (a : Addr) (o : O) : Gp := fun b => if b = a then some o else G b
theorem gu_same {G : Gp} {a : Addr} {o : O} : gu G a o a = some o := by unfold gu; rw [if_pos rfl]
theorem gu_ne {G : Gp} {a b : Addr} {o : O} (h : b ≠ a) : gu G a o b = G b := by unfold gu; rw [if_neg h]
mutual
inductive Rp (K : PySem.W.Frag) (H : Hp) : T → V → Prop
  | non : Rp K H .non .non
  | bl (b : Bool) : Rp K H (.bl b) (.bl b)
  | int (i : Int) : Rp K H (.int i) (.int i)
  | str (x : Str) : Rp K H (.str x) (.str x)
  | ref (a : Addr) : Rp K H (.ref a) (.ref a)
  | tup {xs : List T} {a : Addr} {vs : List V} : SqT K H a vs → Rps K H xs vs → Rp K H (.tup xs) (.ref a)
inductive Rps (K : PySem.W.Frag) (H : Hp) : List T → List V → Prop
  | nil : Rps K H [] []
  | cons {x : T} {v : V} {xs : List T} {vs : List V} : Rp K H x v → Rps K H xs vs → Rps K H (x :: xs) (v :: vs)
end
def OR (K : PySem.W.Frag) (H : Hp) (a : Addr) : O → Prop
  | .lst xs => ∃ vs, H a = some (.lst vs) ∧ Rps K H xs vs
  | .frz xs => ∃ vs, (∃ o, H a = some (.frz o (.lst vs))) ∧ Rps K H xs vs
def HR (K : PySem.W.Frag) (G : Gp) (H : Hp) : Prop := ∀ a o, G a = some o → OR K H a o
def Kp (G : Gp) (H : Hp) (G' : Gp) (H' : Hp) : Prop := ∀ a o, H a = some o → G a = none → H' a = some o ∧ G' a = none
theorem Kp.refl {G : Gp} {H : Hp} : Kp G H G H := fun _ _ h g => ⟨h, g⟩
theorem Kp.trans {G G1 G2 : Gp} {H H1 H2 : Hp} (a : Kp G H G1 H1) (b : Kp G1 H1 G2 H2) : Kp G H G2 H2 := fun x o h g =>
  let ⟨h1, g1⟩ := a x o h g; b x o h1 g1
section
variable {K : PySem.W.Frag} {G G' : Gp} {H H' : Hp}
theorem HR.noneT (hr : HR K G H) {a : Addr} {vs : List V} (h : Rd H a (.tup vs)) : G a = none := by
  cases e : G a with
  | none => rfl
  | some o =>
    have q := hr a o e
    cases o with
    | lst xs =>
      obtain ⟨us, q1, _⟩ := q
      rcases h with h | ⟨ob, h⟩ <;> (rw [q1] at h; cases h)
    | frz xs =>
      obtain ⟨us, ⟨o1, q1⟩, _⟩ := q
      rcases h with h | ⟨ob, h⟩ <;> (rw [q1] at h; cases h)
theorem sqT_keep (hr : HR K G H) (k : Kp G H G' H') {a : Addr} {vs : List V} (h : SqT K H a vs) : SqT K H' a vs := by
  rcases h with h | h
  · have g := hr.noneT h
    rcases h with h | ⟨o, h⟩
    · exact .inl (.inl (k a _ h g).1)
    · exact .inl (.inr ⟨o, (k a _ h g).1⟩)
  · exact .inr h
mutual
theorem Rp.keep (hr : HR K G H) (k : Kp G H G' H') : ∀ {x : T} {v : V}, Rp K H x v → Rp K H' x v
  | _, _, .non => .non
  | _, _, .bl b => .bl b
  | _, _, .int i => .int i
  | _, _, .str x => .str x
  | _, _, .ref a => .ref a
  | _, _, .tup h hs => .tup (sqT_keep hr k h) (Rps.keep hr k hs)
theorem Rps.keep (hr : HR K G H) (k : Kp G H G' H') : ∀ {x : List T} {v : List V}, Rps K H x v → Rps K H' x v
  | _, _, .nil => .nil
  | _, _, .cons a b => .cons (Rp.keep hr k a) (Rps.keep hr k b)
end
theorem Rps.length : ∀ {xs : List T} {vs : List V}, Rps K H xs vs → xs.length = vs.length
  | _, _, .nil => rfl
  | _, _, .cons _ b => by simp [Rps.length b]
theorem Rps.get : ∀ {xs : List T} {vs : List V} {i : Nat} {x : T}, Rps K H xs vs → xs[i]? = some x → ∃ v, vs[i]? = some v ∧ Rp K H x v
  | _, _, _, _, .nil, e => by simp at e
  | _, _, 0, _, .cons r _, e => by simp at e; subst e; exact ⟨_, rfl, r⟩
  | _, _, i + 1, x, .cons _ t, e => by
    obtain ⟨u, h1, h2⟩ := Rps.get (i := i) (x := x) t (by simpa using e)
    exact ⟨u, by simpa using h1, h2⟩
theorem Rps.append : ∀ {xs ys : List T} {vs us : List V}, Rps K H xs vs → Rps K H ys us → Rps K H (xs ++ ys) (vs ++ us)
  | _, _, _, _, .nil, s => s
  | _, _, _, _, .cons r t, s => .cons r (Rps.append t s)
theorem Rps.take : ∀ {xs : List T} {vs : List V} (n : Nat), Rps K H xs vs → Rps K H (xs.take n) (vs.take n)
  | _, _, 0, _ => .nil
  | _, _, _ + 1, .nil => .nil
  | _, _, n + 1, .cons r t => .cons r (Rps.take n t)
theorem Rps.drop : ∀ {xs : List T} {vs : List V} (n : Nat), Rps K H xs vs → Rps K H (xs.drop n) (vs.drop n)
  | _, _, 0, r => r
  | _, _, _ + 1, .nil => .nil
  | _, _, n + 1, .cons _ t => Rps.drop n t
theorem Rps.set {x : T} {v : V} (r : Rp K H x v) : ∀ {xs : List T} {vs : List V} (i : Nat), Rps K H xs vs → Rps K H (xs.set i x) (vs.set i v)
  | _, _, _, .nil => .nil
  | _, _, 0, .cons _ t => .cons r t
  | _, _, i + 1, .cons q t => .cons q (Rps.set r i t)
theorem Rps.ints : ∀ (ns : List Int), Rps K H (ns.map T.int) (ns.map V.int)
  | [] => .nil
  | n :: r => .cons (.int n) (Rps.ints r)
theorem Rps.reverse {xs : List T} {vs : List V} (h : Rps K H xs vs) : Rps K H xs.reverse vs.reverse := by
  induction xs generalizing vs with
  | nil => cases h; exact .nil
  | cons x r ih =>
    cases h with
    | cons a b =>
      rw [List.reverse_cons, List.reverse_cons]
      exact (ih b).append (.cons a .nil)
theorem Kp.laid {p : Addr} {ho : HO} (hp : H p = none) : Kp G H G (upd H p ho) := fun a o h g => ⟨by rw [upd_ne (ne_of_none h hp)]; exact h, g⟩
theorem HR.free (hr : HR K G H) {p : Addr} (hp : H p = none) : G p = none := by
  cases e : G p with
  | none => rfl
  | some o =>
    have q := hr p o e
    cases o with
    | lst xs => obtain ⟨us, q1, _⟩ := q; rw [hp] at q1; cases q1
    | frz xs => obtain ⟨us, ⟨o1, q1⟩, _⟩ := q; rw [hp] at q1; cases q1
theorem OR.keep (hr : HR K G H) (k : Kp G H G' H') {a : Addr} {o : O} (h : OR K H a o) (e : ∀ u, H a = some u → H' a = some u) : OR K H' a o := by
  cases o with
  | lst xs => obtain ⟨vs, h1, h2⟩ := h; exact ⟨vs, e _ h1, h2.keep hr k⟩
  | frz xs => obtain ⟨vs, ⟨o, h1⟩, h2⟩ := h; exact ⟨vs, ⟨o, e _ h1⟩, h2.keep hr k⟩
theorem HR.laid (hr : HR K G H) {p : Addr} {ho : HO} (hp : H p = none) : HR K G (upd H p ho) := fun a o e =>
  (hr a o e).keep hr (Kp.laid hp) fun u h => by rw [upd_ne (ne_of_none h hp)]; exact h
theorem Kp.newL {p : Addr} {ho : HO} {o' : O} (hp : H p = none) : Kp G H (gu G p o') (upd H p ho) := fun a o h g =>
  ⟨by rw [upd_ne (ne_of_none h hp)]; exact h, by rw [gu_ne (ne_of_none h hp)]; exact g⟩
theorem HR.newL (hr : HR K G H) {p : Addr} {xs : List T} {vs : List V} (hp : H p = none) (r : Rps K H xs vs) : HR K (gu G p (.lst xs)) (upd H p (.lst vs)) := fun a o e => by
  by_cases ha : a = p
  · subst ha
    rw [gu_same] at e; cases e
    exact ⟨vs, upd_same, r.keep hr (Kp.laid hp)⟩
  · rw [gu_ne ha] at e
    exact (hr a o e).keep hr (Kp.laid hp) fun u h => by rw [upd_ne ha]; exact h
theorem Kp.wr {p : Addr} {ho : HO} {o o' : O} (g : G p = some o) : Kp G H (gu G p o') (upd H p ho) := fun a ob h ga => by
  have ha : a ≠ p := by intro e; subst e; rw [g] at ga; cases ga
  exact ⟨by rw [upd_ne ha]; exact h, by rw [gu_ne ha]; exact ga⟩
theorem HR.wr (hr : HR K G H) {p : Addr} {ys xs : List T} {vs : List V} (g : G p = some (.lst ys)) (r : Rps K H xs vs) : HR K (gu G p (.lst xs)) (upd H p (.lst vs)) := fun a o e => by
  have k : Kp G H (gu G p (.lst xs)) (upd H p (.lst vs)) := Kp.wr g
  by_cases ha : a = p
  · subst ha
    rw [gu_same] at e; cases e
    exact ⟨vs, upd_same, r.keep hr k⟩
  · rw [gu_ne ha] at e
    exact (hr a o e).keep hr k fun u h => by rw [upd_ne ha]; exact h
end
abbrev St3 := List (Option T)
structure Rel (K : PySem.W.Frag) (τ : St3) (G : Gp) (σ : L2.St) (H : Hp) : Prop where
  hp : HR K G H
  len : τ.length = σ.length
  st : ∀ (i : Nat) (t : T), τ[i]? = some (some t) → ∃ v, σ[i]? = some (some v) ∧ Rp K H t v
theorem Rel.next {K : PySem.W.Frag} {τ : St3} {G G' : Gp} {σ : L2.St} {H H' : Hp} (r : Rel K τ G σ H) (hr : HR K G' H') (k : Kp G H G' H') : Rel K τ G' σ H' :=
  ⟨hr, r.len, fun i t e => let ⟨v, h1, h2⟩ := r.st i t e; ⟨v, h1, h2.keep r.hp k⟩⟩
theorem Rel.set {K : PySem.W.Frag} {τ : St3} {G : Gp} {σ : L2.St} {H : Hp} {t : T} {v : V} (r : Rel K τ G σ H) (i : Nat) (h : Rp K H t v) : Rel K (τ.set i (some t)) G (σ.set i (some v)) H := by
  refine ⟨r.hp, by simp [r.len], fun j u e => ?_⟩
  by_cases hij : i = j
  · subst hij
    rw [List.getElem?_set_self'] at e
    have hl : i < τ.length := by
      cases q : τ[i]? with
      | none => rw [q] at e; cases e
      | some z => exact (List.getElem?_eq_some_iff.mp q).1
    rw [List.getElem?_eq_getElem hl] at e
    have e' : t = u := by simpa using e
    subst e'
    exact ⟨v, by rw [List.getElem?_set_self (by rw [← r.len]; exact hl)], h⟩
  · rw [List.getElem?_set_ne hij] at e
    obtain ⟨w, h1, h2⟩ := r.st j u e
    exact ⟨w, by rw [List.getElem?_set_ne hij]; exact h1, h2⟩
abbrev Q3 := T → Gp → Prop
abbrev TE3 := St3 → Gp → Q3 → Prop
abbrev TT3 := St3 → Gp → (Bool → Gp → Prop) → Prop
abbrev TA3 := St3 → Gp → (List T → Gp → Prop) → Prop
def Aft (K : PySem.W.Frag) (G : Gp) (H : Hp) (q : Q3) (Q : VK) : Prop := ∀ x G', q x G' → ∀ v H', Rp K H' x v → HR K G' H' → Kp G H G' H' → Q v H'
def AftB (K : PySem.W.Frag) (G : Gp) (H : Hp) (q : Bool → Gp → Prop) (Q : Bool → Hp → Prop) : Prop := ∀ x G', q x G' → ∀ H', HR K G' H' → Kp G H G' H' → Q x H'
def AftA (K : PySem.W.Frag) (G : Gp) (H : Hp) (q : List T → Gp → Prop) (Q : List V → Hp → Prop) : Prop := ∀ x G', q x G' → ∀ v H', Rps K H' x v → HR K G' H' → Kp G H G' H' → Q v H'
def lE (K : PySem.W.Frag) (t : TE3) : TE := fun σ H Q => ∃ τ G q, Rel K τ G σ H ∧ t τ G q ∧ Aft K G H q Q
def lT (K : PySem.W.Frag) (t : TT3) : TT := fun σ H Q => ∃ τ G q, Rel K τ G σ H ∧ t τ G q ∧ AftB K G H q Q
def lA (K : PySem.W.Frag) (t : TA3) : TA := fun σ H Q => ∃ τ G q, Rel K τ G σ H ∧ t τ G q ∧ AftA K G H q Q
abbrev E3 (X : Cx) (e : Expr) (t : TE3) : Prop := PE X e (lE X.K t)
abbrev C3 (X : Cx) (e : Expr) (t : TT3) : Prop := PT X e (lT X.K t)
abbrev W3 (X : Cx) (e : Expr) (t : TT3) : Prop := PW X e (lT X.K t)
abbrev A3 (X : Cx) (es : List Expr) (t : TA3) : Prop := PA X es (lA X.K t)
theorem Aft.back {K : PySem.W.Frag} {G G1 : Gp} {H H1 : Hp} {q : Q3} {Q : VK} (a : Aft K G H q Q) (k : Kp G H G1 H1) : Aft K G1 H1 q Q := fun x G' h v H' r hr k' => a x G' h v H' r hr (k.trans k')
theorem AftB.back {K : PySem.W.Frag} {G G1 : Gp} {H H1 : Hp} {q : Bool → Gp → Prop} {Q : Bool → Hp → Prop} (a : AftB K G H q Q) (k : Kp G H G1 H1) : AftB K G1 H1 q Q := fun x G' h H' hr k' => a x G' h H' hr (k.trans k')
theorem AftA.back {K : PySem.W.Frag} {G G1 : Gp} {H H1 : Hp} {q : List T → Gp → Prop} {Q : List V → Hp → Prop} (a : AftA K G H q Q) (k : Kp G H G1 H1) : AftA K G1 H1 q Q := fun x G' h v H' r hr k' => a x G' h v H' r hr (k.trans k')
theorem pe_w {X : Cx} {e : Expr} {t t' : TE} (h : PE X e t) (w : ∀ σ H Q, t' σ H Q → t σ H Q) : PE X e t' := fun pins s σ H Q I q => h pins s σ H Q I (w σ H Q q)
theorem pt_w {X : Cx} {e : Expr} {t t' : TT} (h : PT X e t) (w : ∀ σ H Q, t' σ H Q → t σ H Q) : PT X e t' := fun pins s σ H Q I q => h pins s σ H Q I (w σ H Q q)
theorem pw_w {X : Cx} {e : Expr} {t t' : TT} (h : PW X e t) (w : ∀ σ H Q, t' σ H Q → t σ H Q) : PW X e t' := fun wh pins s σ H Q I q => h wh pins s σ H Q I (w σ H Q q)
theorem pa_w {X : Cx} {e : List Expr} {t t' : TA} (h : PA X e t) (w : ∀ σ H Q, t' σ H Q → t σ H Q) : PA X e t' := fun pos pins s σ H Q I q => h pos pins s σ H Q I (w σ H Q q)
theorem lE_seq {K : PySem.W.Frag} {ta : TE3} {τ : St3} {G : Gp} {σ : L2.St} {H : Hp} {q : Q3} {Q : VK} (r : Rel K τ G σ H) (h : ta τ G q)
    (n : ∀ x G1, q x G1 → ∀ v H1, Rp K H1 x v → HR K G1 H1 → Kp G H G1 H1 → Rel K τ G1 σ H1 → Q v H1) : lE K ta σ H Q :=
  ⟨τ, G, q, r, h, fun x G1 hq v H1 rx hr k => n x G1 hq v H1 rx hr k (r.next hr k)⟩
theorem lT_seq {K : PySem.W.Frag} {ta : TT3} {τ : St3} {G : Gp} {σ : L2.St} {H : Hp} {q : Bool → Gp → Prop} {Q : Bool → Hp → Prop} (r : Rel K τ G σ H) (h : ta τ G q)
    (n : ∀ x G1, q x G1 → ∀ H1, HR K G1 H1 → Kp G H G1 H1 → Rel K τ G1 σ H1 → Q x H1) : lT K ta σ H Q :=
  ⟨τ, G, q, r, h, fun x G1 hq H1 hr k => n x G1 hq H1 hr k (r.next hr k)⟩
theorem lA_seq {K : PySem.W.Frag} {ta : TA3} {τ : St3} {G : Gp} {σ : L2.St} {H : Hp} {q : List T → Gp → Prop} {Q : List V → Hp → Prop} (r : Rel K τ G σ H) (h : ta τ G q)
    (n : ∀ x G1, q x G1 → ∀ v H1, Rps K H1 x v → HR K G1 H1 → Kp G H G1 H1 → Rel K τ G1 σ H1 → Q v H1) : lA K ta σ H Q :=
  ⟨τ, G, q, r, h, fun x G1 hq v H1 rx hr k => n x G1 hq v H1 rx hr k (r.next hr k)⟩
section
variable {X : Cx} {a b c : Expr} {ta tb tc : TE3} {pos : Pos}
def v3 (i : Nat) : TE3 := fun τ G q => match τ[i]? with | some (some t) => q t G | _ => False
theorem e_var (i : Nat) {x : Str} {pos : Pos} (hN : X.N[i]? = some x := by rfl) (hv : Vis X.env.scope x := by first | exact Or.inl rfl | exact Or.inr (Or.inl rfl) | exact Or.inr (Or.inr rfl)) (hd : (x == ("__debug__" : Str)) = false := by decide)
    (hcd : (x == ("__classdict__" : Str)) = false := by decide) : E3 X (.Name x pos) (v3 i) := by
  refine pe_w (pe_var (i := i) hN hv hd hcd) fun σ H Q ⟨τ, G, q, r, h, af⟩ => ?_
  unfold v3 at h
  split at h
  · rename_i t e
    obtain ⟨v, e2, rv⟩ := r.st i t e
    exact ⟨v, e2, af t G h v H rv r.hp Kp.refl⟩
  · exact h.elim
def c3 (t : T) : TE3 := fun _ G q => q t G
theorem e_c {t : T} {v : V} {e : Expr} (h : PE X e (tC v)) (hr : ∀ H, Rp X.K H t v) : E3 X e (c3 t) := pe_w h fun σ H Q ⟨τ, G, q, r, h, af⟩ => af t G h v H (hr H) r.hp Kp.refl
theorem e_int {i : Int} {j pos} : E3 X (.Constant (.int i) j pos) (c3 (.int i)) := e_c pe_int fun _ => .int i
theorem e_bl {b : Bool} {j pos} : E3 X (.Constant (.bool b) j pos) (c3 (.bl b)) := e_c pe_bl fun _ => .bl b
theorem e_non {j pos} : E3 X (.Constant .none j pos) (c3 .non) := e_c pe_non fun _ => .non
theorem e_str {x : Str} {j pos} : E3 X (.Constant (.str x) j pos) (c3 (.str x)) := e_c pe_str fun _ => .str x
def n3 : TE3 := fun _ _ _ => False
abbrev R3 := T → T → Gp → Q3 → Prop
def Ref2 (K : PySem.W.Frag) (r3 : R3) (r : R2) : Prop := ∀ x y v u G H q Q, HR K G H → Rp K H x v → Rp K H y u → r3 x y G q → Aft K G H q Q → r v u H Q
def o3 (r : R3) (ta tb : TE3) : TE3 := fun τ G q => ta τ G fun x G1 => tb τ G1 fun y G2 => r x y G2 q
theorem lE_op {K : PySem.W.Frag} {r3 : R3} {r : R2} (hr : Ref2 K r3 r) {σ : L2.St} {H : Hp} {Q : VK} (h : lE K (o3 r3 ta tb) σ H Q) : tOp r (lE K ta) (lE K tb) σ H Q := by
  obtain ⟨τ, G, q, rl, h, af⟩ := h
  refine lE_seq rl h fun x G1 h1 v H1 rx hr1 k1 rl1 => lE_seq rl1 h1 fun y G2 h2 u H2 ry hr2 k2 rl2 => ?_
  exact hr x y v u G2 H2 q Q hr2 (rx.keep hr1 k2) ry h2 (af.back (k1.trans k2))
theorem e_op {op : Operator} {r3 : R3} {r : R2} (ho : OpR X (binaryOp op) r) (hr : Ref2 X.K r3 r) (ha : E3 X a ta) (hb : E3 X b tb) : E3 X (.BinOp a op b pos) (o3 r3 ta tb) :=
  pe_w (pe_op ho ha hb) fun _ _ _ h => lE_op hr h
theorem e_cmp {op : CmpOp} {r3 : R3} {r : R2} (ho : OpR X (compareOp op) r) (hr : Ref2 X.K r3 r) (ha : E3 X a ta) (hb : E3 X b tb) (hm : behindInMarks op b = false) : E3 X (.Compare a [op] [b] pos) (o3 r3 ta tb) :=
  pe_w (pe_cmpR ho ha hb hm) fun _ _ _ h => lE_op hr h
def tb3 (t : TE3) : TT3 := fun τ G q => t τ G fun x G' => match x with | .bl k => q k G' | _ => False
theorem lT_tb {K : PySem.W.Frag} {t : TE3} {t2 : TE} (hw : ∀ σ H Q, lE K t σ H Q → t2 σ H Q) {σ : L2.St} {H : Hp} {Q : Bool → Hp → Prop} (h : lT K (tb3 t) σ H Q) : tTest t2 σ H Q := by
  obtain ⟨τ, G, q, rl, h, af⟩ := h
  refine hw _ _ _ (lE_seq rl h fun x G1 h1 v H1 rx hr1 k1 rl1 => ?_)
  cases x with
  | bl k => cases rx; exact ⟨k, rfl, af k G1 h1 H1 hr1 k1⟩
  | _ => exact h1.elim
theorem t_cmp {op : CmpOp} {r3 : R3} {r : R2} (ho : OpR X (compareOp op) r) (hr : Ref2 X.K r3 r) (ha : E3 X a ta) (hb : E3 X b tb) (hm : behindInMarks op b = false) : C3 X (.Compare a [op] [b] pos) (tb3 (o3 r3 ta tb)) :=
  pt_w (pt_cmpR ho ha hb hm) fun _ _ _ h => lT_tb (fun _ _ _ => lE_op hr) h
def ch3 (r r' : R3) (ta tb tc : TE3) : TE3 := fun τ G q => ta τ G fun x G1 => tb τ G1 fun y G2 => r x y G2 fun z G3 => match z with
  | .bl k => if k = true then tc τ G3 fun w G4 => r' y w G4 q else q (.bl false) G3
  | _ => False
def Ref1 (K : PySem.W.Frag) (r3 : T → Gp → Q3 → Prop) (r : V → Hp → VK → Prop) : Prop := ∀ x v G H q Q, HR K G H → Rp K H x v → r3 x G q → Aft K G H q Q → r v H Q
def u3 (r : T → Gp → Q3 → Prop) (ta : TE3) : TE3 := fun τ G q => ta τ G fun x G1 => r x G1 q
theorem e_un {op : UnaryOp} {r3 : T → Gp → Q3 → Prop} {r : V → Hp → VK → Prop} (ho : UnR X (unaryOp op) r) (hr : Ref1 X.K r3 r) (ha : E3 X a ta) : E3 X (.UnaryOp op a pos) (u3 r3 ta) :=
  pe_w (pe_un ho ha) fun _ _ _ ⟨τ, G, q, rl, h, af⟩ => lE_seq rl h fun x G1 h1 v H1 rx hr1 k1 rl1 => hr x v G1 H1 q _ hr1 rx h1 (af.back k1)
def neg3 : T → Gp → Q3 → Prop := fun x G q => match x with | .int i => q (.int (-i)) G | _ => False
theorem ref_neg {K : PySem.W.Frag} : Ref1 K neg3 (rU fun i => .int (-i)) := fun x v G H q Q hr rx h af => by
  cases x with
  | int i => cases rx; exact ⟨i, rfl, af _ G h _ H (.int _) hr Kp.refl⟩
  | _ => exact h.elim
def iI (f : Int → Int → Int) : R3 := fun x y G q => match x, y with | .int i, .int j => q (.int (f i j)) G | _, _ => False
def iC (C : Int → Int → Prop) (f : Int → Int → Int) : R3 := fun x y G q => match x, y with | .int i, .int j => C i j ∧ q (.int (f i j)) G | _, _ => False
def iB (f : Int → Int → Bool) : R3 := fun x y G q => match x, y with | .int i, .int j => q (.bl (f i j)) G | _, _ => False
theorem ref_iI {K : PySem.W.Frag} {f : Int → Int → Int} : Ref2 K (iI f) (rI0 fun i j => .int (f i j)) := fun x y v u G H q Q hr rx ry h af => by
  cases x <;> try exact h.elim
  cases y <;> try exact h.elim
  cases rx; cases ry
  exact ⟨_, _, rfl, rfl, af _ G h _ H (.int _) hr Kp.refl⟩
theorem ref_iC {K : PySem.W.Frag} {C : Int → Int → Prop} {f : Int → Int → Int} : Ref2 K (iC C f) (rI C fun i j => .int (f i j)) := fun x y v u G H q Q hr rx ry h af => by
  cases x <;> try exact h.elim
  cases y <;> try exact h.elim
  cases rx; cases ry
  exact ⟨_, _, rfl, rfl, h.1, af _ G h.2 _ H (.int _) hr Kp.refl⟩
theorem ref_iB {K : PySem.W.Frag} {f : Int → Int → Bool} : Ref2 K (iB f) (rI0 fun i j => .bl (f i j)) := fun x y v u G H q Q hr rx ry h af => by
  cases x <;> try exact h.elim
  cases y <;> try exact h.elim
  cases rx; cases ry
  exact ⟨_, _, rfl, rfl, af _ G h _ H (.bl _) hr Kp.refl⟩
theorem e_sub (ha : E3 X a ta) (hb : E3 X b tb) : E3 X (.BinOp a .Sub b pos) (o3 (iI (· - ·)) ta tb) := e_op op_sub ref_iI ha hb
theorem e_mul (ha : E3 X a ta) (hb : E3 X b tb) : E3 X (.BinOp a .Mult b pos) (o3 (iC CMul (· * ·)) ta tb) := e_op op_mul ref_iC ha hb
theorem e_mod (ha : E3 X a ta) (hb : E3 X b tb) : E3 X (.BinOp a .Mod b pos) (o3 (iC (fun _ j => 0 < j) (· % ·)) ta tb) := e_op op_mod ref_iC ha hb
theorem e_div (ha : E3 X a ta) (hb : E3 X b tb) : E3 X (.BinOp a .FloorDiv b pos) (o3 (iC CDiv (· / ·)) ta tb) := e_op op_fdiv ref_iC ha hb
theorem e_pow (ha : E3 X a ta) (hb : E3 X b tb) : E3 X (.BinOp a .Pow b pos) (o3 (iC CPow (fun i j => i ^ j.toNat)) ta tb) := e_op op_pow ref_iC ha hb
theorem e_neg (ha : E3 X a ta) : E3 X (.UnaryOp .USub a pos) (u3 neg3 ta) := e_un un_neg ref_neg ha
def scalT : T → T → Option Bool
  | .non, .non => some true | .non, .int _ => some false | .int _, .non => some false | .non, .bl _ => some false | .bl _, .non => some false | .non, .str _ => some false | .str _, .non => some false
  | .int i, .int j => some (decide (i = j)) | .bl i, .bl j => some (decide (i = j)) | .str i, .str j => some (decide (i = j))
  | .int _, .str _ => some false | .str _, .int _ => some false | .bl _, .str _ => some false | .str _, .bl _ => some false
  | _, _ => none
theorem scalT_ok {K : PySem.W.Frag} {H : Hp} {x y : T} {v u : V} {k : Bool} (rx : Rp K H x v) (ry : Rp K H y u) (h : scalT x y = some k) : scal v u = true ∧ decide (v = u) = k := by
  cases rx <;> cases ry <;> simp [scalT] at h <;> subst h <;> simp [scal]
def isN3 (neg : Bool) : R3 := fun x y G q => match y with | .non => q (.bl (match x with | .non => !neg | _ => neg)) G | _ => False
theorem rp_non {K : PySem.W.Frag} {H : Hp} {x : T} {v : V} (rx : Rp K H x v) : decide (v = .non) = (match x with | .non => true | _ => false) := by
  cases rx <;> simp
theorem ref_isN {K : PySem.W.Frag} : Ref2 K (isN3 false) (fun x y H Q => y = .non ∧ Q (.bl (decide (x = .non))) H) := fun x y v u G H q Q hr rx ry h af => by
  cases y <;> try exact h.elim
  cases ry
  refine ⟨rfl, ?_⟩
  rw [rp_non rx]
  refine af _ G h _ H ?_ hr Kp.refl
  cases x <;> exact .bl _
theorem ref_notN {K : PySem.W.Frag} : Ref2 K (isN3 true) (fun x y H Q => y = .non ∧ Q (.bl (!decide (x = .non))) H) := fun x y v u G H q Q hr rx ry h af => by
  cases y <;> try exact h.elim
  cases ry
  refine ⟨rfl, ?_⟩
  rw [rp_non rx]
  refine af _ G h _ H ?_ hr Kp.refl
  cases x <;> exact .bl _
variable {tA tB : TT3} {rest : List Expr}
def and3 (t u : TT3) : TT3 := fun τ G q => t τ G fun k G1 => if k = true then u τ G1 q else q false G1
def or3 (t u : TT3) : TT3 := fun τ G q => t τ G fun k G1 => if k = true then q true G1 else u τ G1 q
def not3 (t : TT3) : TT3 := fun τ G q => t τ G fun k G1 => q (!k) G1
theorem t_or1 (ha : C3 X a tA) : W3 X (.BoolOp .Or [a] pos) tA := pw_or1 ha
theorem t_or (ha : C3 X a tA) (hb : W3 X (.BoolOp .Or (b :: rest) pos) tB) : W3 X (.BoolOp .Or (a :: b :: rest) pos) (or3 tA tB) :=
  pw_w (pw_or ha hb) fun _ _ _ ⟨τ, G, q, rl, h, af⟩ => lT_seq rl h fun k G1 h1 H1 hr1 k1 rl1 => by
    cases k with
    | true => rw [if_pos rfl] at h1 ⊢; exact af _ G1 h1 H1 hr1 k1
    | false => rw [if_neg Bool.false_ne_true] at h1 ⊢; exact ⟨τ, G1, q, rl1, h1, af.back k1⟩
theorem t_not (ha : C3 X a tA) : C3 X (.UnaryOp .Not a pos) (not3 tA) :=
  pt_w (pt_not ha) fun _ _ _ ⟨τ, G, q, rl, h, af⟩ => lT_seq rl h fun k G1 h1 H1 hr1 k1 rl1 => af _ G1 h1 H1 hr1 k1
theorem t_val {e : Expr} {t : TE3} (h : E3 X e t) (he : ∀ whole, isTrue e X.env whole = (do let v ← whole; standAt e.pos; holding [v] (truthy v)) := by intro _; rfl) : C3 X e (tb3 t) :=
  pt_w (pt_val h he) fun _ _ _ h => lT_tb (fun _ _ _ h => h) h
def andV3 (ta tb : TE3) : TE3 := fun τ G q => ta τ G fun x G1 => match x with | .bl k => if k = true then tb τ G1 q else q (.bl false) G1 | _ => False
def orV3 (ta tb : TE3) : TE3 := fun τ G q => ta τ G fun x G1 => match x with | .bl k => if k = true then q (.bl true) G1 else tb τ G1 q | _ => False
def notV3 (ta : TE3) : TE3 := fun τ G q => ta τ G fun x G1 => match x with | .bl k => q (.bl (!k)) G1 | _ => False
theorem e_one {op} (h : E3 X a ta) : E3 X (.BoolOp op [a] pos) ta := pe_one h
theorem e_and (ha : E3 X a ta) (hb : E3 X (.BoolOp .And (b :: rest) pos) tb) : E3 X (.BoolOp .And (a :: b :: rest) pos) (andV3 ta tb) :=
  pe_w (pe_and ha hb) fun _ _ _ ⟨τ, G, q, rl, h, af⟩ => lE_seq rl h fun x G1 h1 v H1 rx hr1 k1 rl1 => by
    cases x with
    | bl k =>
      cases rx
      refine ⟨k, rfl, ?_⟩
      cases k with
      | true => rw [if_pos rfl]; exact ⟨τ, G1, q, rl1, (show tb τ G1 q from by simpa using h1), af.back k1⟩
      | false => rw [if_neg Bool.false_ne_true]; exact af _ G1 (by simpa using h1) _ H1 (.bl false) hr1 k1
    | _ => exact h1.elim
theorem e_not (ha : E3 X a ta) : E3 X (.UnaryOp .Not a pos) (notV3 ta) :=
  pe_w (pe_not ha) fun _ _ _ ⟨τ, G, q, rl, h, af⟩ => lE_seq rl h fun x G1 h1 v H1 rx hr1 k1 rl1 => by
    cases x with
    | bl k => cases rx; exact ⟨k, rfl, af _ G1 h1 _ H1 (.bl _) hr1 k1⟩
    | _ => exact h1.elim
def if3 (t : TT3) (ta tb : TE3) : TE3 := fun τ G q => t τ G fun k G1 => if k = true then ta τ G1 q else tb τ G1 q
theorem e_if {c : Expr} (hc : C3 X c tA) (ha : E3 X a ta) (hb : E3 X b tb) : E3 X (.IfExp c a b pos) (if3 tA ta tb) :=
  pe_w (pe_ifExp hc ha hb) fun _ _ _ ⟨τ, G, q, rl, h, af⟩ => lT_seq rl h fun k G1 h1 H1 hr1 k1 rl1 => by
    cases k with
    | true => rw [if_pos rfl] at h1 ⊢; exact ⟨τ, G1, q, rl1, h1, af.back k1⟩
    | false => rw [if_neg Bool.false_ne_true] at h1 ⊢; exact ⟨τ, G1, q, rl1, h1, af.back k1⟩
variable {e : Expr} {es : List Expr} {te : TE3} {t : TA3}
def nil3 : TA3 := fun _ G q => q [] G
def cons3 (ta : TE3) (tr : TA3) : TA3 := fun τ G q => ta τ G fun x G1 => tr τ G1 fun xs G2 => q (x :: xs) G2
theorem a_nil : A3 X [] nil3 := pa_w pa_nil fun _ H _ ⟨τ, G, q, rl, h, af⟩ => af _ G h _ H .nil rl.hp Kp.refl
theorem a_cons (ha : E3 X e te) (hr : A3 X es t) (hs : starEach (e :: es) X.env = (false, eval e X.env) :: starEach es X.env := by rfl) : A3 X (e :: es) (cons3 te t) :=
  pa_w (pa_cons ha hr hs) fun _ _ _ ⟨τ, G, q, rl, h, af⟩ => lE_seq rl h fun x G1 h1 v H1 rx hr1 k1 rl1 => lA_seq rl1 h1 fun xs G2 h2 vs H2 rs hr2 k2 rl2 =>
    af _ G2 h2 _ H2 (.cons (rx.keep hr1 k2) rs) hr2 (k1.trans k2)
def tup3 (t : TA3) : TE3 := fun τ G q => t τ G fun xs G1 => xs.length ≤ sizeLine ∧ q (.tup xs) G1
def lst3 (t : TA3) : TE3 := fun τ G q => t τ G fun xs G1 => xs.length ≤ sizeLine ∧ ∀ p, G1 p = none → q (.ref p) (gu G1 p (.lst xs))
theorem e_tup {x1} (h : A3 X es t) : E3 X (.Tuple es x1 pos) (tup3 t) :=
  pe_w (pe_tup h) fun _ _ _ ⟨τ, G, q, rl, h, af⟩ => lA_seq rl h fun xs G1 h1 vs H1 rs hr1 k1 rl1 => ⟨by rw [← rs.length]; exact h1.1, fun p hp =>
    af _ G1 h1.2 _ _ (.tup (SqT.of upd_same) (rs.keep hr1 (Kp.laid hp))) (hr1.laid hp) (k1.trans (Kp.laid hp))⟩
theorem e_lst (h : A3 X es t) : E3 X (.List es pos) (lst3 t) :=
  pe_w (pe_lst h) fun _ _ _ ⟨τ, G, q, rl, h, af⟩ => lA_seq rl h fun xs G1 h1 vs H1 rs hr1 k1 rl1 => ⟨by rw [← rs.length]; exact h1.1, fun p hp =>
    af _ _ (h1.2 p (hr1.free hp)) _ _ (.ref p) (hr1.newL hp rs) (k1.trans (Kp.newL hp))⟩
def RefC (K : PySem.W.Frag) (r3 : List T → Gp → Q3 → Prop) (r : List V → Hp → VK → Prop) : Prop := ∀ xs vs G H q Q, HR K G H → Rps K H xs vs → r3 xs G q → Aft K G H q Q → r vs H Q
def cb3 (r : List T → Gp → Q3 → Prop) (t : TA3) : TE3 := fun τ G q => t τ G fun xs G1 => r xs G1 q
theorem lA_cb {K : PySem.W.Frag} {r3 : List T → Gp → Q3 → Prop} {r : List V → Hp → VK → Prop} (hr : RefC K r3 r) {σ : L2.St} {H : Hp} {Q : VK} (h : lE K (cb3 r3 t) σ H Q) : tCB r (lA K t) σ H Q := by
  obtain ⟨τ, G, q, rl, h, af⟩ := h
  exact lA_seq rl h fun xs G1 h1 vs H1 rs hr1 k1 rl1 => hr xs vs G1 H1 q Q hr1 rs h1 (af.back k1)
theorem e_callB {x : Str} {p : Pos} {id : String} {r3 : List T → Gp → Q3 → Prop} {r : List V → Hp → VK → Prop} (hc : CallR X (.builtin id) r) (hr : RefC X.K r3 r) (hg : Gl X x) (hm : X.mg x = none) (hv : bootBuiltins x = some (.builtin id)) (ha : A3 X (e :: es) t) (hn : x ≠ "__name__" := by decide) (hdb : (x == ("__debug__" : Str)) = false := by decide)
    (he : starEach (e :: es) X.env = (false, eval e X.env) :: starEach es X.env := by rfl) (hpl : (backTo pos (starEach es X.env)).any (·.1) = false := by rfl) : E3 X (.Call (.Name x p) (e :: es) [] pos) (cb3 r3 t) :=
  pe_w (pe_callB hc hg hm hv ha hn hdb he hpl) fun _ _ _ h => lA_cb hr h
theorem e_callTy {x : Str} {p : Pos} {ty : String} {r3 : List T → Gp → Q3 → Prop} {r : List V → Hp → VK → Prop} (hc : CallR X (.type ty) r) (hr : RefC X.K r3 r) (hg : Gl X x) (hm : X.mg x = none) (hv : bootBuiltins x = some (.type ty)) (ha : A3 X (e :: es) t) (hn : x ≠ "__name__" := by decide) (hdb : (x == ("__debug__" : Str)) = false := by decide)
    (he : starEach (e :: es) X.env = (false, eval e X.env) :: starEach es X.env := by rfl) (hpl : (backTo pos (starEach es X.env)).any (·.1) = false := by rfl) : E3 X (.Call (.Name x p) (e :: es) [] pos) (cb3 r3 t) :=
  pe_w (pe_callTy hc hg hm hv ha hn hdb he hpl) fun _ _ _ h => lA_cb hr h
end
end L3
set_option Elab.async false
set_option linter.all false
set_option maxRecDepth 100000
set_option maxHeartbeats 4000000
namespace L3
open PySem PySem.Spec PyProof.Rows L2
def getL (G : Gp) (p : Addr) : Option (List T) := match G p with | some (.lst xs) => some xs | some (.frz xs) => some xs | none => none
section
variable {K : PySem.W.Frag} {G G' : Gp} {H H' : Hp}
theorem getL_sq (hr : HR K G H) {p : Addr} {xs : List T} (h : getL G p = some xs) : ∃ vs, SqL K H p vs ∧ Rps K H xs vs := by
  unfold getL at h
  split at h
  · rename_i ys e; cases h
    obtain ⟨vs, h1, h2⟩ := hr p _ e
    exact ⟨vs, SqL.of h1, h2⟩
  · rename_i ys e; cases h
    obtain ⟨vs, ⟨o, h1⟩, h2⟩ := hr p _ e
    exact ⟨vs, .inl (.inr ⟨o, h1⟩), h2⟩
  · cases h
theorem HR.lst (hr : HR K G H) {p : Addr} {xs : List T} (h : G p = some (.lst xs)) : ∃ vs, H p = some (.lst vs) ∧ Rps K H xs vs := hr p _ h
theorem Rps.atI {xs : List T} {vs : List V} {i : Int} {x : T} (r : Rps K H xs vs) (h : atI xs i = some x) : ∃ v, L2.atI vs i = some v ∧ Rp K H x v := by
  unfold L2.atI at h ⊢
  rw [← r.length]
  cases e : ixN xs.length i with
  | none => rw [e] at h; cases h
  | some j =>
    rw [e] at h
    exact r.get (by simpa using h)
end
def ix3 : R3 := fun x y G q => match x, y with
  | .tup xs, .int i => (match atI xs i with | some z => q z G | none => False)
  | .ref p, .int i => (match getL G p with | some xs => (match atI xs i with | some z => q z G | none => False) | none => False)
  | _, _ => False
section
variable {X : Cx} {a b c e : Expr} {es : List Expr} {ta tb tc te : TE3} {t : TA3} {pos : Pos}
theorem ref_ix {K : PySem.W.Frag} : Ref2 K ix3 (rIx K) := fun x y v u G H q Q hr rx ry h af => by
  cases x <;> try exact h.elim
  case tup xs =>
    cases y <;> try exact h.elim
    case int i =>
      unfold ix3 at h
      simp only at h
      split at h
      · rename_i z e
        cases ry
        cases rx with
        | tup hs rs =>
          obtain ⟨w, e2, rw'⟩ := rs.atI e
          exact .inr (.inl ⟨_, _, i, w, rfl, rfl, hs, e2, af z G h w H rw' hr Kp.refl⟩)
      · exact h.elim
  case ref p =>
    cases y <;> try exact h.elim
    case int i =>
      unfold ix3 at h
      simp only at h
      split at h
      · rename_i xs e0
        split at h
        · rename_i z e
          cases ry
          cases rx
          obtain ⟨vs, hs, rs⟩ := getL_sq hr e0
          obtain ⟨w, e2, rw'⟩ := rs.atI e
          exact .inl ⟨p, vs, i, w, rfl, rfl, hs, e2, af z G h w H rw' hr Kp.refl⟩
        · exact h.elim
      · exact h.elim
theorem e_ix (ha : E3 X a ta) (hb : E3 X b tb) (hs : PlainIx b := by intro _ _; rfl) : E3 X (.Subscript a b pos) (o3 ix3 ta tb) := pe_w (pe_ix ix_seq ha hb hs) fun _ _ _ h => lE_op ref_ix h
def cut3 {α : Type} (xs : List α) (lo hi : Option Int) : List α := (xs.drop (HT.sIx xs.length 0 lo)).take (HT.sIx xs.length xs.length hi - HT.sIx xs.length 0 lo)
theorem Rps.cut {K : PySem.W.Frag} {H : Hp} {xs : List T} {vs : List V} (r : Rps K H xs vs) (lo hi : Option Int) : Rps K H (cut3 xs lo hi) (cutV vs lo hi) := by
  unfold cut3 cutV
  rw [r.length]
  exact (r.drop _).take _
abbrev TO3 := St3 → Gp → (Option Int → Gp → Prop) → Prop
def lO (K : PySem.W.Frag) (t : TO3) : TO := fun σ H Q => ∃ τ G q, Rel K τ G σ H ∧ t τ G q ∧ ∀ x G', q x G' → ∀ H', HR K G' H' → Kp G H G' H' → Q x H'
abbrev P3 (X : Cx) (e : Option Expr) (t : TO3) : Prop := PO X e (lO X.K t)
def np3 : TO3 := fun _ G q => q none G
def sp3 (t : TE3) : TO3 := fun τ G q => t τ G fun x G1 => match x with | .int i => q (some i) G1 | _ => False
theorem po_w {X : Cx} {e : Option Expr} {t t' : TO} (h : PO X e t) (w : ∀ σ H Q, t' σ H Q → t σ H Q) : PO X e t' := fun pins s σ H Q I q => h pins s σ H Q I (w σ H Q q)
theorem p_none : P3 X none np3 := po_w po_none fun _ H _ ⟨τ, G, q, rl, h, af⟩ => af none G h H rl.hp Kp.refl
theorem p_some (h : E3 X e te) : P3 X (some e) (sp3 te) := po_w (po_some h) fun _ _ _ ⟨τ, G, q, rl, h, af⟩ => lE_seq rl h fun x G1 h1 v H1 rx hr1 k1 rl1 => by
  cases x <;> try exact h1.elim
  cases rx
  exact ⟨_, rfl, af _ G1 h1 H1 hr1 k1⟩
def sl3 : T → Option Int → Option Int → Gp → Q3 → Prop := fun x lo hi G q => match x with
  | .tup xs => ¬ (HT.sIx xs.length 0 lo = 0 ∧ HT.sIx xs.length xs.length hi = xs.length) ∧ q (.tup (cut3 xs lo hi)) G
  | .ref p => (match getL G p with | some xs => ∀ a, G a = none → q (.ref a) (gu G a (.lst (cut3 xs lo hi))) | none => False)
  | _ => False
def tsl3 (te : TE3) (tl th : TO3) : TE3 := fun τ G q => te τ G fun x G1 => tl τ G1 fun l G2 => th τ G2 fun u G3 => sl3 x l u G3 q
theorem e_slice {lo hi : Option Expr} {tl th : TO3} {p2 : Pos} (he : E3 X e te) (hl : P3 X lo tl) (hu : P3 X hi th) : E3 X (.Subscript e (.Slice lo hi none p2) pos) (tsl3 te tl th) :=
  pe_w (pe_slice (sl_tup.or sl_list) he hl hu) fun _ _ _ ⟨τ, G, q, rl, h, af⟩ => lE_seq rl h fun x G1 h1 v H1 rx hr1 k1 rl1 =>
    ⟨τ, G1, _, rl1, h1, fun l G2 h2 H2 hr2 k2 => ⟨τ, G2, _, rl1.next hr2 k2, h2, fun u G3 h3 H3 hr3 k3 => by
      have kk := (k1.trans k2).trans k3
      have rx3 := (rx.keep hr1 k2).keep hr2 k3
      cases x <;> try exact h3.elim
      case tup xs =>
        cases rx3 with
        | tup hs rs =>
          refine .inl ⟨_, _, rfl, hs, by rw [← rs.length]; exact h3.1, fun p hp => ?_⟩
          exact af _ G3 h3.2 _ _ (.tup (SqT.of upd_same) ((rs.cut _ _).keep hr3 (Kp.laid hp))) (hr3.laid hp) (kk.trans (Kp.laid hp))
      case ref p =>
        unfold sl3 at h3
        simp only at h3
        split at h3
        · rename_i xs e0
          cases rx3
          obtain ⟨vs, hs, rs⟩ := getL_sq hr3 e0
          refine .inr ⟨p, vs, rfl, hs, fun a ha => ?_⟩
          exact af _ _ (h3 a (hr3.free ha)) _ _ (.ref a) (hr3.newL ha (rs.cut _ _)) (kk.trans (Kp.newL ha))
        · exact h3.elim⟩⟩
theorem rps_nil {K : PySem.W.Frag} {H : Hp} {xs : List T} {vs : List V} (r : Rps K H xs vs) : vs = [] ↔ xs = [] := by
  cases r <;> simp
def cat3 : R3 := fun x y G q => match x, y with
  | .tup xs, .tup ys => xs ≠ [] ∧ xs.length + ys.length ≤ sizeLine ∧ q (.tup (xs ++ ys)) G
  | .ref a, .ref b => (match G a, G b with | some (.lst xs), some (.lst ys) => xs.length + ys.length ≤ sizeLine ∧ ∀ p, G p = none → q (.ref p) (gu G p (.lst (xs ++ ys))) | _, _ => False)
  | .int i, .int j => q (.int (i + j)) G
  | _, _ => False
theorem ref_cat {K : PySem.W.Frag} : Ref2 K cat3 (fun x y H Q => (rI0 (fun i j => .int (i + j)) x y H Q ∨ rCatT K x y H Q) ∨ rCat x y H Q) := fun x y v u G H q Q hr rx ry h af => by
  cases x <;> try exact h.elim
  case int i =>
    cases y <;> try exact h.elim
    cases rx; cases ry
    exact .inl (.inl ⟨_, _, rfl, rfl, af _ G h _ H (.int _) hr Kp.refl⟩)
  case tup xs =>
    cases y <;> try exact h.elim
    case tup ys =>
      obtain ⟨h1, h2, h3⟩ := h
      cases rx with
      | tup hs rs =>
        cases ry with
        | tup hs' rs' =>
          refine .inl (.inr ⟨_, _, _, _, rfl, rfl, hs, hs', fun z => h1 ((rps_nil rs).mp z), by rw [← rs.length, ← rs'.length]; exact h2, fun z => ?_, fun z p hp => ?_⟩)
          · have e := (rps_nil rs').mp z
            subst e
            rw [List.append_nil] at h3
            exact af _ G h3 _ H (.tup hs rs) hr Kp.refl
          · exact af _ G h3 _ _ (.tup (SqT.of upd_same) ((rs.append rs').keep hr (Kp.laid hp))) (hr.laid hp) (Kp.laid hp)
  case ref a =>
    cases y <;> try exact h.elim
    case ref b =>
      unfold cat3 at h
      simp only at h
      split at h
      · rename_i xs ys e1 e2
        cases rx; cases ry
        obtain ⟨vs, g1, r1⟩ := hr.lst e1
        obtain ⟨us, g2, r2⟩ := hr.lst e2
        refine .inr ⟨a, b, vs, us, rfl, rfl, g1, g2, by rw [← r1.length, ← r2.length]; exact h.1, fun p hp => ?_⟩
        exact af _ _ (h.2 p (hr.free hp)) _ _ (.ref p) (hr.newL hp (r1.append r2)) (Kp.newL hp)
      · exact h.elim
theorem e_plus (ha : E3 X a ta) (hb : E3 X b tb) : E3 X (.BinOp a .Add b pos) (o3 cat3 ta tb) := e_op ((op_add.or op_catT).or op_cat) ref_cat ha hb
def flatT : T → Bool
  | .non => true | .bl _ => true | .int _ => true | .str _ => true | _ => false
def eqF : T → T → Bool
  | .non, .non => true
  | .bl a, .bl b => a == b
  | .bl a, .int b => (if a then 1 else 0) == b
  | .int a, .bl b => a == (if b then 1 else 0)
  | .int a, .int b => a == b
  | .str a, .str b => a == b
  | _, _ => false
def in3 (neg : Bool) : R3 := fun x y G q => flatT x = true ∧ match y with
  | .tup ys => ys.all flatT = true ∧ q (.bl (if neg then !(ys.any fun y => eqF y x) else (ys.any fun y => eqF y x))) G
  | .ref p => (match getL G p with | some ys => ys.all flatT = true ∧ q (.bl (if neg then !(ys.any fun y => eqF y x) else (ys.any fun y => eqF y x))) G | none => False)
  | _ => False
def len3 : List T → Gp → Q3 → Prop := fun xs G q => match xs with
  | [.tup ys] => q (.int ys.length) G
  | [.str y] => y.length ≤ sizeLine ∧ q (.int y.length) G
  | [.ref p] => (match getL G p with | some ys => q (.int ys.length) G | none => False)
  | _ => False
theorem rps1 {K : PySem.W.Frag} {H : Hp} {x : T} {vs : List V} (r : Rps K H [x] vs) : ∃ v, vs = [v] ∧ Rp K H x v := by
  cases r with
  | cons a b => cases b; exact ⟨_, rfl, a⟩
theorem rps2 {K : PySem.W.Frag} {H : Hp} {x y : T} {vs : List V} (r : Rps K H [x, y] vs) : ∃ v u, vs = [v, u] ∧ Rp K H x v ∧ Rp K H y u := by
  cases r with
  | cons a b => cases b with | cons c d => cases d; exact ⟨_, _, rfl, a, c⟩
theorem ref_len {K : PySem.W.Frag} : RefC K len3 (fun xs H Q => ∃ x n, xs = [x] ∧ LenV K x H n ∧ Q (.int n) H) := fun xs vs G H q Q hr rs h af => by
  unfold len3 at h
  split at h
  · obtain ⟨v, rfl, r⟩ := rps1 rs
    cases r with
    | tup hs r2 => exact ⟨_, _, rfl, .inr ⟨_, hs, rfl⟩, by rw [← r2.length]; exact af _ G h _ H (.int _) hr Kp.refl⟩
  · obtain ⟨v, rfl, r⟩ := rps1 rs
    cases r
    exact ⟨_, _, rfl, ⟨h.1, rfl⟩, af _ G h.2 _ H (.int _) hr Kp.refl⟩
  · obtain ⟨v, rfl, r⟩ := rps1 rs
    split at h
    · rename_i ys e
      cases r
      obtain ⟨us, hs, r2⟩ := getL_sq hr e
      exact ⟨_, _, rfl, .inl ⟨_, hs, rfl⟩, by rw [← r2.length]; exact af _ G h _ H (.int _) hr Kp.refl⟩
    · exact h.elim
  · exact h.elim
def abs3 : List T → Gp → Q3 → Prop := fun xs G q => match xs with | [.int i] => q (.int (if i < 0 then -i else i)) G | _ => False
theorem ref_abs {K : PySem.W.Frag} : RefC K abs3 (fun xs H Q => ∃ i, xs = [.int i] ∧ Q (.int (if i < 0 then -i else i)) H) := fun xs vs G H q Q hr rs h af => by
  unfold abs3 at h
  split at h
  · obtain ⟨v, rfl, r⟩ := rps1 rs
    cases r
    exact ⟨_, rfl, af _ G h _ H (.int _) hr Kp.refl⟩
  · exact h.elim
def min3 : List T → Gp → Q3 → Prop := fun xs G q => match xs with | [.int i, .int j] => q (.int (if j < i then j else i)) G | _ => False
theorem ref_min {K : PySem.W.Frag} : RefC K min3 (fun xs H Q => ∃ i j, xs = [.int i, .int j] ∧ Q (.int (if j < i then j else i)) H) := fun xs vs G H q Q hr rs h af => by
  unfold min3 at h
  split at h
  · obtain ⟨v, u, rfl, r, r'⟩ := rps2 rs
    cases r; cases r'
    exact ⟨_, _, rfl, af _ G h _ H (.int _) hr Kp.refl⟩
  · exact h.elim
def max3 : List T → Gp → Q3 → Prop := fun xs G q => match xs with | [.int i, .int j] => q (.int (if j > i then j else i)) G | _ => False
def int3 : List T → Gp → Q3 → Prop := fun xs G q => match xs with | [.int i] => q (.int i) G | [.bl k] => q (.int (if k then 1 else 0)) G | _ => False
theorem ref_int {K : PySem.W.Frag} : RefC K int3 (fun xs H Q => (∃ i, xs = [.int i] ∧ Q (.int i) H) ∨ ∃ k, xs = [.bl k] ∧ Q (.int (if k then 1 else 0)) H) := fun xs vs G H q Q hr rs h af => by
  unfold int3 at h
  split at h
  · obtain ⟨v, rfl, r⟩ := rps1 rs
    cases r
    exact .inl ⟨_, rfl, af _ G h _ H (.int _) hr Kp.refl⟩
  · obtain ⟨v, rfl, r⟩ := rps1 rs
    cases r
    exact .inr ⟨_, rfl, af _ G h _ H (.int _) hr Kp.refl⟩
  · exact h.elim
def tuple3 : List T → Gp → Q3 → Prop := fun xs G q => match xs with
  | [.tup ys] => q (.tup ys) G
  | [.ref p] => (match getL G p with | some ys => q (.tup ys) G | none => False)
  | _ => False
theorem ref_tuple {K : PySem.W.Frag} : RefC K tuple3 (fun xs H Q => ∃ p ys, xs = [.ref p] ∧ ((SqL K H p ys ∧ ∀ l, H l = none → Q (.ref l) (upd H l (.tup ys))) ∨ (SqT K H p ys ∧ Q (.ref p) H))) := fun xs vs G H q Q hr rs h af => by
  unfold tuple3 at h
  split at h
  · obtain ⟨v, rfl, r⟩ := rps1 rs
    cases r with
    | tup hs r2 => exact ⟨_, _, rfl, .inr ⟨hs, af _ G h _ H (.tup hs r2) hr Kp.refl⟩⟩
  · obtain ⟨v, rfl, r⟩ := rps1 rs
    split at h
    · rename_i ys e
      cases r
      obtain ⟨us, hs, r2⟩ := getL_sq hr e
      exact ⟨_, _, rfl, .inl ⟨hs, fun l hl => af _ G h _ _ (.tup (SqT.of upd_same) (r2.keep hr (Kp.laid hl))) (hr.laid hl) (Kp.laid hl)⟩⟩
    · exact h.elim
  · exact h.elim
def list3 : List T → Gp → Q3 → Prop := fun xs G q => match xs with
  | [.tup ys] => ∀ p, G p = none → q (.ref p) (gu G p (.lst ys))
  | [.ref p] => (match getL G p with | some ys => ∀ p, G p = none → q (.ref p) (gu G p (.lst ys)) | none => False)
  | _ => False
theorem ref_list {K : PySem.W.Frag} : RefC K list3 (fun xs H Q => ∃ p ys, xs = [.ref p] ∧ (SqL K H p ys ∨ SqT K H p ys) ∧ ∀ l, H l = none → Q (.ref l) (upd H l (.lst ys))) := fun xs vs G H q Q hr rs h af => by
  unfold list3 at h
  split at h
  · obtain ⟨v, rfl, r⟩ := rps1 rs
    cases r with
    | tup hs r2 => exact ⟨_, _, rfl, .inr hs, fun l hl => af _ _ (h l (hr.free hl)) _ _ (.ref l) (hr.newL hl r2) (Kp.newL hl)⟩
  · obtain ⟨v, rfl, r⟩ := rps1 rs
    split at h
    · rename_i ys e
      cases r
      obtain ⟨us, hs, r2⟩ := getL_sq hr e
      exact ⟨_, _, rfl, .inl hs, fun l hl => af _ _ (h l (hr.free hl)) _ _ (.ref l) (hr.newL hl r2) (Kp.newL hl)⟩
    · exact h.elim
  · exact h.elim
def ext3 : T → List T → Gp → Q3 → Prop := fun x xs G q => match x, xs with
  | .ref l, [.ref b] => (match G l, G b with | some (.lst ys), some (.lst zs) => ys.length + zs.length ≤ sizeLine ∧ q .non (gu G l (.lst (ys ++ zs))) | _, _ => False)
  | _, _ => False
def app3 : T → List T → Gp → Q3 → Prop := fun x xs G q => match x, xs with
  | .ref l, [y] => (match G l with | some (.lst ys) => ys.length < sizeLine ∧ q .non (gu G l (.lst (ys ++ [y]))) | _ => False)
  | _, _ => False
def RefM (K : PySem.W.Frag) (r3 : T → List T → Gp → Q3 → Prop) (r : V → List V → Hp → VK → Prop) : Prop := ∀ x xs v vs G H q Q, HR K G H → Rp K H x v → Rps K H xs vs → r3 x xs G q → Aft K G H q Q → r v vs H Q
theorem ref_ext {K : PySem.W.Frag} : RefM K ext3 rExtend := fun x xs v vs G H q Q hr rx rs h af => by
  unfold ext3 at h
  split at h
  · rename_i l b
    split at h
    · rename_i ys zs e1 e2
      cases rx
      obtain ⟨u, rfl, r⟩ := rps1 rs
      cases r
      obtain ⟨vs, g1, r1⟩ := hr.lst e1
      obtain ⟨us, g2, r2⟩ := hr.lst e2
      exact ⟨l, b, vs, us, rfl, rfl, g1, g2, by rw [← r1.length, ← r2.length]; exact h.1, af _ _ h.2 _ _ .non (hr.wr e1 (r1.append r2)) (Kp.wr e1)⟩
    · exact h.elim
  · exact h.elim
theorem ref_app {K : PySem.W.Frag} : RefM K app3 rAppend := fun x xs v vs G H q Q hr rx rs h af => by
  unfold app3 at h
  split at h
  · rename_i l y
    split at h
    · rename_i ys e1
      cases rx
      obtain ⟨u, rfl, r⟩ := rps1 rs
      obtain ⟨vs, g1, r1⟩ := hr.lst e1
      exact ⟨l, vs, u, rfl, rfl, g1, by rw [← r1.length]; exact h.1, af _ _ h.2 _ _ .non (hr.wr e1 (r1.append (.cons r .nil))) (Kp.wr e1)⟩
    · exact h.elim
  · exact h.elim
def bm3 (r : T → List T → Gp → Q3 → Prop) (to : TE3) (t : TA3) : TE3 := fun τ G q => to τ G fun x G1 => (match x with | .ref p => (getL G1 p).isSome = true | _ => False) ∧ t τ G1 fun xs G2 => r x xs G2 q
theorem e_bm {o : Expr} {to : TE3} {name : Str} {apos cpos : Pos} {id : String} {r3 : T → List T → Gp → Q3 → Prop} {r : V → List V → Hp → VK → Prop} (slot : Slot "list" name id) (hty : typeOf (.builtin id) = pure (.type "method_descriptor")) (hm : MtR X id r) (hr : RefM X.K r3 r) (ho : E3 X o to) (ha : A3 X (e :: es) t)
    (hbase : attributeBase o name X.env (eval o X.env) = eval o X.env := by rfl)
    (hfew : ((backTo cpos (starEach (e :: es) X.env)).all (fun x => !x.1) && (backToKw cpos (keywordEach [] X.env)).all (fun x => x.1.isSome)
      && decide ((e :: es).length + ([] : List Keyword).length + (if ([] : List Keyword).isEmpty then 0 else 1) < 30)) = true := by rfl)
    (hline : (apos.endLine == cpos.line) = true := by rfl) (hs : starEach (e :: es) X.env = (false, eval e X.env) :: starEach es X.env := by rfl) (hplain : (backTo cpos (starEach es X.env)).any (·.1) = false := by rfl) :
    E3 X (.Call (.Attribute o name apos) (e :: es) [] cpos) (bm3 r3 to t) :=
  pe_w (pe_bm PySem.F.plainAttrs_list slot hty hm ho ha hbase hfew hline hs hplain) fun _ _ _ ⟨τ, G, q, rl, h, af⟩ => lE_seq rl h fun x G1 h1 v H1 rx hr1 k1 rl1 => by
    obtain ⟨hp, h1⟩ := h1
    cases x <;> try exact hp.elim
    case ref p =>
      cases rx
      have hp' : (getL G1 p).isSome = true := hp
      obtain ⟨ys, e⟩ := Option.isSome_iff_exists.mp hp'
      obtain ⟨us, hs, r2⟩ := getL_sq hr1 e
      exact ⟨.inl ⟨rfl, us, hs⟩, lA_seq rl1 h1 fun xs G2 h2 vs H2 rs hr2 k2 rl2 => hr _ xs _ vs G2 H2 q _ hr2 (.ref p) rs h2 (af.back (k1.trans k2))⟩
theorem e_append {o : Expr} {to : TE3} {apos cpos : Pos} (ho : E3 X o to) (ha : A3 X [e] t)
    (hbase : attributeBase o "append" X.env (eval o X.env) = eval o X.env := by rfl)
    (hfew : ((backTo cpos (starEach [e] X.env)).all (fun x => !x.1) && (backToKw cpos (keywordEach [] X.env)).all (fun x => x.1.isSome)
      && decide (([e] : List Expr).length + ([] : List Keyword).length + (if ([] : List Keyword).isEmpty then 0 else 1) < 30)) = true := by rfl)
    (hline : (apos.endLine == cpos.line) = true := by rfl) (hs : starEach [e] X.env = (false, eval e X.env) :: starEach [] X.env := by rfl) (hplain : (backTo cpos (starEach [] X.env)).any (·.1) = false := by rfl) :
    E3 X (.Call (.Attribute o "append" apos) [e] [] cpos) (bm3 app3 to t) := e_bm PySem.F.slot_list_append PySem.F.type_list_append mt_append ref_app ho ha hbase hfew hline hs hplain
theorem e_extend {o : Expr} {to : TE3} {apos cpos : Pos} (ho : E3 X o to) (ha : A3 X [e] t)
    (hbase : attributeBase o "extend" X.env (eval o X.env) = eval o X.env := by rfl)
    (hfew : ((backTo cpos (starEach [e] X.env)).all (fun x => !x.1) && (backToKw cpos (keywordEach [] X.env)).all (fun x => x.1.isSome)
      && decide (([e] : List Expr).length + ([] : List Keyword).length + (if ([] : List Keyword).isEmpty then 0 else 1) < 30)) = true := by rfl)
    (hline : (apos.endLine == cpos.line) = true := by rfl) (hs : starEach [e] X.env = (false, eval e X.env) :: starEach [] X.env := by rfl) (hplain : (backTo cpos (starEach [] X.env)).any (·.1) = false := by rfl) :
    E3 X (.Call (.Attribute o "extend" apos) [e] [] cpos) (bm3 ext3 to t) := e_bm PySem.F.slot_list_extend PySem.F.type_list_extend mt_extend ref_ext ho ha hbase hfew hline hs hplain
end
end L3
set_option Elab.async false
set_option linter.all false
set_option maxRecDepth 100000
set_option maxHeartbeats 4000000
namespace L3
open PySem PySem.Spec PyProof.Rows L2
def tyT (G : Gp) : T → Option String
  | .non => some "NoneType" | .bl _ => some "bool" | .int _ => some "int" | .str _ => some "str" | .tup _ => some "tuple"
  | .ref p => if (getL G p).isSome then some "list" else none
def subT (t c : String) : Bool := t == c || (t == "bool" && c == "int")
theorem kit_ints (K : PySem.W.Frag) : ∀ t ∈ ["NoneType", "bool", "int", "str", "tuple", "list"], ∀ c ∈ ["bool", "int", "str", "tuple", "list"], PySem.W.kitOne K (.type t) (.type c) = some (subT t c) := by
  intro t ht c hc
  simp only [List.mem_cons, List.not_mem_nil, or_false] at ht hc
  rcases ht with rfl | rfl | rfl | rfl | rfl | rfl <;> rcases hc with rfl | rfl | rfl | rfl | rfl <;> kernel_rfl
section
variable {X : Cx} {a b c e : Expr} {es : List Expr} {ta tb tc te : TE3} {t : TA3} {pos : Pos}
def TyS (K : PySem.W.Frag) (H : Hp) (x : V) (t : String) : Prop := match x with
  | .non => t = "NoneType" | .bl _ => t = "bool" | .int _ => t = "int" | .str _ => t = "str"
  | .ref a => (t = "tuple" ∧ ∃ vs, SqT K H a vs) ∨ (t = "list" ∧ ∃ vs, SqL K H a vs)
  | _ => False
theorem TyS.mem {K : PySem.W.Frag} {H : Hp} {x : V} {t : String} (h : TyS K H x t) : t ∈ ["NoneType", "bool", "int", "str", "tuple", "list"] := by
  cases x <;> simp [TyS] at h <;> first | (subst h; decide) | (rcases h with ⟨rfl, _⟩ | ⟨rfl, _⟩ <;> decide)
theorem TyS.kitx {pins : List (Addr × Obj)} {σ : L2.St} {H : Hp} {s : Shared} {x : V} {u : Value} {t : String} (I : Inv X pins σ H s) (rx : RelV x u) (h : TyS X.K H x t) :
    ∃ HH : Heap → Prop, PySem.W.KitX X.K u (.type t) HH ∧ HH s.heap ∧ u ≠ .builtin "__main__.__loader__#opaque" := by
  cases x with
  | non => cases (show u = Value.none from rx); cases (show t = _ from h); exact ⟨_, PySem.W.kitx_none, True.intro, fun z => nomatch z⟩
  | bl y => cases (show u = Value.bool y from rx); cases (show t = _ from h); exact ⟨_, PySem.W.kitx_bool, True.intro, fun z => nomatch z⟩
  | int i => obtain ⟨tk, q⟩ := (show ∃ t, u = Value.int i t from rx); cases q; cases (show t = _ from h); exact ⟨_, PySem.W.kitx_int, True.intro, fun z => nomatch z⟩
  | str y => obtain ⟨tk, q⟩ := (show ∃ t, u = Value.str y t from rx); cases q; cases (show t = _ from h); exact ⟨_, PySem.W.kitx_str, True.intro, fun z => nomatch z⟩
  | ref a =>
    cases (show u = Value.ref a from rx)
    rcases (show (t = "tuple" ∧ ∃ vs, SqT X.K H a vs) ∨ (t = "list" ∧ ∃ vs, SqL X.K H a vs) from h) with ⟨rfl, vs, hs⟩ | ⟨rfl, vs, hs⟩
    · obtain ⟨its, _, p, _⟩ := I.tuple hs
      obtain ⟨o, h1, h2, _⟩ := p
      exact ⟨_, PySem.W.kitx_tuple, ⟨o, h1, h2⟩, fun z => nomatch z⟩
    · obtain ⟨its, _, p, _⟩ := I.list hs
      obtain ⟨o, n, h1, h2, _⟩ := p
      exact ⟨_, PySem.W.kitx_list, ⟨o, h1, h2⟩, fun z => nomatch z⟩
  | _ => exact False.elim h
abbrev tyNames : List String := ["bool", "int", "str", "tuple", "list"]
theorem call_isi : CallR X (.builtin "isinstance") (fun xs H Q => ∃ x t c, xs = [x, .ty c] ∧ TyS X.K H x t ∧ c ∈ tyNames ∧ Q (.bl (subT t c)) H) := by
  intro pins s σ H xs us Q I r h
  obtain ⟨x, t, c, rfl, ht, hc, q⟩ := h
  obtain ⟨u, w, rfl, rx, rc⟩ := vals2 r
  cases (show w = Value.type c from rc)
  obtain ⟨HH, kx, hh, ne⟩ := ht.kitx I rx
  exact PySem.W.kia_one kx I.kIn hh (kit_ints X.K t ht.mem c hc) ne fun tk => ⟨.bl _, H, I.tok tk, rfl, q⟩
theorem kit_any2 (K : PySem.W.Frag) {t c d : String} (ht : t ∈ ["NoneType", "bool", "int", "str", "tuple", "list"]) (hc : c ∈ tyNames) (hd : d ∈ tyNames) : PySem.W.kitAny K (.type t) [.type c, .type d] = some (subT t c || subT t d) := by
  unfold PySem.W.kitAny
  rw [kit_ints K t ht c hc]
  cases subT t c with
  | true => rfl
  | false =>
    show PySem.W.kitAny K (.type t) [.type d] = _
    unfold PySem.W.kitAny
    rw [kit_ints K t ht d hd]
    cases subT t d <;> rfl
theorem call_isi2 : CallR X (.builtin "isinstance") (fun xs H Q => ∃ x t c d p, xs = [x, .ref p] ∧ H p = some (.tup [.ty c, .ty d]) ∧ TyS X.K H x t ∧ c ∈ tyNames ∧ d ∈ tyNames ∧ Q (.bl (subT t c || subT t d)) H) := by
  intro pins s σ H xs us Q I r h
  obtain ⟨x, t, c, d, p, rfl, hp, ht, hc, hd, q⟩ := h
  obtain ⟨u, w, rfl, rx, rc⟩ := vals2 r
  cases (show w = Value.ref p from rc)
  obtain ⟨HH, kx, hh, ne⟩ := ht.kitx I rx
  obtain ⟨_, its, rv, ⟨o, ho, hcl, n, hda⟩⟩ := (show ObjOk X.prog X.w H s.heap p (.tup [.ty c, .ty d]) from I.hok p _ hp)
  obtain ⟨u1, u2, rfl, r1, r2⟩ := vals2 rv
  cases (show u1 = Value.type c from r1)
  cases (show u2 = Value.type d from r2)
  obtain ⟨cl, dd, da, sl⟩ := o
  cases (show cl = _ from hcl)
  cases (show da = _ from hda)
  exact PySem.W.kia_tup kx I.kIn hh ho (kit_any2 X.K ht.mem hc hd) ne fun tk => ⟨.bl _, H, I.tok tk, rfl, q⟩
theorem tyT_ok {K : PySem.W.Frag} {G : Gp} {H : Hp} (hr : HR K G H) {x : T} {v : V} {t : String} (r : Rp K H x v) (h : tyT G x = some t) : TyS K H v t := by
  cases r with
  | non => cases h; rfl
  | bl _ => cases h; rfl
  | int _ => cases h; rfl
  | str _ => cases h; rfl
  | tup hs rs => cases h; exact .inl ⟨rfl, _, hs⟩
  | ref a =>
    have h : (if (getL G a).isSome then some "list" else none) = some t := h
    split at h
    · rename_i e
      cases h
      obtain ⟨ys, e⟩ := Option.isSome_iff_exists.mp e
      obtain ⟨us, hs, _⟩ := getL_sq hr e
      exact .inr ⟨rfl, us, hs⟩
    · cases h
def isi3 (f : String → Bool) (te : TE3) : TE3 := fun τ G q => te τ G fun x G1 => match tyT G1 x with | some t => q (.bl (f t)) G1 | none => False
theorem e_isi {tn : Str} {ty : String} {p p2 : Pos} (he : E3 X e te) (hg : Gl X "isinstance") (hm : X.mg "isinstance" = none) (hg2 : Gl X tn) (hm2 : X.mg tn = none) (hv : bootBuiltins tn = some (.type ty)) (hmem : ty ∈ tyNames := by decide) (hn : tn ≠ "__name__" := by decide) (hdb : (tn == ("__debug__" : Str)) = false := by decide)
    (hs : starEach [e, .Name tn p2] X.env = (false, eval e X.env) :: starEach [.Name tn p2] X.env := by rfl) (hs2 : starEach [.Name tn p2] X.env = (false, eval (.Name tn p2) X.env) :: starEach [] X.env := by rfl) (hpl : (backTo pos (starEach [.Name tn p2] X.env)).any (·.1) = false := by rfl) :
    E3 X (.Call (.Name "isinstance" p) [e, .Name tn p2] [] pos) (isi3 (fun t => subT t ty) te) :=
  pe_w (pe_callB call_isi hg hm PyProof.Rows.boot_isinstance (pa_cons he (pa_cons (pe_bltn (v := .ty ty) hg2 hm2 hv rfl hn hdb) pa_nil hs2) hs) (by decide) (by decide) hs hpl)
    fun _ _ _ ⟨τ, G, q, rl, h, af⟩ => lE_seq rl h fun x G1 h1 v H1 rx hr1 k1 rl1 => by
      split at h1
      · rename_i t e1
        exact ⟨_, t, ty, rfl, tyT_ok hr1 rx e1, hmem, af _ G1 h1 _ H1 (.bl _) hr1 k1⟩
      · exact h1.elim
theorem e_isi2 {tn tn' : Str} {ty ty' : String} {p p2 p3 p4 : Pos} {x1} (he : E3 X e te) (hg : Gl X "isinstance") (hm : X.mg "isinstance" = none) (hg2 : Gl X tn) (hm2 : X.mg tn = none) (hv : bootBuiltins tn = some (.type ty)) (hg3 : Gl X tn') (hm3 : X.mg tn' = none) (hv3 : bootBuiltins tn' = some (.type ty'))
    (hmem : ty ∈ tyNames := by decide) (hn : tn ≠ "__name__" := by decide) (hdb : (tn == ("__debug__" : Str)) = false := by decide) (hmem3 : ty' ∈ tyNames := by decide) (hn3 : tn' ≠ "__name__" := by decide) (hdb3 : (tn' == ("__debug__" : Str)) = false := by decide)
    (hs : starEach [e, .Tuple [.Name tn p2, .Name tn' p3] x1 p4] X.env = (false, eval e X.env) :: starEach [.Tuple [.Name tn p2, .Name tn' p3] x1 p4] X.env := by rfl) (hs2 : starEach [.Tuple [.Name tn p2, .Name tn' p3] x1 p4] X.env = (false, eval (.Tuple [.Name tn p2, .Name tn' p3] x1 p4) X.env) :: starEach [] X.env := by rfl)
    (hs3 : starEach [.Name tn p2, .Name tn' p3] X.env = (false, eval (.Name tn p2) X.env) :: starEach [.Name tn' p3] X.env := by rfl) (hs4 : starEach [.Name tn' p3] X.env = (false, eval (.Name tn' p3) X.env) :: starEach [] X.env := by rfl)
    (hpl : (backTo pos (starEach [.Tuple [.Name tn p2, .Name tn' p3] x1 p4] X.env)).any (·.1) = false := by rfl) :
    E3 X (.Call (.Name "isinstance" p) [e, .Tuple [.Name tn p2, .Name tn' p3] x1 p4] [] pos) (isi3 (fun t => subT t ty || subT t ty') te) :=
  pe_w (pe_callB call_isi2 hg hm PyProof.Rows.boot_isinstance (pa_cons he (pa_cons (pe_tup (pa_cons (pe_bltn (v := .ty ty) hg2 hm2 hv rfl hn hdb) (pa_cons (pe_bltn (v := .ty ty') hg3 hm3 hv3 rfl hn3 hdb3) pa_nil hs4) hs3)) pa_nil hs2) hs) (by decide) (by decide) hs hpl)
    fun _ _ _ ⟨τ, G, q, rl, h, af⟩ => lE_seq rl h fun x G1 h1 v H1 rx hr1 k1 rl1 => by
      refine ⟨by show 2 ≤ sizeLine; decide, fun pp hp => ?_⟩
      split at h1
      · rename_i t e1
        have hr2 := hr1.laid (ho := .tup [.ty ty, .ty ty']) hp
        have kk : Kp G1 H1 G1 (upd H1 pp (.tup [.ty ty, .ty ty'])) := Kp.laid hp
        exact ⟨_, t, ty, ty', pp, rfl, upd_same, tyT_ok hr2 (rx.keep hr1 kk) e1, hmem, hmem3, af _ G1 h1 _ _ (.bl _) hr2 (k1.trans kk)⟩
      · exact h1.elim
structure Ends3 where
  nx : St3 → Gp → Prop
  rt : Q3
  bk : St3 → Gp → Prop := fun _ _ => False
  ct : St3 → Gp → Prop := fun _ _ => False
abbrev TS3 := Ends3 → St3 → Gp → Prop
def AftS (K : PySem.W.Frag) (G : Gp) (H : Hp) (q : St3 → Gp → Prop) (Q : L2.St → Hp → Prop) : Prop := ∀ τ G', q τ G' → ∀ σ H', Rel K τ G' σ H' → Kp G H G' H' → Q σ H'
structure AftD (K : PySem.W.Frag) (G : Gp) (H : Hp) (d : Ends3) (D : Ends) : Prop where
  nx : AftS K G H d.nx D.nx
  rt : Aft K G H d.rt D.rt
  bk : AftS K G H d.bk D.bk
  ct : AftS K G H d.ct D.ct
theorem AftS.back {K : PySem.W.Frag} {G G1 : Gp} {H H1 : Hp} {q : St3 → Gp → Prop} {Q : L2.St → Hp → Prop} (a : AftS K G H q Q) (k : Kp G H G1 H1) : AftS K G1 H1 q Q := fun x G' h v H' r k' => a x G' h v H' r (k.trans k')
theorem AftD.back {K : PySem.W.Frag} {G G1 : Gp} {H H1 : Hp} {d : Ends3} {D : Ends} (a : AftD K G H d D) (k : Kp G H G1 H1) : AftD K G1 H1 d D := ⟨a.nx.back k, a.rt.back k, a.bk.back k, a.ct.back k⟩
def lS (K : PySem.W.Frag) (t : TS3) : TS := fun D σ H => ∃ τ G d, Rel K τ G σ H ∧ t d τ G ∧ AftD K G H d D
abbrev S3 (X : Cx) (st : Stmt) (t : TS3) : Prop := PS X st (lS X.K t)
abbrev B3 (X : Cx) (st : List Stmt) (t : TS3) : Prop := PSs X st (lS X.K t)
theorem ps_w {X : Cx} {st : Stmt} {t t' : TS} (h : PS X st t) (w : ∀ D σ H, t' D σ H → t D σ H) : PS X st t' := fun pins s σ H D I q => h pins s σ H D I (w D σ H q)
theorem pss_w {X : Cx} {st : List Stmt} {t t' : TS} (h : PSs X st t) (w : ∀ D σ H, t' D σ H → t D σ H) : PSs X st t' := fun pins s σ H D I q => h pins s σ H D I (w D σ H q)
variable {st : Stmt} {rest : List Stmt} {t1 t2 : TS3} {tA : TT3}
def next3 : TS3 := fun d τ G => d.nx τ G
def seq3 (t u : TS3) : TS3 := fun d τ G => t { d with nx := u d } τ G
theorem b_nil : B3 X [] next3 := pss_w pss_nil fun _ σ H ⟨τ, G, d, rl, h, af⟩ => af.nx τ G h σ H rl Kp.refl
theorem b_cons (h1 : S3 X st t1) (h2 : B3 X rest t2) : B3 X (st :: rest) (seq3 t1 t2) := pss_w (pss_cons h1 h2) fun D σ H ⟨τ, G, d, rl, h, af⟩ =>
  ⟨τ, G, { d with nx := t2 d }, rl, h, ⟨fun τ' G' h' σ' H' rl' k' => ⟨τ', G', d, rl', h', af.back k'⟩, af.rt, af.bk, af.ct⟩⟩
theorem b_one (h1 : S3 X st t1) : B3 X [st] t1 := pss_one h1
def drop3 (te : TE3) : TS3 := fun d τ G => te τ G fun _ G1 => d.nx τ G1
theorem s_expr (he : E3 X e te) (hs : swapsWith e none pos.line X.env = pure false := by rfl) : S3 X (.Expr e pos) (drop3 te) := ps_w (ps_expr he hs) fun _ σ H ⟨τ, G, d, rl, h, af⟩ =>
  lE_seq rl h fun x G1 h1 v H1 rx hr1 k1 rl1 => af.nx τ G1 h1 σ H1 rl1 k1
def ret3 (te : TE3) : TS3 := fun d τ G => te τ G d.rt
theorem s_ret (he : E3 X e te) : S3 X (.Return (some e) pos) (ret3 te) := ps_w (ps_ret he) fun _ σ H ⟨τ, G, d, rl, h, af⟩ => ⟨τ, G, d.rt, rl, h, af.rt⟩
def retN3 : TS3 := fun d _ G => d.rt .non G
def ifS3 (c : TT3) (t u : TS3) : TS3 := fun d τ G => c τ G fun k G1 => if k = true then t d τ G1 else u d τ G1
theorem s_if {c : Expr} {ba bb : List Stmt} (hc : C3 X c tA) (ha : B3 X ba t1) (hb : B3 X bb t2) : S3 X (.If c ba bb pos) (ifS3 tA t1 t2) := ps_w (ps_if hc ha hb) fun _ σ H ⟨τ, G, d, rl, h, af⟩ =>
  lT_seq rl h fun k G1 h1 H1 hr1 k1 rl1 => by
    cases k with
    | true => rw [if_pos rfl] at h1 ⊢; exact ⟨τ, G1, d, rl1, h1, af.back k1⟩
    | false => rw [if_neg Bool.false_ne_true] at h1 ⊢; exact ⟨τ, G1, d, rl1, h1, af.back k1⟩
def nev3 : TS3 := fun _ _ _ => False
abbrev TG3 := T → St3 → Gp → (St3 → Gp → Prop) → Prop
abbrev TGs3 := List T → St3 → Gp → (St3 → Gp → Prop) → Prop
def lG (K : PySem.W.Frag) (t : TG3) : TG := fun v σ H Q => ∃ x τ G q, Rp K H x v ∧ Rel K τ G σ H ∧ t x τ G q ∧ AftS K G H q Q
def lGs (K : PySem.W.Frag) (t : TGs3) : TGs := fun v σ H Q => ∃ x τ G q, Rps K H x v ∧ Rel K τ G σ H ∧ t x τ G q ∧ AftS K G H q Q
abbrev G3 (X : Cx) (e : Expr) (t : TG3) : Prop := PG X e (lG X.K t)
abbrev Gs3 (X : Cx) (es : List Expr) (t : TGs3) : Prop := PGs X es (lGs X.K t)
theorem pg_w {X : Cx} {e : Expr} {t t' : TG} (h : PG X e t) (w : ∀ v σ H Q, t' v σ H Q → t v σ H Q) : PG X e t' := fun pins s σ H v u Q I r q => h pins s σ H v u Q I r (w v σ H Q q)
theorem pgs_w {X : Cx} {e : List Expr} {t t' : TGs} (h : PGs X e t) (w : ∀ v σ H Q, t' v σ H Q → t v σ H Q) : PGs X e t' := fun pins s σ H v u Q I r q => h pins s σ H v u Q I r (w v σ H Q q)
def gn3 (i : Nat) : TG3 := fun x τ G q => q (τ.set i (some x)) G
theorem g_name {i : Nat} {x : Str} (hN : X.N.Nodup) (hi : X.N[i]? = some x := by rfl) (hx : Loc X.env.scope x := by first | exact Or.inl rfl | exact Or.inr rfl) (hf : X.fn x = true ∨ X.env.scope.names.lookup x = some .local := by first | exact .inl rfl | exact .inr rfl) : G3 X (.Name x pos) (gn3 i) :=
  pg_w (pg_name hN hi hx hf) fun v σ H Q ⟨x, τ, G, q, rx, rl, h, af⟩ => af _ G h _ H (rl.set i rx) Kp.refl
def gnil3 : TGs3 := fun xs τ G q => match xs with | [] => q τ G | _ => False
def gcons3 (t : TG3) (u : TGs3) : TGs3 := fun xs τ G q => match xs with | x :: r => t x τ G fun τ' G' => u r τ' G' q | [] => False
theorem g_nil : Gs3 X [] gnil3 := pgs_w pgs_nil fun v σ H Q ⟨x, τ, G, q, rx, rl, h, af⟩ => by
  cases rx with
  | nil => exact ⟨rfl, af _ G h _ H rl Kp.refl⟩
  | cons _ _ => exact h.elim
theorem g_cons {tg : TG3} {tgs : TGs3} (h1 : G3 X e tg) (h2 : Gs3 X es tgs) (hs : (assignEach (e :: es) X.env).map (·.2) = assign e X.env :: (assignEach es X.env).map (·.2) := by rfl) : Gs3 X (e :: es) (gcons3 tg tgs) := pgs_w (pgs_cons h1 h2 hs) fun v σ H Q ⟨x, τ, G, q, rx, rl, h, af⟩ => by
  cases rx with
  | nil => exact h.elim
  | cons r rs => exact ⟨_, _, rfl, _, τ, G, _, r, rl, h, fun τ' G' h' σ' H' rl' k' => ⟨_, τ', G', q, rs.keep rl.hp k', rl', h', af.back k'⟩⟩
def gtup3 (n : Nat) (t : TGs3) : TG3 := fun x τ G q => match x with | .tup xs => xs.length = n ∧ t xs τ G q | _ => False
theorem g_tup {k : Nat} {tgs : TGs3} {n : Nat} (hc : X.calm = true) (h : Gs3 X es tgs) (hn : (assignEach es X.env).length = n := by rfl) (hst : (assignEach es X.env).findIdx? (·.1) = none := by rfl) : G3 X (.Tuple es k pos) (gtup3 n tgs) :=
  pg_w (pg_tup hc h hn hst) fun v σ H Q ⟨x, τ, G, q, rx, rl, h, af⟩ => by
    cases x <;> try exact h.elim
    case tup xs =>
      cases rx with
      | tup hs rs => exact ⟨_, _, rfl, hs, by rw [← rs.length]; exact h.1, _, τ, G, q, rs, rl, h.2, af⟩
def set3 : T → T → T → Gp → (Gp → Prop) → Prop := fun o i v G q => match o, i with
  | .ref p, .int k => (match G p with | some (.lst xs) => (match ixN xs.length k with | some j => q (gu G p (.lst (xs.set j v))) | none => False) | _ => False)
  | _, _ => False
def gsub3 (to ti : TE3) : TG3 := fun x τ G q => to τ G fun o G1 => ti τ G1 fun i G2 => set3 o i x G2 fun G3 => q τ G3
theorem g_sub {o i : Expr} {to ti : TE3} (ho : E3 X o to) (hi : E3 X i ti) (ha : ∀ v, assign (.Subscript o i pos) X.env v = (do
      let ov ← holding [v] (eval o X.env)
      let iv ← holding [v, ov] (eval i X.env)
      standAt pos
      holding [v, ov, iv] (setItem ov iv v)
      release [v, ov, iv] []) := by intro _; rfl) : G3 X (.Subscript o i pos) (gsub3 to ti) :=
  pg_w (pg_sub ho hi set_list ha) fun v σ H Q ⟨x, τ, G, q, rx, rl, h, af⟩ => lE_seq rl h fun y G1 h1 u H1 ry hr1 k1 rl1 => lE_seq rl1 h1 fun z G2 h2 w H2 rz hr2 k2 rl2 => by
    have rx2 := (rx.keep rl.hp k1).keep hr1 k2
    have ry2 := ry.keep hr1 k2
    unfold set3 at h2
    split at h2
    · rename_i p k
      split at h2
      · rename_i xs e
        split at h2
        · rename_i j ej
          cases ry2; cases rz
          obtain ⟨vs, g1, r1⟩ := hr2.lst e
          have kk : Kp G2 H2 (gu G2 p (.lst (xs.set j x))) (upd H2 p (.lst (vs.set j v))) := Kp.wr e
          exact ⟨p, vs, k, j, rfl, rfl, g1, by rw [← r1.length]; exact ej, af τ _ h2 σ _ (rl2.next (hr2.wr e (r1.set rx2 j)) kk) ((k1.trans k2).trans kk)⟩
        · exact h2.elim
      · exact h2.elim
    · exact h2.elim
def asg3 (te : TE3) (g : TG3) : TS3 := fun d τ G => te τ G fun x G1 => g x τ G1 d.nx
theorem s_asg {tg e : Expr} {g : TG3} (he : E3 X e te) (hg : G3 X tg g) (hs : swapsWithSole [tg] e pos.line X.env = pure false := by rfl) (hw : swappedStores [tg] e X.env = pure none := by rfl)
    (h1 : (assignEach [tg] X.env).map (·.2) = [assign tg X.env] := by rfl) : S3 X (.Assign [tg] e pos) (asg3 te g) := ps_w (ps_asg he hg hs hw h1) fun _ σ H ⟨τ, G, d, rl, h, af⟩ =>
  lE_seq rl h fun x G1 h1 v H1 rx hr1 k1 rl1 => ⟨x, τ, G1, d.nx, rx, rl1, h1, af.nx.back k1⟩
theorem s_set (i : Nat) {x : Str} {e : Expr} {pos' : Pos} (hN : X.N.Nodup) (he : E3 X e te) (hi : X.N[i]? = some x := by rfl) (hx : Loc X.env.scope x := by first | exact Or.inl rfl | exact Or.inr rfl) (hs : swapsWith e (some (.Name x pos')) pos.line X.env = pure false := by rfl) (hf : X.fn x = true ∨ X.env.scope.names.lookup x = some .local := by first | exact .inl rfl | exact .inr rfl) :
    S3 X (.Assign [.Name x pos'] e pos) (asg3 te (gn3 i)) := ps_w (ps_set hN hi hx he hs hf) fun _ σ H ⟨τ, G, d, rl, h, af⟩ =>
  lE_seq rl h fun x G1 h1 v H1 rx hr1 k1 rl1 => af.nx _ G1 h1 _ H1 (rl1.set i rx) k1
def par3 (i j : Nat) (ta : TA3) : TS3 := fun d τ G => ta τ G fun xs G1 => match xs with | [x, y] => d.nx ((τ.set i (some x)).set j (some y)) G1 | _ => False
theorem s_par {i j : Nat} {x y : Str} {a b : Expr} {tt : TA3} {px py pt : Pos} {kt k2 pt2} (hc : X.calm = true) (hN : X.N.Nodup) (hi : X.N[i]? = some x) (hj : X.N[j]? = some y) (hij : i ≠ j)
    (hx : X.env.scope.names.lookup x = some .local) (hy : X.env.scope.names.lookup y = some .local) (ha : A3 X [a, b] tt)
    (hw : swappedStores [.Tuple [.Name x px, .Name y py] kt pt] (.Tuple [a, b] k2 pt2) X.env = pure (some [x, y]) := by rfl)
    (hs : swapsWithSole [.Tuple [.Name x px, .Name y py] kt pt] (.Tuple [a, b] k2 pt2) pos.line X.env = pure false := by rfl) :
    S3 X (.Assign [.Tuple [.Name x px, .Name y py] kt pt] (.Tuple [a, b] k2 pt2) pos) (par3 i j tt) := ps_w (ps_par hc hN hi hj hij hx hy ha hw hs) fun _ σ H ⟨τ, G, d, rl, h, af⟩ =>
  lA_seq rl h fun xs G1 h1 vs H1 rs hr1 k1 rl1 => by
    split at h1
    · obtain ⟨v, u, rfl, r, r'⟩ := rps2 rs
      exact ⟨v, u, rfl, af.nx _ G1 h1 _ H1 ((rl1.set i r).set j r') k1⟩
    · exact h1.elim
end
end L3
set_option Elab.async false
set_option linter.all false
set_option maxRecDepth 100000
set_option maxHeartbeats 4000000
namespace L3
open PySem PySem.Spec PyProof.Rows L2
abbrev TI3 := St3 → Gp → (List T → (Gp → Prop) → Gp → Prop) → Prop
def ItOk (K : PySem.W.Frag) (J : It) (items : List T) (stay : Gp → Prop) (G0 : Gp) (H0 : Hp) : Prop := ∀ G H, HR K G H → Kp G0 H0 G H → stay G →
  (∀ i x, items[i]? = some x → J.go i H) ∧ (∀ i x v H', items[i]? = some x → J.yld i H v H' → Rp K H' x v ∧ HR K G H' ∧ Kp G H G H') ∧ J.stop items.length H
def lI (K : PySem.W.Frag) (wi : TI3) : TI := fun σ H R => ∃ τ G r, Rel K τ G σ H ∧ wi τ G r ∧ ∀ items stay G', r items stay G' → ∀ J H', HR K G' H' → Kp G H G' H' → ItOk K J items stay G' H' → R J H'
abbrev I3 (X : Cx) (tg iter : Expr) (wi : TI3) : Prop := PI X tg iter (lI X.K wi)
theorem pi_w {X : Cx} {tg e : Expr} {t t' : TI} (h : PI X tg e t) (w : ∀ σ H R, t' σ H R → t σ H R) : PI X tg e t' := fun pins s σ H R I q => h pins s σ H R I (w σ H R q)
section
variable {X : Cx} {a b c e l tg : Expr} {es : List Expr} {ta tb tc te : TE3} {t : TA3} {pos : Pos}
theorem pi_seq {tl : TE} (hl : PE X l tl) : PI X tg l (fun σ H R => tl σ H fun x H1 => ∃ a, x = .ref a ∧ (((∃ xs, SqL X.K H1 a xs) ∧ R (Itl X.K a) H1) ∨ ((∃ xs, SqT X.K H1 a xs) ∧ R (Itt X.K a) H1))) := by
  intro pins s σ H R I h
  refine thn (hl pins s σ H _ I h) fun v s1 ⟨x, H1, I1, r1, q1⟩ => ?_
  obtain ⟨a, e, ⟨⟨xs, hq⟩, q⟩ | ⟨⟨xs, hq⟩, q⟩⟩ := q1
  · subst e
    cases r1
    obtain ⟨its, rv, p, hz⟩ := I1.list hq
    refine wpAny_pyIter_list p.isList ?_
    refine ⟨s1.heap.objs.size, [s1.heap.objs.size], _, _, H1, rfl, I1.kept (t' := s1.toks) fun b o e => Heap.get?_push_of_some _ e, turn_list a _, ⟨_, Heap.get?_push_size _ rfl, rfl, rfl⟩, fun b hb => ?_, q⟩
    have e : b = s1.heap.objs.size := by simpa using hb
    subst e
    exact I1.fpOk (Nat.le_refl _) (I1.hok.fresh (Nat.le_refl _))
  · subst e
    cases r1
    obtain ⟨its, rv, p, hz⟩ := I1.tuple hq
    refine wpAny_pyIter_tuple (show s1.heap.IsTuple a its.toArray from p) ?_
    refine ⟨s1.heap.objs.size, [s1.heap.objs.size], _, _, H1, rfl, I1.kept (t' := s1.toks) fun b o e => Heap.get?_push_of_some _ e, turn_tuple a _, ⟨_, Heap.get?_push_size _ rfl, rfl, rfl⟩, fun b hb => ?_, q⟩
    have e : b = s1.heap.objs.size := by simpa using hb
    subst e
    exact I1.fpOk (Nat.le_refl _) (I1.hok.fresh (Nat.le_refl _))
def iseq3 (tl : TE3) : TI3 := fun τ G r => tl τ G fun x G1 => match x with
  | .tup xs => r xs (fun _ => True) G1
  | .ref p => (match getL G1 p with | some xs => r xs (fun G => getL G p = some xs) G1 | none => False)
  | _ => False
theorem itl_ok {K : PySem.W.Frag} {p : Addr} {xs : List T} {G0 : Gp} {H0 : Hp} : ItOk K (Itl K p) xs (fun G => getL G p = some xs) G0 H0 := by
  intro G H hr _ hs
  obtain ⟨vs, sq, rs⟩ := getL_sq hr hs
  refine ⟨fun i x hi => ?_, fun i x v H' hi y => ?_, ⟨vs, sq, by rw [rs.length]; exact Nat.le_refl _⟩⟩
  · obtain ⟨v, hv, _⟩ := rs.get hi
    exact ⟨vs, v, sq, hv⟩
  · obtain ⟨e, y⟩ := y
    subst e
    obtain ⟨w, hw, rw'⟩ := rs.get hi
    have e2 := (y vs sq).symm.trans hw
    cases e2
    exact ⟨rw', hr, Kp.refl⟩
theorem itt_ok {K : PySem.W.Frag} {p : Addr} {xs : List T} {vs : List V} {G0 : Gp} {H0 : Hp} (hr0 : HR K G0 H0) (sq0 : SqT K H0 p vs) (rs0 : Rps K H0 xs vs) : ItOk K (Itt K p) xs (fun _ => True) G0 H0 := by
  intro G H hr k _
  have sq := sqT_keep hr0 k sq0
  have rs := rs0.keep hr0 k
  refine ⟨fun i x hi => ?_, fun i x v H' hi y => ?_, ⟨vs, sq, by rw [rs.length]; exact Nat.le_refl _⟩⟩
  · obtain ⟨v, hv, _⟩ := rs.get hi
    exact ⟨vs, v, sq, hv⟩
  · obtain ⟨e, y⟩ := y
    subst e
    obtain ⟨w, hw, rw'⟩ := rs.get hi
    have e2 := (y vs sq).symm.trans hw
    cases e2
    exact ⟨rw', hr, Kp.refl⟩
theorem i_seq (hl : E3 X l te) : I3 X tg l (iseq3 te) := pi_w (pi_seq hl) fun σ H R ⟨τ, G, r, rl, h, af⟩ => lE_seq rl h fun x G1 h1 v H1 rx hr1 k1 rl1 => by
  cases x <;> try exact h1.elim
  case tup xs =>
    cases rx with
    | tup hs rs => exact ⟨_, rfl, .inr ⟨⟨_, hs⟩, af _ _ G1 h1 _ H1 hr1 k1 (itt_ok hr1 hs rs)⟩⟩
  case ref p =>
    simp only at h1
    split at h1
    · rename_i xs e0
      cases rx
      obtain ⟨vs, hs, rs⟩ := getL_sq hr1 e0
      exact ⟨_, rfl, .inl ⟨⟨_, hs⟩, af _ _ G1 h1 _ H1 hr1 k1 itl_ok⟩⟩
    · exact h1.elim
def rngT (lo : Int) (n : Nat) : List T := (List.range n).map fun (i : Nat) => T.int (lo + (i : Int))
theorem itr_ok {K : PySem.W.Frag} {lo : Int} {n : Nat} {G0 : Gp} {H0 : Hp} : ItOk K (Itr lo n) (rngT lo n) (fun _ => True) G0 H0 := by
  intro G H hr k _
  have hl : (rngT lo n).length = n := by simp [rngT]
  refine ⟨fun i x hi => ?_, fun i x v H' hi y => ?_, (show n ≤ (rngT lo n).length by rw [hl]; exact Nat.le_refl n)⟩
  · have := (List.getElem?_eq_some_iff.mp hi).1
    rw [hl] at this
    exact this
  · obtain ⟨e, y⟩ := y
    subst e
    subst y
    have h1 := (List.getElem?_eq_some_iff.mp hi).1
    rw [hl] at h1
    unfold rngT at hi
    rw [List.getElem?_map, List.getElem?_range h1] at hi
    have e : T.int (lo + (i : Int)) = x := by simpa using hi
    subst e
    exact ⟨.int _, hr, Kp.refl⟩
def irng3 (ta : TA3) : TI3 := fun τ G r => ta τ G fun xs G1 => match xs with
  | [.int j] => (-(2 ^ 62) ≤ j ∧ j < 2 ^ 62) ∧ r (rngT 0 j.toNat) (fun _ => True) G1
  | [.int i, .int j] => (-(2 ^ 62) ≤ i ∧ i < 2 ^ 62 ∧ -(2 ^ 62) ≤ j ∧ j < 2 ^ 62) ∧ r (rngT i (j - i).toNat) (fun _ => True) G1
  | _ => False
theorem i_range1 {p : Pos} (hg : Gl X "range") (hm : X.mg "range" = none) (ha : A3 X [a] t) (hs : starEach [a] X.env = [(false, eval a X.env)] := by rfl) (h1 : ∀ τ G q, t τ G q → t τ G fun xs G => q xs G ∧ xs.length = 1) : I3 X tg (.Call (.Name "range" p) [a] [] pos) (irng3 t) :=
  pi_w (pi_range1 hg hm ha hs) fun σ H R ⟨τ, G, r, rl, h, af⟩ => lA_seq rl (h1 _ _ _ h) fun xs G1 h1 vs H1 rs hr1 k1 rl1 => by
    obtain ⟨h1, hl⟩ := h1
    simp only at h1
    split at h1
    · obtain ⟨v, rfl, r1⟩ := rps1 rs
      cases r1
      exact ⟨_, rfl, h1.1.1, h1.1.2, af _ _ G1 h1.2 _ H1 hr1 k1 itr_ok⟩
    · simp at hl
    · exact h1.elim
theorem i_range2 {p : Pos} (hg : Gl X "range") (hm : X.mg "range" = none) (ha : A3 X [a, b] t) (hs : starEach [a, b] X.env = [(false, eval a X.env), (false, eval b X.env)] := by rfl) (hs2 : starEach [b] X.env = [(false, eval b X.env)] := by rfl) (h1 : ∀ τ G q, t τ G q → t τ G fun xs G => q xs G ∧ xs.length = 2) : I3 X tg (.Call (.Name "range" p) [a, b] [] pos) (irng3 t) :=
  pi_w (pi_range2 hg hm ha hs hs2) fun σ H R ⟨τ, G, r, rl, h, af⟩ => lA_seq rl (h1 _ _ _ h) fun xs G1 h1 vs H1 rs hr1 k1 rl1 => by
    obtain ⟨h1, hl⟩ := h1
    simp only at h1
    split at h1
    · simp at hl
    · obtain ⟨v, u, rfl, r1, r2⟩ := rps2 rs
      cases r1; cases r2
      exact ⟨_, _, rfl, h1.1, af _ _ G1 h1.2 _ H1 hr1 k1 itr_ok⟩
    · exact h1.elim
def forGo (stay : Gp → Prop) (g : TG3) (tb : TS3) (d : Ends3) : List T → St3 → Gp → Prop
  | [], τ, G => stay G ∧ d.nx τ G
  | x :: r, τ, G => stay G ∧ g x τ G fun τ2 G2 => tb { d with nx := forGo stay g tb d r, ct := forGo stay g tb d r, bk := d.nx } τ2 G2
def for3 (wi : TI3) (g : TG3) (tb : TS3) : TS3 := fun d τ G => wi τ G fun items stay G1 => forGo stay g tb d items τ G1
theorem s_for {iter : Expr} {body : List Stmt} {wi : TI3} {g : TG3} {tb : TS3} (hp : PassesOwn (model X.prog X.w) X.A X.env X.xe) (hc : X.calm = true) (hi : I3 X tg iter wi) (hg : G3 X tg g) (hb : B3 X body tb)
    (hs : ∀ x, foldedSetIterable iter X.env x = pure x := by intro _; rfl) : S3 X (.For tg iter body [] pos) (for3 wi g tb) :=
  ps_w (ps_for hp hc hi hg hb hs) fun D σ H ⟨τ, G, d, rl, h, af⟩ => by
    refine ⟨τ, G, _, rl, h, fun items stay G1 h1 J H1 hr1 k1 ok => ?_⟩
    refine ⟨fun i m σ' H' => m = items.length - i ∧ i ≤ items.length ∧ ∃ τ' G', Rel X.K τ' G' σ' H' ∧ Kp G1 H1 G' H' ∧ forGo stay g tb d (items.drop i) τ' G', ⟨_, rfl, Nat.zero_le _, τ, G1, rl.next hr1 k1, Kp.refl, by simpa using h1⟩, ?_⟩
    rintro i m σ' H' ⟨rfl, hi, τ', G', rl', k', h'⟩
    by_cases hlt : i < items.length
    · rw [List.drop_eq_getElem_cons hlt] at h'
      obtain ⟨hst, h'⟩ := h'
      obtain ⟨go, yld, _⟩ := ok G' H' rl'.hp k' hst
      have hx : items[i]? = some items[i] := List.getElem?_eq_getElem hlt
      refine .inr ⟨go i _ hx, fun σ2 H2 => ∃ τ2 G2, Rel X.K τ2 G2 σ2 H2 ∧ Kp G1 H1 G2 H2 ∧ forGo stay g tb d (items.drop (i + 1)) τ2 G2, fun σ2 H2 h2 => ⟨_, by omega, rfl, hlt, h2⟩, fun v H2 y => ?_⟩
      obtain ⟨rv, hr2, k2⟩ := yld i _ v H2 hx y
      have k3 : Kp G1 H1 G' H2 := k'.trans k2
      refine ⟨_, τ', G', _, rv, rl'.next hr2 k2, h', fun τ3 G3 h3 σ3 H3 rl3 k4 => ?_⟩
      have k5 : Kp G H G3 H3 := (k1.trans k3).trans k4
      refine ⟨τ3, G3, _, rl3, h3, ⟨fun τ4 G4 h4 σ4 H4 rl4 k6 => ⟨τ4, G4, rl4, (k3.trans k4).trans k6, h4⟩, af.rt.back k5, af.nx.back k5, fun τ4 G4 h4 σ4 H4 rl4 k6 => ⟨τ4, G4, rl4, (k3.trans k4).trans k6, h4⟩⟩⟩
    · have e : i = items.length := by omega
      subst e
      rw [List.drop_length] at h'
      obtain ⟨_, _, stop⟩ := ok G' H' rl'.hp k' h'.1
      exact .inl ⟨stop, af.nx τ' G' h'.2 σ' H' rl' (k1.trans k')⟩
theorem forGo_inv {stay : Gp → Prop} {g : TG3} {tb : TS3} {d : Ends3} (items : List T) (Pv : Nat → St3 → Gp → Prop) {τ : St3} {G : Gp} (h0 : Pv 0 τ G) (hst : ∀ i τ G, i ≤ items.length → Pv i τ G → stay G)
    (hs : ∀ i x τ G (nx : St3 → Gp → Prop), items[i]? = some x → Pv i τ G → (∀ τ G, Pv (i + 1) τ G → nx τ G) → g x τ G fun τ2 G2 => tb { d with nx := nx, ct := nx, bk := d.nx } τ2 G2)
    (hd : ∀ τ G, Pv items.length τ G → d.nx τ G) : forGo stay g tb d items τ G := by
  have key : ∀ (r : List T) (i : Nat) τ G, items.drop i = r → i ≤ items.length → Pv i τ G → forGo stay g tb d r τ G := by
    intro r
    induction r with
    | nil =>
      intro i τ G e hi p
      have : i = items.length := by have := congrArg List.length e; simp at this; omega
      subst this
      exact ⟨hst _ τ G hi p, hd τ G p⟩
    | cons x r ih =>
      intro i τ G e hi p
      have hl : i < items.length := by
        apply Classical.byContradiction
        intro z
        rw [List.drop_eq_nil_of_le (by omega)] at e
        cases e
      have e' := List.drop_eq_getElem_cons hl
      rw [e] at e'
      injection e' with e1 e2
      refine ⟨hst i τ G hi p, hs i x τ G _ (by rw [List.getElem?_eq_getElem hl, e1]) p fun τ2 G2 p2 => ih (i + 1) τ2 G2 e2.symm hl p2⟩
  exact key items 0 τ G (by simp) (Nat.zero_le _) h0
abbrev Sp3 := List T → Gp → Q3 → Prop
def lSp (K : PySem.W.Frag) (sp : Sp3) : Sp := fun vs H Q _ => ∃ ts G q, HR K G H ∧ Rps K H ts vs ∧ sp ts G q ∧ Aft K G H q Q
def Fn3 (P : Program) (w : World) (K : PySem.W.Frag) (mg : Str → Option Value) (base : Heap) (k : Nat) (x : Str) (sp : Sp3) : Prop :=
  ∃ f fd ps, FnOk P w K mg base CX0 k f fd ps (lSp K sp) ∧ Binds K fd ps [] ∧ PySem.W.keepIn K (.ref f) = true ∧ mg x = some (.ref f)
theorem Fn3.mono {P : Program} {w : World} {K : PySem.W.Frag} {mg : Str → Option Value} {base : Heap} {j k : Nat} {x : Str} {sp : Sp3} (F : Fn3 P w K mg base j x sp) (h : j ≤ k) : Fn3 P w K mg base k x sp :=
  let ⟨f, fd, ps, a, b, c, d⟩ := F; ⟨f, fd, ps, a.mono h, b, c, d⟩
theorem e_call {k : Nat} {x : Str} {p : Pos} {sp : Sp3} (F : Fn3 X.prog X.w X.K X.mg X.base k x sp) (hr : Room k X.A) (hg : Gl X x) (ha : A3 X (e :: es) t) (hdb : (x == ("__debug__" : Str)) = false := by decide)
    (he : starEach (e :: es) X.env = (false, eval e X.env) :: starEach es X.env := by rfl) (hpl : (backTo pos (starEach es X.env)).any (·.1) = false := by rfl) : E3 X (.Call (.Name x p) (e :: es) [] pos) (cb3 sp t) := by
  obtain ⟨f, fd, ps, F, b, kp, m⟩ := F
  refine pe_w (pe_call F hr hg m kp b .nil pass0 ha hdb he hpl) fun σ H Q ⟨τ, G, q, rl, h, af⟩ => lA_seq rl h fun xs G1 h1 vs H1 rs hr1 k1 rl1 => ?_
  rw [List.append_nil]
  exact ⟨xs, G1, q, hr1, rs, h1, af.back k1⟩
def start3 (N : List Str) (ts : List T) : St3 := ts.map some ++ List.replicate (N.length - ts.length) none
theorem rel_start {K : PySem.W.Frag} {N : List Str} {G : Gp} {H : Hp} {ts : List T} {vs : List V} (hr : HR K G H) (rs : Rps K H ts vs) : Rel K (start3 N ts) G (L2.start N vs) H := by
  refine ⟨hr, by simp [start3, L2.start, rs.length], fun i t e => ?_⟩
  unfold start3 at e
  by_cases hi : i < ts.length
  · rw [List.getElem?_append_left (by simpa using hi), List.getElem?_map] at e
    cases q : ts[i]? with
    | none => rw [q] at e; cases e
    | some z =>
      rw [q] at e
      have e' : z = t := by simpa using e
      subst e'
      obtain ⟨v, hv, r⟩ := rs.get q
      refine ⟨v, ?_, r⟩
      unfold L2.start
      rw [List.getElem?_append_left (by rw [List.length_map, ← rs.length]; exact hi), List.getElem?_map, hv]
      rfl
  · rw [List.getElem?_append_right (by simpa using hi), List.getElem?_replicate] at e
    split at e <;> cases e
theorem fn3_of {P : Program} {w : World} {K : PySem.W.Frag} {mg : Str → Option Value} {base : Heap} {x qual : Str} {st : Stmt} {f : Addr} {fd : FuncData} {N ps : List Str} {k : Nat} {sp : Sp3} {t3 : TS3} (F : Fun K x qual st f fd) (S : FnScope N ps (defScope st)) (bd : Binds K fd ps []) (hm : mg x = some (.ref f))
    (body : ∀ (cdv : Value) (A : Around) (outer : List Env) (s : Shared) (H : Hp) (E : XK), Room k (A.deeper (envOfC qual (defScope st) s.heap.objs.size f cdv)) →
      B3 (cxOf CX0 P w K mg base N qual (defScope st) f cdv A outer s H E).nox (defBody st) t3)
    (read : ∀ ts G q, sp ts G q → ts.length = ps.length ∧ t3 { nx := fun _ G' => q .non G', rt := q } (start3 N ts) G) : Fn3 P w K mg base (k + 1) x sp := by
  refine ⟨f, fd, ps, F.ok S (fun vs H Q E ⟨ts, G, q, h1, h2, h3, h4⟩ => by rw [← h2.length]; exact (read ts G q h3).1) fun cdv A outer s H vs Q E hr ⟨ts, G, q, h1, h2, h3, h4⟩ => ?_, bd, F.kp, hm⟩
  refine ⟨_, body cdv A outer s H E hr, start3 N ts, G, _, rel_start h1 h2, (read ts G q h3).2, ⟨fun τ' G' h' σ' H' rl' k' => h4 _ G' h' _ H' .non rl'.hp k', h4, fun _ _ z => z.elim, fun _ _ z => z.elim⟩⟩
def allB (xs : List T) : Option Bool := match xs with
  | [] => some true
  | .bl k :: r => (match allB r with | some j => some (k && j) | none => none)
  | _ => none
def anyB (xs : List T) : Option Bool := match xs with
  | [] => some false
  | .bl k :: r => (match anyB r with | some j => some (k || j) | none => none)
  | _ => none
theorem truth_of {P : Program} {w : World} {A : Around} {its : List Value} {ks : List Bool} (h : its = ks.map Value.bool) : TruthOf P w A (fun i v => its.toArray[i]? = some v) (fun i => ks.getD i true) := by
  intro i v s Q E hp hq
  subst h
  have hp' : ks[i]?.map Value.bool = some v := by simpa using hp
  cases e : ks[i]? with
  | none => rw [e] at hp'; cases hp'
  | some k =>
    rw [e] at hp'
    cases hp'
    have : ks.getD i true = k := by rw [List.getD_eq_getElem?_getD, e]; rfl
    have hq : Q (ks.getD i true) s := hq
    rw [this] at hq
    exact wpAny_truthy_bool hq
theorem vals_bools : ∀ {ks : List Bool} {us : List Value}, Vals (ks.map V.bl) us → us = ks.map Value.bool
  | [], _, r => by cases r; rfl
  | k :: ks, _, r => by
    cases r with
    | cons a b => rw [show _ = Value.bool k from a, vals_bools b]; rfl
theorem range_all (ks : List Bool) : ((List.range ks.length).all fun i => ks.getD i true) = ks.all id := by
  induction ks with
  | nil => rfl
  | cons k ks ih =>
    rw [List.length_cons, List.range_succ_eq_map, List.all_cons, List.all_map, List.all_cons]
    congr 1
theorem call_all_bools (hc : X.calm = true) : CallR X (.builtin "all") (fun xs H Q => ∃ (p : Addr) (ks : List Bool), xs = [.ref p] ∧ SqL X.K H p (ks.map V.bl) ∧ Q (.bl (ks.all id)) H) := by
  intro pins s σ H xs us Q I r h
  obtain ⟨p, ks, rfl, hq, q⟩ := h
  obtain ⟨u, rfl, rp⟩ := vals1 r
  cases (show u = Value.ref p from rp)
  obtain ⟨its, rv, pl, hz⟩ := I.list hq
  have hb := vals_bools rv
  have hlen : its.length = ks.length := by rw [hb]; simp
  have hp : p < s.heap.objs.size := by obtain ⟨o, n, e, _⟩ := pl; exact Heap.lt_size e
  refine call_all_walk (wpAny_pyIter_list pl.isList ⟨s.heap.objs.size, _, _, _, _, _, fun i => ks.getD i true, rfl, Walks.list (A := X.A.in1) (show X.A.in1.handled = none from I.ok.hd hc) s.heap.objs.size p (Nat.ne_of_lt hp) its.toArray, ⟨⟨_, Heap.get?_push_size _ rfl, rfl, rfl⟩, ?_⟩, truth_of hb, fun h' tk hk => ?_⟩)
  · obtain ⟨o, n, e, c, _, d⟩ := pl
    exact ⟨o, Heap.get?_push_of_some _ e, c, n, d⟩
  · refine ⟨.bl _, H, ?_, rfl, by rw [List.size_toArray, hlen, range_all]; exact q⟩
    exact I.kept (h' := h') (t' := tk) fun b o e => hk b o (by simp; exact Nat.ne_of_lt (Heap.lt_size e)) (Heap.get?_push_of_some _ e)
end
end L3
set_option Elab.async false
set_option linter.all false
set_option maxRecDepth 100000
set_option maxHeartbeats 4000000
namespace L3
open PySem PySem.Spec PyProof.Rows L2
def clos (env : Env) : List (Str × NameKind) → List (Str × Addr) → List (Str × Addr)
  | [], cs => cs
  | (n, k) :: r, cs => if k = .free then clos env r ((n, (env.cells.lookup n).getD 0) :: cs) else clos env r cs
theorem closureFor_eq {scope : Scope} {env : Env} (h : ∀ y ∈ scope.names, y.2 = .free → ∃ c, env.cells.lookup y.1 = some c) : closureFor scope env = pure (clos env scope.names []) := by
  have key : ∀ (l : List (Str × NameKind)) (cs : List (Str × Addr)), (∀ y ∈ l, y.2 = .free → ∃ c, env.cells.lookup y.1 = some c) →
      (forIn l cs fun (x : Str × NameKind) (r : List (Str × Addr)) => if (x.2 == NameKind.free) = true then (do let a ← cellOf env x.1; pure (ForInStep.yield ((x.1, a) :: r))) else pure (ForInStep.yield r)) = (pure (clos env l cs) : Sem _) := by
    intro l
    induction l with
    | nil => intro cs _; rfl
    | cons y r ih =>
      intro cs hl
      obtain ⟨n, k⟩ := y
      rw [List.forIn_cons]
      by_cases hk : k = .free
      · subst hk
        obtain ⟨c, hc⟩ := hl (n, .free) List.mem_cons_self rfl
        have e : cellOf env n = pure c := by unfold cellOf; rw [show List.lookup n env.cells = some c from hc]
        simp only [beq_self_eq_true, if_true]
        rw [e, pure_bind, pure_bind]
        show forIn r ((n, c) :: cs) _ = _
        rw [ih _ fun z hz => hl z (List.mem_cons_of_mem _ hz)]
        show _ = (pure (if NameKind.free = NameKind.free then clos env r ((n, (env.cells.lookup n).getD 0) :: cs) else clos env r cs) : Sem _)
        rw [if_pos rfl, show List.lookup n env.cells = some c from hc]
        rfl
      · have hb : (k == NameKind.free) = false := by cases k <;> first | rfl | exact absurd rfl hk
        simp only [hb, Bool.false_eq_true, if_false]
        rw [pure_bind]
        show forIn r cs _ = _
        rw [ih _ fun z hz => hl z (List.mem_cons_of_mem _ hz)]
        show _ = (pure (if k = NameKind.free then clos env r ((n, (env.cells.lookup n).getD 0) :: cs) else clos env r cs) : Sem _)
        rw [if_neg hk]
  have := key scope.names [] h
  unfold closureFor
  refine Eq.trans ?_ this
  exact bind_pure (m := Sem) _
theorem clos_lookup {env : Env} : ∀ (l : List (Str × NameKind)) (cs : List (Str × Addr)) (x : Str) (c : Addr), (∀ y ∈ l, y.2 = .free → ∃ c, env.cells.lookup y.1 = some c) →
    (∀ x c, cs.lookup x = some c → env.cells.lookup x = some c) → (clos env l cs).lookup x = some c → env.cells.lookup x = some c
  | [], _, _, _, _, h, e => h _ _ e
  | (n, k) :: r, cs, x, c, hl, h, e => by
    unfold clos at e
    split at e
    · rename_i hk
      refine clos_lookup r _ x c (fun y hy => hl y (List.mem_cons_of_mem _ hy)) (fun x c e => ?_) e
      rw [List.lookup_cons] at e
      split at e
      · rename_i hx
        have hx' : x = n := by simpa using hx
        subst hx'
        obtain ⟨d, hd⟩ := hl (x, k) List.mem_cons_self hk
        have hd : List.lookup x env.cells = some d := hd
        rw [hd] at e ⊢
        exact e
      · exact h _ _ e
    · exact clos_lookup r cs x c (fun y hy => hl y (List.mem_cons_of_mem _ hy)) h e
theorem clos_has {env : Env} : ∀ (l : List (Str × NameKind)) (cs : List (Str × Addr)) (x : Str), ((x, NameKind.free) ∈ l ∨ ∃ c, cs.lookup x = some c) → ∃ c, (clos env l cs).lookup x = some c
  | [], _, _, h => by
    rcases h with h | h
    · simp at h
    · exact h
  | (n, k) :: r, cs, x, h => by
    unfold clos
    have put : ∀ d : Addr, (x = n ∨ ∃ c, cs.lookup x = some c) → ∃ c, ((n, d) :: cs).lookup x = some c := fun d z => by
      rw [List.lookup_cons]
      cases hx : x == n with
      | true => exact ⟨d, rfl⟩
      | false =>
        rcases z with z | z
        · rw [z] at hx; simp at hx
        · exact z
    split
    · rename_i hk
      refine clos_has r _ x ?_
      rcases h with h | h
      · rcases List.mem_cons.mp h with e | e
        · cases e; exact .inr (put _ (.inl rfl))
        · exact .inl e
      · exact .inr (put _ (.inr h))
    · rename_i hk
      refine clos_has r _ x ?_
      rcases h with h | h
      · rcases List.mem_cons.mp h with e | e
        · cases e; exact absurd rfl hk
        · exact .inl e
      · exact .inr h
def cxComp (X : Cx) (N' : List Str) (scope : Scope) (s : Shared) (H : Hp) (fp : List Addr) : Cx where
  prog := X.prog
  w := X.w
  K := X.K
  mg := X.mg
  base := X.base
  A := X.A
  N := N'
  s₀ := s
  H₀ := H
  env := compEnvC scope (clos X.env scope.names []) s.heap.objs.size X.env
  outer := X.stack
  stack := X.stack
  ex := fp
  fn := fun _ => false
  calm := true
  pn := []
  xe := fun _ _ => False
def scOk (outer inner : Scope) : Bool := (inner.kind == .function) && inner.names.all fun y =>
  (y.2 != .cell) && (y.2 != .local || inner.names.lookup y.1 == some .local) && (y.2 != .free || (inner.names.lookup y.1 == some .free && (outer.names.lookup y.1 == some .cell || outer.names.lookup y.1 == some .free)))
def cap {α : Type} (m : List (Option Nat)) (σ : List (Option α)) : List (Option α) := m.map fun o => match o with | some j => (σ[j]?).join | none => none
def capOk (N N' : List Str) (scope : Scope) (m : List (Option Nat)) : Bool := (m.length == N'.length) && (m.zip N').all fun p => match p.1 with
  | none => true
  | some j => N[j]? == some p.2 && scope.names.lookup p.2 == some .free
theorem cap_get {α : Type} {m : List (Option Nat)} {σ : List (Option α)} {i : Nat} {v : α} (h : (cap m σ)[i]? = some (some v)) : ∃ j, m[i]? = some (some j) ∧ σ[j]? = some (some v) := by
  unfold cap at h
  rw [List.getElem?_map] at h
  cases e : m[i]? with
  | none => rw [e] at h; cases h
  | some o =>
    rw [e] at h
    cases o with
    | none => cases h
    | some j =>
      refine ⟨j, rfl, ?_⟩
      have h' : (σ[j]?).join = some v := by simpa using h
      cases q : σ[j]? with
      | none => rw [q] at h'; cases h'
      | some z => rw [q] at h'; exact congrArg some h'
theorem capOk_get {N N' : List Str} {scope : Scope} {m : List (Option Nat)} (h : capOk N N' scope m = true) {i j : Nat} {x : Str} (e : m[i]? = some (some j)) (hx : N'[i]? = some x) : N[j]? = some x ∧ scope.names.lookup x = some .free := by
  unfold capOk at h
  rw [Bool.and_eq_true] at h
  have hm : (some j, x) ∈ m.zip N' := List.mem_of_getElem? (i := i) (List.getElem?_zip_eq_some.mpr ⟨e, hx⟩)
  have := List.all_eq_true.mp h.2 _ hm
  simp only [Bool.and_eq_true, beq_iff_eq] at this
  exact this
theorem cap_len {N N' : List Str} {scope : Scope} {m : List (Option Nat)} {α : Type} (σ : List (Option α)) (h : capOk N N' scope m = true) : (cap m σ).length = N'.length := by
  unfold capOk at h
  rw [Bool.and_eq_true] at h
  unfold cap
  rw [List.length_map]
  simpa using h.1
structure ScFacts (outer inner : Scope) : Prop where
  kind : inner.kind = .function
  nocell : ∀ y ∈ inner.names, y.2 ≠ .cell
  loc : ∀ y ∈ inner.names, y.2 = .local → inner.names.lookup y.1 = some .local
  free : ∀ y ∈ inner.names, y.2 = .free → inner.names.lookup y.1 = some .free ∧ (outer.names.lookup y.1 = some .cell ∨ outer.names.lookup y.1 = some .free)
theorem scOk_facts {outer inner : Scope} (h : scOk outer inner = true) : ScFacts outer inner := by
  unfold scOk at h
  rw [Bool.and_eq_true] at h
  have ha := List.all_eq_true.mp h.2
  refine ⟨by simpa using h.1, fun y hy e => ?_, fun y hy e => ?_, fun y hy e => ?_⟩
  · have := ha y hy
    rw [e] at this
    simp at this
  · have := ha y hy
    rw [e] at this
    simpa using this
  · have := ha y hy
    rw [e] at this
    simpa using this
theorem relabel_lookup {scope : Scope} {env : Env} {x : Str} {k : NameKind} (h : (relabel scope env).names.lookup x = some k) : scope.names.lookup x = some k ∨ (k = .cell ∧ scope.names.lookup x = some .free) := by
  have key : ∀ (l : List (Str × NameKind)), (l.map fun (n, k) => if (k == NameKind.free && env.scope.kind == .function && env.kindOf n == some .cell) then (n, NameKind.cell) else (n, k)).lookup x = some k → l.lookup x = some k ∨ (k = .cell ∧ l.lookup x = some .free) := by
    intro l
    induction l with
    | nil => intro h; simp at h
    | cons y r ih =>
      intro h
      obtain ⟨n, j⟩ := y
      rw [List.map_cons] at h
      dsimp only at h
      by_cases hc : (j == NameKind.free && env.scope.kind == .function && env.kindOf n == some .cell) = true
      · rw [if_pos hc, List.lookup_cons] at h
        rw [List.lookup_cons]
        cases hx : x == n with
        | true =>
          rw [hx] at h
          have hk : NameKind.cell = k := by simpa using h
          have hj : j = .free := by simp only [Bool.and_eq_true, beq_iff_eq] at hc; exact hc.1.1
          exact .inr ⟨hk.symm, by rw [hj]⟩
        | false => rw [hx] at h; exact ih h
      · rw [if_neg hc, List.lookup_cons] at h
        rw [List.lookup_cons]
        cases hx : x == n with
        | true => rw [hx] at h; exact .inl h
        | false => rw [hx] at h; exact ih h
  exact key scope.names h
def PF (X : Cx) (ifs : List Expr) (t : TT) : Prop :=
  ∀ (pins : List (Addr × Obj)) (s : Shared) (σ : L2.St) (H : Hp) (Q : Bool → Hp → Prop), Inv X pins σ H s → t σ H Q →
    wpAny (model X.prog X.w) X.A (forIn ifs true fun c r => if r = true then do let ok ← isTrue c X.env (eval c X.env); pure (ForInStep.yield ok) else pure (ForInStep.yield r)) (TP X pins σ Q) X.xe s
theorem pf_nil {X : Cx} : PF X [] (fun _ H Q => Q true H) := fun _ _ _ H _ I h => wpAny_tests_nil ⟨H, I, h⟩
theorem pf_one {X : Cx} {c : Expr} {t : TT} (h : PT X c t) : PF X [c] t := fun pins s σ H Q I q => wpAny_tests_one (h pins s σ H Q I q)
section
variable {X : Cx} {pins : List (Addr × Obj)} {σ : L2.St} {H : Hp} {s : Shared}
theorem inv_comp {N' : List Str} {scope : Scope} {fp : List Addr} {m : List (Option Nat)} {h1 : Heap} {mm : Str → Option Value} (hc : X.calm = true) (I : Inv X pins σ H s) (sc : ScFacts X.env.scope scope) (hcap : capOk X.N N' scope m = true)
    (hfp : ∀ b ∈ fp, FpOk X pins H b) (hob : ∀ b ∈ fp, ∃ o, s.heap.get? b = some o) (hns : h1.Ns s.heap.objs.size mm) (hk : ∀ b o, s.heap.get? b = some o → h1.get? b = some o) :
    Inv (cxComp X N' scope s H fp) [] (cap m σ) H { s with heap := h1 } := by
  have hcl : ∀ y ∈ scope.names, y.2 = .free → ∃ c, X.env.cells.lookup y.1 = some c := fun y hy e => by
    rcases (sc.free y hy e).2 with z | z
    · exact I.ok.has y.1 (.inl z)
    · exact I.ok.has y.1 (.inr z)
  have cl : ∀ x c, (clos X.env scope.names []).lookup x = some c → X.env.cells.lookup x = some c := fun x c e => clos_lookup scope.names [] x c hcl (fun _ _ z => by simp at z) e
  have fpne : ∀ b ∈ fp, b ≠ s.heap.objs.size := fun b hb => let ⟨o, e⟩ := hob b hb; Nat.ne_of_lt (Heap.lt_size e)
  refine ⟨⟨I.ok.mod, sc.kind, I.ok.glob, I.ok.blt, Nat.le_refl _, fun x y c e1 e2 => I.ok.inj x y c (cl x c e1) (cl y c e2), fun x hx => ?_, fun x c hf => (by cases hf), fun _ => I.ok.hd hc, I.ok.frames, .inl rfl, fun b hb => ⟨fpne b hb, fun x c e => (hfp b hb).2.2.2.2.1 x c (cl x c e)⟩, I.bs, Nat.le_trans I.ok.bsz I.sz, fun b o e hb => ?_, fun b hb z => ?_, I.stack, I.stkFree⟩,
    rfl, I.bare, Un.kept hk, ⟨mm, hns, fun i x v e1 e2 e3 => ?_⟩, fun x c e => ?_, I.fresh, fun x c e => I.freeC x c (cl x c e), fun p hp => absurd (show p ∈ ([] : List (Addr × Obj)) from hp) (by simp), I.hok.kept hk, cap_len σ hcap⟩
  · have hx : (relabel scope X.env).names.lookup x = some .cell ∨ (relabel scope X.env).names.lookup x = some .free := hx
    have hf : scope.names.lookup x = some .free := by
      rcases hx with z | z
      · rcases relabel_lookup z with q | ⟨_, q⟩
        · exact absurd rfl (sc.nocell _ (PySem.mem_of_lookup q))
        · exact q
      · rcases relabel_lookup z with q | ⟨q, _⟩
        · exact q
        · cases q
    exact clos_has scope.names [] x (.inl (PySem.mem_of_lookup hf))
  · rcases (hfp b hb).2.2.2.1 with z | z
    · exact I.ok.noex b o e z
    · exact absurd (Nat.lt_of_lt_of_le (Heap.lt_size e) (Nat.le_trans I.ok.bsz z)) (Nat.lt_irrefl _)
  · rcases List.mem_cons.mp (I.stkSub b z) with q | q
    · exact (hfp b hb).2.1 q
    · exact (hfp b hb).2.2.1 q
  · obtain ⟨j, ej, es⟩ := cap_get e2
    obtain ⟨hN, hfr⟩ := capOk_get hcap ej e1
    have mem := PySem.mem_of_lookup hfr
    have ho := (sc.free _ mem rfl).2
    obtain ⟨m0, hn0, hl0⟩ := I.loc
    obtain ⟨u, ru, lk⟩ := hl0 j x v hN es (ho.elim (fun z => .inr (.inl z)) fun z => .inr (.inr z))
    refine ⟨u, ru, .inr ⟨?_, ?_⟩⟩
    · rcases e3 with z | z | z
      · rcases relabel_lookup z with q | ⟨q, _⟩
        · rw [hfr] at q; cases q
        · cases q
      · exact .inl z
      · exact .inr z
    · rcases lk with ⟨z, _⟩ | ⟨_, c, hc', hcell⟩
      · have z : X.env.scope.names.lookup x = some .local := z
        rcases ho with q | q <;> (rw [z] at q; cases q)
      · obtain ⟨c', hc2⟩ := clos_has (env := X.env) scope.names [] x (.inl mem)
        have e := cl x c' hc2
        rw [hc'] at e
        cases e
        obtain ⟨o, eo, d⟩ := hcell
        exact ⟨c, hc2, o, hk c o eo, d⟩
  · obtain ⟨v, o, eo, d⟩ := I.cell x c (cl x c e)
    exact ⟨v, o, hk c o eo, d⟩
theorem inv_uncomp {N' : List Str} {scope : Scope} {fp : List Addr} {pins' : List (Addr × Obj)} {σ' : L2.St} {H' : Hp} {s' : Shared} {h2 : Heap} (I : Inv X pins σ H s) (hfp : ∀ b ∈ fp, FpOk X pins H b) (J : Inv (cxComp X N' scope s H fp) pins' σ' H' s')
    (sb : Heap.SameBut s.heap.objs.size s'.heap h2) : Inv X pins σ H' { s' with heap := h2 } := by
  have ne : ∀ b o, s.heap.get? b = some o → b ≠ s.heap.objs.size := fun b o e => Nat.ne_of_lt (Heap.lt_size e)
  have g : ∀ b, b ≠ s.heap.objs.size → h2.get? b = s'.heap.get? b := fun b hb => sb.2 b hb
  have hn : H' s.heap.objs.size = none := J.free
  have u : Un (frs X.stack) fp H H' s.heap s'.heap := J.base
  refine I.call' (s' := { s' with heap := h2 }) J.os ⟨fun b o e n hb hx => ?_, fun b o e n hb hx => ?_, u.free, fun b o e hx => ?_, u.tups, u.frzs, u.tbls⟩ (fun a o e => ?_) J.bare fun b hb => ⟨(hfp b hb).2.2.2.1, (hfp b hb).2.1, (hfp b hb).2.2.2.2.1, (hfp b hb).2.2.2.2.2⟩
  · show h2.get? b = _
    rw [g b (ne b o e)]; exact u.keep b o e n hb hx
  · show ∃ sl, h2.get? b = _
    rw [g b (ne b o e)]; exact u.slot b o e n hb hx
  · show ∃ o', h2.get? b = _
    rw [g b (ne b o e)]; exact u.there b o e hx
  · refine (J.hok a o e).stay (fun b v hb q => ?_) (fun _ q => q) fun _ _ q => q
    have hb' : b ≠ s.heap.objs.size := by
      intro z
      subst z
      rcases hb with z | z
      · rw [← z] at e; rw [hn] at e; cases e
      · rw [hn] at z; cases z
    rw [g b hb']; exact q
end
end L3
set_option Elab.async false
set_option linter.all false
set_option maxRecDepth 100000
set_option maxHeartbeats 4000000
namespace L3
open PySem PySem.Spec PyProof.Rows L2
def tLC (wi : TI) (g : TG) (tif : TT) (te : TE) (m : List (Option Nat)) : TE := fun σ H Q => wi σ H fun J H1 => ∀ D, H1 D = none →
  ∃ W : Nat → Nat → L2.St → Hp → Prop, (∃ n, W 0 n (cap m σ) (upd H1 D (.lst []))) ∧ ∀ i n σ H, W i n σ H →
    (J.stop i H ∧ Q (.ref D) H) ∨ (J.go i H ∧ ∀ x H', J.yld i H x H' → g x σ H' fun σ2 H2 => tif σ2 H2 fun k H3 =>
      if k = true then te σ2 H3 fun y H4 => ∃ zs, H4 D = some (.lst zs) ∧ zs.length < sizeLine ∧ ∃ n', n' < n ∧ W (i + 1) n' σ2 (upd H4 D (.lst (zs ++ [y])))
      else ∃ n', n' < n ∧ W (i + 1) n' σ2 H3)
section
variable {X : Cx}
theorem pe_lc {elt tg iter : Expr} {ifs : List Expr} {scope : Scope} {pos : Pos} {N' : List Str} {m : List (Option Nat)} {wi : TI} {g : TG} {tif : TT} {te : TE} (hc : X.calm = true) (hi : PI X tg iter wi)
    (hg : ∀ s H fp, PG (cxComp X N' scope s H fp) tg g) (hf : ∀ s H fp, PF (cxComp X N' scope s H fp) ifs tif) (he : ∀ s H fp, PE (cxComp X N' scope s H fp) elt te)
    (hsc : scOk X.env.scope scope = true) (hcap : capOk X.N N' scope m = true) (hs : ∀ x, foldedSetIterable iter X.env x = pure x := by intro _; rfl) :
    PE X (.ListComp elt [⟨tg, iter, ifs, 0⟩] scope pos) (tLC wi g tif te m) := by
  intro pins s σ H Q I h
  have sc := scOk_facts hsc
  have hcl : ∀ y ∈ scope.names, y.2 = .free → ∃ c, X.env.cells.lookup y.1 = some c := fun y hy e => by
    rcases (sc.free y hy e).2 with z | z
    · exact I.ok.has y.1 (.inl z)
    · exact I.ok.has y.1 (.inr z)
  rw [eval_ListComp]
  refine wpAny_comprehension_free (use := none) (g := ⟨tg, iter, ifs, 0⟩) (gs := []) rfl hs (closureFor_eq hcl) sc.kind sc.loc ?_
  show wpAny _ _ (eval iter X.env) _ _ s
  refine thn (hi pins s σ H _ I h) fun v s1 h1 => thn h1 fun itv s2 h2 => ?_
  obtain ⟨it, fp, tn, J, H2, rfl, I2, T, st2, f2, hW⟩ := h2
  refine wpAny_newObj_type ?_
  have hD : H2 s2.heap.objs.size = none := I2.fresh
  obtain ⟨W, ⟨n0, w0⟩, turn⟩ := hW _ hD
  generalize hDe : s2.heap.objs.size = D at *
  have I3 : Inv X pins σ (upd H2 D (.lst [])) { s2 with heap := s2.heap.push { cls := .type "list", dict := none, data := .seq ([] : List Value).toArray } } := by
    subst hDe
    exact I2.laid (t' := s2.toks) (fun b u e => Heap.get?_push_of_some _ e) (Nat.le_refl _) ⟨Nat.zero_le _, [], 0, .nil, Heap.get?_push_size _ rfl⟩
  have ob2 := T.obj 0 _ st2
  have ob3 : ∀ b ∈ fp, ∃ o, (s2.heap.push { cls := .type "list", dict := none, data := .seq ([] : List Value).toArray }).get? b = some o := fun b hb => let ⟨o, e, _⟩ := ob2 b hb; ⟨o, Heap.get?_push_of_some _ e⟩
  have f3 : ∀ b ∈ fp, FpOk X pins (upd H2 D (.lst [])) b := fun b hb => by
    obtain ⟨o, e, _⟩ := ob2 b hb
    have : b ≠ D := by rw [← hDe]; exact Nat.ne_of_lt (Heap.lt_size e)
    exact ⟨by rw [upd_ne this]; exact (f2 b hb).1, (f2 b hb).2⟩
  have k23 : ∀ b o, s2.heap.get? b = some o → (s2.heap.push { cls := .type "list", dict := none, data := .seq ([] : List Value).toArray }).get? b = some o := fun b o e => Heap.get?_push_of_some _ e
  generalize hH3 : upd H2 D (.lst []) = H3 at *
  generalize hs3 : ({ s2 with heap := s2.heap.push { cls := .type "list", dict := none, data := .seq ([] : List Value).toArray } } : Shared) = s3 at *
  have ob3 : ∀ b ∈ fp, ∃ o, s3.heap.get? b = some o := by rw [← hs3]; exact ob3
  have k23 : ∀ b o, s2.heap.get? b = some o → s3.heap.get? b = some o := by rw [← hs3]; exact k23
  refine wpAny_newFunctionEnv (fun y hy => sc.nocell y hy) (by intro y hy; simp at hy) (fun h₁ hns hsb => ?_) sc.kind
  have hk : ∀ b o, s3.heap.get? b = some o → h₁.get? b = some o := fun b o e => by
    rw [hsb.2 b (Nat.ne_of_lt (Heap.lt_size e))]; exact Heap.get?_push_of_some _ e
  have I4 : Inv (cxComp X N' scope s3 H3 fp) [] (cap m σ) H3 { s3 with heap := h₁ } := inv_comp hc I3 sc hcap f3 ob3 hns hk
  have tn4 : tn 0 h₁ := T.keep _ _ _ st2 fun b hb o e => hk b o (k23 b o e)
  have fr4 : ∀ b ∈ fp, H3 b = none := fun b hb => (f3 b hb).1
  have stat : ∀ {H' : Hp}, (∀ b ∈ fp, H' b = none) → ∀ b ∈ fp, FpOk (cxComp X N' scope s3 H3 fp) [] H' b := fun hn b hb => by
    refine ⟨hn b hb, I4.ok.exf b hb |>.1, I4.ok.exfs b hb, .inl hb, fun x c e => (I4.ok.exf b hb).2 x c e, fun p hp => absurd (show p ∈ ([] : List (Addr × Obj)) from hp) (by simp)⟩
  show codeAny (model X.prog X.w) X.A (.compStart (.ListComp elt [⟨tg, iter, ifs, 0⟩] scope pos) 0 (.ref it) (.ref D) (cxComp X N' scope s3 H3 fp).env) (compPost (model X.prog X.w) X.A X.xe none (EP X pins σ Q) (.ref D) s3.heap.objs.size) { s3 with heap := h₁ }
  have loop : codeAny (model X.prog X.w) X.A (.compLoop (.ListComp elt [⟨tg, iter, ifs, 0⟩] scope pos) 0 (.ref it) (.ref D) (cxComp X N' scope s3 H3 fp).env) (compPost (model X.prog X.w) X.A X.xe none (EP X pins σ Q) (.ref D) s3.heap.objs.size) { s3 with heap := h₁ } := by
    refine codeAny_loop rfl (fun n s' => ∃ i σ' H', Inv (cxComp X N' scope s3 H3 fp) [] σ' H' s' ∧ tn i s'.heap ∧ (∀ b ∈ fp, H' b = none) ∧ W i n σ' H') (fun n s' hI => ?_) n0 ⟨0, cap m σ, H3, I4, tn4, fr4, w0⟩
    show wpAny _ X.A ((compTurn (.ListComp elt [⟨tg, iter, ifs, 0⟩] scope pos) 0 (.ref it) (.ref D) (cxComp X N' scope s3 H3 fp).env).onRaise (fun x => do noteFrame x (cxComp X N' scope s3 H3 fp).env; theTreesLotGoes x)) _ _ s'
    refine wpAny_noted ?_
    rw [compTurn_list]
    refine wpAny_bind (wpAny_standAt (wpAny_bind ?_))
    obtain ⟨i, σ5, H5, I5, st5, fr5, w5⟩ := hI
    rcases turn i n σ5 H5 w5 with ⟨stop, q⟩ | ⟨go, step⟩
    · refine thn (T.done (cxComp X N' scope s3 H3 fp) rfl rfl rfl rfl i [] s' σ5 H5 _ I5 (stat fr5) st5 stop) fun r s6 ⟨hr, I6⟩ => ?_
      subst hr
      refine wpAny_pure ?_
      obtain ⟨mm, hn6, _⟩ := I6.loc
      exact ⟨mm, hn6, fun h' sb => ⟨.ref D, H5, inv_uncomp I3 f3 I6 sb, rfl, q⟩⟩
    · refine thn (T.item (cxComp X N' scope s3 H3 fp) rfl rfl rfl rfl i [] s' σ5 H5 _ I5 (stat fr5) st5 go) fun r s6 ⟨u, hr, h6⟩ => ?_
      subst hr
      refine wpAny_bind (thn h6 fun _ s7 ⟨x, H7, I7, r7, y7, st7, fr7⟩ => ?_)
      have I7' := I7.pinned (stat fr7) (T.obj _ _ st7)
      have again : ∀ {σ8 : L2.St} {H8 : Hp} {s8 : Shared}, Inv (cxComp X N' scope s3 H3 fp) ([] ++ pinsAt fp s7.heap) σ8 H8 s8 → (∃ n', n' < n ∧ W (i + 1) n' σ8 H8) →
          ∃ m', m' < n ∧ ∃ i σ' H', Inv (cxComp X N' scope s3 H3 fp) [] σ' H' s8 ∧ tn i s8.heap ∧ (∀ b ∈ fp, H' b = none) ∧ W i m' σ' H' := fun {σ8 H8 s8} I8 ⟨n', hn, w8⟩ => by
        refine ⟨n', hn, i + 1, σ8, H8, I8.unpinned, T.keep _ _ _ st7 fun b hb o e => (I8.pin (b, o) (List.mem_append_right _ (List.mem_append_right _ (mem_pinsAt hb e)))).1, fun b hb => ?_, w8⟩
        obtain ⟨o, e, d⟩ := T.obj _ _ st7 b hb
        exact (I8.pin (b, o) (List.mem_append_right _ (List.mem_append_right _ (mem_pinsAt hb e)))).2.1
      refine wpAny_bind (wpAny_mono (hg s3 H3 fp _ s7 σ5 H7 x u _ I7' r7 (step x H7 y7)) (fun _ s8 ⟨σ8, H8, I8, q8⟩ => ?_) fun _ _ z => z.elim)
      refine wpAny_bind (wpAny_mono (hf s3 H3 fp _ s8 σ8 H8 _ I8 q8) (fun k s9 ⟨H9, I9, q9⟩ => ?_) fun _ _ z => z.elim)
      cases k with
      | false =>
        rw [if_neg Bool.false_ne_true] at q9
        exact wpAny_pure ⟨rfl, again I9 q9⟩
      | true =>
        rw [if_pos rfl] at q9
        refine wpAny_bind (wpAny_bind (wpAny_mono (he s3 H3 fp _ s9 σ8 H9 _ I9 q9) (fun w s10 ⟨y, H10, I10, r10, q10⟩ => ?_) fun _ _ z => z.elim))
        obtain ⟨zs, hz, hl, q10⟩ := q10
        refine wpAny_bind (wpAny_mono (mt_append (X := cxComp X N' scope s3 H3 fp) _ s10 σ8 H10 (.ref D) [y] (.ref D) [w] (fun _ H11 => H11 = upd H10 D (.lst (zs ++ [y]))) I10 rfl (.cons r10 .nil) ⟨D, zs, y, rfl, rfl, hz, hl, rfl⟩) (fun _ s11 ⟨_, H11, I11, _, e11⟩ => ?_) fun _ _ z => z.elim)
        subst e11
        exact wpAny_pure (wpAny_pure ⟨rfl, again I11 q10⟩)
  exact codeAny_compStart_list loop (T.self X.A 0 _ _ _ tn4 loop)
end
end L3
set_option Elab.async false
set_option linter.all false
set_option maxRecDepth 100000
set_option maxHeartbeats 4000000
namespace L3
open PySem PySem.Spec PyProof.Rows L2
section
variable {K : PySem.W.Frag} {G G' : Gp} {H H' : Hp}
theorem sqT_wrD {D : Addr} {o : HO} {ws : List V} (hD : H D = some (.lst ws)) {a : Addr} {vs : List V} (h : SqT K H a vs) : SqT K (upd H D o) a vs := by
  rcases h with h | h
  · refine .inl ?_
    rcases h with h | ⟨ob, h⟩
    · have : a ≠ D := by intro e; subst e; rw [hD] at h; cases h
      exact .inl (by rw [upd_ne this]; exact h)
    · have : a ≠ D := by intro e; subst e; rw [hD] at h; cases h
      exact .inr ⟨ob, by rw [upd_ne this]; exact h⟩
  · exact .inr h
mutual
theorem Rp.wrD {D : Addr} {o : HO} {ws : List V} (hD : H D = some (.lst ws)) : ∀ {x : T} {v : V}, Rp K H x v → Rp K (upd H D o) x v
  | _, _, .non => .non
  | _, _, .bl b => .bl b
  | _, _, .int i => .int i
  | _, _, .str x => .str x
  | _, _, .ref a => .ref a
  | _, _, .tup h hs => .tup (sqT_wrD hD h) (Rps.wrD hD hs)
theorem Rps.wrD {D : Addr} {o : HO} {ws : List V} (hD : H D = some (.lst ws)) : ∀ {x : List T} {v : List V}, Rps K H x v → Rps K (upd H D o) x v
  | _, _, .nil => .nil
  | _, _, .cons a b => .cons (Rp.wrD hD a) (Rps.wrD hD b)
end
theorem HR.wrD {D : Addr} {o : HO} {ws : List V} (hr : HR K G H) (hD : H D = some (.lst ws)) (g : G D = none) : HR K G (upd H D o) := fun a ob e => by
  have ha : a ≠ D := by intro z; subst z; rw [g] at e; cases e
  have q := hr a ob e
  cases ob with
  | lst xs => obtain ⟨vs, h1, h2⟩ := q; exact ⟨vs, by rw [upd_ne ha]; exact h1, h2.wrD hD⟩
  | frz xs => obtain ⟨vs, ⟨o1, h1⟩, h2⟩ := q; exact ⟨vs, ⟨o1, by rw [upd_ne ha]; exact h1⟩, h2.wrD hD⟩
theorem Rel.wrD {D : Addr} {o : HO} {ws : List V} {τ : St3} {σ : L2.St} (r : Rel K τ G σ H) (hD : H D = some (.lst ws)) (g : G D = none) : Rel K τ G σ (upd H D o) :=
  ⟨r.hp.wrD hD g, r.len, fun i t e => let ⟨v, h1, h2⟩ := r.st i t e; ⟨v, h1, h2.wrD hD⟩⟩
theorem Kp.wrD {D : Addr} {o : HO} (k : Kp G H G' H') (hD : H D = none) : Kp G H G' (upd H' D o) := fun a ob h g => by
  obtain ⟨h1, h2⟩ := k a ob h g
  exact ⟨by rw [upd_ne (ne_of_none h hD)]; exact h1, h2⟩
theorem cap_some {α : Type} {m : List (Option Nat)} {σ : List (Option α)} {i j : Nat} (h : m[i]? = some (some j)) : (cap m σ)[i]? = some ((σ[j]?).join) := by
  unfold cap; rw [List.getElem?_map, h]; rfl
theorem Rel.cap {τ : St3} {σ : L2.St} (r : Rel K τ G σ H) (m : List (Option Nat)) : Rel K (cap m τ) G (L3.cap m σ) H := by
  refine ⟨r.hp, by simp [L3.cap], fun i t e => ?_⟩
  obtain ⟨j, e1, e2⟩ := cap_get e
  obtain ⟨v, h1, h2⟩ := r.st j t e2
  exact ⟨v, by rw [cap_some e1, h1]; rfl, h2⟩
end
def lcGo (stay : Gp → Prop) (g : TG3) (tif : TT3) (te : TE3) (q : Q3) : List T → List T → St3 → Gp → Prop
  | [], ys, _, G => stay G ∧ ∀ p, G p = none → q (.ref p) (gu G p (.lst ys))
  | x :: r, ys, τ, G => stay G ∧ g x τ G fun τ2 G2 => tif τ2 G2 fun k G3 => if k = true then te τ2 G3 fun y G4 => ys.length < sizeLine ∧ lcGo stay g tif te q r (ys ++ [y]) τ2 G4 else lcGo stay g tif te q r ys τ2 G3
def lc3 (wi : TI3) (g : TG3) (tif : TT3) (te : TE3) (m : List (Option Nat)) : TE3 := fun τ G q => wi τ G fun items stay G1 => lcGo stay g tif te q items [] (cap m τ) G1
abbrev F3 (X : Cx) (ifs : List Expr) (t : TT3) : Prop := PF X ifs (lT X.K t)
def tt3 : TT3 := fun _ G q => q true G
theorem f_nil {X : Cx} : F3 X [] tt3 := fun pins s σ H Q I ⟨τ, G, q, rl, h, af⟩ => pf_nil pins s σ H Q I (af true G h H rl.hp Kp.refl)
theorem f_one {X : Cx} {c : Expr} {t : TT3} (h : C3 X c t) : F3 X [c] t := pf_one h
section
variable {X : Cx}
theorem e_lc {elt tg iter : Expr} {ifs : List Expr} {scope : Scope} {pos : Pos} (N' : List Str) (m : List (Option Nat)) {wi : TI3} {g : TG3} {tif : TT3} {te : TE3} (hc : X.calm = true) (hi : I3 X tg iter wi)
    (hg : ∀ s H fp, G3 (cxComp X N' scope s H fp) tg g) (hf : ∀ s H fp, F3 (cxComp X N' scope s H fp) ifs tif) (he : ∀ s H fp, E3 (cxComp X N' scope s H fp) elt te)
    (hsc : scOk X.env.scope scope = true) (hcap : capOk X.N N' scope m = true) (hs : ∀ x, foldedSetIterable iter X.env x = pure x := by intro _; rfl) :
    E3 X (.ListComp elt [⟨tg, iter, ifs, 0⟩] scope pos) (lc3 wi g tif te m) :=
  pe_w (pe_lc (g := lG X.K g) (tif := lT X.K tif) (te := lE X.K te) hc hi hg hf he hsc hcap hs) fun σ H Q ⟨τ, G, q, rl, h, af⟩ => by
    refine ⟨τ, G, _, rl, h, fun items stay G1 h1 J H1 hr1 k1 ok D hD => ?_⟩
    have gD : G1 D = none := hr1.free hD
    refine ⟨fun i n σ' H' => n = items.length - i ∧ i ≤ items.length ∧ ∃ τ' G' ys vs, Rel X.K τ' G' σ' H' ∧ Kp G1 H1 G' H' ∧ H' D = some (.lst vs) ∧ Rps X.K H' ys vs ∧ G' D = none ∧ lcGo stay g tif te q (items.drop i) ys τ' G',
      ⟨_, rfl, Nat.zero_le _, cap m τ, G1, [], [], ((rl.next hr1 k1).cap m).next (hr1.laid hD) (Kp.laid hD), Kp.laid hD, upd_same, .nil, gD, by simpa using h1⟩, ?_⟩
    rintro i n σ' H' ⟨rfl, hi, τ', G', ys, vs, rl', k', hDl, rys, gD', h'⟩
    by_cases hlt : i < items.length
    · rw [List.drop_eq_getElem_cons hlt] at h'
      obtain ⟨hst, h'⟩ := h'
      obtain ⟨go, yld, _⟩ := ok G' H' rl'.hp k' hst
      have hx : items[i]? = some items[i] := List.getElem?_eq_getElem hlt
      refine .inr ⟨go i _ hx, fun v H2 y => ?_⟩
      obtain ⟨rv, hr2, k2⟩ := yld i _ v H2 hx y
      have nxt : ∀ {τ4 : St3} {G4 : Gp} {σ4 : L2.St} {H4 : Hp} {ys4 : List T} {vs4 : List V}, Rel X.K τ4 G4 σ4 H4 → Kp G1 H1 G4 H4 → H4 D = some (.lst vs4) → Rps X.K H4 ys4 vs4 → G4 D = none → lcGo stay g tif te q (items.drop (i + 1)) ys4 τ4 G4 →
          ∃ n', n' < items.length - i ∧ (n' = items.length - (i + 1) ∧ i + 1 ≤ items.length ∧ ∃ τ' G' ys vs, Rel X.K τ' G' σ4 H4 ∧ Kp G1 H1 G' H4 ∧ H4 D = some (.lst vs) ∧ Rps X.K H4 ys vs ∧ G' D = none ∧ lcGo stay g tif te q (items.drop (i + 1)) ys τ' G') :=
        fun {τ4 G4 σ4 H4 ys4 vs4} a b c d e f => ⟨_, by omega, rfl, hlt, τ4, G4, ys4, vs4, a, b, c, d, e, f⟩
      refine ⟨_, τ', G', _, rv, rl'.next hr2 k2, h', fun τ3 G3 h3 σ3 H3 rl3 k3 => ⟨τ3, G3, _, rl3, h3, fun k G4 h4 H4 hr4 k4 => ?_⟩⟩
      have kk := (k2.trans k3).trans k4
      obtain ⟨hD4, gD4⟩ := kk D _ hDl gD'
      have rys4 := rys.keep rl'.hp kk
      cases k with
      | false =>
        rw [if_neg Bool.false_ne_true] at h4
        refine iteF ?_
        exact nxt (rl3.next hr4 k4) (k'.trans kk) hD4 rys4 gD4 h4
      | true =>
        rw [if_pos rfl] at h4
        refine iteT ?_
        refine ⟨τ3, G4, _, rl3.next hr4 k4, h4, fun z G5 h5 w H5 rw5 hr5 k5 => ?_⟩
        obtain ⟨hD5, gD5⟩ := k5 D _ hD4 gD4
        have rys5 := rys4.keep hr4 k5
        exact ⟨vs, hD5, by rw [← rys.length]; exact h5.1, nxt (((rl3.next hr4 k4).next hr5 k5).wrD hD5 gD5) (((k'.trans kk).trans k5).wrD hD) upd_same ((rys5.append (.cons rw5 .nil)).wrD hD5) gD5 h5.2⟩
    · have e : i = items.length := by omega
      subst e
      rw [List.drop_length] at h'
      obtain ⟨_, _, stop⟩ := ok G' H' rl'.hp k' h'.1
      refine .inl ⟨stop, af _ _ (h'.2 D gD') _ H' (.ref D) (fun a o e => ?_) fun a o e ga => ?_⟩
      · by_cases ha : a = D
        · subst ha
          rw [gu_same] at e; cases e
          exact ⟨vs, hDl, rys⟩
        · rw [gu_ne ha] at e
          exact rl'.hp a o e
      · obtain ⟨e1, g1⟩ := k1 a o e ga
        obtain ⟨e2, g2⟩ := k' a o e1 g1
        exact ⟨e2, by rw [gu_ne (ne_of_none e1 hD)]; exact g2⟩
end
end L3
set_option Elab.async false
set_option linter.all false
set_option maxRecDepth 100000
set_option maxHeartbeats 4000000
namespace L3
open PySem PySem.Spec PyProof.Rows L2
structure Src (P : Program) (w : World) (it c : Addr) (St : Nat → Heap → Prop) (Has : Array Value → Heap → Prop) : Prop where
  obj : ∀ {k h}, St k h → ∃ o, h.get? it = some o ∧ ∀ v, o.data ≠ .cell v
  keep : ∀ {k h h'}, St k h → (∀ o, h.get? it = some o → h'.get? it = some o) → St k h'
  hkeep : ∀ {xs h h'}, Has xs h → (∀ o, h.get? c = some o → h'.get? c = some o) → Has xs h'
  item : ∀ {A : Around} {s : Shared} {k : Nat} {xs : Array Value} {x : Value} {Q : Value → Shared → Prop} {E : Value → Shared → Prop}, St k s.heap → Has xs s.heap → xs[k]? = some x →
    (∀ h', St (k + 1) h' → Heap.SameBut it s.heap h' → Q x { s with heap := h' }) → wpAny (model P w) A (Builtin.SmallTypes.nextOf (.ref it)) Q E s
  done : ∀ {A : Around} {s : Shared} {k : Nat} {xs : Array Value} {Q : Value → Shared → Prop} {E : Value → Shared → Prop}, A.handled = none → St k s.heap → Has xs s.heap → xs[k]? = none →
    (∀ h' e, Heap.ExtBut it s.heap h' → (∃ o, h'.get? e = some o ∧ o.cls = .type "StopIteration") → E (.ref e) { s with heap := h' }) → wpAny (model P w) A (Builtin.SmallTypes.nextOf (.ref it)) Q E s
theorem src_list {P : Program} {w : World} (it l : Addr) : Src P w it l (fun k h => h.IsListIter it l k) (fun xs h => h.IsList l xs) where
  obj := fun st => let ⟨o, e, _, d⟩ := st; ⟨o, e, fun v z => by rw [d] at z; cases z⟩
  keep := fun st k => st.at fun o e => k o e
  hkeep := fun st k => st.at fun o e => k o e
  item := fun st hl hx hQ => wpAny_nextOf_list_item st hl hx hQ
  done := fun hh st hl hx hE => wpAny_nextOf_list_end hh st hl hx hE
theorem nextOf_tup {P : Program} {w : World} {A : Around} {s : Shared} {it t : Addr} {i : Nat} {its : Array Value} {x : Value} {Q : Value → Shared → Prop} {E : Value → Shared → Prop} (hit : s.heap.IsTupleIter it t i) (ht : s.heap.IsTuple t its) (hx : its[i]? = some x)
    (hQ : ∀ h', h'.IsTupleIter it t (i + 1) → Heap.SameBut it s.heap h' → Q x { s with heap := h' }) : wpAny (model P w) A (Builtin.SmallTypes.nextOf (.ref it)) Q E s := by
  obtain ⟨o1, e1, c1, d1⟩ := id hit
  obtain ⟨o2, e2, _, n2, d2⟩ := ht
  unfold Builtin.SmallTypes.nextOf
  refine wpAny_bind (wpAny_callSpecial?_slot (name := Str.ofString "__next__") hit.typeIs F.slot_tuple_iterator_next (wpAny_call_entry F.slot_tuple_iterator_next hit.typeIs F.entry_tuple_iterator_next ?_ (F.args_tuple_iterator_next_1 _)))
  refine wpAny_bind (m := field (.ref it) 0) (wpAny_field e1 d1 (x := .ref t) rfl ?_)
  rw [if_neg (show ¬ ((Value.ref t == Value.none) = true) by exact Bool.false_ne_true)]
  refine wpAny_bind (m := field (.ref it) 1) (wpAny_field e1 d1 (x := .int i 0) rfl ?_)
  refine wpAny_bind (m := seqItems? (.ref t)) (wpAny_seqItems e2 d2 ?_)
  simp only [Int.toNat_natCast, hx]
  refine wpAny_bind (wpAny_setField e1 d1 (by simp) (wpAny_pure ⟨x, rfl, wpAny_pure (hQ _ ⟨_, Heap.get?_update_self _ e1 (Obj.isFreed_of_fields (Obj.data_mapFields d1 _)), (Obj.cls_mapFields ..).trans c1, ?_⟩ (Heap.SameBut.update ..))⟩))
  rw [Obj.data_mapFields d1]; simp [rawInt]
theorem nextOf_tup_end {P : Program} {w : World} {A : Around} {s : Shared} {it t : Addr} {i : Nat} {its : Array Value} {Q : Value → Shared → Prop} {E : Value → Shared → Prop} (hh : A.handled = none) (hit : s.heap.IsTupleIter it t i) (ht : s.heap.IsTuple t its) (hx : its[i]? = none)
    (hE : ∀ h' e, Heap.ExtBut it s.heap h' → (∃ o, h'.get? e = some o ∧ o.cls = .type "StopIteration") → E (.ref e) { s with heap := h' }) : wpAny (model P w) A (Builtin.SmallTypes.nextOf (.ref it)) Q E s := by
  obtain ⟨o1, e1, c1, d1⟩ := id hit
  obtain ⟨o2, e2, _, n2, d2⟩ := ht
  unfold Builtin.SmallTypes.nextOf
  refine wpAny_bind (wpAny_callSpecial?_slot (name := Str.ofString "__next__") hit.typeIs F.slot_tuple_iterator_next (wpAny_call_entry F.slot_tuple_iterator_next hit.typeIs F.entry_tuple_iterator_next ?_ (F.args_tuple_iterator_next_1 _)))
  refine wpAny_bind (m := field (.ref it) 0) (wpAny_field e1 d1 (x := .ref t) rfl ?_)
  rw [if_neg (show ¬ ((Value.ref t == Value.none) = true) by exact Bool.false_ne_true)]
  refine wpAny_bind (m := field (.ref it) 1) (wpAny_field e1 d1 (x := .int i 0) rfl ?_)
  refine wpAny_bind (m := seqItems? (.ref t)) (wpAny_seqItems e2 d2 ?_)
  simp only [Int.toNat_natCast, hx]
  refine wpAny_bind (wpAny_rule (wpAny_bind (wpAny_setField e1 d1 (by simp) ?_)))
  refine wpAny_bind (m := newExc (.type "StopIteration") []) ?_
  simp only [newExc, newTuple]
  refine wpAny_bind (wpAny_newObj_type ?_ (by size_fits))
  refine wpAny_bind (m := firstArgMember _ _) (wpAny_of_eq (a := Value.none) (by first | rfl | (simp only [firstArgMember] <;> rfl)) (wpAny_newObj_type ?_ (by size_fits)))
  simp only [raiseNew]
  refine wpAny_bind (wpAny_handled ?_)
  first | rw [show A.in1.handled = Option.none from hh] | rw [show A.handled = Option.none from hh]
  exact wpAny_bind (wpAny_pure (wpAny_throw (hE _ _ (((Heap.SameBut.update ..).extBut.push _).push _) ⟨_, Heap.get?_push_size _ rfl, rfl⟩)))
theorem src_tup {P : Program} {w : World} (it t : Addr) : Src P w it t (fun k h => h.IsTupleIter it t k) (fun xs h => h.IsTuple t xs) where
  obj := fun st => let ⟨o, e, _, d⟩ := st; ⟨o, e, fun v z => by rw [d] at z; cases z⟩
  keep := fun st k => st.at fun o e => k o e
  hkeep := fun st k => st.at fun o e => k o e
  item := fun st hl hx hQ => nextOf_tup st hl hx hQ
  done := fun hh st hl hx hE => nextOf_tup_end hh st hl hx hE
structure ZA (z ti to i1 i2 c1 c2 : Addr) : Prop where
  ne : ([z, ti, to, i1, i2] : List Addr).Nodup
  a1 : c1 ∉ [z, to, i1, i2]
  a2 : c2 ∉ [z, to, i1, i2]
section
variable {P : Program} {w : World} {A : Around} {s : Shared} {z ti to i1 i2 c1 c2 : Addr} {S1 S2 : Nat → Heap → Prop} {H1 H2 : Array Value → Heap → Prop} {k1 k2 : Nat} {xs ys : Array Value} {x y a b : Value} {E : Value → Shared → Prop}
theorem zip_item {Q : Value → Shared → Prop} (R1 : Src P w i1 c1 S1 H1) (R2 : Src P w i2 c2 S2 H2) (D : ZA z ti to i1 i2 c1 c2) (hz : IsZip s.heap z ti to .none) (hi : IsPair s.heap ti (.ref i1) (.ref i2)) (ho : IsPair s.heap to a b)
    (p1 : S1 k1 s.heap) (p2 : S2 k2 s.heap) (l1 : H1 xs s.heap) (l2 : H2 ys s.heap) (hx : xs[k1]? = some x) (hy : ys[k2]? = some y)
    (hQ : ∀ h', IsZip h' z ti to (rawInt s.heap.objs.size) → IsPair h' to x y → S1 (k1 + 1) h' → S2 (k2 + 1) h' → IsPair h' s.heap.objs.size x y → (∀ c o, c ∉ [z, to, i1, i2] → s.heap.get? c = some o → h'.get? c = some o) → Q (.ref s.heap.objs.size) { s with heap := h' }) :
    wpAny (model P w) A (Builtin.«zip.__next__» ⟨[.ref z], []⟩) (fun fin s' => ∃ v, fin = .done (.ret v) ∧ Q v s') E s := by
  have ne := D.ne
  simp only [List.nodup_cons, List.mem_cons, List.not_mem_nil, not_or, or_false] at ne
  obtain ⟨⟨n1, n2, n3, n4⟩, ⟨n5, n6, n7⟩, ⟨n8, n9⟩, n10, _⟩ := ne
  have a1 := D.a1
  have a2 := D.a2
  simp only [List.mem_cons, List.not_mem_nil, not_or, or_false] at a1 a2
  obtain ⟨q1, q2, q3, q4⟩ := a1
  obtain ⟨r1, r2, r3, r4⟩ := a2
  refine wpAny_bind (m := field (.ref z) 2) (wpAny_field hz rfl (x := .bool false) rfl ?_)
  refine wpAny_bind (m := field (.ref z) 3) (wpAny_field hz rfl (x := .ref ti) rfl ?_)
  refine wpAny_bind (wpAny_seqItems hi rfl ?_)
  refine wpAny_bind (m := Builtin.SmallTypes.ownedTupleIsFree (.ref z)) ?_
  unfold Builtin.SmallTypes.ownedTupleIsFree
  refine wpAny_bind (wpAny_field hz rfl (x := Value.none) rfl (wpAny_pure ?_))
  simp only [if_true]
  refine wpAny_bind (wpAny_rule (wpAny_bind (wpAny_field hz rfl (x := .ref to) rfl (wpAny_bind (wpAny_setField_rec hz (by simp) fun g1 z1 s1 => ?_)))))
  replace z1 : IsZip g1 z ti to Value.ellipsis := z1
  refine wpAny_bind ?_
  simp only [List.zipIdx_cons, List.zipIdx_nil, List.forIn_cons, List.forIn_nil]
  refine wpAny_bind (wpAny_bind (wpAny_onRaise (wpAny_bind (m := Builtin.SmallTypes.nextOf (.ref i1)) ?_)))
  refine R1.item (R1.keep p1 fun o e => s1.extBut _ _ (Ne.symm n3) e) (R1.hkeep l1 fun o e => s1.extBut _ _ q1 e) hx fun g2 p12 s2 => wpAny_pure ?_
  have t2 : IsPair g2 to a b := s2.extBut _ _ n8 (s1.extBut _ _ (Ne.symm n2) ho)
  refine wpAny_bind (wpAny_seqItems t2 rfl (wpAny_bind (wpAny_updateSeq_pair t2 fun g3 t3 s3 => ?_)))
  replace t3 : IsPair g3 to x b := t3
  refine wpAny_bind (wpAny_letGo (wpAny_pure (wpAny_bind (wpAny_bind (wpAny_onRaise (wpAny_bind (m := Builtin.SmallTypes.nextOf (.ref i2)) ?_))))))
  refine R2.item (R2.keep p2 fun o e => s3.extBut _ _ (Ne.symm n9) (s2.extBut _ _ (Ne.symm n10) (s1.extBut _ _ (Ne.symm n4) e))) (R2.hkeep l2 fun o e => s3.extBut _ _ r2 (s2.extBut _ _ r3 (s1.extBut _ _ r1 e))) hy fun g4 p24 s4 => wpAny_pure ?_
  have t4 : IsPair g4 to x b := s4.extBut _ _ n9 t3
  refine wpAny_bind (wpAny_seqItems t4 rfl (wpAny_bind (wpAny_updateSeq_pair t4 fun g5 t5 s5 => ?_)))
  replace t5 : IsPair g5 to x y := t5
  refine wpAny_bind (wpAny_letGo (wpAny_pure (wpAny_pure (wpAny_bind (wpAny_seqItems t5 rfl (wpAny_bind (wpAny_newTuple ?_)))))))
  have sz : g5.objs.size = s.heap.objs.size := by rw [s5.1, s4.1, s3.1, s2.1, s1.1]
  have z5 : IsZip g5 z ti to Value.ellipsis := s5.extBut _ _ n2 (s4.extBut _ _ n4 (s3.extBut _ _ n2 (s2.extBut _ _ n3 z1)))
  have kk : ∀ c o, c ∉ [z, to, i1, i2] → s.heap.get? c = some o → g5.get? c = some o := fun c o hc e => by
    simp only [List.mem_cons, List.not_mem_nil, not_or, or_false] at hc
    exact s5.extBut _ _ hc.2.1 (s4.extBut _ _ hc.2.2.2 (s3.extBut _ _ hc.2.1 (s2.extBut _ _ hc.2.2.1 (s1.extBut _ _ hc.1 e))))
  have p15 : S1 (k1 + 1) g5 := R1.keep p12 fun o e => s5.extBut _ _ (Ne.symm n8) (s4.extBut _ _ n10 (s3.extBut _ _ (Ne.symm n8) e))
  have p25 : S2 (k2 + 1) g5 := R2.keep p24 fun o e => s5.extBut _ _ (Ne.symm n9) e
  have zlt : z < g5.objs.size := Heap.lt_size z5
  refine wpAny_bind (m := Builtin.SmallTypes.ownedTupleHandOut (.ref z) (.ref g5.objs.size)) ?_
  unfold Builtin.SmallTypes.ownedTupleHandOut
  have z6 : IsZip (g5.push { cls := .type "tuple", data := .seq #[x, y] }) z ti to Value.ellipsis := Heap.get?_push_of_some _ z5
  refine wpAny_bind (wpAny_setField_rec z6 (by simp) fun g7 z7 s7 => ?_)
  replace z7 : IsZip g7 z ti to (rawInt g5.objs.size) := z7
  refine wpAny_setField_rec z7 (by simp) fun g8 z8 s8 => ?_
  replace z8 : IsZip g8 z ti to (rawInt g5.objs.size) := z8
  have up : ∀ c o, c ≠ z → g5.get? c = some o → g8.get? c = some o := fun c o hc e => s8.extBut _ _ hc (s7.extBut _ _ hc (Heap.get?_push_of_some _ e))
  have t8 : IsPair g8 g5.objs.size x y := s8.extBut _ _ (Nat.ne_of_gt zlt) (s7.extBut _ _ (Nat.ne_of_gt zlt) (Heap.get?_push_size _ rfl))
  rw [sz] at z8 t8
  refine wpAny_pure ⟨_, rfl, ?_⟩
  show Q (Value.ref g5.objs.size) _
  rw [sz]
  exact hQ g8 z8 (up _ _ (Ne.symm n2) t5) (R1.keep p15 fun o e => up _ o (Ne.symm n3) e) (R2.keep p25 fun o e => up _ o (Ne.symm n4) e) t8 fun c o hc e => up c o (fun q => hc (by simp [q])) (kk c o hc e)
theorem zip_end {Q : Fin → Shared → Prop} (hh : A.handled = none) (R1 : Src P w i1 c1 S1 H1) (R2 : Src P w i2 c2 S2 H2) (D : ZA z ti to i1 i2 c1 c2) (hz : IsZip s.heap z ti to .none) (hi : IsPair s.heap ti (.ref i1) (.ref i2)) (ho : IsPair s.heap to a b)
    (p1 : S1 k1 s.heap) (p2 : S2 k2 s.heap) (l1 : H1 xs s.heap) (l2 : H2 ys s.heap) (hend : xs[k1]? = none ∨ ys[k2]? = none)
    (hE : ∀ h' e, (∀ c o, c ∉ [z, to, i1, i2] → s.heap.get? c = some o → h'.get? c = some o) → (∃ o, h'.get? e = some o ∧ o.cls = .type "StopIteration") → E (.ref e) { s with heap := h' }) :
    wpAny (model P w) A (Builtin.«zip.__next__» ⟨[.ref z], []⟩) Q E s := by
  have ne := D.ne
  simp only [List.nodup_cons, List.mem_cons, List.not_mem_nil, not_or, or_false] at ne
  obtain ⟨⟨n1, n2, n3, n4⟩, ⟨n5, n6, n7⟩, ⟨n8, n9⟩, n10, _⟩ := ne
  have a1 := D.a1
  have a2 := D.a2
  simp only [List.mem_cons, List.not_mem_nil, not_or, or_false] at a1 a2
  obtain ⟨q1, q2, q3, q4⟩ := a1
  obtain ⟨r1, r2, r3, r4⟩ := a2
  refine wpAny_bind (m := field (.ref z) 2) (wpAny_field hz rfl (x := .bool false) rfl ?_)
  refine wpAny_bind (m := field (.ref z) 3) (wpAny_field hz rfl (x := .ref ti) rfl ?_)
  refine wpAny_bind (wpAny_seqItems hi rfl ?_)
  refine wpAny_bind (m := Builtin.SmallTypes.ownedTupleIsFree (.ref z)) ?_
  unfold Builtin.SmallTypes.ownedTupleIsFree
  refine wpAny_bind (wpAny_field hz rfl (x := Value.none) rfl (wpAny_pure ?_))
  simp only [if_true]
  refine wpAny_bind (wpAny_rule (wpAny_bind (wpAny_field hz rfl (x := .ref to) rfl (wpAny_bind (wpAny_setField_rec hz (by simp) fun g1 z1 s1 => ?_)))))
  replace z1 : IsZip g1 z ti to Value.ellipsis := z1
  refine wpAny_bind ?_
  simp only [List.zipIdx_cons, List.zipIdx_nil, List.forIn_cons, List.forIn_nil]
  refine wpAny_bind (wpAny_bind (wpAny_onRaise (wpAny_bind (m := Builtin.SmallTypes.nextOf (.ref i1)) ?_)))
  cases hx : xs[k1]? with
  | none =>
    refine R1.done hh (R1.keep p1 fun o e => s1.extBut _ _ (Ne.symm n3) e) (R1.hkeep l1 fun o e => s1.extBut _ _ q1 e) hx fun g2 e s2 ⟨oe, he, ce⟩ => ?_
    have z2 : IsZip g2 z ti to Value.ellipsis := s2 _ _ n3 z1
    have ez : e ≠ z := fun q => by subst q; rw [z2] at he; cases he; simp at ce
    refine wpAny_setField_rec z2 (by simp) fun g3 _ s3 => hE g3 e (fun c o hc q => ?_) ⟨oe, s3.extBut _ _ ez he, ce⟩
    simp only [List.mem_cons, List.not_mem_nil, not_or, or_false] at hc
    exact s3.extBut _ _ hc.1 (s2 _ _ hc.2.2.1 (s1.extBut _ _ hc.1 q))
  | some x =>
    have hy : ys[k2]? = none := by rcases hend with q | q; rw [hx] at q; cases q; exact q
    refine R1.item (R1.keep p1 fun o e => s1.extBut _ _ (Ne.symm n3) e) (R1.hkeep l1 fun o e => s1.extBut _ _ q1 e) hx fun g2 p12 s2 => wpAny_pure ?_
    have t2 : IsPair g2 to a b := s2.extBut _ _ n8 (s1.extBut _ _ (Ne.symm n2) ho)
    refine wpAny_bind (wpAny_seqItems t2 rfl (wpAny_bind (wpAny_updateSeq_pair t2 fun g3 t3 s3 => ?_)))
    refine wpAny_bind (wpAny_letGo (wpAny_pure (wpAny_bind (wpAny_bind (wpAny_onRaise (wpAny_bind (m := Builtin.SmallTypes.nextOf (.ref i2)) ?_))))))
    refine R2.done hh (R2.keep p2 fun o e => s3.extBut _ _ (Ne.symm n9) (s2.extBut _ _ (Ne.symm n10) (s1.extBut _ _ (Ne.symm n4) e))) (R2.hkeep l2 fun o e => s3.extBut _ _ r2 (s2.extBut _ _ r3 (s1.extBut _ _ r1 e))) hy fun g4 e s4 ⟨oe, he, ce⟩ => ?_
    have z4 : IsZip g4 z ti to Value.ellipsis := s4 _ _ n4 (s3.extBut _ _ n2 (s2.extBut _ _ n3 z1))
    have ez : e ≠ z := fun q => by subst q; rw [z4] at he; cases he; simp at ce
    refine wpAny_setField_rec z4 (by simp) fun g5 _ s5 => hE g5 e (fun c o hc q => ?_) ⟨oe, s5.extBut _ _ ez he, ce⟩
    simp only [List.mem_cons, List.not_mem_nil, not_or, or_false] at hc
    exact s5.extBut _ _ hc.1 (s4 _ _ hc.2.2.2 (s3.extBut _ _ hc.2.1 (s2.extBut _ _ hc.2.2.1 (s1.extBut _ _ hc.1 q))))
end
end L3
set_option Elab.async false
set_option linter.all false
set_option maxRecDepth 100000
set_option maxHeartbeats 4000000
namespace L3
open PySem PySem.Spec PyProof.Rows L2
abbrev itCls (b : Bool) : String := if b then "list_iterator" else "tuple_iterator"
abbrev itObj (b : Bool) (c : Addr) : Obj := { cls := .type (itCls b), data := .fields #[.ref c, .int 0 0] }
def IsIt (b : Bool) (it c : Addr) (k : Nat) (h : Heap) : Prop := match b with | true => h.IsListIter it c k | false => h.IsTupleIter it c k
def IsSq (b : Bool) (c : Addr) (xs : Array Value) (h : Heap) : Prop := match b with | true => h.IsList c xs | false => h.IsTuple c xs
theorem src_of {P : Program} {w : World} (b : Bool) (it c : Addr) : Src P w it c (IsIt b it c) (IsSq b c) := by
  cases b
  · exact src_tup it c
  · exact src_list it c
theorem iter_of {P : Program} {w : World} {A : Around} {s : Shared} {b : Bool} {c : Addr} {xs : Array Value} {Q : Value → Shared → Prop} {E : Value → Shared → Prop} (h : IsSq b c xs s.heap) (q : Q (.ref s.heap.objs.size) { s with heap := s.heap.push (itObj b c) }) :
    wpAny (model P w) A (pyIter (.ref c)) Q E s := by
  cases b
  · exact wpAny_pyIter_tuple (show s.heap.IsTuple c xs from h) q
  · exact wpAny_pyIter_list (show s.heap.IsList c xs from h) q
theorem isSq_push {b : Bool} {c : Addr} {xs : Array Value} {h : Heap} {o : Obj} (q : IsSq b c xs h) : IsSq b c xs (h.push o) := by
  cases b
  · exact (show h.IsTuple c xs from q).at fun _ e => Heap.get?_push_of_some _ e
  · exact (show h.IsList c xs from q).at fun _ e => Heap.get?_push_of_some _ e
abbrev zh1 (h : Heap) (o1 : Obj) : Heap := h.push o1
abbrev zh2 (h : Heap) (o1 o2 : Obj) : Heap := (zh1 h o1).push o2
abbrev zh3 (h : Heap) (o1 o2 : Obj) : Heap := (zh2 h o1 o2).push { cls := .type "tuple", data := .seq #[.ref h.objs.size, .ref (zh1 h o1).objs.size] }
abbrev zh4 (h : Heap) (o1 o2 : Obj) : Heap := (zh3 h o1 o2).push { cls := .type "tuple", data := .seq #[.none, .none] }
abbrev zh5 (h : Heap) (o1 o2 : Obj) : Heap := (zh4 h o1 o2).push { cls := .type "zip", data := .fields #[.none, .bool false, .bool false, .ref (zh2 h o1 o2).objs.size, .ref (zh3 h o1 o2).objs.size] }
theorem meets_zip (c1 c2 : Addr) (o1 o2 : Obj) :
    Meets (Builtin.«zip.__new__» ⟨[.type "zip", .ref c1, .ref c2], []⟩) (fun _ R s =>
      (∀ (P : Program) (w : World) (A : Around) (Q : Value → Shared → Prop) (E : Value → Shared → Prop), Q (.ref s.heap.objs.size) { s with heap := zh1 s.heap o1 } → wpAny (model P w) A (pyIter (.ref c1)) Q E s) ∧
      (∀ (P : Program) (w : World) (A : Around) (Q : Value → Shared → Prop) (E : Value → Shared → Prop), Q (.ref (zh1 s.heap o1).objs.size) { s with heap := zh2 s.heap o1 o2 } → wpAny (model P w) A (pyIter (.ref c2)) Q E { s with heap := zh1 s.heap o1 }) ∧
      R (.ok (.ret (.ref (zh4 s.heap o1 o2).objs.size))) { s with heap := zh5 s.heap o1 o2 }) :=
  .of_wp fun prog w A R s h => by
    obtain ⟨hp, g, d, tk, os⟩ := s
    obtain ⟨h1, h2, h⟩ := h
    have hsub := sub_zip
    have k1 := fun A Q E => h1 prog w A Q E
    have k2 := fun A Q E => h2 prog w A Q E
    wp_walk using k1 _ _ _, k2 _ _ _
    exact ⟨_, rfl, h⟩
end L3
set_option Elab.async false
set_option linter.all false
set_option maxRecDepth 100000
set_option maxHeartbeats 4000000
namespace L3
open PySem PySem.Spec PyProof.Rows L2
def ZipSt (b1 b2 : Bool) (z ti to i1 i2 c1 c2 : Addr) (k : Nat) (h : Heap) : Prop :=
  IsZip h z ti to .none ∧ IsPair h ti (.ref i1) (.ref i2) ∧ (∃ a b, IsPair h to a b) ∧ IsIt b1 i1 c1 k h ∧ IsIt b2 i2 c2 k h
section
variable {P : Program} {w : World} {A : Around} {s : Shared} {E : Value → Shared → Prop}
theorem call_zip {b1 b2 : Bool} {c1 c2 : Addr} {xs ys : Array Value} {Q : Value → Shared → Prop} (h1 : IsSq b1 c1 xs s.heap) (h2 : IsSq b2 c2 ys s.heap)
    (q : ∀ h', ZipSt b1 b2 (s.heap.objs.size + 4) (s.heap.objs.size + 2) (s.heap.objs.size + 3) s.heap.objs.size (s.heap.objs.size + 1) c1 c2 0 h' → (∀ c o, s.heap.get? c = some o → h'.get? c = some o) → Q (.ref (s.heap.objs.size + 4)) { s with heap := h' }) :
    wpAny (model P w) A (call (.type "zip") [.ref c1, .ref c2]) Q E s := by
  refine callType_new F.called_zip (by decide) (F.typeCall_zip_2 _ _) (F.newCall_zip_2 _ _) (fun obj => F.args_object_init_3 obj _ _) F.entry_zip_new
    (meets_zip c1 c2 (itObj b1 c1) (itObj b2 c2)) ⟨fun P w A Q E q => iter_of h1 q, fun P w A Q E q => iter_of (s := { s with heap := zh1 s.heap (itObj b1 c1) }) (isSq_push h2) q, ?_⟩
  have e1 : (zh1 s.heap (itObj b1 c1)).objs.size = s.heap.objs.size + 1 := Heap.size_push ..
  have e2 : (zh2 s.heap (itObj b1 c1) (itObj b2 c2)).objs.size = s.heap.objs.size + 2 := by rw [Heap.size_push, e1]
  have e3 : (zh3 s.heap (itObj b1 c1) (itObj b2 c2)).objs.size = s.heap.objs.size + 3 := by rw [Heap.size_push, e2]
  have e4 : (zh4 s.heap (itObj b1 c1) (itObj b2 c2)).objs.size = s.heap.objs.size + 4 := by rw [Heap.size_push, e3]
  have g5 : (zh5 s.heap (itObj b1 c1) (itObj b2 c2)).get? (zh4 s.heap (itObj b1 c1) (itObj b2 c2)).objs.size = some _ := Heap.get?_push_size _ rfl
  have g4 : (zh5 s.heap (itObj b1 c1) (itObj b2 c2)).get? (zh3 s.heap (itObj b1 c1) (itObj b2 c2)).objs.size = some _ := Heap.get?_push_of_some _ (Heap.get?_push_size _ rfl)
  have g3 : (zh5 s.heap (itObj b1 c1) (itObj b2 c2)).get? (zh2 s.heap (itObj b1 c1) (itObj b2 c2)).objs.size = some _ := Heap.get?_push_of_some _ (Heap.get?_push_of_some _ (Heap.get?_push_size _ rfl))
  have g2 : (zh5 s.heap (itObj b1 c1) (itObj b2 c2)).get? (zh1 s.heap (itObj b1 c1)).objs.size = some (itObj b2 c2) := Heap.get?_push_of_some _ (Heap.get?_push_of_some _ (Heap.get?_push_of_some _ (Heap.get?_push_size _ rfl)))
  have g1 : (zh5 s.heap (itObj b1 c1) (itObj b2 c2)).get? s.heap.objs.size = some (itObj b1 c1) := Heap.get?_push_of_some _ (Heap.get?_push_of_some _ (Heap.get?_push_of_some _ (Heap.get?_push_of_some _ (Heap.get?_push_size _ rfl))))
  show _ ∧ _
  rw [e2, e3, e4] at g5
  rw [e1, e2] at g3
  rw [e3] at g4
  rw [e1] at g2
  rw [e4]
  refine ⟨⟨_, g5, rfl⟩, q _ ⟨g5, g3, ⟨_, _, g4⟩, ?_, ?_⟩ fun c o e => Heap.get?_push_of_some _ (Heap.get?_push_of_some _ (Heap.get?_push_of_some _ (Heap.get?_push_of_some _ (Heap.get?_push_of_some _ e))))⟩
  · cases b1 <;> exact ⟨_, g1, rfl, rfl⟩
  · cases b2 <;> exact ⟨_, g2, rfl, rfl⟩
theorem next_zip {b1 b2 : Bool} {z ti to i1 i2 c1 c2 : Addr} {k : Nat} {xs ys : Array Value} {x y : Value} {Q : Option Value → Shared → Prop} (D : ZA z ti to i1 i2 c1 c2) (st : ZipSt b1 b2 z ti to i1 i2 c1 c2 k s.heap) (l1 : IsSq b1 c1 xs s.heap) (l2 : IsSq b2 c2 ys s.heap) (hx : xs[k]? = some x) (hy : ys[k]? = some y)
    (hQ : ∀ h', IsZip h' z ti to (rawInt s.heap.objs.size) → IsPair h' ti (.ref i1) (.ref i2) → (∃ a b, IsPair h' to a b) → IsIt b1 i1 c1 (k + 1) h' → IsIt b2 i2 c2 (k + 1) h' → IsPair h' s.heap.objs.size x y → (∀ c o, c ∉ [z, to, i1, i2] → s.heap.get? c = some o → h'.get? c = some o) → Q (some (.ref s.heap.objs.size)) { s with heap := h' }) :
    wpAny (model P w) A (pyNext (.ref z)) Q E s := by
  obtain ⟨hz, hi, ⟨a, b, ho⟩, p1, p2⟩ := st
  have ty : s.TypeIs (.ref z) "zip" := ⟨_, hz, rfl⟩
  have nti : ti ∉ [z, to, i1, i2] := by
    have ne := D.ne
    simp only [List.nodup_cons, List.mem_cons, List.not_mem_nil, not_or, or_false] at ne ⊢
    exact ⟨Ne.symm ne.1.1, ne.2.1.1, ne.2.1.2.1, ne.2.1.2.2⟩
  unfold pyNext
  exact wpAny_bind (wpAny_attempt (wpAny_callSpecial?_slot (name := Str.ofString "__next__") ty F.slot_zip_next (wpAny_call_entry F.slot_zip_next ty F.entry_zip_next
    (zip_item (src_of b1 i1 c1) (src_of b2 i2 c2) D hz hi ho p1 p2 l1 l2 hx hy fun h' u1 u2 u3 u4 u5 u6 => wpAny_pure (hQ h' u1 (u6 _ _ nti hi) ⟨_, _, u2⟩ u3 u4 u5 u6)) (F.args_zip_next_1 _))))
theorem next_zip_end {b1 b2 : Bool} {z ti to i1 i2 c1 c2 : Addr} {k : Nat} {xs ys : Array Value} {Q : Option Value → Shared → Prop} (hh : A.handled = none) (D : ZA z ti to i1 i2 c1 c2) (st : ZipSt b1 b2 z ti to i1 i2 c1 c2 k s.heap) (l1 : IsSq b1 c1 xs s.heap) (l2 : IsSq b2 c2 ys s.heap) (hend : xs[k]? = none ∨ ys[k]? = none)
    (hQ : ∀ h', (∀ c o, c ∉ [z, to, i1, i2] → s.heap.get? c = some o → h'.get? c = some o) → Q none { s with heap := h' }) : wpAny (model P w) A (pyNext (.ref z)) Q E s := by
  obtain ⟨hz, hi, ⟨a, b, ho⟩, p1, p2⟩ := st
  have ty : s.TypeIs (.ref z) "zip" := ⟨_, hz, rfl⟩
  unfold pyNext
  refine wpAny_bind (wpAny_attempt (wpAny_callSpecial?_slot (name := Str.ofString "__next__") ty F.slot_zip_next (wpAny_call_entry F.slot_zip_next ty F.entry_zip_next
    (zip_end hh (src_of b1 i1 c1) (src_of b2 i2 c2) D hz hi ho p1 p2 l1 l2 hend fun h' e hk ⟨o, q1, q2⟩ => ?_) (F.args_zip_next_1 _))))
  exact wpAny_bind (wpAny_isInstance (T := "StopIteration") (b := true) ⟨o, q1, q2⟩ isSubtype_stop (wpAny_pure (hQ _ hk)))
end
def SqB (K : PySem.W.Frag) (b : Bool) (H : Hp) (a : Addr) (xs : List V) : Prop := match b with | true => SqL K H a xs | false => SqT K H a xs
theorem SqB.get {X : Cx} {pins : List (Addr × Obj)} {σ : L2.St} {H : Hp} {s : Shared} {b : Bool} {a : Addr} {xs : List V} (I : Inv X pins σ H s) (h : SqB X.K b H a xs) : ∃ its : List Value, Vals xs its ∧ IsSq b a its.toArray s.heap ∧ xs.length ≤ sizeLine := by
  cases b
  · obtain ⟨its, r, p, hz⟩ := I.tuple (show SqT X.K H a xs from h)
    exact ⟨its, r, (show s.heap.IsTuple a its.toArray from p), hz⟩
  · obtain ⟨its, r, p, hz⟩ := I.list (show SqL X.K H a xs from h)
    exact ⟨its, r, p.isList, hz⟩
theorem SqB.inj {X : Cx} {pins : List (Addr × Obj)} {σ : L2.St} {H : Hp} {s : Shared} {b : Bool} {a : Addr} {xs ys : List V} (I : Inv X pins σ H s) (h : SqB X.K b H a xs) (h' : SqB X.K b H a ys) : xs = ys := by
  cases b
  · exact I.tuple_inj h h'
  · exact I.list_inj h h'
def Itz (K : PySem.W.Frag) (b1 b2 : Bool) (c1 c2 : Addr) : It :=
  ⟨fun i H => ∃ xs ys x y, SqB K b1 H c1 xs ∧ SqB K b2 H c2 ys ∧ xs[i]? = some x ∧ ys[i]? = some y,
   fun i H v H' => ∃ p x y, H p = none ∧ v = .ref p ∧ H' = upd H p (.tup [x, y]) ∧ (∀ xs, SqB K b1 H c1 xs → xs[i]? = some x) ∧ (∀ ys, SqB K b2 H c2 ys → ys[i]? = some y),
   fun i H => ∃ xs ys, SqB K b1 H c1 xs ∧ SqB K b2 H c2 ys ∧ (xs.length ≤ i ∨ ys.length ≤ i)⟩
theorem sq_lt {b : Bool} {c : Addr} {xs : Array Value} {h : Heap} (q : IsSq b c xs h) : c < h.objs.size := by
  cases b
  · obtain ⟨o, e, _⟩ := (show h.IsTuple c xs from q); exact Heap.lt_size e
  · obtain ⟨o, e, _⟩ := (show h.IsList c xs from q); exact Heap.lt_size e
theorem turn_zip {P : Program} {w : World} {K : PySem.W.Frag} {es : List Expr} {k1 : Nat} {pt : Pos} {b1 b2 : Bool} {z ti to i1 i2 c1 c2 : Addr} (D : ZA z ti to i1 i2 c1 c2) : Turn P w K (.Tuple es k1 pt) (Itz K b1 b2 c1 c2) [z, ti, to, i1, i2] z (ZipSt b1 b2 z ti to i1 i2 c1 c2) where
  mem := by simp
  obj := fun i h ⟨hz, hi, ⟨a, b, ho⟩, p1, p2⟩ c hc => by
    simp only [List.mem_cons, List.not_mem_nil, or_false] at hc
    rcases hc with rfl | rfl | rfl | rfl | rfl
    · exact ⟨_, hz, fun v q => by cases q⟩
    · exact ⟨_, hi, fun v q => by cases q⟩
    · exact ⟨_, ho, fun v q => by cases q⟩
    · exact (src_of (P := P) (w := w) b1 c c1).obj p1
    · exact (src_of (P := P) (w := w) b2 c c2).obj p2
  keep := fun i h h' ⟨hz, hi, ⟨a, b, ho⟩, p1, p2⟩ k =>
    ⟨k z (by simp) _ hz, k ti (by simp) _ hi, ⟨a, b, k to (by simp) _ ho⟩, (src_of (P := P) (w := w) b1 i1 c1).keep p1 fun o e => k i1 (by simp) o e, (src_of (P := P) (w := w) b2 i2 c2).keep p2 fun o e => k i2 (by simp) o e⟩
  item := by
    intro X hP hw hK hc i pins s σ H E I hf st hg
    subst hP hw hK
    obtain ⟨xs, ys, x, y, sq1, sq2, hx, hy⟩ := hg
    obtain ⟨its1, rv1, l1, z1⟩ := sq1.get I
    obtain ⟨its2, rv2, l2, z2⟩ := sq2.get I
    obtain ⟨u1, hu1, ru1⟩ := rv1.get hx
    obtain ⟨u2, hu2, ru2⟩ := rv2.get hy
    refine next_zip D st l1 l2 (x := u1) (y := u2) (by simpa using hu1) (by simpa using hu2) fun h' hz hi ho p1 p2 hp hk => ?_
    have hfr : H s.heap.objs.size = none := I.fresh
    have free : ∀ b ∈ [z, ti, to, i1, i2], H b = none := fun b hb => (hf b hb).1
    refine ⟨_, rfl, wpAny_letOwnedTupleGo_zip hz fun h2 hz2 s2 => ?_⟩
    have zlt : z < s.heap.objs.size := Heap.lt_size st.1
    have hp2 : IsPair h2 s.heap.objs.size u1 u2 := (s2.2 _ (Nat.ne_of_gt zlt)).trans hp
    have ne := D.ne
    simp only [List.nodup_cons, List.mem_cons, List.not_mem_nil, not_or, or_false] at ne
    have up : ∀ c o, c ≠ z → h'.get? c = some o → h2.get? c = some o := fun c o hc e => (s2.2 c hc).trans e
    have kk : ∀ c o, c ∉ [z, to, i1, i2] → s.heap.get? c = some o → h2.get? c = some o := fun c o hc e => up c o (fun q => hc (by simp [q])) (hk c o hc e)
    have I3 : Inv X pins σ (upd H s.heap.objs.size (.tup [x, y])) { s with heap := h2 } := by
      refine I.step (g' := s.gens) (d' := s.drawn) (t' := s.toks) (ch := [z, to, i1, i2]) (fun b hb => ?_) (fun b o _ _ hcb e _ => kk b o hcb e) (fun b o _ _ hcb e _ => ⟨o.slots, kk b o hcb e⟩) (fun b o _ e n => by rw [upd_ne (Nat.ne_of_lt (Heap.lt_size e))]; exact n) (fun b o hcb e => ⟨o, kk b o hcb e⟩)
        (fun b _ e => by rw [upd_ne (ne_of_none e hfr)]; exact e) (fun b _ _ e => by rw [upd_ne (ne_of_none e hfr)]; exact e) (fun b ps e => ⟨#[], by rw [upd_ne (ne_of_none e hfr), e]; simp⟩) (fun m hm => ?_) (fun b u e => ?_) I.bare
      · obtain ⟨f0, f1, f2, f3, f4, f5⟩ := hf b (by simp only [List.mem_cons, List.not_mem_nil, or_false] at hb ⊢; rcases hb with q | q | q | q <;> simp [q])
        exact ⟨f3, f1, f4, f5⟩
      · obtain ⟨o, es', ep, ho', r⟩ := hm
        refine ⟨o, es', ep, kk _ o (fun q => ?_) ho', r⟩
        obtain ⟨f0, f1, _⟩ := hf X.env.locals (by simp only [List.mem_cons, List.not_mem_nil, or_false] at q ⊢; rcases q with q | q | q | q <;> simp [q])
        exact f1 rfl
      · by_cases hb : b = s.heap.objs.size
        · subst hb
          rw [upd_same] at e
          cases e
          exact ⟨by show 2 ≤ sizeLine; decide, [u1, u2], .cons ru1 (.cons ru2 .nil), ⟨_, hp2, rfl, _, rfl⟩⟩
        · rw [upd_ne hb] at e
          refine (I.hok b u e).stay (fun c v hcb q => kk c v (fun m => ?_) q) (fun _ q => by rw [upd_ne (ne_of_none q hfr)]; exact q) fun _ _ q => by rw [upd_ne (ne_of_none q hfr)]; exact q
          have hn := free c (by simp only [List.mem_cons, List.not_mem_nil, or_false] at m ⊢; rcases m with q | q | q | q <;> simp [q])
          rcases hcb with q | q
          · rw [q] at hn; rw [hn] at e; cases e
          · rw [hn] at q; cases q
    refine ⟨.ref s.heap.objs.size, _, I3, rfl, ⟨_, x, y, hfr, rfl, rfl, fun zs q => by rw [q.inj I sq1]; exact hx, fun zs q => by rw [q.inj I sq2]; exact hy⟩, ⟨hz2, up _ _ (Ne.symm ne.1.1) hi, let ⟨a, b, q⟩ := ho; ⟨a, b, up _ _ (Ne.symm ne.1.2.1) q⟩, (src_of (P := X.prog) (w := X.w) b1 i1 c1).keep p1 fun o e => up _ o (Ne.symm ne.1.2.2.1) e, (src_of (P := X.prog) (w := X.w) b2 i2 c2).keep p2 fun o e => up _ o (Ne.symm ne.1.2.2.2) e⟩, fun b hb => ?_⟩
    rw [upd_ne (fun q => ?_)]
    · exact free b hb
    · subst q
      obtain ⟨hz0, hi0, ⟨a0, b0, ho0⟩, q1, q2⟩ := st
      simp only [List.mem_cons, List.not_mem_nil, or_false] at hb
      rcases hb with q | q | q | q | q
      · exact absurd q (Nat.ne_of_gt zlt)
      · exact absurd q (Nat.ne_of_gt (Heap.lt_size hi0))
      · exact absurd q (Nat.ne_of_gt (Heap.lt_size ho0))
      · obtain ⟨o, e, _⟩ := (src_of (P := X.prog) (w := X.w) b1 i1 c1).obj q1
        exact absurd q (Nat.ne_of_gt (Heap.lt_size e))
      · obtain ⟨o, e, _⟩ := (src_of (P := X.prog) (w := X.w) b2 i2 c2).obj q2
        exact absurd q (Nat.ne_of_gt (Heap.lt_size e))
  done := by
    intro X hP hw hK hc i pins s σ H E I hf st hg
    subst hP hw hK
    obtain ⟨xs, ys, sq1, sq2, hend⟩ := hg
    obtain ⟨its1, rv1, l1, z1⟩ := sq1.get I
    obtain ⟨its2, rv2, l2, z2⟩ := sq2.get I
    have e1 := rv1.length
    have e2 := rv2.length
    refine next_zip_end (I.ok.hd hc) D st l1 l2 (by rcases hend with q | q; exact .inl (by simp; omega); exact .inr (by simp; omega)) fun h' hk => ⟨rfl, ?_⟩
    have free : ∀ b ∈ [z, ti, to, i1, i2], H b = none := fun b hb => (hf b hb).1
    refine I.step (g' := s.gens) (d' := s.drawn) (t' := s.toks) (ch := [z, to, i1, i2]) (fun b hb => ?_) (fun b o _ _ hcb e _ => hk b o hcb e) (fun b o _ _ hcb e _ => ⟨o.slots, hk b o hcb e⟩) (fun _ _ _ _ n => n) (fun b o hcb e => ⟨o, hk b o hcb e⟩) (fun _ _ e => e) (fun _ _ _ e => e) (fun b ps e => ⟨#[], by rw [e]; simp⟩) (fun m hm => ?_) (fun b u e => ?_) I.bare
    · obtain ⟨f0, f1, f2, f3, f4, f5⟩ := hf b (by simp only [List.mem_cons, List.not_mem_nil, or_false] at hb ⊢; rcases hb with q | q | q | q <;> simp [q])
      exact ⟨f3, f1, f4, f5⟩
    · obtain ⟨o, es', ep, ho', r⟩ := hm
      refine ⟨o, es', ep, hk _ o (fun q => ?_) ho', r⟩
      obtain ⟨f0, f1, _⟩ := hf X.env.locals (by simp only [List.mem_cons, List.not_mem_nil, or_false] at q ⊢; rcases q with q | q | q | q <;> simp [q])
      exact f1 rfl
    · refine (I.hok b u e).stay (fun c v hcb q => hk c v (fun m => ?_) q) (fun _ q => q) fun _ _ q => q
      have hn := free c (by simp only [List.mem_cons, List.not_mem_nil, or_false] at m ⊢; rcases m with q | q | q | q <;> simp [q])
      rcases hcb with q | q
      · rw [q] at hn; rw [hn] at e; cases e
      · rw [hn] at q; cases q
  self := fun A i s Q E st h => wpAny_pyIter_zip st.1 h
end L3
set_option Elab.async false
set_option linter.all false
set_option maxRecDepth 100000
set_option maxHeartbeats 4000000
namespace L3
open PySem PySem.Spec PyProof.Rows L2
theorem za_new {n c1 c2 : Addr} (h1 : c1 < n) (h2 : c2 < n) : ZA (n + 4) (n + 2) (n + 3) n (n + 1) c1 c2 := by
  have k : ∀ n c : Nat, c < n → c ≠ n + 4 ∧ c ≠ n + 3 ∧ c ≠ n ∧ c ≠ n + 1 := fun n c h => by omega
  have d : ∀ n : Nat, (([n + 4, n + 2, n + 3, n, n + 1] : List Nat)).Nodup := fun n => by
    simp only [List.nodup_cons, List.mem_cons, List.not_mem_nil, not_or, or_false, List.nodup_nil, and_true, not_false_eq_true]
    omega
  refine ⟨d n, ?_, ?_⟩
  · simp only [List.mem_cons, List.not_mem_nil, not_or, or_false]; exact k n c1 h1
  · simp only [List.mem_cons, List.not_mem_nil, not_or, or_false]; exact k n c2 h2
section
variable {X : Cx} {a b e l : Expr} {es : List Expr} {pos : Pos}
theorem pi_zip {p pt : Pos} {k1 : Nat} {ta : TA} (hg : Gl X "zip") (hm : X.mg "zip" = none) (ha : PA X [a, b] ta) (hs : starEach [a, b] X.env = [(false, eval a X.env), (false, eval b X.env)] := by rfl) (hs2 : starEach [b] X.env = [(false, eval b X.env)] := by rfl) :
    PI X (.Tuple es k1 pt) (.Call (.Name "zip" p) [a, b] [] pos) (fun σ H R => ta σ H fun vs H1 => ∃ b1 b2 c1 c2 xs ys, vs = [.ref c1, .ref c2] ∧ SqB X.K b1 H1 c1 xs ∧ SqB X.K b2 H1 c2 ys ∧ R (Itz X.K b1 b2 c1 c2) H1) := by
  intro pins s σ H R I h
  refine Call_ (ld_blt I hg hm PyProof.Rows.boot_zip (PyProof.Rows.callWith_type1 (thn (ha pos pins s σ H _ I h) fun us s1 ⟨vs, H1, I1, r1, q1⟩ => ?_) (by rw [hs, hs2]) (by rw [hs2]; rfl)))
  obtain ⟨b1, b2, c1, c2, xs, ys, rfl, sq1, sq2, q⟩ := q1
  obtain ⟨u1, u2, rfl, e1, e2⟩ := vals2 r1
  cases (show u1 = Value.ref c1 from e1)
  cases (show u2 = Value.ref c2 from e2)
  obtain ⟨its1, rv1, l1, z1⟩ := sq1.get I1
  obtain ⟨its2, rv2, l2, z2⟩ := sq2.get I1
  refine call_zip l1 l2 fun h' st hk => wpAny_pyIter_zip st.1 ?_
  refine ⟨s1.heap.objs.size + 4, [s1.heap.objs.size + 4, s1.heap.objs.size + 2, s1.heap.objs.size + 3, s1.heap.objs.size, s1.heap.objs.size + 1], _, _, H1, rfl, I1.kept (t' := s1.toks) hk, turn_zip (za_new (sq_lt l1) (sq_lt l2)), st, fun c hc => ?_, q⟩
  have hle : s1.heap.objs.size ≤ c := by
    simp only [List.mem_cons, List.not_mem_nil, or_false] at hc
    rcases hc with rfl | rfl | rfl | rfl | rfl <;> first | exact Nat.le_refl _ | exact Nat.le_add_right _ _
  exact I1.fpOk hle (I1.hok.fresh hle)
end
def seqOf (G : Gp) : T → Option (List T)
  | .tup xs => some xs
  | .ref p => getL G p
  | _ => none
theorem seq_sq {K : PySem.W.Frag} {G0 : Gp} {H0 : Hp} {x : T} {v : V} {us : List T} (hr0 : HR K G0 H0) (rx : Rp K H0 x v) (h : seqOf G0 x = some us) :
    ∃ b c, v = .ref c ∧ ∀ G H, HR K G H → Kp G0 H0 G H → seqOf G x = some us → ∃ vs, SqB K b H c vs ∧ Rps K H us vs := by
  cases rx with
  | tup hs rs =>
    cases h
    exact ⟨false, _, rfl, fun G H hr k _ => ⟨_, (sqT_keep hr0 k hs : SqT K H _ _), rs.keep hr0 k⟩⟩
  | ref a => exact ⟨true, a, rfl, fun G H hr k hq => let ⟨vs, h1, h2⟩ := getL_sq hr (show getL G a = some us from hq); ⟨vs, h1, h2⟩⟩
  | _ => cases h
def zipT (us vs : List T) : List T := (us.zip vs).map fun p => .tup [p.1, p.2]
theorem zipT_get {us vs : List T} {i : Nat} {x : T} (h : (zipT us vs)[i]? = some x) : ∃ a b, us[i]? = some a ∧ vs[i]? = some b ∧ x = .tup [a, b] := by
  unfold zipT at h
  rw [List.getElem?_map] at h
  cases e : (us.zip vs)[i]? with
  | none => rw [e] at h; cases h
  | some p =>
    rw [e] at h
    have := List.getElem?_zip_eq_some.mp e
    exact ⟨p.1, p.2, this.1, this.2, by simpa using h.symm⟩
theorem itz_ok {K : PySem.W.Frag} {b1 b2 : Bool} {c1 c2 : Addr} {x y : T} {us vs : List T} {G0 : Gp} {H0 : Hp}
    (f1 : ∀ G H, HR K G H → Kp G0 H0 G H → seqOf G x = some us → ∃ vs, SqB K b1 H c1 vs ∧ Rps K H us vs) (f2 : ∀ G H, HR K G H → Kp G0 H0 G H → seqOf G y = some vs → ∃ ws, SqB K b2 H c2 ws ∧ Rps K H vs ws) :
    ItOk K (Itz K b1 b2 c1 c2) (zipT us vs) (fun G => seqOf G x = some us ∧ seqOf G y = some vs) G0 H0 := by
  intro G H hr k ⟨h1, h2⟩
  obtain ⟨p, sp, rp⟩ := f1 G H hr k h1
  obtain ⟨q, sq, rq⟩ := f2 G H hr k h2
  refine ⟨fun i z hz => ?_, fun i z v H' hz hy => ?_, ⟨p, q, sp, sq, ?_⟩⟩
  · obtain ⟨a, b, ha, hb, _⟩ := zipT_get hz
    obtain ⟨v, hv, _⟩ := rp.get ha
    obtain ⟨w, hw, _⟩ := rq.get hb
    exact ⟨p, q, v, w, sp, sq, hv, hw⟩
  · obtain ⟨a, b, ha, hb, rfl⟩ := zipT_get hz
    obtain ⟨t, v1, v2, ht, rfl, rfl, g1, g2⟩ := hy
    obtain ⟨v, hv, rv⟩ := rp.get ha
    obtain ⟨w, hw, rw'⟩ := rq.get hb
    have e1 := (g1 p sp).symm.trans hv
    have e2 := (g2 q sq).symm.trans hw
    obtain rfl : v1 = v := Option.some.inj e1
    obtain rfl : v2 = w := Option.some.inj e2
    have kk : Kp G H G (upd H t (.tup [v1, v2])) := Kp.laid ht
    exact ⟨.tup (SqT.of upd_same) (.cons (rv.keep hr kk) (.cons (rw'.keep hr kk) .nil)), hr.laid ht, kk⟩
  · rw [← rp.length, ← rq.length, show (zipT us vs).length = min us.length vs.length by simp [zipT]]
    omega
def izip3 (ta : TA3) : TI3 := fun τ G r => ta τ G fun xs G1 => match xs with
  | [x, y] => (match seqOf G1 x, seqOf G1 y with | some us, some vs => r (zipT us vs) (fun G => seqOf G x = some us ∧ seqOf G y = some vs) G1 | _, _ => False)
  | _ => False
section
variable {X : Cx} {a b e l : Expr} {es : List Expr} {pos : Pos} {t : TA3}
theorem i_zip {p pt : Pos} {k1 : Nat} (hg : Gl X "zip") (hm : X.mg "zip" = none) (ha : A3 X [a, b] t) (hs : starEach [a, b] X.env = [(false, eval a X.env), (false, eval b X.env)] := by rfl) (hs2 : starEach [b] X.env = [(false, eval b X.env)] := by rfl) :
    I3 X (.Tuple es k1 pt) (.Call (.Name "zip" p) [a, b] [] pos) (izip3 t) :=
  pi_w (pi_zip hg hm ha hs hs2) fun σ H R ⟨τ, G, r, rl, h, af⟩ => lA_seq rl h fun xs G1 h1 vs H1 rs hr1 k1 rl1 => by
    split at h1
    · rename_i x y
      split at h1
      · rename_i us ws e1 e2
        obtain ⟨v, u, rfl, r1, r2⟩ := rps2 rs
        obtain ⟨b1, c1, rfl, f1⟩ := seq_sq hr1 r1 e1
        obtain ⟨b2, c2, rfl, f2⟩ := seq_sq hr1 r2 e2
        obtain ⟨p, sp, _⟩ := f1 G1 H1 hr1 Kp.refl e1
        obtain ⟨q, sq, _⟩ := f2 G1 H1 hr1 Kp.refl e2
        exact ⟨b1, b2, c1, c2, p, q, rfl, sp, sq, af _ _ G1 h1 _ H1 hr1 k1 (itz_ok f1 f2)⟩
      · exact h1.elim
    · exact h1.elim
def all3 : List T → Gp → Q3 → Prop := fun xs G q => match xs with
  | [.ref p] => (match getL G p with | some ys => (match allB ys with | some k => q (.bl k) G | none => False) | none => False)
  | _ => False
theorem allB_ok {K : PySem.W.Frag} {H : Hp} : ∀ {ys : List T} {vs : List V} {k : Bool}, Rps K H ys vs → allB ys = some k → ∃ ks : List Bool, vs = ks.map V.bl ∧ ks.all id = k
  | _, _, _, .nil, h => by cases h; exact ⟨[], rfl, rfl⟩
  | y :: ys, _, k, .cons a b, h => by
    unfold allB at h
    split at h
    · rename_i e; cases e
    · rename_i j r e
      cases e
      split at h
      · rename_i i ei
        obtain ⟨ks, rfl, hk⟩ := allB_ok b ei
        cases a
        cases h
        exact ⟨j :: ks, rfl, by rw [List.all_cons, hk]; rfl⟩
      · cases h
    · cases h
theorem ref_all {K : PySem.W.Frag} : RefC K all3 (fun xs H Q => ∃ (p : Addr) (ks : List Bool), xs = [.ref p] ∧ SqL K H p (ks.map V.bl) ∧ Q (.bl (ks.all id)) H) := fun xs vs G H q Q hr rs h af => by
  unfold all3 at h
  split at h
  · rename_i p
    obtain ⟨v, rfl, r⟩ := rps1 rs
    cases r
    split at h
    · rename_i ys e0
      split at h
      · rename_i k e1
        obtain ⟨us, hs, r2⟩ := getL_sq hr e0
        obtain ⟨ks, rfl, hk⟩ := allB_ok r2 e1
        exact ⟨p, ks, rfl, hs, by rw [hk]; exact af _ G h _ H (.bl _) hr Kp.refl⟩
      · exact h.elim
    · exact h.elim
  · exact h.elim
end
end L3
set_option Elab.async false
set_option linter.all false
set_option maxRecDepth 100000
set_option maxHeartbeats 4000000
namespace L3
open PySem PySem.Spec PyProof.Rows L2
def lsCls : Value → Bool
  | .type t => t == "list"
  | _ => false
def noLists : List (Addr × Obj) → Bool
  | [] => true
  | p :: r => if lsCls p.2.cls then false else noLists r
theorem noLists_at : ∀ {K : List (Addr × Obj)} {a : Addr} {o : Obj}, noLists K = true → K.lookup a = some o → o.cls ≠ .type "list"
  | [], _, _, _, e => by simp at e
  | (b, x) :: r, a, o, h, e => by
    unfold noLists at h
    split at h
    · cases h
    · rename_i hx
      rw [List.lookup_cons] at e
      split at e
      · cases e
        intro z
        rw [z] at hx
        exact hx rfl
      · exact noLists_at h e
theorem script_frz {K : PySem.W.Frag} {H : Hp} {a : Addr} {ns : List Int} (hK : noLists K = true) (hO : Only H) (hS : SqL K H a (ns.map V.int)) : ∃ o, H a = some (.frz o (.lst (ns.map V.int))) := by
  rcases hS with (h | h) | ⟨o, its, n, h1, h2, _⟩
  · rcases hO a with z | ⟨o, xs, z⟩ <;> (rw [h] at z; cases z)
  · exact h
  · exact absurd h2 (noLists_at hK h1)
def only (a : Addr) (ns : List Int) : Gp := fun b => if b = a then some (.frz (ns.map T.int)) else none
theorem only_hr {K : PySem.W.Frag} {H : Hp} {a : Addr} {ns : List Int} (h : ∃ o, H a = some (.frz o (.lst (ns.map V.int)))) : HR K (only a ns) H := fun b o e => by
  unfold only at e
  split at e
  · rename_i hb; subst hb; cases e; exact ⟨_, h, Rps.ints ns⟩
  · cases e
def sp_top : Sp3 := fun ts G q => ∃ (a : Addr) (ns : List Int), ts = [.ref a] ∧ G a = some (.frz (ns.map T.int)) ∧ ns.length ≤ 63 ∧ ∀ G', q (.bl true) G'
theorem walk3 {l : PySem.W.OpenLaw} {k : Nat} {q : Program} {loose : List Str} {XP : (Str → Option Value) → Heap → Prop} {YP : World → Heap → Prop} {d : DefRec} {K : Params → PySem.W.Frag} {x : Str} (hn : l.most = some 63) (hdf : d.params.defaults = []) (hr : Room k callerA)
    (hY : ∀ (w : World) (h : Heap), YP w h → (K w.params).In h) (hK : ∀ w : World, noLists (K w.params) = true)
    (F : ∀ (w : World) (mg : Str → Option Value) (fa : Addr) (h : Heap), (K w.params).In h → h.Ns mainGlobals mg → mg d.name = some (.ref fa) →
      ∃ fd : FuncData, (∀ (s : Shared) (u : Value), BindsTo s fd ⟨[u], []⟩ [(x, u)]) ∧ ∀ base : Heap, (K w.params).In base → base.Ns mainGlobals mg → FnOk l.prog w (K w.params) mg base CX0 k fa fd [x] (lSp (K w.params) sp_top)) :
    PySem.W.WalkO q loose XP YP l.row.toRowW d [] (fun f vs => PySem.call f vs) :=
  L2.walk_of (n := 63) (k := k) (x := x) (CX := fun _ => CX0) (sp := fun w => lSp (K w.params) sp_top) hn (by decide) hdf hr hY F
    (fun w H a ns hl hO hS => ⟨[.ref a], only a ns, fun t _ => t = .bl true, only_hr (script_frz (hK w) hO hS), .cons (.ref a) .nil, ⟨a, ns, rfl, by simp [only], hl, fun _ => rfl⟩, fun t G' e v H' r _ _ => by subst e; cases r; rfl⟩) fun _ _ _ _ _ z => z
theorem fnok_of {P : Program} {w : World} {K : PySem.W.Frag} {mg : Str → Option Value} {base : Heap} {x qual : Str} {st : Stmt} {f : Addr} {fd : FuncData} {N ps : List Str} {k : Nat} {sp : Sp3} {t3 : TS3} (F : Fun K x qual st f fd) (S : FnScope N ps (defScope st))
    (body : ∀ (cdv : Value) (A : Around) (outer : List Env) (s : Shared) (H : Hp) (E : XK), Room k (A.deeper (envOfC qual (defScope st) s.heap.objs.size f cdv)) →
      B3 (cxOf CX0 P w K mg base N qual (defScope st) f cdv A outer s H E).nox (defBody st) t3)
    (read : ∀ ts G q, sp ts G q → ts.length = ps.length ∧ t3 { nx := fun _ G' => q .non G', rt := q } (start3 N ts) G) : FnOk P w K mg base CX0 (k + 1) f fd ps (lSp K sp) := by
  refine F.ok S (fun vs H Q E ⟨ts, G, q, h1, h2, h3, h4⟩ => by rw [← h2.length]; exact (read ts G q h3).1) fun cdv A outer s H vs Q E hr ⟨ts, G, q, h1, h2, h3, h4⟩ => ?_
  refine ⟨_, body cdv A outer s H E hr, start3 N ts, G, _, rel_start h1 h2, (read ts G q h3).2, ⟨fun τ' G' h' σ' H' rl' k' => h4 _ G' h' _ H' .non rl'.hp k', h4, fun _ _ z => z.elim, fun _ _ z => z.elim⟩⟩
end L3
set_option Elab.async false
set_option linter.all false
set_option maxRecDepth 100000
set_option maxHeartbeats 4000000
namespace L3
open PySem PySem.Spec PyProof.Rows L2
open AutoSeq1 (wpAny_loadPart')
abbrev eh1 (h : Heap) (o1 : Obj) : Heap := h.push o1
abbrev eh2 (h : Heap) (o1 : Obj) : Heap := (eh1 h o1).push { cls := .type "enumerate", data := .fields #[.none, .bool false, .ref h.objs.size, rawInt 0, .none, .none] }
theorem meets_enum (c : Addr) (o1 : Obj) (ob : Obj) :
    Meets (Builtin.«enumerate.__new__» ⟨[.type "enumerate", .ref c], []⟩) (fun _ R s => s.heap.get? c = some ob ∧
      (∀ (P : Program) (w : World) (A : Around) (Q : Value → Shared → Prop) (E : Value → Shared → Prop), Q (.ref s.heap.objs.size) { s with heap := eh1 s.heap o1 } → wpAny (model P w) A (pyIter (.ref c)) Q E s) ∧
      R (.ok (.ret (.ref (eh1 s.heap o1).objs.size))) { s with heap := eh2 s.heap o1 }) :=
  .of_wp fun prog w A R s h => by
    obtain ⟨hp, g, d, tk, os⟩ := s
    obtain ⟨hl, h1, h⟩ := h
    have hsub := sub_enumerate
    have k1 := fun A Q E => h1 prog w A Q E
    wp_walk using wpAny_loadPart' hl
    refine wpAny_stack_any fun st => wpAny_pure ?_
    split
    · rename_i c _ _ _ _ _
      cases (c == Value.type "enumerate")
      · wp_walk using wpAny_loadPart' hl, k1 _ _ _
        exact ⟨_, rfl, h⟩
      · wp_walk using wpAny_loadPart' hl, k1 _ _ _
        exact ⟨_, rfl, h⟩
    · wp_walk using wpAny_loadPart' hl, k1 _ _ _
      exact ⟨_, rfl, h⟩
theorem isSq_obj {b : Bool} {c : Addr} {xs : Array Value} {h : Heap} (q : IsSq b c xs h) : ∃ o, h.get? c = some o := by
  cases b
  · obtain ⟨o, e, _⟩ := (show h.IsTuple c xs from q); exact ⟨o, e⟩
  · obtain ⟨o, e, _⟩ := (show h.IsList c xs from q); exact ⟨o, e⟩
section
variable {P : Program} {w : World} {A : Around} {s : Shared} {E : Value → Shared → Prop}
theorem call_enum {b : Bool} {c : Addr} {xs : Array Value} {Q : Value → Shared → Prop} (h1 : IsSq b c xs s.heap)
    (q : ∀ h', IsEnum h' (s.heap.objs.size + 1) s.heap.objs.size 0 .none → IsIt b s.heap.objs.size c 0 h' → (∀ c o, s.heap.get? c = some o → h'.get? c = some o) → Q (.ref (s.heap.objs.size + 1)) { s with heap := h' }) :
    wpAny (model P w) A (call (.type "enumerate") [.ref c]) Q E s := by
  obtain ⟨ob, hob⟩ := isSq_obj h1
  refine callType_new F.called_enumerate (by decide) (F.typeCall_enumerate_1 _) (F.newCall_enumerate_1 _) (fun obj => F.args_object_init_2 obj _) F.entry_enumerate_new
    (meets_enum c (itObj b c) ob) ⟨hob, fun P w A Q E q => iter_of h1 q, ?_⟩
  have e1 : (eh1 s.heap (itObj b c)).objs.size = s.heap.objs.size + 1 := Heap.size_push ..
  have g2 : (eh2 s.heap (itObj b c)).get? (eh1 s.heap (itObj b c)).objs.size = some _ := Heap.get?_push_size _ rfl
  have g1 : (eh2 s.heap (itObj b c)).get? s.heap.objs.size = some (itObj b c) := Heap.get?_push_of_some _ (Heap.get?_push_size _ rfl)
  show _ ∧ _
  rw [e1] at g2 ⊢
  refine ⟨⟨_, g2, rfl⟩, q _ g2 ?_ fun c o e => Heap.get?_push_of_some _ (Heap.get?_push_of_some _ e)⟩
  cases b <;> exact ⟨_, g1, rfl, rfl⟩
end
theorem draws_of {P : Program} {w : World} {A : Around} (hh : A.handled = none) (b : Bool) (it c : Addr) (hne : c ≠ it) (xs : Array Value) :
    Draws P w A it [it, c] xs.size (fun i v => xs[i]? = some v) (fun i h => IsIt b it c i h ∧ IsSq b c xs h) where
  live := fun i h st => let ⟨o, e, _⟩ := (src_of (P := P) (w := w) b it c).obj st.1; ⟨o, e⟩
  frame := fun i h h' st hk => ⟨(src_of (P := P) (w := w) b it c).keep st.1 fun o e => hk it (by simp) o e, (src_of (P := P) (w := w) b it c).hkeep st.2 fun o e => hk c (by simp) o e⟩
  item := fun i s Q E hi st hQ => by
    refine (src_of (P := P) (w := w) b it c).item st.1 st.2 (x := xs[i]) (by simp [hi]) fun h' st' sb => ?_
    exact hQ _ h' s.toks (by simp [hi]) ⟨st', (src_of (P := P) (w := w) b it c).hkeep st.2 fun o e => (sb.2 c hne).trans e⟩ sb
  done := fun s Q E st hE => (src_of (P := P) (w := w) b it c).done hh st.1 st.2 (by simp) hE
theorem next_enum_end {P : Program} {w : World} {A : Around} {s : Shared} {E : Value → Shared → Prop} {b : Bool} {e it c : Addr} {i : Nat} {xs : Array Value} {old : Value} {Q : Option Value → Shared → Prop} (hh : A.handled = none) (he : IsEnum s.heap e it i old) (p1 : IsIt b it c i s.heap) (l1 : IsSq b c xs s.heap) (hx : xs[i]? = none)
    (hQ : ∀ h', Heap.ExtBut it s.heap h' → Q none { s with heap := h' }) : wpAny (model P w) A (pyNext (.ref e)) Q E s := by
  have hT : s.TypeIs (.ref e) "enumerate" := ⟨_, he, rfl⟩
  unfold pyNext
  refine wpAny_bind (wpAny_attempt (wpAny_callSpecial?_slot (name := Str.ofString "__next__") hT F.slot_enumerate_next
    (wpAny_call_entry F.slot_enumerate_next hT F.entry_enumerate_next ?_ (F.args_enumerate_next_1 _))))
  show wpAny _ _ (field (.ref e) 2 >>= _) _ _ _
  refine wpAny_bind (wpAny_field he rfl (x := .ref it) rfl ?_)
  refine wpAny_bind ((src_of (P := P) (w := w) b it c).done (show A.in1.handled = none from hh) p1 l1 hx fun h' x he' hx' => ?_)
  obtain ⟨o, ho, hc⟩ := hx'
  refine wpAny_bind (wpAny_isInstance (T := "StopIteration") (b := true) ⟨o, ho, hc⟩ isSubtype_stop ?_)
  exact wpAny_pure (hQ _ he')
def Ite (K : PySem.W.Frag) (b : Bool) (c : Addr) : It :=
  ⟨fun i H => ∃ xs x, SqB K b H c xs ∧ xs[i]? = some x,
   fun i H v H' => ∃ p x, H p = none ∧ v = .ref p ∧ H' = upd H p (.tup [.int i, x]) ∧ (∀ xs, SqB K b H c xs → xs[i]? = some x),
   fun i H => ∃ xs, SqB K b H c xs ∧ xs.length ≤ i⟩
def EnumSt (b : Bool) (e it c : Addr) (k : Nat) (h : Heap) : Prop := (∃ old, IsEnum h e it k old) ∧ IsIt b it c k h
theorem turn_enum {P : Program} {w : World} {K : PySem.W.Frag} {es : List Expr} {k1 : Nat} {pt : Pos} {b : Bool} {e it c : Addr} (n1 : e ≠ it) (n2 : c ≠ e) (n3 : c ≠ it) : Turn P w K (.Tuple es k1 pt) (Ite K b c) [e, it] e (EnumSt b e it c) where
  mem := by simp
  obj := fun i h ⟨⟨old, he⟩, p1⟩ d hd => by
    simp only [List.mem_cons, List.not_mem_nil, or_false] at hd
    rcases hd with rfl | rfl
    · exact ⟨_, he, fun v q => by cases q⟩
    · exact (src_of (P := P) (w := w) b d c).obj p1
  keep := fun i h h' ⟨⟨old, he⟩, p1⟩ k => ⟨⟨old, k e (by simp) _ he⟩, (src_of (P := P) (w := w) b it c).keep p1 fun o e => k it (by simp) o e⟩
  item := by
    intro X hP hw hK hc i pins s σ H E I hf st hg
    subst hP hw hK
    obtain ⟨xs, x, sq, hx⟩ := hg
    obtain ⟨its, rv, l1, z1⟩ := sq.get I
    obtain ⟨u, hu, ru⟩ := rv.get hx
    obtain ⟨⟨old, he⟩, p1⟩ := st
    have hil : i < its.toArray.size := by have := (List.getElem?_eq_some_iff.mp hu).1; simpa using this
    refine wpAny_pyNext_enum_itemD (draws_of (show X.A.in1.handled = none from I.ok.hd hc) b it c n3 its.toArray) he ⟨p1, l1⟩ hil n1 (by simp only [List.mem_cons, List.not_mem_nil, or_false, not_or]; exact ⟨n1, Ne.symm n2⟩) fun y h' tk hy ho st' ht hsz hk => ?_
    have hy' : y = u := by
      have : its.toArray[i]? = some u := by simpa using hu
      rw [this] at hy; exact (Option.some.inj hy).symm
    subst hy'
    have hfr : H s.heap.objs.size = none := I.fresh
    have free : ∀ b ∈ [e, it], H b = none := fun b hb => (hf b hb).1
    refine ⟨_, rfl, wpAny_letOwnedTupleGo_enum ho fun h2 hz2 s2 => ?_⟩
    have elt : e < s.heap.objs.size := Heap.lt_size he
    have hp2 : h2.get? s.heap.objs.size = some { cls := .type "tuple", data := .seq #[.int i tk, y] } := (s2.2 _ (Nat.ne_of_gt elt)).trans ht
    have up : ∀ c o, c ≠ e → h'.get? c = some o → h2.get? c = some o := fun c o hc e => (s2.2 c hc).trans e
    have kk : ∀ c o, c ∉ [e, it] → s.heap.get? c = some o → h2.get? c = some o := fun c o hc q => by
      simp only [List.mem_cons, List.not_mem_nil, or_false, not_or] at hc
      exact up c o hc.1 (hk c o hc.1 hc.2 q)
    have I3 : Inv X pins σ (upd H s.heap.objs.size (.tup [.int i, x])) { s with heap := h2, toks := tk + 1 } := by
      refine I.step (g' := s.gens) (d' := s.drawn) (t' := tk + 1) (ch := [e, it]) (fun b hb => ?_) (fun b o _ _ hcb e _ => kk b o hcb e) (fun b o _ _ hcb e _ => ⟨o.slots, kk b o hcb e⟩) (fun b o _ e n => by rw [upd_ne (Nat.ne_of_lt (Heap.lt_size e))]; exact n) (fun b o hcb e => ⟨o, kk b o hcb e⟩)
        (fun b _ e => by rw [upd_ne (ne_of_none e hfr)]; exact e) (fun b _ _ e => by rw [upd_ne (ne_of_none e hfr)]; exact e) (fun b ps e => ⟨#[], by rw [upd_ne (ne_of_none e hfr), e]; simp⟩) (fun m hm => ?_) (fun b u e => ?_) I.bare
      · obtain ⟨f0, f1, f2, f3, f4, f5⟩ := hf b hb
        exact ⟨f3, f1, f4, f5⟩
      · obtain ⟨o, es', ep, ho', r⟩ := hm
        refine ⟨o, es', ep, kk _ o (fun q => ?_) ho', r⟩
        obtain ⟨f0, f1, _⟩ := hf X.env.locals q
        exact f1 rfl
      · by_cases hb : b = s.heap.objs.size
        · subst hb
          rw [upd_same] at e
          cases e
          exact ⟨by show 2 ≤ sizeLine; decide, [.int i tk, y], .cons ⟨tk, rfl⟩ (.cons ru .nil), ⟨_, hp2, rfl, _, rfl⟩⟩
        · rw [upd_ne hb] at e
          refine (I.hok b u e).stay (fun c v hcb q => kk c v (fun m => ?_) q) (fun _ q => by rw [upd_ne (ne_of_none q hfr)]; exact q) fun _ _ q => by rw [upd_ne (ne_of_none q hfr)]; exact q
          have hn := free c m
          rcases hcb with q | q
          · rw [q] at hn; rw [hn] at e; cases e
          · rw [hn] at q; cases q
    refine ⟨.ref s.heap.objs.size, _, I3, rfl, ⟨_, x, hfr, rfl, rfl, fun zs q => by rw [q.inj I sq]; exact hx⟩, ⟨⟨_, by push_cast; exact hz2⟩, (src_of (P := X.prog) (w := X.w) b it c).keep st'.1 fun o e => up _ o (Ne.symm n1) e⟩, fun b hb => ?_⟩
    rw [upd_ne (fun q => ?_)]
    · exact free b hb
    · subst q
      simp only [List.mem_cons, List.not_mem_nil, or_false] at hb
      rcases hb with q | q
      · exact absurd q (Nat.ne_of_gt elt)
      · obtain ⟨o, e, _⟩ := (src_of (P := X.prog) (w := X.w) b it c).obj p1
        exact absurd q (Nat.ne_of_gt (Heap.lt_size e))
  done := by
    intro X hP hw hK hc i pins s σ H E I hf st hg
    subst hP hw hK
    obtain ⟨xs, sq, hend⟩ := hg
    obtain ⟨its, rv, l1, z1⟩ := sq.get I
    obtain ⟨⟨old, he⟩, p1⟩ := st
    have e1 := rv.length
    have free : ∀ b ∈ [e, it], H b = none := fun b hb => (hf b hb).1
    refine next_enum_end (I.ok.hd hc) he p1 l1 (by simp; omega) fun h' hk0 => ⟨rfl, ?_⟩
    have hk : ∀ c o, c ∉ [e, it] → s.heap.get? c = some o → h'.get? c = some o := fun c o hcb q => hk0 c o (by simp only [List.mem_cons, List.not_mem_nil, or_false, not_or] at hcb; exact hcb.2) q
    refine I.step (g' := s.gens) (d' := s.drawn) (t' := s.toks) (ch := [e, it]) (fun b hb => ?_) (fun b o _ _ hcb e _ => hk b o hcb e) (fun b o _ _ hcb e _ => ⟨o.slots, hk b o hcb e⟩) (fun _ _ _ _ n => n) (fun b o hcb e => ⟨o, hk b o hcb e⟩) (fun _ _ e => e) (fun _ _ _ e => e) (fun b ps e => ⟨#[], by rw [e]; simp⟩) (fun m hm => ?_) (fun b u e => ?_) I.bare
    · obtain ⟨f0, f1, f2, f3, f4, f5⟩ := hf b hb
      exact ⟨f3, f1, f4, f5⟩
    · obtain ⟨o, es', ep, ho', r⟩ := hm
      refine ⟨o, es', ep, hk _ o (fun q => ?_) ho', r⟩
      obtain ⟨f0, f1, _⟩ := hf X.env.locals q
      exact f1 rfl
    · refine (I.hok b u e).stay (fun c v hcb q => hk c v (fun m => ?_) q) (fun _ q => q) fun _ _ q => q
      have hn := free c m
      rcases hcb with q | q
      · rw [q] at hn; rw [hn] at e; cases e
      · rw [hn] at q; cases q
  self := fun A i s Q E st h => let ⟨⟨old, he⟩, _⟩ := st; wpAny_pyIter_enum he h
section
variable {X : Cx} {a b e l : Expr} {es : List Expr} {pos : Pos}
theorem pi_enum {p pt : Pos} {k1 : Nat} {ta : TA} (hg : Gl X "enumerate") (hm : X.mg "enumerate" = none) (ha : PA X [a] ta) (hs : starEach [a] X.env = [(false, eval a X.env)] := by rfl) :
    PI X (.Tuple es k1 pt) (.Call (.Name "enumerate" p) [a] [] pos) (fun σ H R => ta σ H fun vs H1 => ∃ b1 c1 xs, vs = [.ref c1] ∧ SqB X.K b1 H1 c1 xs ∧ R (Ite X.K b1 c1) H1) := by
  intro pins s σ H R I h
  refine Call_ (ld_blt I hg hm PyProof.Rows.boot_enumerate (PyProof.Rows.callWith_type1 (thn (ha pos pins s σ H _ I h) fun us s1 ⟨vs, H1, I1, r1, q1⟩ => ?_) (by rw [hs]; rfl) (by rfl)))
  obtain ⟨b1, c1, xs, rfl, sq1, q⟩ := q1
  obtain ⟨u1, rfl, e1⟩ := vals1 r1
  cases (show u1 = Value.ref c1 from e1)
  obtain ⟨its1, rv1, l1, z1⟩ := sq1.get I1
  refine call_enum l1 fun h' he hit hk => wpAny_pyIter_enum he ?_
  have lt := sq_lt l1
  have ne3 : ∀ n c : Nat, c < n → n + 1 ≠ n ∧ c ≠ n + 1 ∧ c ≠ n := fun n c h => by omega
  obtain ⟨m1, m2, m3⟩ := ne3 _ _ lt
  refine ⟨s1.heap.objs.size + 1, [s1.heap.objs.size + 1, s1.heap.objs.size], _, _, H1, rfl, I1.kept (t' := s1.toks) hk, turn_enum m1 m2 m3, ⟨⟨_, he⟩, hit⟩, fun c hc => ?_, q⟩
  have hle : s1.heap.objs.size ≤ c := by
    simp only [List.mem_cons, List.not_mem_nil, or_false] at hc
    rcases hc with rfl | rfl <;> first | exact Nat.le_refl _ | exact Nat.le_add_right _ _
  exact I1.fpOk hle (I1.hok.fresh hle)
end
def enumFrom (k : Nat) : List T → List T
  | [] => []
  | x :: r => .tup [.int (k : Int), x] :: enumFrom (k + 1) r
def enumT (us : List T) : List T := enumFrom 0 us
theorem enumFrom_get : ∀ {us : List T} {k i : Nat} {x : T}, (enumFrom k us)[i]? = some x → ∃ a, us[i]? = some a ∧ x = .tup [.int ((k + i : Nat) : Int), a]
  | [], _, _, _, h => by simp [enumFrom] at h
  | u :: us, k, 0, x, h => by simp [enumFrom] at h; exact ⟨u, rfl, by simp [← h]⟩
  | u :: us, k, i + 1, x, h => by
    simp [enumFrom] at h
    obtain ⟨a, ha, hx⟩ := enumFrom_get h
    exact ⟨a, by simpa using ha, by rw [hx]; congr 4; omega⟩
theorem enumFrom_len : ∀ (us : List T) (k : Nat), (enumFrom k us).length = us.length
  | [], _ => rfl
  | u :: us, k => by simp [enumFrom, enumFrom_len us]
theorem enumT_len (us : List T) : (enumT us).length = us.length := enumFrom_len us 0
theorem enumT_get {us : List T} {i : Nat} {x : T} (h : (enumT us)[i]? = some x) : ∃ a, us[i]? = some a ∧ x = .tup [.int (i : Int), a] := by
  obtain ⟨a, ha, hx⟩ := enumFrom_get h
  exact ⟨a, ha, by rw [hx]; congr 4; omega⟩
theorem ite_ok {K : PySem.W.Frag} {b1 : Bool} {c1 : Addr} {x : T} {us : List T} {G0 : Gp} {H0 : Hp}
    (f1 : ∀ G H, HR K G H → Kp G0 H0 G H → seqOf G x = some us → ∃ vs, SqB K b1 H c1 vs ∧ Rps K H us vs) :
    ItOk K (Ite K b1 c1) (enumT us) (fun G => seqOf G x = some us) G0 H0 := by
  intro G H hr k h1
  obtain ⟨p, sp, rp⟩ := f1 G H hr k h1
  refine ⟨fun i z hz => ?_, fun i z v H' hz hy => ?_, ⟨p, sp, ?_⟩⟩
  · obtain ⟨a, ha, _⟩ := enumT_get hz
    obtain ⟨v, hv, _⟩ := rp.get ha
    exact ⟨p, v, sp, hv⟩
  · obtain ⟨a, ha, rfl⟩ := enumT_get hz
    obtain ⟨t, v1, ht, rfl, rfl, g1⟩ := hy
    obtain ⟨v, hv, rv⟩ := rp.get ha
    have e1 := (g1 p sp).symm.trans hv
    obtain rfl : v1 = v := Option.some.inj e1
    have kk : Kp G H G (upd H t (.tup [.int i, v1])) := Kp.laid ht
    exact ⟨.tup (SqT.of upd_same) (.cons (.int _) (.cons (rv.keep hr kk) .nil)), hr.laid ht, kk⟩
  · rw [← rp.length, enumT_len]
    exact Nat.le_refl _
def ienum3 (ta : TA3) : TI3 := fun τ G r => ta τ G fun xs G1 => match xs with
  | [x] => (match seqOf G1 x with | some us => r (enumT us) (fun G => seqOf G x = some us) G1 | _ => False)
  | _ => False
section
variable {X : Cx} {a b e l : Expr} {es : List Expr} {pos : Pos} {t : TA3}
theorem i_enum {p pt : Pos} {k1 : Nat} (hg : Gl X "enumerate") (hm : X.mg "enumerate" = none) (ha : A3 X [a] t) (hs : starEach [a] X.env = [(false, eval a X.env)] := by rfl) :
    I3 X (.Tuple es k1 pt) (.Call (.Name "enumerate" p) [a] [] pos) (ienum3 t) :=
  pi_w (pi_enum hg hm ha hs) fun σ H R ⟨τ, G, r, rl, h, af⟩ => lA_seq rl h fun xs G1 h1 vs H1 rs hr1 k1 rl1 => by
    split at h1
    · rename_i x
      split at h1
      · rename_i us e1
        obtain ⟨v, rfl, r1⟩ := rps1 rs
        obtain ⟨b1, c1, rfl, f1⟩ := seq_sq hr1 r1 e1
        obtain ⟨p, sp, _⟩ := f1 G1 H1 hr1 Kp.refl e1
        exact ⟨b1, c1, p, rfl, sp, af _ _ G1 h1 _ H1 hr1 k1 (ite_ok f1)⟩
      · exact h1.elim
    · exact h1.elim
end
end L3
set_option Elab.async false
set_option linter.all false
set_option maxRecDepth 100000
set_option maxHeartbeats 4000000
namespace L3
open PySem PySem.Spec PyProof.Rows L2
section
variable {X : Cx} {a b c e : Expr} {es : List Expr} {ta tb tc te : TE3} {t : TA3} {pos : Pos}
def aug3 (i : Nat) (r : R3) (te : TE3) : TS3 := fun d τ G => match τ[i]? with
  | some (some x) => te τ G fun y G1 => r x y G1 fun z G2 => d.nx (τ.set i (some z)) G2
  | _ => False
def intsT : List T → Option (List Int)
  | [] => some []
  | .int i :: r => (match intsT r with | some ns => some (i :: ns) | none => none)
  | _ => none
theorem intsT_map (ns : List Int) : intsT (ns.map T.int) = some ns := by
  induction ns with
  | nil => rfl
  | cons n r ih => simp [intsT, ih]
theorem intsT_eq : ∀ {xs : List T} {ns : List Int}, intsT xs = some ns → xs = ns.map T.int
  | [], _, h => by simp [intsT] at h; subst h; rfl
  | x :: r, ns, h => by
    unfold intsT at h
    split at h
    · rename_i e; cases e
    · rename_i i r' e
      cases e
      split at h
      · rename_i ms e2
        cases h
        rw [intsT_eq e2]; rfl
      · cases h
    · cases h
theorem rps_ints {K : PySem.W.Frag} {H : Hp} : ∀ {ns : List Int} {vs : List V}, Rps K H (ns.map T.int) vs → vs = ns.map V.int
  | [], _, r => by cases r; rfl
  | n :: ns, _, r => by
    cases r with
    | cons a b => cases a; rw [rps_ints b]; rfl
def any3 : List T → Gp → Q3 → Prop := fun xs G q => match xs with
  | [.ref p] => (match getL G p with | some ys => (match anyB ys with | some k => q (.bl k) G | none => False) | none => False)
  | _ => False
end
end L3
set_option Elab.async false
set_option linter.all false
set_option maxRecDepth 100000
set_option maxHeartbeats 4000000
namespace L3
open PySem PySem.Spec PyProof.Rows L2
section
variable {X : Cx}
theorem lc_core {elt tg iter : Expr} {ifs : List Expr} {scope : Scope} {pos cpos : Pos} {N' : List Str} {m : List (Option Nat)} {wi : TI} {g : TG} {tif : TT} {te : TE} {use : Option (Value → Sem Unit)} {Qc : Value → Shared → Prop} {QD : Addr → Hp → Prop} (hc : X.calm = true) (hi : PI X tg iter wi)
    (hg : ∀ s H fp, PG (cxComp X N' scope s H fp) tg g) (hf : ∀ s H fp, PF (cxComp X N' scope s H fp) ifs tif) (he : ∀ s H fp, PE (cxComp X N' scope s H fp) elt te)
    (hsc : scOk X.env.scope scope = true) (hcap : capOk X.N N' scope m = true) (hs : ∀ x, foldedSetIterable iter X.env x = pure x) {pins : List (Addr × Obj)} {s : Shared} {σ : L2.St} {H : Hp} (I : Inv X pins σ H s)
    (h : wi σ H fun J H1 => ∀ D, H1 D = none →
      ∃ W : Nat → Nat → L2.St → Hp → Prop, (∃ n, W 0 n (cap m σ) (upd H1 D (.lst []))) ∧ ∀ i n σ H, W i n σ H →
        (J.stop i H ∧ QD D H) ∨ (J.go i H ∧ ∀ x H', J.yld i H x H' → g x σ H' fun σ2 H2 => tif σ2 H2 fun k H3 =>
          if k = true then te σ2 H3 fun y H4 => ∃ zs, H4 D = some (.lst zs) ∧ zs.length < sizeLine ∧ ∃ n', n' < n ∧ W (i + 1) n' σ2 (upd H4 D (.lst (zs ++ [y])))
          else ∃ n', n' < n ∧ W (i + 1) n' σ2 H3))
    (fin : ∀ (D : Addr) (s3 : Shared) (H3 : Hp) (fp : List Addr) (s6 : Shared) (H6 : Hp) (σ6 : L2.St) (r : Flow), Inv X pins σ H3 s3 → (∀ b ∈ fp, FpOk X pins H3 b) → Inv (cxComp X N' scope s3 H3 fp) [] σ6 H6 s6 → QD D H6 → compPost (model X.prog X.w) X.A X.xe use Qc (.ref D) s3.heap.objs.size (.ok r) s6) :
    wpAny (model X.prog X.w) X.A (comprehension (.ListComp elt [⟨tg, iter, ifs, 0⟩] scope pos) scope X.env cpos (newList []) false (eval iter X.env) use) Qc X.xe s := by
  have sc := scOk_facts hsc
  have hcl : ∀ y ∈ scope.names, y.2 = .free → ∃ c, X.env.cells.lookup y.1 = some c := fun y hy e => by
    rcases (sc.free y hy e).2 with z | z
    · exact I.ok.has y.1 (.inl z)
    · exact I.ok.has y.1 (.inr z)
  refine wpAny_comprehension_free (g := ⟨tg, iter, ifs, 0⟩) (gs := []) rfl hs (closureFor_eq hcl) sc.kind sc.loc ?_
  show wpAny _ _ (eval iter X.env) _ _ s
  refine thn (hi pins s σ H _ I h) fun v s1 h1 => thn h1 fun itv s2 h2 => ?_
  obtain ⟨it, fp, tn, J, H2, rfl, I2, T, st2, f2, hW⟩ := h2
  refine wpAny_newObj_type ?_
  have hD : H2 s2.heap.objs.size = none := I2.fresh
  obtain ⟨W, ⟨n0, w0⟩, turn⟩ := hW _ hD
  generalize hDe : s2.heap.objs.size = D at *
  have I3 : Inv X pins σ (upd H2 D (.lst [])) { s2 with heap := s2.heap.push { cls := .type "list", dict := none, data := .seq ([] : List Value).toArray } } := by
    subst hDe
    exact I2.laid (t' := s2.toks) (fun b u e => Heap.get?_push_of_some _ e) (Nat.le_refl _) ⟨Nat.zero_le _, [], 0, .nil, Heap.get?_push_size _ rfl⟩
  have ob2 := T.obj 0 _ st2
  have ob3 : ∀ b ∈ fp, ∃ o, (s2.heap.push { cls := .type "list", dict := none, data := .seq ([] : List Value).toArray }).get? b = some o := fun b hb => let ⟨o, e, _⟩ := ob2 b hb; ⟨o, Heap.get?_push_of_some _ e⟩
  have f3 : ∀ b ∈ fp, FpOk X pins (upd H2 D (.lst [])) b := fun b hb => by
    obtain ⟨o, e, _⟩ := ob2 b hb
    have : b ≠ D := by rw [← hDe]; exact Nat.ne_of_lt (Heap.lt_size e)
    exact ⟨by rw [upd_ne this]; exact (f2 b hb).1, (f2 b hb).2⟩
  have k23 : ∀ b o, s2.heap.get? b = some o → (s2.heap.push { cls := .type "list", dict := none, data := .seq ([] : List Value).toArray }).get? b = some o := fun b o e => Heap.get?_push_of_some _ e
  generalize hH3 : upd H2 D (.lst []) = H3 at *
  generalize hs3 : ({ s2 with heap := s2.heap.push { cls := .type "list", dict := none, data := .seq ([] : List Value).toArray } } : Shared) = s3 at *
  have ob3 : ∀ b ∈ fp, ∃ o, s3.heap.get? b = some o := by rw [← hs3]; exact ob3
  have k23 : ∀ b o, s2.heap.get? b = some o → s3.heap.get? b = some o := by rw [← hs3]; exact k23
  refine wpAny_newFunctionEnv (fun y hy => sc.nocell y hy) (by intro y hy; simp at hy) (fun h₁ hns hsb => ?_) sc.kind
  have hk : ∀ b o, s3.heap.get? b = some o → h₁.get? b = some o := fun b o e => by
    rw [hsb.2 b (Nat.ne_of_lt (Heap.lt_size e))]; exact Heap.get?_push_of_some _ e
  have I4 : Inv (cxComp X N' scope s3 H3 fp) [] (cap m σ) H3 { s3 with heap := h₁ } := inv_comp hc I3 sc hcap f3 ob3 hns hk
  have tn4 : tn 0 h₁ := T.keep _ _ _ st2 fun b hb o e => hk b o (k23 b o e)
  have fr4 : ∀ b ∈ fp, H3 b = none := fun b hb => (f3 b hb).1
  have stat : ∀ {H' : Hp}, (∀ b ∈ fp, H' b = none) → ∀ b ∈ fp, FpOk (cxComp X N' scope s3 H3 fp) [] H' b := fun hn b hb => by
    refine ⟨hn b hb, I4.ok.exf b hb |>.1, I4.ok.exfs b hb, .inl hb, fun x c e => (I4.ok.exf b hb).2 x c e, fun p hp => absurd (show p ∈ ([] : List (Addr × Obj)) from hp) (by simp)⟩
  show codeAny (model X.prog X.w) X.A (.compStart (.ListComp elt [⟨tg, iter, ifs, 0⟩] scope pos) 0 (.ref it) (.ref D) (cxComp X N' scope s3 H3 fp).env) (compPost (model X.prog X.w) X.A X.xe use Qc (.ref D) s3.heap.objs.size) { s3 with heap := h₁ }
  have loop : codeAny (model X.prog X.w) X.A (.compLoop (.ListComp elt [⟨tg, iter, ifs, 0⟩] scope pos) 0 (.ref it) (.ref D) (cxComp X N' scope s3 H3 fp).env) (compPost (model X.prog X.w) X.A X.xe use Qc (.ref D) s3.heap.objs.size) { s3 with heap := h₁ } := by
    refine codeAny_loop rfl (fun n s' => ∃ i σ' H', Inv (cxComp X N' scope s3 H3 fp) [] σ' H' s' ∧ tn i s'.heap ∧ (∀ b ∈ fp, H' b = none) ∧ W i n σ' H') (fun n s' hI => ?_) n0 ⟨0, cap m σ, H3, I4, tn4, fr4, w0⟩
    show wpAny _ X.A ((compTurn (.ListComp elt [⟨tg, iter, ifs, 0⟩] scope pos) 0 (.ref it) (.ref D) (cxComp X N' scope s3 H3 fp).env).onRaise (fun x => do noteFrame x (cxComp X N' scope s3 H3 fp).env; theTreesLotGoes x)) _ _ s'
    refine wpAny_noted ?_
    rw [compTurn_list]
    refine wpAny_bind (wpAny_standAt (wpAny_bind ?_))
    obtain ⟨i, σ5, H5, I5, st5, fr5, w5⟩ := hI
    rcases turn i n σ5 H5 w5 with ⟨stop, q⟩ | ⟨go, step⟩
    · refine thn (T.done (cxComp X N' scope s3 H3 fp) rfl rfl rfl rfl i [] s' σ5 H5 _ I5 (stat fr5) st5 stop) fun r s6 ⟨hr, I6⟩ => ?_
      subst hr
      refine wpAny_pure ?_
      exact fin D s3 H3 fp s6 H5 σ5 _ I3 f3 I6 q
    · refine thn (T.item (cxComp X N' scope s3 H3 fp) rfl rfl rfl rfl i [] s' σ5 H5 _ I5 (stat fr5) st5 go) fun r s6 ⟨u, hr, h6⟩ => ?_
      subst hr
      refine wpAny_bind (thn h6 fun _ s7 ⟨x, H7, I7, r7, y7, st7, fr7⟩ => ?_)
      have I7' := I7.pinned (stat fr7) (T.obj _ _ st7)
      have again : ∀ {σ8 : L2.St} {H8 : Hp} {s8 : Shared}, Inv (cxComp X N' scope s3 H3 fp) ([] ++ pinsAt fp s7.heap) σ8 H8 s8 → (∃ n', n' < n ∧ W (i + 1) n' σ8 H8) →
          ∃ m', m' < n ∧ ∃ i σ' H', Inv (cxComp X N' scope s3 H3 fp) [] σ' H' s8 ∧ tn i s8.heap ∧ (∀ b ∈ fp, H' b = none) ∧ W i m' σ' H' := fun {σ8 H8 s8} I8 ⟨n', hn, w8⟩ => by
        refine ⟨n', hn, i + 1, σ8, H8, I8.unpinned, T.keep _ _ _ st7 fun b hb o e => (I8.pin (b, o) (List.mem_append_right _ (List.mem_append_right _ (mem_pinsAt hb e)))).1, fun b hb => ?_, w8⟩
        obtain ⟨o, e, d⟩ := T.obj _ _ st7 b hb
        exact (I8.pin (b, o) (List.mem_append_right _ (List.mem_append_right _ (mem_pinsAt hb e)))).2.1
      refine wpAny_bind (wpAny_mono (hg s3 H3 fp _ s7 σ5 H7 x u _ I7' r7 (step x H7 y7)) (fun _ s8 ⟨σ8, H8, I8, q8⟩ => ?_) fun _ _ z => z.elim)
      refine wpAny_bind (wpAny_mono (hf s3 H3 fp _ s8 σ8 H8 _ I8 q8) (fun k s9 ⟨H9, I9, q9⟩ => ?_) fun _ _ z => z.elim)
      cases k with
      | false =>
        rw [if_neg Bool.false_ne_true] at q9
        exact wpAny_pure ⟨rfl, again I9 q9⟩
      | true =>
        rw [if_pos rfl] at q9
        refine wpAny_bind (wpAny_bind (wpAny_mono (he s3 H3 fp _ s9 σ8 H9 _ I9 q9) (fun w s10 ⟨y, H10, I10, r10, q10⟩ => ?_) fun _ _ z => z.elim))
        obtain ⟨zs, hz, hl, q10⟩ := q10
        refine wpAny_bind (wpAny_mono (mt_append (X := cxComp X N' scope s3 H3 fp) _ s10 σ8 H10 (.ref D) [y] (.ref D) [w] (fun _ H11 => H11 = upd H10 D (.lst (zs ++ [y]))) I10 rfl (.cons r10 .nil) ⟨D, zs, y, rfl, rfl, hz, hl, rfl⟩) (fun _ s11 ⟨_, H11, I11, _, e11⟩ => ?_) fun _ _ z => z.elim)
        subst e11
        exact wpAny_pure (wpAny_pure ⟨rfl, again I11 q10⟩)
  exact codeAny_compStart_list loop (T.self X.A 0 _ _ _ tn4 loop)
theorem ps_lcset {i : Nat} {y : Str} {py spos : Pos} {elt tg iter : Expr} {ifs : List Expr} {scope : Scope} {pos : Pos} {N' : List Str} {m : List (Option Nat)} {wi : TI} {g : TG} {tif : TT} {te : TE} (hc : X.calm = true) (hN : X.N.Nodup) (hi : PI X tg iter wi)
    (hg : ∀ s H fp, PG (cxComp X N' scope s H fp) tg g) (hf : ∀ s H fp, PF (cxComp X N' scope s H fp) ifs tif) (he : ∀ s H fp, PE (cxComp X N' scope s H fp) elt te)
    (hsc : scOk X.env.scope scope = true) (hcap : capOk X.N N' scope m = true) (hs : ∀ x, foldedSetIterable iter X.env x = pure x) (hiy : X.N[i]? = some y) (hl : X.env.scope.names.lookup y = some .local)
    (hsw : swapsWith (.ListComp elt [⟨tg, iter, ifs, 0⟩] scope pos) (some (.Name y py)) spos.line X.env = pure true) :
    PS X (.Assign [.Name y py] (.ListComp elt [⟨tg, iter, ifs, 0⟩] scope pos) spos) (tAsg (tLC wi g tif te m) (gName i)) := by
  intro pins s σ H D I h
  rw [exec_Assign_Name_used _ _ _ _ hsw]
  refine wpAny_bind (wpAny_standAt (wpAny_bind ?_))
  show wpAny _ X.A (do let _ ← comprehension (.ListComp elt [⟨tg, iter, ifs, 0⟩] scope pos) scope X.env _ (newList []) false (eval iter X.env) (some (assign (.Name y py) X.env))) _ _ s
  refine wpAny_bind (wpAny_mono (lc_core (use := some (assign (.Name y py) X.env)) (QD := fun D' H' => D.nx (σ.set i (some (.ref D'))) H') (Qc := fun _ s' => ∃ σ' H', Inv X pins σ' H' s' ∧ D.nx σ' H') hc hi hg hf he hsc hcap hs I h fun D' s3 H3 fp s6 H6 σ6 r I3 f3 I6 q => ?_) (fun _ s' hq => wpAny_pure (wpAny_pure hq)) fun _ _ e => e)
  have I7 : Inv X pins σ H6 s6 := inv_uncomp (h2 := s6.heap) I3 f3 I6 ⟨rfl, fun _ _ => rfl⟩
  obtain ⟨mm, hn6, _⟩ := I6.loc
  have hfC : FpOk X pins H6 s3.heap.objs.size := I3.fpOk (Nat.le_refl _) I6.free
  obtain ⟨f0, f1, f2, f3', f4, f5⟩ := hfC
  show wpAny _ X.A (assign (.Name y py) X.env (.ref D')) _ _ _
  refine wpAny_assign_Name (store_ok2 I7 hN hiy (.inl hl) (v := .ref D') rfl (fun s8 I8 hch => ?_) (.inr hl))
  obtain ⟨a, sb, ha⟩ := hch
  have hne : s3.heap.objs.size ≠ a := by
    rcases ha with rfl | ha
    · exact f1
    · exact Ne.symm (f4 _ _ ha)
  refine ⟨mm, hn6.sameBut sb hne, fun h' sb' => ⟨_, _, I8.turned (t' := s8.toks) (fun b o hb e => (sb'.2 b hb).trans e) f0 f1 f3' f4 f5, q⟩⟩
end
theorem lE_lc {K : PySem.W.Frag} {m : List (Option Nat)} {wi : TI3} {g : TG3} {tif : TT3} {te : TE3} {σ : L2.St} {H : Hp} {Q : VK} (hh : lE K (lc3 wi g tif te m) σ H Q) : tLC (lI K wi) (lG K g) (lT K tif) (lE K te) m σ H Q := by
    obtain ⟨τ, G, q, rl, h, af⟩ := hh
    refine ⟨τ, G, _, rl, h, fun items stay G1 h1 J H1 hr1 k1 ok D hD => ?_⟩
    have gD : G1 D = none := hr1.free hD
    refine ⟨fun i n σ' H' => n = items.length - i ∧ i ≤ items.length ∧ ∃ τ' G' ys vs, Rel K τ' G' σ' H' ∧ Kp G1 H1 G' H' ∧ H' D = some (.lst vs) ∧ Rps K H' ys vs ∧ G' D = none ∧ lcGo stay g tif te q (items.drop i) ys τ' G',
      ⟨_, rfl, Nat.zero_le _, cap m τ, G1, [], [], ((rl.next hr1 k1).cap m).next (hr1.laid hD) (Kp.laid hD), Kp.laid hD, upd_same, .nil, gD, by simpa using h1⟩, ?_⟩
    rintro i n σ' H' ⟨rfl, hi, τ', G', ys, vs, rl', k', hDl, rys, gD', h'⟩
    by_cases hlt : i < items.length
    · rw [List.drop_eq_getElem_cons hlt] at h'
      obtain ⟨hst, h'⟩ := h'
      obtain ⟨go, yld, _⟩ := ok G' H' rl'.hp k' hst
      have hx : items[i]? = some items[i] := List.getElem?_eq_getElem hlt
      refine .inr ⟨go i _ hx, fun v H2 y => ?_⟩
      obtain ⟨rv, hr2, k2⟩ := yld i _ v H2 hx y
      have nxt : ∀ {τ4 : St3} {G4 : Gp} {σ4 : L2.St} {H4 : Hp} {ys4 : List T} {vs4 : List V}, Rel K τ4 G4 σ4 H4 → Kp G1 H1 G4 H4 → H4 D = some (.lst vs4) → Rps K H4 ys4 vs4 → G4 D = none → lcGo stay g tif te q (items.drop (i + 1)) ys4 τ4 G4 →
          ∃ n', n' < items.length - i ∧ (n' = items.length - (i + 1) ∧ i + 1 ≤ items.length ∧ ∃ τ' G' ys vs, Rel K τ' G' σ4 H4 ∧ Kp G1 H1 G' H4 ∧ H4 D = some (.lst vs) ∧ Rps K H4 ys vs ∧ G' D = none ∧ lcGo stay g tif te q (items.drop (i + 1)) ys τ' G') :=
        fun {τ4 G4 σ4 H4 ys4 vs4} a b c d e f => ⟨_, by omega, rfl, hlt, τ4, G4, ys4, vs4, a, b, c, d, e, f⟩
      refine ⟨_, τ', G', _, rv, rl'.next hr2 k2, h', fun τ3 G3 h3 σ3 H3 rl3 k3 => ⟨τ3, G3, _, rl3, h3, fun k G4 h4 H4 hr4 k4 => ?_⟩⟩
      have kk := (k2.trans k3).trans k4
      obtain ⟨hD4, gD4⟩ := kk D _ hDl gD'
      have rys4 := rys.keep rl'.hp kk
      cases k with
      | false =>
        rw [if_neg Bool.false_ne_true] at h4
        refine iteF ?_
        exact nxt (rl3.next hr4 k4) (k'.trans kk) hD4 rys4 gD4 h4
      | true =>
        rw [if_pos rfl] at h4
        refine iteT ?_
        refine ⟨τ3, G4, _, rl3.next hr4 k4, h4, fun z G5 h5 w H5 rw5 hr5 k5 => ?_⟩
        obtain ⟨hD5, gD5⟩ := k5 D _ hD4 gD4
        have rys5 := rys4.keep hr4 k5
        exact ⟨vs, hD5, by rw [← rys.length]; exact h5.1, nxt (((rl3.next hr4 k4).next hr5 k5).wrD hD5 gD5) (((k'.trans kk).trans k5).wrD hD) upd_same ((rys5.append (.cons rw5 .nil)).wrD hD5) gD5 h5.2⟩
    · have e : i = items.length := by omega
      subst e
      rw [List.drop_length] at h'
      obtain ⟨_, _, stop⟩ := ok G' H' rl'.hp k' h'.1
      refine .inl ⟨stop, af _ _ (h'.2 D gD') _ H' (.ref D) (fun a o e => ?_) fun a o e ga => ?_⟩
      · by_cases ha : a = D
        · subst ha
          rw [gu_same] at e; cases e
          exact ⟨vs, hDl, rys⟩
        · rw [gu_ne ha] at e
          exact rl'.hp a o e
      · obtain ⟨e1, g1⟩ := k1 a o e ga
        obtain ⟨e2, g2⟩ := k' a o e1 g1
        exact ⟨e2, by rw [gu_ne (ne_of_none e1 hD)]; exact g2⟩
theorem s_lcset {X : Cx} {py spos : Pos} {elt tg iter : Expr} {ifs : List Expr} {scope : Scope} {pos : Pos} {y : Str} (i : Nat) (N' : List Str) (m : List (Option Nat)) {wi : TI3} {g : TG3} {tif : TT3} {te : TE3} (hc : X.calm = true) (hN : X.N.Nodup) (hi : I3 X tg iter wi)
    (hg : ∀ s H fp, G3 (cxComp X N' scope s H fp) tg g) (hf : ∀ s H fp, F3 (cxComp X N' scope s H fp) ifs tif) (he : ∀ s H fp, E3 (cxComp X N' scope s H fp) elt te)
    (hsc : scOk X.env.scope scope = true) (hcap : capOk X.N N' scope m = true) (hl : X.env.scope.names.lookup y = some .local) (hsw : swapsWith (.ListComp elt [⟨tg, iter, ifs, 0⟩] scope pos) (some (.Name y py)) spos.line X.env = pure true) (hiy : X.N[i]? = some y := by rfl) (hs : ∀ x, foldedSetIterable iter X.env x = pure x := by intro _; rfl) :
    S3 X (.Assign [.Name y py] (.ListComp elt [⟨tg, iter, ifs, 0⟩] scope pos) spos) (asg3 (lc3 wi g tif te m) (gn3 i)) :=
  ps_w (ps_lcset (g := lG X.K g) (tif := lT X.K tif) (te := lE X.K te) hc hN hi hg hf he hsc hcap hs hiy hl hsw) fun _ σ H ⟨τ, G, d, rl, h, af⟩ =>
    lE_lc ⟨τ, G, _, rl, h, fun x G1 h1 v H1 rx hr1 k1 => af.nx _ G1 h1 _ H1 ((rl.next hr1 k1).set i rx) k1⟩
end L3
set_option Elab.async false
set_option linter.all false
set_option maxRecDepth 100000
set_option maxHeartbeats 4000000
set_option autoImplicit true
namespace L3
open PySem PySem.Spec PyProof.Rows L2
structure jE3 (X : Cx) (e : Expr) (t : TE3) : Prop where h : E3 X e t
structure jC3 (X : Cx) (e : Expr) (t : TT3) : Prop where h : C3 X e t
structure jW3 (X : Cx) (e : Expr) (t : TT3) : Prop where h : W3 X e t
structure jA3 (X : Cx) (e : List Expr) (t : TA3) : Prop where h : A3 X e t
structure jP3 (X : Cx) (e : Option Expr) (t : TO3) : Prop where h : P3 X e t
structure jS3 (X : Cx) (e : Stmt) (t : TS3) : Prop where h : S3 X e t
structure jB3 (X : Cx) (e : List Stmt) (t : TS3) : Prop where h : B3 X e t
structure jG3 (X : Cx) (e : Expr) (t : TG3) : Prop where h : G3 X e t
structure jGs3 (X : Cx) (e : List Expr) (t : TGs3) : Prop where h : Gs3 X e t
structure jI3 (X : Cx) (tg e : Expr) (t : TI3) : Prop where h : I3 X tg e t
structure jF3 (X : Cx) (e : List Expr) (t : TT3) : Prop where h : F3 X e t
theorem je_var {X : Cx} (i : Nat) {x : Str} {pos : Pos} (hN : X.N[i]? = some x := by rfl) (hv : Vis X.env.scope x := by first | exact Or.inl rfl | exact Or.inr (Or.inl rfl) | exact Or.inr (Or.inr rfl)) (hd : (x == ("__debug__" : Str)) = false := by decide)
    (hcd : (x == ("__classdict__" : Str)) = false := by decide) : jE3 X (.Name x pos) (v3 i) :=
  ⟨e_var (i := i) (hN := hN) (hv := hv) (hd := hd) (hcd := hcd)⟩
theorem je_int {X : Cx} {i : Int} {j pos} : jE3 X (.Constant (.int i) j pos) (c3 (.int i)) :=
  ⟨e_int ⟩
theorem je_bl {X : Cx} {b : Bool} {j pos} : jE3 X (.Constant (.bool b) j pos) (c3 (.bl b)) :=
  ⟨e_bl ⟩
theorem je_non {X : Cx} {j pos} : jE3 X (.Constant .none j pos) (c3 .non) :=
  ⟨e_non ⟩
theorem je_str {X : Cx} {x : Str} {j pos} : jE3 X (.Constant (.str x) j pos) (c3 (.str x)) :=
  ⟨e_str ⟩
theorem je_cmp {ta : TE3} {tb : TE3} {pos : Pos} {a : Expr} {b : Expr} {X : Cx} {op : CmpOp} {r3 : R3} {r : R2} (ho : OpR X (compareOp op) r) (hr : Ref2 X.K r3 r) (ha : jE3 X a ta) (hb : jE3 X b tb) (hm : behindInMarks op b = false) : jE3 X (.Compare a [op] [b] pos) (o3 r3 ta tb) :=
  ⟨e_cmp (ho := ho) (hr := hr) (ha := ha.h) (hb := hb.h) (hm := hm)⟩
theorem jt_cmp {ta : TE3} {tb : TE3} {pos : Pos} {a : Expr} {b : Expr} {X : Cx} {op : CmpOp} {r3 : R3} {r : R2} (ho : OpR X (compareOp op) r) (hr : Ref2 X.K r3 r) (ha : jE3 X a ta) (hb : jE3 X b tb) (hm : behindInMarks op b = false) : jC3 X (.Compare a [op] [b] pos) (tb3 (o3 r3 ta tb)) :=
  ⟨t_cmp (ho := ho) (hr := hr) (ha := ha.h) (hb := hb.h) (hm := hm)⟩
theorem je_sub {ta : TE3} {tb : TE3} {pos : Pos} {a : Expr} {b : Expr} {X : Cx} (ha : jE3 X a ta) (hb : jE3 X b tb) : jE3 X (.BinOp a .Sub b pos) (o3 (iI (· - ·)) ta tb) :=
  ⟨e_sub (ha := ha.h) (hb := hb.h)⟩
theorem je_mul {ta : TE3} {tb : TE3} {pos : Pos} {a : Expr} {b : Expr} {X : Cx} (ha : jE3 X a ta) (hb : jE3 X b tb) : jE3 X (.BinOp a .Mult b pos) (o3 (iC CMul (· * ·)) ta tb) :=
  ⟨e_mul (ha := ha.h) (hb := hb.h)⟩
theorem je_mod {ta : TE3} {tb : TE3} {pos : Pos} {a : Expr} {b : Expr} {X : Cx} (ha : jE3 X a ta) (hb : jE3 X b tb) : jE3 X (.BinOp a .Mod b pos) (o3 (iC (fun _ j => 0 < j) (· % ·)) ta tb) :=
  ⟨e_mod (ha := ha.h) (hb := hb.h)⟩
theorem je_div {ta : TE3} {tb : TE3} {pos : Pos} {a : Expr} {b : Expr} {X : Cx} (ha : jE3 X a ta) (hb : jE3 X b tb) : jE3 X (.BinOp a .FloorDiv b pos) (o3 (iC CDiv (· / ·)) ta tb) :=
  ⟨e_div (ha := ha.h) (hb := hb.h)⟩
theorem je_pow {ta : TE3} {tb : TE3} {pos : Pos} {a : Expr} {b : Expr} {X : Cx} (ha : jE3 X a ta) (hb : jE3 X b tb) : jE3 X (.BinOp a .Pow b pos) (o3 (iC CPow (fun i j => i ^ j.toNat)) ta tb) :=
  ⟨e_pow (ha := ha.h) (hb := hb.h)⟩
theorem je_neg {ta : TE3} {pos : Pos} {a : Expr} {X : Cx} (ha : jE3 X a ta) : jE3 X (.UnaryOp .USub a pos) (u3 neg3 ta) :=
  ⟨e_neg (ha := ha.h)⟩
theorem jt_or1 {tA : TT3} {pos : Pos} {a : Expr} {X : Cx} (ha : jC3 X a tA) : jW3 X (.BoolOp .Or [a] pos) tA :=
  ⟨t_or1 (ha := ha.h)⟩
theorem jt_or {rest : List Expr} {tA : TT3} {tB : TT3} {pos : Pos} {a : Expr} {X : Cx} (ha : jC3 X a tA) (hb : jW3 X (.BoolOp .Or (b :: rest) pos) tB) : jW3 X (.BoolOp .Or (a :: b :: rest) pos) (or3 tA tB) :=
  ⟨t_or (ha := ha.h) (hb := hb.h)⟩
theorem jt_not {tA : TT3} {pos : Pos} {a : Expr} {X : Cx} (ha : jC3 X a tA) : jC3 X (.UnaryOp .Not a pos) (not3 tA) :=
  ⟨t_not (ha := ha.h)⟩
theorem jt_val {X : Cx} {e : Expr} {t : TE3} (h : jE3 X e t) (he : ∀ whole, isTrue e X.env whole = (do let v ← whole; standAt e.pos; holding [v] (truthy v)) := by intro _; rfl) : jC3 X e (tb3 t) :=
  ⟨t_val (h := h.h) (he := he)⟩
theorem je_one {ta : TE3} {pos : Pos} {a : Expr} {X : Cx} {op} (h : jE3 X a ta) : jE3 X (.BoolOp op [a] pos) ta :=
  ⟨e_one (h := h.h)⟩
theorem je_and {rest : List Expr} {ta : TE3} {tb : TE3} {pos : Pos} {a : Expr} {X : Cx} (ha : jE3 X a ta) (hb : jE3 X (.BoolOp .And (b :: rest) pos) tb) : jE3 X (.BoolOp .And (a :: b :: rest) pos) (andV3 ta tb) :=
  ⟨e_and (ha := ha.h) (hb := hb.h)⟩
theorem je_not {ta : TE3} {pos : Pos} {a : Expr} {X : Cx} (ha : jE3 X a ta) : jE3 X (.UnaryOp .Not a pos) (notV3 ta) :=
  ⟨e_not (ha := ha.h)⟩
theorem je_if {tA : TT3} {ta : TE3} {tb : TE3} {pos : Pos} {a : Expr} {b : Expr} {X : Cx} {c : Expr} (hc : jC3 X c tA) (ha : jE3 X a ta) (hb : jE3 X b tb) : jE3 X (.IfExp c a b pos) (if3 tA ta tb) :=
  ⟨e_if (hc := hc.h) (ha := ha.h) (hb := hb.h)⟩
theorem ja_nil {X : Cx}  : jA3 X [] nil3 :=
  ⟨a_nil ⟩
theorem ja_cons {te : TE3} {t : TA3} {es : List Expr} {X : Cx} (ha : jE3 X e te) (hr : jA3 X es t) (hs : starEach (e :: es) X.env = (false, eval e X.env) :: starEach es X.env := by rfl) : jA3 X (e :: es) (cons3 te t) :=
  ⟨a_cons (ha := ha.h) (hr := hr.h) (hs := hs)⟩
theorem je_tup {t : TA3} {pos : Pos} {es : List Expr} {X : Cx} {x1} (h : jA3 X es t) : jE3 X (.Tuple es x1 pos) (tup3 t) :=
  ⟨e_tup (h := h.h)⟩
theorem je_lst {t : TA3} {pos : Pos} {es : List Expr} {X : Cx} (h : jA3 X es t) : jE3 X (.List es pos) (lst3 t) :=
  ⟨e_lst (h := h.h)⟩
theorem je_callB {t : TA3} {pos : Pos} {es : List Expr} {X : Cx} {x : Str} {p : Pos} {id : String} {r3 : List T → Gp → Q3 → Prop} {r : List V → Hp → VK → Prop} (hc : CallR X (.builtin id) r) (hr : RefC X.K r3 r) (hg : Gl X x) (hm : X.mg x = none) (hv : bootBuiltins x = some (.builtin id)) (ha : jA3 X (e :: es) t) (hn : x ≠ "__name__" := by decide) (hdb : (x == ("__debug__" : Str)) = false := by decide)
    (he : starEach (e :: es) X.env = (false, eval e X.env) :: starEach es X.env := by rfl) (hpl : (backTo pos (starEach es X.env)).any (·.1) = false := by rfl) : jE3 X (.Call (.Name x p) (e :: es) [] pos) (cb3 r3 t) :=
  ⟨e_callB (hc := hc) (hr := hr) (hg := hg) (hm := hm) (hv := hv) (ha := ha.h) (hn := hn) (hdb := hdb) (he := he) (hpl := hpl)⟩
theorem je_callTy {t : TA3} {pos : Pos} {es : List Expr} {X : Cx} {x : Str} {p : Pos} {ty : String} {r3 : List T → Gp → Q3 → Prop} {r : List V → Hp → VK → Prop} (hc : CallR X (.type ty) r) (hr : RefC X.K r3 r) (hg : Gl X x) (hm : X.mg x = none) (hv : bootBuiltins x = some (.type ty)) (ha : jA3 X (e :: es) t) (hn : x ≠ "__name__" := by decide) (hdb : (x == ("__debug__" : Str)) = false := by decide)
    (he : starEach (e :: es) X.env = (false, eval e X.env) :: starEach es X.env := by rfl) (hpl : (backTo pos (starEach es X.env)).any (·.1) = false := by rfl) : jE3 X (.Call (.Name x p) (e :: es) [] pos) (cb3 r3 t) :=
  ⟨e_callTy (hc := hc) (hr := hr) (hg := hg) (hm := hm) (hv := hv) (ha := ha.h) (hn := hn) (hdb := hdb) (he := he) (hpl := hpl)⟩
theorem je_ix {ta : TE3} {tb : TE3} {pos : Pos} {a : Expr} {b : Expr} {X : Cx} (ha : jE3 X a ta) (hb : jE3 X b tb) (hs : PlainIx b := by intro _ _; rfl) : jE3 X (.Subscript a b pos) (o3 ix3 ta tb) :=
  ⟨e_ix (ha := ha.h) (hb := hb.h) (hs := hs)⟩
theorem jp_none {X : Cx}  : jP3 X none np3 :=
  ⟨p_none ⟩
theorem jp_some {te : TE3} {e : Expr} {X : Cx} (h : jE3 X e te) : jP3 X (some e) (sp3 te) :=
  ⟨p_some (h := h.h)⟩
theorem je_slice {te : TE3} {pos : Pos} {e : Expr} {X : Cx} {lo hi : Option Expr} {tl th : TO3} {p2 : Pos} (he : jE3 X e te) (hl : jP3 X lo tl) (hu : jP3 X hi th) : jE3 X (.Subscript e (.Slice lo hi none p2) pos) (tsl3 te tl th) :=
  ⟨e_slice (he := he.h) (hl := hl.h) (hu := hu.h)⟩
theorem je_plus {ta : TE3} {tb : TE3} {pos : Pos} {a : Expr} {b : Expr} {X : Cx} (ha : jE3 X a ta) (hb : jE3 X b tb) : jE3 X (.BinOp a .Add b pos) (o3 cat3 ta tb) :=
  ⟨e_plus (ha := ha.h) (hb := hb.h)⟩
theorem je_append {t : TA3} {e : Expr} {X : Cx} {o : Expr} {to : TE3} {apos cpos : Pos} (ho : jE3 X o to) (ha : jA3 X [e] t)
    (hbase : attributeBase o "append" X.env (eval o X.env) = eval o X.env := by rfl)
    (hfew : ((backTo cpos (starEach [e] X.env)).all (fun x => !x.1) && (backToKw cpos (keywordEach [] X.env)).all (fun x => x.1.isSome)
      && decide (([e] : List Expr).length + ([] : List Keyword).length + (if ([] : List Keyword).isEmpty then 0 else 1) < 30)) = true := by rfl)
    (hline : (apos.endLine == cpos.line) = true := by rfl) (hs : starEach [e] X.env = (false, eval e X.env) :: starEach [] X.env := by rfl) (hplain : (backTo cpos (starEach [] X.env)).any (·.1) = false := by rfl) : jE3 X (.Call (.Attribute o "append" apos) [e] [] cpos) (bm3 app3 to t) :=
  ⟨e_append (ho := ho.h) (ha := ha.h) (hbase := hbase) (hfew := hfew) (hline := hline) (hs := hs) (hplain := hplain)⟩
theorem je_extend {t : TA3} {e : Expr} {X : Cx} {o : Expr} {to : TE3} {apos cpos : Pos} (ho : jE3 X o to) (ha : jA3 X [e] t)
    (hbase : attributeBase o "extend" X.env (eval o X.env) = eval o X.env := by rfl)
    (hfew : ((backTo cpos (starEach [e] X.env)).all (fun x => !x.1) && (backToKw cpos (keywordEach [] X.env)).all (fun x => x.1.isSome)
      && decide (([e] : List Expr).length + ([] : List Keyword).length + (if ([] : List Keyword).isEmpty then 0 else 1) < 30)) = true := by rfl)
    (hline : (apos.endLine == cpos.line) = true := by rfl) (hs : starEach [e] X.env = (false, eval e X.env) :: starEach [] X.env := by rfl) (hplain : (backTo cpos (starEach [] X.env)).any (·.1) = false := by rfl) : jE3 X (.Call (.Attribute o "extend" apos) [e] [] cpos) (bm3 ext3 to t) :=
  ⟨e_extend (ho := ho.h) (ha := ha.h) (hbase := hbase) (hfew := hfew) (hline := hline) (hs := hs) (hplain := hplain)⟩
theorem je_isi {te : TE3} {pos : Pos} {e : Expr} {X : Cx} {tn : Str} {ty : String} {p p2 : Pos} (he : jE3 X e te) (hg : Gl X "isinstance") (hm : X.mg "isinstance" = none) (hg2 : Gl X tn) (hm2 : X.mg tn = none) (hv : bootBuiltins tn = some (.type ty)) (hmem : ty ∈ tyNames := by decide) (hn : tn ≠ "__name__" := by decide) (hdb : (tn == ("__debug__" : Str)) = false := by decide)
    (hs : starEach [e, .Name tn p2] X.env = (false, eval e X.env) :: starEach [.Name tn p2] X.env := by rfl) (hs2 : starEach [.Name tn p2] X.env = (false, eval (.Name tn p2) X.env) :: starEach [] X.env := by rfl) (hpl : (backTo pos (starEach [.Name tn p2] X.env)).any (·.1) = false := by rfl) : jE3 X (.Call (.Name "isinstance" p) [e, .Name tn p2] [] pos) (isi3 (fun t => subT t ty) te) :=
  ⟨e_isi (he := he.h) (hg := hg) (hm := hm) (hg2 := hg2) (hm2 := hm2) (hv := hv) (hmem := hmem) (hn := hn) (hdb := hdb) (hs := hs) (hs2 := hs2) (hpl := hpl)⟩
theorem je_isi2 {te : TE3} {pos : Pos} {e : Expr} {X : Cx} {tn tn' : Str} {ty ty' : String} {p p2 p3 p4 : Pos} {x1} (he : jE3 X e te) (hg : Gl X "isinstance") (hm : X.mg "isinstance" = none) (hg2 : Gl X tn) (hm2 : X.mg tn = none) (hv : bootBuiltins tn = some (.type ty)) (hg3 : Gl X tn') (hm3 : X.mg tn' = none) (hv3 : bootBuiltins tn' = some (.type ty'))
    (hmem : ty ∈ tyNames := by decide) (hn : tn ≠ "__name__" := by decide) (hdb : (tn == ("__debug__" : Str)) = false := by decide) (hmem3 : ty' ∈ tyNames := by decide) (hn3 : tn' ≠ "__name__" := by decide) (hdb3 : (tn' == ("__debug__" : Str)) = false := by decide)
    (hs : starEach [e, .Tuple [.Name tn p2, .Name tn' p3] x1 p4] X.env = (false, eval e X.env) :: starEach [.Tuple [.Name tn p2, .Name tn' p3] x1 p4] X.env := by rfl) (hs2 : starEach [.Tuple [.Name tn p2, .Name tn' p3] x1 p4] X.env = (false, eval (.Tuple [.Name tn p2, .Name tn' p3] x1 p4) X.env) :: starEach [] X.env := by rfl)
    (hs3 : starEach [.Name tn p2, .Name tn' p3] X.env = (false, eval (.Name tn p2) X.env) :: starEach [.Name tn' p3] X.env := by rfl) (hs4 : starEach [.Name tn' p3] X.env = (false, eval (.Name tn' p3) X.env) :: starEach [] X.env := by rfl)
    (hpl : (backTo pos (starEach [.Tuple [.Name tn p2, .Name tn' p3] x1 p4] X.env)).any (·.1) = false := by rfl) : jE3 X (.Call (.Name "isinstance" p) [e, .Tuple [.Name tn p2, .Name tn' p3] x1 p4] [] pos) (isi3 (fun t => subT t ty || subT t ty') te) :=
  ⟨e_isi2 (he := he.h) (hg := hg) (hm := hm) (hg2 := hg2) (hm2 := hm2) (hv := hv) (hg3 := hg3) (hm3 := hm3) (hv3 := hv3) (hmem := hmem) (hn := hn) (hdb := hdb) (hmem3 := hmem3) (hn3 := hn3) (hdb3 := hdb3) (hs := hs) (hs2 := hs2) (hs3 := hs3) (hs4 := hs4) (hpl := hpl)⟩
theorem jb_nil {X : Cx}  : jB3 X [] next3 :=
  ⟨b_nil ⟩
theorem jb_cons {rest : List Stmt} {st : Stmt} {t1 : TS3} {t2 : TS3} {X : Cx} (h1 : jS3 X st t1) (h2 : jB3 X rest t2) : jB3 X (st :: rest) (seq3 t1 t2) :=
  ⟨b_cons (h1 := h1.h) (h2 := h2.h)⟩
theorem jb_one {st : Stmt} {t1 : TS3} {X : Cx} (h1 : jS3 X st t1) : jB3 X [st] t1 :=
  ⟨b_one (h1 := h1.h)⟩
theorem js_expr {te : TE3} {pos : Pos} {e : Expr} {X : Cx} (he : jE3 X e te) (hs : swapsWith e none pos.line X.env = pure false := by rfl) : jS3 X (.Expr e pos) (drop3 te) :=
  ⟨s_expr (he := he.h) (hs := hs)⟩
theorem js_ret {te : TE3} {pos : Pos} {e : Expr} {X : Cx} (he : jE3 X e te) : jS3 X (.Return (some e) pos) (ret3 te) :=
  ⟨s_ret (he := he.h)⟩
theorem js_if {tA : TT3} {t1 : TS3} {t2 : TS3} {pos : Pos} {X : Cx} {c : Expr} {ba bb : List Stmt} (hc : jC3 X c tA) (ha : jB3 X ba t1) (hb : jB3 X bb t2) : jS3 X (.If c ba bb pos) (ifS3 tA t1 t2) :=
  ⟨s_if (hc := hc.h) (ha := ha.h) (hb := hb.h)⟩
theorem jg_name {pos : Pos} {X : Cx} {i : Nat} {x : Str} (hN : X.N.Nodup) (hi : X.N[i]? = some x := by rfl) (hx : Loc X.env.scope x := by first | exact Or.inl rfl | exact Or.inr rfl) (hf : X.fn x = true ∨ X.env.scope.names.lookup x = some .local := by first | exact .inl rfl | exact .inr rfl) : jG3 X (.Name x pos) (gn3 i) :=
  ⟨g_name (hN := hN) (hi := hi) (hx := hx) (hf := hf)⟩
theorem jg_nil {X : Cx}  : jGs3 X [] gnil3 :=
  ⟨g_nil ⟩
theorem jg_cons {es : List Expr} {X : Cx} {tg : TG3} {tgs : TGs3} (h1 : jG3 X e tg) (h2 : jGs3 X es tgs) (hs : (assignEach (e :: es) X.env).map (·.2) = assign e X.env :: (assignEach es X.env).map (·.2) := by rfl) : jGs3 X (e :: es) (gcons3 tg tgs) :=
  ⟨g_cons (h1 := h1.h) (h2 := h2.h) (hs := hs)⟩
theorem jg_tup {pos : Pos} {es : List Expr} {X : Cx} {k : Nat} {tgs : TGs3} {n : Nat} (hc : X.calm = true) (h : jGs3 X es tgs) (hn : (assignEach es X.env).length = n := by rfl) (hst : (assignEach es X.env).findIdx? (·.1) = none := by rfl) : jG3 X (.Tuple es k pos) (gtup3 n tgs) :=
  ⟨g_tup (hc := hc) (h := h.h) (hn := hn) (hst := hst)⟩
theorem jg_sub {pos : Pos} {X : Cx} {o i : Expr} {to ti : TE3} (ho : jE3 X o to) (hi : jE3 X i ti) (ha : ∀ v, assign (.Subscript o i pos) X.env v = (do
      let ov ← holding [v] (eval o X.env)
      let iv ← holding [v, ov] (eval i X.env)
      standAt pos
      holding [v, ov, iv] (setItem ov iv v)
      release [v, ov, iv] []) := by intro _; rfl) : jG3 X (.Subscript o i pos) (gsub3 to ti) :=
  ⟨g_sub (ho := ho.h) (hi := hi.h) (ha := ha)⟩
theorem js_asg {te : TE3} {pos : Pos} {X : Cx} {tg e : Expr} {g : TG3} (he : jE3 X e te) (hg : jG3 X tg g) (hs : swapsWithSole [tg] e pos.line X.env = pure false := by rfl) (hw : swappedStores [tg] e X.env = pure none := by rfl)
    (h1 : (assignEach [tg] X.env).map (·.2) = [assign tg X.env] := by rfl) : jS3 X (.Assign [tg] e pos) (asg3 te g) :=
  ⟨s_asg (he := he.h) (hg := hg.h) (hs := hs) (hw := hw) (h1 := h1)⟩
theorem js_set {te : TE3} {pos : Pos} {X : Cx} (i : Nat) {x : Str} {e : Expr} {pos' : Pos} (hN : X.N.Nodup) (he : jE3 X e te) (hi : X.N[i]? = some x := by rfl) (hx : Loc X.env.scope x := by first | exact Or.inl rfl | exact Or.inr rfl) (hs : swapsWith e (some (.Name x pos')) pos.line X.env = pure false := by rfl) (hf : X.fn x = true ∨ X.env.scope.names.lookup x = some .local := by first | exact .inl rfl | exact .inr rfl) : jS3 X (.Assign [.Name x pos'] e pos) (asg3 te (gn3 i)) :=
  ⟨s_set (i := i) (hN := hN) (he := he.h) (hi := hi) (hx := hx) (hs := hs) (hf := hf)⟩
theorem js_par {pos : Pos} {X : Cx} {i j : Nat} {x y : Str} {a b : Expr} {tt : TA3} {px py pt : Pos} {kt k2 pt2} (hc : X.calm = true) (hN : X.N.Nodup) (hi : X.N[i]? = some x) (hj : X.N[j]? = some y) (hij : i ≠ j)
    (hx : X.env.scope.names.lookup x = some .local) (hy : X.env.scope.names.lookup y = some .local) (ha : jA3 X [a, b] tt)
    (hw : swappedStores [.Tuple [.Name x px, .Name y py] kt pt] (.Tuple [a, b] k2 pt2) X.env = pure (some [x, y]) := by rfl)
    (hs : swapsWithSole [.Tuple [.Name x px, .Name y py] kt pt] (.Tuple [a, b] k2 pt2) pos.line X.env = pure false := by rfl) : jS3 X (.Assign [.Tuple [.Name x px, .Name y py] kt pt] (.Tuple [a, b] k2 pt2) pos) (par3 i j tt) :=
  ⟨s_par (hc := hc) (hN := hN) (hi := hi) (hj := hj) (hij := hij) (hx := hx) (hy := hy) (ha := ha.h) (hw := hw) (hs := hs)⟩
theorem ji_seq {te : TE3} {X : Cx} {tg : Expr} {l : Expr} (hl : jE3 X l te) : jI3 X tg l (iseq3 te) :=
  ⟨i_seq (hl := hl.h)⟩
theorem ji_range1 {t : TA3} {pos : Pos} {a : Expr} {X : Cx} {tg : Expr} {p : Pos} (hg : Gl X "range") (hm : X.mg "range" = none) (ha : jA3 X [a] t) (hs : starEach [a] X.env = [(false, eval a X.env)] := by rfl) (h1 : ∀ τ G q, t τ G q → t τ G fun xs G => q xs G ∧ xs.length = 1) : jI3 X tg (.Call (.Name "range" p) [a] [] pos) (irng3 t) :=
  ⟨i_range1 (hg := hg) (hm := hm) (ha := ha.h) (hs := hs) (h1 := h1)⟩
theorem ji_range2 {t : TA3} {pos : Pos} {a : Expr} {b : Expr} {X : Cx} {tg : Expr} {p : Pos} (hg : Gl X "range") (hm : X.mg "range" = none) (ha : jA3 X [a, b] t) (hs : starEach [a, b] X.env = [(false, eval a X.env), (false, eval b X.env)] := by rfl) (hs2 : starEach [b] X.env = [(false, eval b X.env)] := by rfl) (h1 : ∀ τ G q, t τ G q → t τ G fun xs G => q xs G ∧ xs.length = 2) : jI3 X tg (.Call (.Name "range" p) [a, b] [] pos) (irng3 t) :=
  ⟨i_range2 (hg := hg) (hm := hm) (ha := ha.h) (hs := hs) (hs2 := hs2) (h1 := h1)⟩
theorem js_for {pos : Pos} {X : Cx} {tg : Expr} {iter : Expr} {body : List Stmt} {wi : TI3} {g : TG3} {tb : TS3} (hp : PassesOwn (model X.prog X.w) X.A X.env X.xe) (hc : X.calm = true) (hi : jI3 X tg iter wi) (hg : jG3 X tg g) (hb : jB3 X body tb)
    (hs : ∀ x, foldedSetIterable iter X.env x = pure x := by intro _; rfl) : jS3 X (.For tg iter body [] pos) (for3 wi g tb) :=
  ⟨s_for (hp := hp) (hc := hc) (hi := hi.h) (hg := hg.h) (hb := hb.h) (hs := hs)⟩
theorem je_call {t : TA3} {pos : Pos} {es : List Expr} {X : Cx} {k : Nat} {x : Str} {p : Pos} {sp : Sp3} (F : Fn3 X.prog X.w X.K X.mg X.base k x sp) (hr : Room k X.A) (hg : Gl X x) (ha : jA3 X (e :: es) t) (hdb : (x == ("__debug__" : Str)) = false := by decide)
    (he : starEach (e :: es) X.env = (false, eval e X.env) :: starEach es X.env := by rfl) (hpl : (backTo pos (starEach es X.env)).any (·.1) = false := by rfl) : jE3 X (.Call (.Name x p) (e :: es) [] pos) (cb3 sp t) :=
  ⟨e_call (F := F) (hr := hr) (hg := hg) (ha := ha.h) (hdb := hdb) (he := he) (hpl := hpl)⟩
theorem je_lc {X : Cx} {elt tg iter : Expr} {ifs : List Expr} {scope : Scope} {pos : Pos} (N' : List Str) (m : List (Option Nat)) {wi : TI3} {g : TG3} {tif : TT3} {te : TE3} (hc : X.calm = true) (hi : jI3 X tg iter wi)
    (hg : ∀ s H fp, jG3 (cxComp X N' scope s H fp) tg g) (hf : ∀ s H fp, jF3 (cxComp X N' scope s H fp) ifs tif) (he : ∀ s H fp, jE3 (cxComp X N' scope s H fp) elt te)
    (hsc : scOk X.env.scope scope = true) (hcap : capOk X.N N' scope m = true) (hs : ∀ x, foldedSetIterable iter X.env x = pure x := by intro _; rfl) : jE3 X (.ListComp elt [⟨tg, iter, ifs, 0⟩] scope pos) (lc3 wi g tif te m) :=
  ⟨e_lc (N' := N') (m := m) (hc := hc) (hi := hi.h) (hg := (fun s H fp => (hg s H fp).h)) (hf := (fun s H fp => (hf s H fp).h)) (he := (fun s H fp => (he s H fp).h)) (hsc := hsc) (hcap := hcap) (hs := hs)⟩
theorem jf_nil {X : Cx} : jF3 X [] tt3 :=
  ⟨f_nil ⟩
theorem jf_one {X : Cx} {c : Expr} {t : TT3} (h : jC3 X c t) : jF3 X [c] t :=
  ⟨f_one (h := h.h)⟩
theorem ji_zip {t : TA3} {pos : Pos} {es : List Expr} {a : Expr} {b : Expr} {X : Cx} {p pt : Pos} {k1 : Nat} (hg : Gl X "zip") (hm : X.mg "zip" = none) (ha : jA3 X [a, b] t) (hs : starEach [a, b] X.env = [(false, eval a X.env), (false, eval b X.env)] := by rfl) (hs2 : starEach [b] X.env = [(false, eval b X.env)] := by rfl) : jI3 X (.Tuple es k1 pt) (.Call (.Name "zip" p) [a, b] [] pos) (izip3 t) :=
  ⟨i_zip (hg := hg) (hm := hm) (ha := ha.h) (hs := hs) (hs2 := hs2)⟩
theorem ji_enum {t : TA3} {pos : Pos} {es : List Expr} {a : Expr} {X : Cx} {p pt : Pos} {k1 : Nat} (hg : Gl X "enumerate") (hm : X.mg "enumerate" = none) (ha : jA3 X [a] t) (hs : starEach [a] X.env = [(false, eval a X.env)] := by rfl) : jI3 X (.Tuple es k1 pt) (.Call (.Name "enumerate" p) [a] [] pos) (ienum3 t) :=
  ⟨i_enum (hg := hg) (hm := hm) (ha := ha.h) (hs := hs)⟩
theorem js_lcset {X : Cx} {py spos : Pos} {elt tg iter : Expr} {ifs : List Expr} {scope : Scope} {pos : Pos} {y : Str} (i : Nat) (N' : List Str) (m : List (Option Nat)) {wi : TI3} {g : TG3} {tif : TT3} {te : TE3} (hc : X.calm = true) (hN : X.N.Nodup) (hi : jI3 X tg iter wi)
    (hg : ∀ s H fp, jG3 (cxComp X N' scope s H fp) tg g) (hf : ∀ s H fp, jF3 (cxComp X N' scope s H fp) ifs tif) (he : ∀ s H fp, jE3 (cxComp X N' scope s H fp) elt te)
    (hsc : scOk X.env.scope scope = true) (hcap : capOk X.N N' scope m = true) (hl : X.env.scope.names.lookup y = some .local) (hsw : swapsWith (.ListComp elt [⟨tg, iter, ifs, 0⟩] scope pos) (some (.Name y py)) spos.line X.env = pure true) (hiy : X.N[i]? = some y := by rfl) (hs : ∀ x, foldedSetIterable iter X.env x = pure x := by intro _; rfl) : jS3 X (.Assign [.Name y py] (.ListComp elt [⟨tg, iter, ifs, 0⟩] scope pos) spos) (asg3 (lc3 wi g tif te m) (gn3 i)) :=
  ⟨s_lcset (i := i) (N' := N') (m := m) (hc := hc) (hN := hN) (hi := hi.h) (hg := (fun s H fp => (hg s H fp).h)) (hf := (fun s H fp => (hf s H fp).h)) (he := (fun s H fp => (he s H fp).h)) (hsc := hsc) (hcap := hcap) (hl := hl) (hsw := hsw) (hiy := hiy) (hs := hs)⟩
theorem jpt {X : Cx} {e : Expr} {t : TT3} (h : jW3 X e t) : jC3 X e t := ⟨PW.pt h.h⟩
theorem jfn3_of {P : Program} {w : World} {K : PySem.W.Frag} {mg : Str → Option Value} {base : Heap} {x qual : Str} {st : Stmt} {f : Addr} {fd : FuncData} {N ps : List Str} {k : Nat} {sp : Sp3} {t3 : TS3} (F : Fun K x qual st f fd) (S : FnScope N ps (defScope st)) (bd : Binds K fd ps []) (hm : mg x = some (.ref f))
    (body : ∀ (cdv : Value) (A : Around) (outer : List Env) (s : Shared) (H : Hp) (E : XK), Room k (A.deeper (envOfC qual (defScope st) s.heap.objs.size f cdv)) →
      jB3 (cxOf CX0 P w K mg base N qual (defScope st) f cdv A outer s H E).nox (defBody st) t3)
    (read : ∀ ts G q, sp ts G q → ts.length = ps.length ∧ t3 { nx := fun _ G' => q .non G', rt := q } (start3 N ts) G) : Fn3 P w K mg base (k + 1) x sp :=
  fn3_of F S bd hm (fun cdv A outer s H E hr => (body cdv A outer s H E hr).h) read
theorem jfnok_of {P : Program} {w : World} {K : PySem.W.Frag} {mg : Str → Option Value} {base : Heap} {x qual : Str} {st : Stmt} {f : Addr} {fd : FuncData} {N ps : List Str} {k : Nat} {sp : Sp3} {t3 : TS3} (F : Fun K x qual st f fd) (S : FnScope N ps (defScope st))
    (body : ∀ (cdv : Value) (A : Around) (outer : List Env) (s : Shared) (H : Hp) (E : XK), Room k (A.deeper (envOfC qual (defScope st) s.heap.objs.size f cdv)) →
      jB3 (cxOf CX0 P w K mg base N qual (defScope st) f cdv A outer s H E).nox (defBody st) t3)
    (read : ∀ ts G q, sp ts G q → ts.length = ps.length ∧ t3 { nx := fun _ G' => q .non G', rt := q } (start3 N ts) G) : FnOk P w K mg base CX0 (k + 1) f fd ps (lSp K sp) :=
  fnok_of F S (fun cdv A outer s H E hr => (body cdv A outer s H E hr).h) read
end L3
set_option Elab.async false
set_option linter.all false
set_option maxRecDepth 100000
set_option maxHeartbeats 4000000
namespace L3
open PySem PySem.Spec PyProof.Rows L2
open PySem.SeqAt
def Ex (G G' : Gp) : Prop := ∀ b o, G b = some o → G' b = some o
theorem Ex.refl {G : Gp} : Ex G G := fun _ _ e => e
theorem Ex.trans {G G1 G2 : Gp} (a : Ex G G1) (b : Ex G1 G2) : Ex G G2 := fun x o e => b x o (a x o e)
theorem ex_new {G : Gp} {p : Addr} {o : O} (hp : G p = none) : Ex G (gu G p o) := fun b ob e => by
  rw [gu_ne (by rintro rfl; rw [hp] at e; cases e)]; exact e
mutual
inductive Dp (G : Gp) : T → PyData → Prop
  | non : Dp G .non .none
  | bl (b : Bool) : Dp G (.bl b) (.bool b)
  | int (i : Int) : Dp G (.int i) (.int i)
  | str (x : Str) : Dp G (.str x) (.str x)
  | tup {xs : List T} {ds : List PyData} : Dps G xs ds → Dp G (.tup xs) (.tuple ds)
  | lst {p : Addr} {xs : List T} {ds : List PyData} : getL G p = some xs → Dps G xs ds → Dp G (.ref p) (.list ds)
inductive Dps (G : Gp) : List T → List PyData → Prop
  | nil : Dps G [] []
  | cons {x : T} {d : PyData} {xs : List T} {ds : List PyData} : Dp G x d → Dps G xs ds → Dps G (x :: xs) (d :: ds)
end
theorem Ex.getL {G G' : Gp} (e : Ex G G') {p : Addr} {xs : List T} (h : getL G p = some xs) : getL G' p = some xs := by
  unfold L3.getL at h ⊢
  split at h
  · rename_i ys g; cases h; rw [e _ _ g]
  · rename_i ys g; cases h; rw [e _ _ g]
  · cases h
mutual
theorem Dp.up {G G' : Gp} (e : Ex G G') : ∀ {x : T} {d : PyData}, Dp G x d → Dp G' x d
  | _, _, .non => .non
  | _, _, .bl b => .bl b
  | _, _, .int i => .int i
  | _, _, .str x => .str x
  | _, _, .tup h => .tup (Dps.up e h)
  | _, _, .lst h1 h2 => .lst (e.getL h1) (Dps.up e h2)
theorem Dps.up {G G' : Gp} (e : Ex G G') : ∀ {x : List T} {d : List PyData}, Dps G x d → Dps G' x d
  | _, _, .nil => .nil
  | _, _, .cons a b => .cons (Dp.up e a) (Dps.up e b)
end
theorem Dps.length {G : Gp} : ∀ {xs : List T} {ds : List PyData}, Dps G xs ds → xs.length = ds.length
  | _, _, .nil => rfl
  | _, _, .cons _ b => by simp [Dps.length b]
theorem Dps.get {G : Gp} : ∀ {xs : List T} {ds : List PyData} {i : Nat} {x : T}, Dps G xs ds → xs[i]? = some x → ∃ d, ds[i]? = some d ∧ Dp G x d
  | _, _, _, _, .nil, e => by simp at e
  | _, _, 0, _, .cons r _, e => by simp at e; subst e; exact ⟨_, rfl, r⟩
  | _, _, i + 1, x, .cons _ t, e => by
    obtain ⟨u, h1, h2⟩ := Dps.get (i := i) (x := x) t (by simpa using e)
    exact ⟨u, by simpa using h1, h2⟩
theorem Dps.ints {G : Gp} : ∀ (ns : List Int), Dps G (ns.map T.int) (ns.map PyData.int)
  | [] => .nil
  | n :: r => .cons (.int n) (Dps.ints r)
mutual
inductive DV (K : PySem.W.Frag) (H : Hp) : V → PyData → Prop
  | non : DV K H .non .none
  | bl (b : Bool) : DV K H (.bl b) (.bool b)
  | int (i : Int) : DV K H (.int i) (.int i)
  | str (x : Str) : DV K H (.str x) (.str x)
  | tup {a : Addr} {vs : List V} {ds : List PyData} : SqT K H a vs → DVs K H vs ds → DV K H (.ref a) (.tuple ds)
  | lst {a : Addr} {vs : List V} {ds : List PyData} : SqL K H a vs → DVs K H vs ds → DV K H (.ref a) (.list ds)
inductive DVs (K : PySem.W.Frag) (H : Hp) : List V → List PyData → Prop
  | nil : DVs K H [] []
  | cons {x : V} {d : PyData} {xs : List V} {ds : List PyData} : DV K H x d → DVs K H xs ds → DVs K H (x :: xs) (d :: ds)
end
mutual
theorem Dp.dv {K : PySem.W.Frag} {G : Gp} {H : Hp} (hr : HR K G H) : ∀ {x : T} {d : PyData} {v : V}, Dp G x d → Rp K H x v → DV K H v d
  | _, _, _, .non, .non => .non
  | _, _, _, .bl b, .bl _ => .bl b
  | _, _, _, .int i, .int _ => .int i
  | _, _, _, .str x, .str _ => .str x
  | _, _, _, .tup h, .tup hs rs => .tup hs (Dps.dv hr h rs)
  | _, _, _, .lst g h, r => by
    cases r
    obtain ⟨_, hs, rs⟩ := getL_sq hr g
    exact .lst hs (Dps.dv hr h rs)
theorem Dps.dv {K : PySem.W.Frag} {G : Gp} {H : Hp} (hr : HR K G H) : ∀ {x : List T} {d : List PyData} {v : List V}, Dps G x d → Rps K H x v → DVs K H v d
  | _, _, _, .nil, .nil => .nil
  | _, _, _, .cons a b, .cons c d => .cons (Dp.dv hr a c) (Dps.dv hr b d)
end
mutual
def pyEq : PyData → PyData → Option Bool
  | .none, .none => some true
  | .bool a, .bool b => some (a == b)
  | .int a, .int b => some (a == b)
  | .str a, .str b => some (a == b)
  | .list xs, .list ys => pyEqs xs ys
  | .tuple xs, .tuple ys => pyEqs xs ys
  | _, _ => none
def pyEqs : List PyData → List PyData → Option Bool
  | [], [] => some true
  | x :: xs, y :: ys => match pyEq x y, pyEqs xs ys with | some a, some b => some (a && b) | _, _ => none
  | _, _ => some false
end
mutual
def dpt : PyData → Nat
  | .list xs => dpts xs + 1
  | .tuple xs => dpts xs + 1
  | _ => 0
def dpts : List PyData → Nat
  | [] => 0
  | x :: xs => max (dpt x) (dpts xs)
end
section
variable {X : Cx} {pins : List (Addr × Obj)} {σ : L2.St} {H : Hp} {s : Shared}
mutual
theorem DV.inj (I : Inv X pins σ H s) : ∀ {v : V} {d e : PyData}, DV X.K H v d → DV X.K H v e → d = e
  | _, _, _, .non, .non => rfl
  | _, _, _, .bl _, .bl _ => rfl
  | _, _, _, .int _, .int _ => rfl
  | _, _, _, .str _, .str _ => rfl
  | _, _, _, .tup h hs, .tup k ks => by
    have := I.tuple_inj h k
    subst this
    rw [DVs.inj I hs ks]
  | _, _, _, .lst h hs, .lst k ks => by
    have := I.list_inj h k
    subst this
    rw [DVs.inj I hs ks]
  | _, _, _, .tup h hs, .lst k ks => by
    obtain ⟨i1, _, p1, _⟩ := I.tuple h
    obtain ⟨i2, _, p2, _⟩ := I.list k
    exact absurd rfl (ne_of_list_tuple p2.isList (show s.heap.IsTuple _ i1.toArray from p1))
  | _, _, _, .lst k ks, .tup h hs => by
    obtain ⟨i1, _, p1, _⟩ := I.tuple h
    obtain ⟨i2, _, p2, _⟩ := I.list k
    exact absurd rfl (ne_of_list_tuple p2.isList (show s.heap.IsTuple _ i1.toArray from p1))
theorem DVs.inj (I : Inv X pins σ H s) : ∀ {v : List V} {d e : List PyData}, DVs X.K H v d → DVs X.K H v e → d = e
  | _, _, _, .nil, .nil => rfl
  | _, _, _, .cons a b, .cons c d => by rw [DV.inj I a c, DVs.inj I b d]
end
mutual
theorem pyEq_self : ∀ {d : PyData} {b : Bool}, pyEq d d = some b → b = true
  | .none, _, h => by simp [pyEq] at h; exact h
  | .bool _, _, h => by simp [pyEq] at h; exact h
  | .int _, _, h => by simp [pyEq] at h; exact h
  | .str _, _, h => by simp [pyEq] at h; exact h
  | .list xs, _, h => by simp only [pyEq] at h; exact pyEqs_self h
  | .tuple xs, _, h => by simp only [pyEq] at h; exact pyEqs_self h
  | .dict _, _, h => by simp [pyEq] at h
theorem pyEqs_self : ∀ {d : List PyData} {b : Bool}, pyEqs d d = some b → b = true
  | [], _, h => by simp [pyEqs] at h; exact h
  | x :: xs, b, h => by
    simp only [pyEqs] at h
    split at h
    · rename_i a c e1 e2
      rw [pyEq_self e1, pyEqs_self e2] at h
      simpa using h.symm
    · cases h
end
theorem pyEqs_get : ∀ {xs ys : List PyData} {b : Bool}, pyEqs xs ys = some b → xs.length = ys.length → ∃ e : Nat → Bool, (∀ (j : Nat) x y, xs[j]? = some x → ys[j]? = some y → pyEq x y = some (e j)) ∧ b = (List.range xs.length).all e
  | [], [], b, h, _ => by simp [pyEqs] at h; exact ⟨fun _ => true, by simp, by simp [h]⟩
  | x :: xs, y :: ys, b, h, hl => by
    simp only [pyEqs] at h
    split at h
    · rename_i a c e1 e2
      obtain ⟨e, h1, h2⟩ := pyEqs_get e2 (by simpa using hl)
      refine ⟨fun j => match j with | 0 => a | j + 1 => e j, fun j u v hu hv => ?_, ?_⟩
      · cases j with
        | zero => simp at hu hv; subst hu; subst hv; exact e1
        | succ j => exact h1 j u v (by simpa using hu) (by simpa using hv)
      · rw [List.length_cons, List.range_succ_eq_map, List.all_cons, List.all_map]
        cases h
        rw [h2]
        rfl
    · cases h
  | [], _ :: _, _, _, hl => by simp at hl
  | _ :: _, [], _, _, hl => by simp at hl
theorem pyEqs_len : ∀ {xs ys : List PyData} {b : Bool}, pyEqs xs ys = some b → xs.length ≠ ys.length → b = false ∧ ∃ e : Nat → Bool, ∀ (j : Nat) x y, xs[j]? = some x → ys[j]? = some y → pyEq x y = some (e j)
  | [], [], _, _, hl => by simp at hl
  | [], _ :: _, b, h, _ => by simp [pyEqs] at h; exact ⟨h, fun _ => true, by simp⟩
  | _ :: _, [], b, h, _ => by simp [pyEqs] at h; exact ⟨h, fun _ => true, by simp⟩
  | x :: xs, y :: ys, b, h, hl => by
    simp only [pyEqs] at h
    split at h
    · rename_i a c e1 e2
      obtain ⟨h0, e, h1⟩ := pyEqs_len e2 (by simpa using hl)
      subst h0
      refine ⟨by simpa using h.symm, fun j => match j with | 0 => a | j + 1 => e j, fun j u v hu hv => ?_⟩
      cases j with
      | zero => simp at hu hv; subst hu; subst hv; exact e1
      | succ j => exact h1 j u v (by simpa using hu) (by simpa using hv)
    · cases h
theorem dpts_mem : ∀ {xs : List PyData} {x : PyData}, x ∈ xs → dpt x ≤ dpts xs
  | [], _, h => by simp at h
  | y :: ys, x, h => by
    simp only [dpts]
    rcases List.mem_cons.mp h with e | e
    · subst e; omega
    · have := dpts_mem e; omega
theorem DVs.get {K : PySem.W.Frag} {H : Hp} : ∀ {xs : List V} {ds : List PyData} {i : Nat} {x : V}, DVs K H xs ds → xs[i]? = some x → ∃ d, ds[i]? = some d ∧ DV K H x d
  | _, _, _, _, .nil, e => by simp at e
  | _, _, 0, _, .cons r _, e => by simp at e; subst e; exact ⟨_, rfl, r⟩
  | _, _, i + 1, x, .cons _ t, e => by
    obtain ⟨u, h1, h2⟩ := DVs.get (i := i) (x := x) t (by simpa using e)
    exact ⟨u, by simpa using h1, h2⟩
theorem DVs.length {K : PySem.W.Frag} {H : Hp} : ∀ {xs : List V} {ds : List PyData}, DVs K H xs ds → xs.length = ds.length
  | _, _, .nil => rfl
  | _, _, .cons _ b => by simp [DVs.length b]
theorem vals_at {vs : List V} {us : List Value} (r : Vals vs us) {j : Nat} (h : j < us.toArray.size) : ∃ v, vs[j]? = some v ∧ RelV v us.toArray[j] := by
  have hj : j < vs.length := by rw [r.length]; simpa using h
  obtain ⟨u, hu, ru⟩ := r.get (List.getElem?_eq_getElem hj)
  refine ⟨vs[j], List.getElem?_eq_getElem hj, ?_⟩
  have hj2 : j < us.length := by simpa using h
  rw [List.getElem?_eq_getElem hj2] at hu
  have : us[j] = u := Option.some.inj hu
  simpa [this] using ru
theorem eq_deep (I : Inv X pins σ H s) : ∀ (n : Nat) {v u : V} {d e : PyData} {b : Bool} {x y : Value} {A : Around}, DV X.K H v d → DV X.K H u e → pyEq d e = some b → dpt d ≤ n → A.units + n < cLine → RelV v x → RelV u y →
    RcAt A s x y b ∧ EqAt A s x y b := by
  intro n
  induction n with
  | zero =>
    intro v u d e b x y A hv hu h hd hn rx ry
    cases hv with
    | non => cases hu <;> simp [pyEq] at h; subst h; cases (show x = Value.none from rx); cases (show y = Value.none from ry); exact ⟨RcAt.none_none, EqAt.same _⟩
    | bl a => cases hu <;> simp [pyEq] at h; subst h; cases (show x = Value.bool _ from rx); cases (show y = Value.bool _ from ry); exact ⟨RcAt.bool_bool _ _, EqAt.bool_bool _ _⟩
    | int a => cases hu <;> simp [pyEq] at h; subst h; obtain ⟨t, rfl⟩ := (show ∃ t, x = Value.int _ t from rx); obtain ⟨t', rfl⟩ := (show ∃ t, y = Value.int _ t from ry); exact ⟨RcAt.int_int _ _ _ _, EqAt.int_int _ _ _ _⟩
    | str a => cases hu <;> simp [pyEq] at h; subst h; obtain ⟨t, rfl⟩ := (show ∃ t, x = Value.str _ t from rx); obtain ⟨t', rfl⟩ := (show ∃ t, y = Value.str _ t from ry); exact ⟨RcAt.str_str _ _ _ _, EqAt.str_str _ _ _ _⟩
    | tup => simp [dpt] at hd
    | lst => simp [dpt] at hd
  | succ n ih =>
    intro v u d e b x y A hv hu h hd hn rx ry
    have fin : ∀ {l l' : Addr} {k : Bool}, x = .ref l → y = .ref l' → v = .ref l → u = .ref l' → b = k → RcAt A s x y k → RcAt A s x y b ∧ EqAt A s x y b := by
      rintro l l' k rfl rfl rfl rfl rfl rc
      refine ⟨rc, ?_⟩
      by_cases hll : l = l'
      · subst hll
        have := DV.inj I hv hu
        subst this
        rw [pyEq_self h]
        exact EqAt.same _
      · exact EqAt.of_refs hll rc
    cases hv with
    | non => cases hu <;> simp [pyEq] at h; subst h; cases (show x = Value.none from rx); cases (show y = Value.none from ry); exact ⟨RcAt.none_none, EqAt.same _⟩
    | bl a => cases hu <;> simp [pyEq] at h; subst h; cases (show x = Value.bool _ from rx); cases (show y = Value.bool _ from ry); exact ⟨RcAt.bool_bool _ _, EqAt.bool_bool _ _⟩
    | int a => cases hu <;> simp [pyEq] at h; subst h; obtain ⟨t, rfl⟩ := (show ∃ t, x = Value.int _ t from rx); obtain ⟨t', rfl⟩ := (show ∃ t, y = Value.int _ t from ry); exact ⟨RcAt.int_int _ _ _ _, EqAt.int_int _ _ _ _⟩
    | str a => cases hu <;> simp [pyEq] at h; subst h; obtain ⟨t, rfl⟩ := (show ∃ t, x = Value.str _ t from rx); obtain ⟨t', rfl⟩ := (show ∃ t, y = Value.str _ t from ry); exact ⟨RcAt.str_str _ _ _ _, EqAt.str_str _ _ _ _⟩
    | tup hq hs =>
      cases hu with
      | tup kq ks =>
        rename_i a1 vs1 ds1 a2 vs2 ds2
        simp only [pyEq] at h
        obtain ⟨i1, r1, p1, z1⟩ := I.tuple hq
        obtain ⟨i2, r2, p2, z2⟩ := I.tuple kq
        have l1 := hs.length; have l2 := ks.length; have m1 := r1.length; have m2 := r2.length
        have el : ∀ (e : Nat → Bool), (∀ (j : Nat) x y, ds1[j]? = some x → ds2[j]? = some y → pyEq x y = some (e j)) → ∀ j (h1 : j < i1.toArray.size) (h2 : j < i2.toArray.size), EqAt A.in1 s i1.toArray[j] i2.toArray[j] (e j) := fun e he j h1 h2 => by
          obtain ⟨w1, g1, q1⟩ := vals_at r1 h1
          obtain ⟨w2, g2, q2⟩ := vals_at r2 h2
          obtain ⟨d1, f1, dv1⟩ := hs.get g1
          obtain ⟨d2, f2, dv2⟩ := ks.get g2
          have := dpts_mem (List.mem_of_getElem? f1)
          exact (ih dv1 dv2 (he j d1 d2 f1 f2) (by simp only [dpt] at hd; omega) (show A.units + 1 + n < cLine by omega) q1 q2).2
        cases (show x = Value.ref a1 from rx)
        cases (show y = Value.ref a2 from ry)
        by_cases hl : ds1.length = ds2.length
        · obtain ⟨e, he, hb⟩ := pyEqs_get h hl
          refine fin rfl rfl rfl rfl (k := (List.range (min i1.toArray.size i2.toArray.size)).all e && i1.toArray.size == i2.toArray.size) ?_ (RcAt.tuples (show s.heap.IsTuple a1 i1.toArray from p1) (show s.heap.IsTuple a2 i2.toArray from p2) (by omega) (el e he))
          have e1 : i1.toArray.size = ds1.length := by rw [List.size_toArray]; omega
          have e2 : i2.toArray.size = ds1.length := by rw [List.size_toArray]; omega
          rw [e1, e2, hb]; simp
        · obtain ⟨hb, e, he⟩ := pyEqs_len h hl
          refine fin rfl rfl rfl rfl (k := (List.range (min i1.toArray.size i2.toArray.size)).all e && i1.toArray.size == i2.toArray.size) ?_ (RcAt.tuples (show s.heap.IsTuple a1 i1.toArray from p1) (show s.heap.IsTuple a2 i2.toArray from p2) (by omega) (el e he))
          have e1 : i1.toArray.size ≠ i2.toArray.size := by rw [List.size_toArray, List.size_toArray]; omega
          rw [hb]; simp [e1]
          intro; omega
      | _ => simp [pyEq] at h
    | lst hq hs =>
      cases hu with
      | lst kq ks =>
        rename_i a1 vs1 ds1 a2 vs2 ds2
        simp only [pyEq] at h
        obtain ⟨i1, r1, p1, z1⟩ := I.list hq
        obtain ⟨i2, r2, p2, z2⟩ := I.list kq
        have l1 := hs.length; have l2 := ks.length; have m1 := r1.length; have m2 := r2.length
        have el : ∀ (e : Nat → Bool), (∀ (j : Nat) x y, ds1[j]? = some x → ds2[j]? = some y → pyEq x y = some (e j)) → ∀ j (h1 : j < i1.toArray.size) (h2 : j < i2.toArray.size), EqAt A.in1 s i1.toArray[j] i2.toArray[j] (e j) := fun e he j h1 h2 => by
          obtain ⟨w1, g1, q1⟩ := vals_at r1 h1
          obtain ⟨w2, g2, q2⟩ := vals_at r2 h2
          obtain ⟨d1, f1, dv1⟩ := hs.get g1
          obtain ⟨d2, f2, dv2⟩ := ks.get g2
          have := dpts_mem (List.mem_of_getElem? f1)
          exact (ih dv1 dv2 (he j d1 d2 f1 f2) (by simp only [dpt] at hd; omega) (show A.units + 1 + n < cLine by omega) q1 q2).2
        cases (show x = Value.ref a1 from rx)
        cases (show y = Value.ref a2 from ry)
        by_cases hl : ds1.length = ds2.length
        · obtain ⟨e, he, hb⟩ := pyEqs_get h hl
          refine fin rfl rfl rfl rfl (k := (List.range i1.toArray.size).all e) ?_ (RcAt.lists p1.isList p2.isList (by rw [List.size_toArray, List.size_toArray]; omega) (by omega) (el e he))
          have e1 : i1.toArray.size = ds1.length := by rw [List.size_toArray]; omega
          rw [e1, hb]
        · obtain ⟨hb, e, he⟩ := pyEqs_len h hl
          refine fin rfl rfl rfl rfl (k := false) hb (RcAt.lists_lengths p1.isList p2.isList (by rw [List.size_toArray, List.size_toArray]; simp; omega) (by omega))
      | _ => simp [pyEq] at h
theorem ne_deep (I : Inv X pins σ H s) {n : Nat} {v u : V} {d e : PyData} {b : Bool} {x y : Value} {A : Around} (hv : DV X.K H v d) (hu : DV X.K H u e) (h : pyEq d e = some b) (hd : dpt d ≤ n + 1) (hn : A.units + (n + 1) < cLine) (rx : RelV v x) (ry : RelV u y) (hs : dpt d ≠ 0) : RcNeAt A s x y (!b) := by
  cases hv with
  | tup hq hs' =>
    cases hu with
    | tup kq ks =>
      rename_i a1 vs1 ds1 a2 vs2 ds2
      simp only [pyEq] at h
      obtain ⟨i1, r1, p1, z1⟩ := I.tuple hq
      obtain ⟨i2, r2, p2, z2⟩ := I.tuple kq
      have l1 := hs'.length; have l2 := ks.length; have m1 := r1.length; have m2 := r2.length
      have el : ∀ (e : Nat → Bool), (∀ (j : Nat) x y, ds1[j]? = some x → ds2[j]? = some y → pyEq x y = some (e j)) → ∀ j (h1 : j < i1.toArray.size) (h2 : j < i2.toArray.size), EqAt A.in1 s i1.toArray[j] i2.toArray[j] (e j) := fun e he j h1 h2 => by
        obtain ⟨w1, g1, q1⟩ := vals_at r1 h1
        obtain ⟨w2, g2, q2⟩ := vals_at r2 h2
        obtain ⟨d1, f1, dv1⟩ := hs'.get g1
        obtain ⟨d2, f2, dv2⟩ := ks.get g2
        have := dpts_mem (List.mem_of_getElem? f1)
        exact (eq_deep I n dv1 dv2 (he j d1 d2 f1 f2) (by simp only [dpt] at hd; omega) (show A.units + 1 + n < cLine by omega) q1 q2).2
      cases (show x = Value.ref a1 from rx)
      cases (show y = Value.ref a2 from ry)
      by_cases hl : ds1.length = ds2.length
      · obtain ⟨e, he, hb⟩ := pyEqs_get h hl
        have := RcNeAt.tuples (show s.heap.IsTuple a1 i1.toArray from p1) (show s.heap.IsTuple a2 i2.toArray from p2) (A := A) (by omega) (el e he)
        have e1 : i1.toArray.size = ds1.length := by rw [List.size_toArray]; omega
        have e2 : i2.toArray.size = ds1.length := by rw [List.size_toArray]; omega
        rw [e1, e2] at this
        rw [hb]; simpa using this
      · obtain ⟨hb, e, he⟩ := pyEqs_len h hl
        have := RcNeAt.tuples (show s.heap.IsTuple a1 i1.toArray from p1) (show s.heap.IsTuple a2 i2.toArray from p2) (A := A) (by omega) (el e he)
        have e1 : (i1.toArray.size == i2.toArray.size) = false := by rw [List.size_toArray, List.size_toArray]; simp; omega
        rw [e1] at this
        rw [hb]; simpa using this
    | _ => simp [pyEq] at h
  | lst hq hs' =>
    cases hu with
    | lst kq ks =>
      rename_i a1 vs1 ds1 a2 vs2 ds2
      simp only [pyEq] at h
      obtain ⟨i1, r1, p1, z1⟩ := I.list hq
      obtain ⟨i2, r2, p2, z2⟩ := I.list kq
      have l1 := hs'.length; have l2 := ks.length; have m1 := r1.length; have m2 := r2.length
      have el : ∀ (e : Nat → Bool), (∀ (j : Nat) x y, ds1[j]? = some x → ds2[j]? = some y → pyEq x y = some (e j)) → ∀ j (h1 : j < i1.toArray.size) (h2 : j < i2.toArray.size), EqAt A.in1 s i1.toArray[j] i2.toArray[j] (e j) := fun e he j h1 h2 => by
        obtain ⟨w1, g1, q1⟩ := vals_at r1 h1
        obtain ⟨w2, g2, q2⟩ := vals_at r2 h2
        obtain ⟨d1, f1, dv1⟩ := hs'.get g1
        obtain ⟨d2, f2, dv2⟩ := ks.get g2
        have := dpts_mem (List.mem_of_getElem? f1)
        exact (eq_deep I n dv1 dv2 (he j d1 d2 f1 f2) (by simp only [dpt] at hd; omega) (show A.units + 1 + n < cLine by omega) q1 q2).2
      cases (show x = Value.ref a1 from rx)
      cases (show y = Value.ref a2 from ry)
      by_cases hl : ds1.length = ds2.length
      · obtain ⟨e, he, hb⟩ := pyEqs_get h hl
        have := RcNeAt.lists p1.isList p2.isList (A := A) (by rw [List.size_toArray, List.size_toArray]; omega) (by omega) (el e he)
        have e1 : i1.toArray.size = ds1.length := by rw [List.size_toArray]; omega
        rw [e1] at this
        rw [hb]; exact this
      · obtain ⟨hb, e, he⟩ := pyEqs_len h hl
        rw [hb]
        exact RcNeAt.lists_lengths p1.isList p2.isList (by rw [List.size_toArray, List.size_toArray]; simp; omega) (by omega)
    | _ => simp [pyEq] at h
  | _ => simp [dpt] at hs
def rEqD (K : PySem.W.Frag) (neg : Bool) : R2 := fun x y H Q => ∃ d e b, DV K H x d ∧ DV K H y e ∧ pyEq d e = some b ∧ dpt d ≤ 40 ∧ dpt d ≠ 0 ∧ Q (.bl (if neg then !b else b)) H
theorem op_eqD (hu : X.A.units + 64 < cLine) : OpR X (compareOp .Eq) (rEqD X.K false) := by
  intro pins s σ H x y v u Q I rx ry h
  obtain ⟨d, e, b, hx, hy, hb, hd, _, q⟩ := h
  exact (eq_deep I 40 hx hy hb hd (by omega) rx ry).1 X.prog X.w X.xe _ ⟨.bl b, H, I, rfl, q⟩
theorem op_neD (hu : X.A.units + 64 < cLine) : OpR X (compareOp .NotEq) (rEqD X.K true) := by
  intro pins s σ H x y v u Q I rx ry h
  obtain ⟨d, e, b, hx, hy, hb, hd, hs, q⟩ := h
  exact ne_deep I (n := 40) hx hy hb (by omega) (by omega) rx ry hs X.prog X.w X.xe _ ⟨.bl (!b), H, I, rfl, q⟩
end
def eqA3 (neg : Bool) : R3 := fun x y G q => match scalT x y with
  | some k => q (.bl (if neg then !k else k)) G
  | none => ∃ d e b, Dp G x d ∧ Dp G y e ∧ pyEq d e = some b ∧ dpt d ≤ 40 ∧ dpt d ≠ 0 ∧ q (.bl (if neg then !b else b)) G
theorem ref_eqA {K : PySem.W.Frag} : Ref2 K (eqA3 false) (fun x y H Q => rEq x y H Q ∨ rEqD K false x y H Q) := fun x y v u G H q Q hr rx ry h af => by
  unfold eqA3 at h
  split at h
  · rename_i k e
    obtain ⟨h1, h2⟩ := scalT_ok rx ry e
    refine .inl ⟨h1, ?_⟩
    rw [h2]
    exact af _ G h _ H (.bl _) hr Kp.refl
  · obtain ⟨d, e, b, h1, h2, h3, h4, h5, h6⟩ := h
    exact .inr ⟨d, e, b, h1.dv hr rx, h2.dv hr ry, h3, h4, h5, af _ G h6 _ H (.bl _) hr Kp.refl⟩
theorem ref_neA {K : PySem.W.Frag} : Ref2 K (eqA3 true) (fun x y H Q => rNe x y H Q ∨ rEqD K true x y H Q) := fun x y v u G H q Q hr rx ry h af => by
  unfold eqA3 at h
  split at h
  · rename_i k e
    obtain ⟨h1, h2⟩ := scalT_ok rx ry e
    refine .inl ⟨h1, ?_⟩
    rw [h2]
    exact af _ G h _ H (.bl _) hr Kp.refl
  · obtain ⟨d, e, b, h1, h2, h3, h4, h5, h6⟩ := h
    exact .inr ⟨d, e, b, h1.dv hr rx, h2.dv hr ry, h3, h4, h5, af _ G h6 _ H (.bl _) hr Kp.refl⟩
theorem op_eqA {X : Cx} (hu : X.A.units + 64 < cLine) : OpR X (compareOp .Eq) (fun x y H Q => rEq x y H Q ∨ rEqD X.K false x y H Q) := op_eq.or (op_eqD hu)
theorem op_neA {X : Cx} (hu : X.A.units + 64 < cLine) : OpR X (compareOp .NotEq) (fun x y H Q => rNe x y H Q ∨ rEqD X.K true x y H Q) := op_ne.or (op_neD hu)
theorem pyEqs_ints : ∀ (ns ms : List Int), pyEqs (ns.map PyData.int) (ms.map PyData.int) = some (decide (ns = ms))
  | [], [] => by simp [pyEqs]
  | [], _ :: _ => by simp [pyEqs]
  | _ :: _, [] => by simp [pyEqs]
  | n :: ns, m :: ms => by
    simp only [List.map_cons, pyEqs, pyEq, pyEqs_ints ns ms]
    by_cases h : n = m <;> by_cases h' : ns = ms <;> simp [h, h']
theorem dpts_ints : ∀ (ns : List Int), dpts (ns.map PyData.int) = 0
  | [] => rfl
  | n :: ns => by simp [dpts, dpt, dpts_ints ns]
end L3
set_option Elab.async false
set_option linter.all false
set_option maxRecDepth 100000
set_option maxHeartbeats 4000000
namespace L3
open PySem PySem.Spec PyProof.Rows L2
section
variable {X : Cx} {pins : List (Addr × Obj)} {σ : L2.St} {H : Hp} {s : Shared}
mutual
theorem DV.reads (I : Inv X pins σ H s) : ∀ {v : V} {d : PyData} {x : Value}, DV X.K H v d → RelV v x → ∃ as, Reads s.heap x d as
  | _, _, x, .non, r => by cases (show x = Value.none from r); exact ⟨_, .none⟩
  | _, _, x, .bl b, r => by cases (show x = Value.bool b from r); exact ⟨_, .bool b⟩
  | _, _, x, .int i, r => by obtain ⟨t, rfl⟩ := (show ∃ t, x = Value.int i t from r); exact ⟨_, .int i t⟩
  | _, _, x, .str y, r => by obtain ⟨t, rfl⟩ := (show ∃ t, x = Value.str y t from r); exact ⟨_, .str y t⟩
  | _, _, x, .tup (a := a) h hs, r => by
    cases (show x = Value.ref a from r)
    obtain ⟨its, rv, ⟨o, h1, h2, n, h3⟩, _⟩ := I.tuple h
    obtain ⟨as, ra⟩ := DVs.reads I hs rv
    exact ⟨as, .tuple h1 h2 h3 (by simpa using ra)⟩
  | _, _, x, .lst (a := a) h hs, r => by
    cases (show x = Value.ref a from r)
    obtain ⟨its, rv, p, _⟩ := I.list h
    obtain ⟨o, h1, h2, n, h3⟩ := p.isList
    obtain ⟨as, ra⟩ := DVs.reads I hs rv
    exact ⟨a :: as, .list h1 h2 h3 (by simpa using ra)⟩
theorem DVs.reads (I : Inv X pins σ H s) : ∀ {v : List V} {d : List PyData} {x : List Value}, DVs X.K H v d → Vals v x → ∃ as, ReadsAll s.heap x d as
  | _, _, _, .nil, .nil => ⟨_, .nil⟩
  | _, _, _, .cons a b, .cons c d => by
    obtain ⟨as, r1⟩ := DV.reads I a c
    obtain ⟨bs, r2⟩ := DVs.reads I b d
    exact ⟨_, .cons r1 r2⟩
end
structure ShOk (d : PyData) : Prop where
  sh : d.showable = true
  nd : d.hasDict = false
  dp : d.depth ≤ 40
  lv : d.leavesShort 13 = true
  bk : d.bulk ≤ 2 ^ 20
end
end L3
set_option Elab.async false
set_option linter.all false
set_option maxRecDepth 100000
set_option maxHeartbeats 4000000
namespace L3
open PySem PySem.Spec PyProof.Rows L2
section
variable {X : Cx}
end
end L3
set_option Elab.async false
set_option linter.all false
set_option maxRecDepth 100000
set_option maxHeartbeats 4000000
namespace L3
open PySem PySem.Spec PyProof.Rows L2
section
variable {prog : Program} {w : World} {A : Around} {R : Result → Shared → Prop} {s : Shared}
theorem compTurn_two0 (elt t1 i1 t2 i2 : Expr) (f1 f2 : List Expr) (scope : Scope) (pos : Pos) (it acc : Value) (env : Env) :
    compTurn (.ListComp elt [⟨t1, i1, f1, 0⟩, ⟨t2, i2, f2, 0⟩] scope pos) 0 it acc env = (do
      standAt i1.pos
      match ← pyNext it with
      | none => pure (.done .next)
      | some v =>
        letOwnedTupleGo t1 it v
        assign t1 env v
        let mut ok := true
        for c in f1 do
          if ok then ok ← isTrue c env (eval c env)
        if ok then
          let x ← eval i2 env
          standAt i2.pos
          let x ← foldedSetIterable i2 env x
          let _ ← runOwn (.compStart (.ListComp elt [⟨t1, i1, f1, 0⟩, ⟨t2, i2, f2, 0⟩] scope pos) 1 (← holding [x] (pyIter x)) acc env) env
        again (.compLoop (.ListComp elt [⟨t1, i1, f1, 0⟩, ⟨t2, i2, f2, 0⟩] scope pos) 0 it acc env)) := by rfl
theorem compTurn_two1 (elt t1 i1 t2 i2 : Expr) (f1 f2 : List Expr) (scope : Scope) (pos : Pos) (it acc : Value) (env : Env) :
    compTurn (.ListComp elt [⟨t1, i1, f1, 0⟩, ⟨t2, i2, f2, 0⟩] scope pos) 1 it acc env = (do
      standAt i2.pos
      match ← pyNext it with
      | none => pure (.done .next)
      | some v =>
        letOwnedTupleGo t2 it v
        assign t2 env v
        let mut ok := true
        for c in f2 do
          if ok then ok ← isTrue c env (eval c env)
        if ok then
          (do let _ ← call (.builtin "list.append") [acc, ← eval elt env])
        again (.compLoop (.ListComp elt [⟨t1, i1, f1, 0⟩, ⟨t2, i2, f2, 0⟩] scope pos) 1 it acc env)) := by rfl
theorem codeAny_compStart_two1 {elt t1 i1 t2 i2 : Expr} {f1 f2 : List Expr} {scope : Scope} {pos : Pos} {it acc : Value} {env : Env}
    (h0 : codeAny (model prog w) A (.compLoop (.ListComp elt [⟨t1, i1, f1, 0⟩, ⟨t2, i2, f2, 0⟩] scope pos) 1 it acc env) R s)
    (h : wpAny (model prog w) A (pyIter it) (fun it' s' => codeAny (model prog w) A (.compLoop (.ListComp elt [⟨t1, i1, f1, 0⟩, ⟨t2, i2, f2, 0⟩] scope pos) 1 it' acc env) R s')
      (notedBy (model prog w) A env fun x s' => R (.error x) s') s) :
    codeAny (model prog w) A (.compStart (.ListComp elt [⟨t1, i1, f1, 0⟩, ⟨t2, i2, f2, 0⟩] scope pos) 1 it acc env) R s := by
  refine codeAny_of_tree ?_
  show wpAny _ _ ((compStart (.ListComp elt [⟨t1, i1, f1, 0⟩, ⟨t2, i2, f2, 0⟩] scope pos) 1 it acc env).onRaise (fun x => do noteFrame x env; standAt theWindowsPlace)) _ _ s
  refine wpAny_notedAt ?_
  unfold compStart
  show wpAny _ _ (ask >>= _) _ _ s
  refine wpAny_bind (wpAny_askSetting (wpAny_ite ?_))
  split
  · first
      | exact wpAny_bind (wpAny_pure (wpAny_pure (And.intro rfl h0)))
      | exact wpAny_pure (And.intro rfl h0)
  · first
      | exact wpAny_bind (wpAny_rule (wpAny_bind (wpAny_standAt (wpAny_bind (wpAny_mono h (fun it' s' h' => wpAny_pure (And.intro rfl h')) fun _ _ x => x)))))
      | (refine wpAny_bind (wpAny_rule ?_); show wpAny _ _ (standAt i2.pos >>= _) _ _ s; exact wpAny_bind (wpAny_standAt (wpAny_bind (wpAny_mono h (fun it' s' h' => wpAny_pure (And.intro rfl h')) fun _ _ x => x))))
end
def tIn (wi : TI) (g : TG) (tif : TT) (te : TE) (D : Addr) (N : L2.St → Hp → Prop) (σ : L2.St) (H : Hp) : Prop := wi σ H fun J H1 =>
  ∃ W : Nat → Nat → L2.St → Hp → Prop, (∃ n, W 0 n σ H1) ∧ ∀ i n σ H, W i n σ H →
    (J.stop i H ∧ N σ H) ∨ (J.go i H ∧ ∀ x H', J.yld i H x H' → g x σ H' fun σ2 H2 => tif σ2 H2 fun k H3 =>
      if k = true then te σ2 H3 fun y H4 => ∃ zs, H4 D = some (.lst zs) ∧ zs.length < sizeLine ∧ ∃ n', n' < n ∧ W (i + 1) n' σ2 (upd H4 D (.lst (zs ++ [y])))
      else ∃ n', n' < n ∧ W (i + 1) n' σ2 H3)
section
variable {X : Cx}
theorem inner2 {elt t1 i1 t2 i2 : Expr} {f1 f2 : List Expr} {scope : Scope} {pos : Pos} {wi : TI} {g : TG} {tif : TT} {te : TE} {D : Addr} {N : L2.St → Hp → Prop} (hc : X.calm = true) (hx : ∀ v s, ¬ X.xe v s) (hi : PI X t2 i2 wi) (hg : PG X t2 g) (hf : PF X f2 tif) (he : PE X elt te)
    (hs : ∀ x, foldedSetIterable i2 X.env x = pure x) {pins : List (Addr × Obj)} {s : Shared} {σ : L2.St} {H : Hp} {E : Value → Shared → Prop} {α : Type} {kk : Sem α} {Q : α → Shared → Prop} (I : Inv X pins σ H s) (h : tIn wi g tif te D N σ H) (hk : ∀ s' σ' H', Inv X pins σ' H' s' → N σ' H' → wpAny (model X.prog X.w) X.A kk Q E s') :
    wpAny (model X.prog X.w) X.A (do
            let x ← eval i2 X.env
            standAt i2.pos
            let x ← foldedSetIterable i2 X.env x
            let _ ← runOwn (.compStart (.ListComp elt [⟨t1, i1, f1, 0⟩, ⟨t2, i2, f2, 0⟩] scope pos) 1 (← holding [x] (pyIter x)) (.ref D) X.env) X.env
            kk) Q E s := by
  refine wpAny_bind (wpAny_mono (hi pins s σ H _ I h) (fun v s1 h1 => ?_) fun _ _ z => (hx _ _ z).elim)
  refine wpAny_bind (wpAny_standAt (wpAny_bind (wpAny_of_eq (hs v) ?_)))
  refine wpAny_bind (wpAny_holding (wpAny_mono h1 (fun itv s2 h2 => ?_) fun _ _ z => (hx _ _ z).elim))
  obtain ⟨it, fp, tn, J, H2, rfl, I2, T, st2, f2', W, ⟨n0, w0⟩, turn⟩ := h2
  have stat : ∀ {H' : Hp}, (∀ b ∈ fp, H' b = none) → ∀ b ∈ fp, FpOk X pins H' b := fun hn b hb => ⟨hn b hb, (f2' b hb).2⟩
  refine wpAny_bind (wpAny_runOwn ?_)
  show codeAny (model X.prog X.w) X.A (.compStart (.ListComp elt [⟨t1, i1, f1, 0⟩, ⟨t2, i2, f2, 0⟩] scope pos) 1 (.ref it) (.ref D) X.env) _ s2
  have loop : codeAny (model X.prog X.w) X.A (.compLoop (.ListComp elt [⟨t1, i1, f1, 0⟩, ⟨t2, i2, f2, 0⟩] scope pos) 1 (.ref it) (.ref D) X.env) (fun r s' => match r with
      | .ok f => wpAny (model X.prog X.w) X.A kk Q E s'
      | .error e => cameBackBy (model X.prog X.w) X.A X.env E e s') s2 := by
    refine codeAny_loop rfl (fun n s' => ∃ i σ' H', Inv X pins σ' H' s' ∧ tn i s'.heap ∧ (∀ b ∈ fp, H' b = none) ∧ W i n σ' H') (fun n s' hI => ?_) n0 ⟨0, σ, H2, I2, st2, fun b hb => (f2' b hb).1, w0⟩
    show wpAny _ X.A ((compTurn (.ListComp elt [⟨t1, i1, f1, 0⟩, ⟨t2, i2, f2, 0⟩] scope pos) 1 (.ref it) (.ref D) X.env).onRaise (fun x => do noteFrame x X.env; theTreesLotGoes x)) _ _ s'
    refine wpAny_noted ?_
    rw [compTurn_two1]
    refine wpAny_bind (wpAny_standAt (wpAny_bind ?_))
    obtain ⟨i, σ5, H5, I5, st5, fr5, w5⟩ := hI
    rcases turn i n σ5 H5 w5 with ⟨stop, q⟩ | ⟨go, step⟩
    · refine thn (T.done X rfl rfl rfl hc i pins s' σ5 H5 _ I5 (stat fr5) st5 stop) fun r s6 ⟨hr, I6⟩ => ?_
      subst hr
      exact wpAny_pure (hk _ σ5 H5 I6 q)
    · refine thn (T.item X rfl rfl rfl hc i pins s' σ5 H5 _ I5 (stat fr5) st5 go) fun r s6 ⟨u, hr, h6⟩ => ?_
      subst hr
      refine wpAny_bind (thn h6 fun _ s7 ⟨x, H7, I7, r7, y7, st7, fr7⟩ => ?_)
      have I7' := I7.pinned (stat fr7) (T.obj _ _ st7)
      have again : ∀ {σ8 : L2.St} {H8 : Hp} {s8 : Shared}, Inv X (pins ++ pinsAt fp s7.heap) σ8 H8 s8 → (∃ n', n' < n ∧ W (i + 1) n' σ8 H8) →
          ∃ m', m' < n ∧ ∃ i σ' H', Inv X pins σ' H' s8 ∧ tn i s8.heap ∧ (∀ b ∈ fp, H' b = none) ∧ W i m' σ' H' := fun {σ8 H8 s8} I8 ⟨n', hn, w8⟩ => by
        refine ⟨n', hn, i + 1, σ8, H8, I8.unpinned, T.keep _ _ _ st7 fun b hb o e => (I8.pin (b, o) (List.mem_append_right _ (List.mem_append_right _ (mem_pinsAt hb e)))).1, fun b hb => ?_, w8⟩
        obtain ⟨o, e, d⟩ := T.obj _ _ st7 b hb
        exact (I8.pin (b, o) (List.mem_append_right _ (List.mem_append_right _ (mem_pinsAt hb e)))).2.1
      refine wpAny_bind (wpAny_mono (hg _ s7 σ5 H7 x u _ I7' r7 (step x H7 y7)) (fun _ s8 ⟨σ8, H8, I8, q8⟩ => ?_) fun _ _ z => (hx _ _ z).elim)
      refine wpAny_bind (wpAny_mono (hf _ s8 σ8 H8 _ I8 q8) (fun k s9 ⟨H9, I9, q9⟩ => ?_) fun _ _ z => (hx _ _ z).elim)
      cases k with
      | false =>
        rw [if_neg Bool.false_ne_true] at q9
        exact wpAny_pure ⟨rfl, again I9 q9⟩
      | true =>
        rw [if_pos rfl] at q9
        refine wpAny_bind (wpAny_bind (wpAny_mono (he _ s9 σ8 H9 _ I9 q9) (fun w s10 ⟨y, H10, I10, r10, q10⟩ => ?_) fun _ _ z => (hx _ _ z).elim))
        obtain ⟨zs, hz, hl, q10⟩ := q10
        refine wpAny_bind (wpAny_mono (mt_append (X := X) _ s10 σ8 H10 (.ref D) [y] (.ref D) [w] (fun _ H11 => H11 = upd H10 D (.lst (zs ++ [y]))) I10 rfl (.cons r10 .nil) ⟨D, zs, y, rfl, rfl, hz, hl, rfl⟩) (fun _ s11 ⟨_, H11, I11, _, e11⟩ => ?_) fun _ _ z => (hx _ _ z).elim)
        subst e11
        exact wpAny_pure (wpAny_pure ⟨rfl, again I11 q10⟩)
  exact codeAny_compStart_two1 loop (T.self X.A 0 _ _ _ st2 loop)
def tLC2 (wi : TI) (g : TG) (tif : TT) (wi2 : TI) (g2 : TG) (tif2 : TT) (te : TE) (m : List (Option Nat)) : TE := fun σ H Q => wi σ H fun J H1 => ∀ D, H1 D = none →
  ∃ W : Nat → Nat → L2.St → Hp → Prop, (∃ n, W 0 n (cap m σ) (upd H1 D (.lst []))) ∧ ∀ i n σ H, W i n σ H →
    (J.stop i H ∧ Q (.ref D) H) ∨ (J.go i H ∧ ∀ x H', J.yld i H x H' → g x σ H' fun σ2 H2 => tif σ2 H2 fun k H3 =>
      if k = true then tIn wi2 g2 tif2 te D (fun σ4 H4 => ∃ n', n' < n ∧ W (i + 1) n' σ4 H4) σ2 H3
      else ∃ n', n' < n ∧ W (i + 1) n' σ2 H3)
theorem pe_lc2 {elt tg iter t2 i2 : Expr} {ifs f2 : List Expr} {scope : Scope} {pos : Pos} {N' : List Str} {m : List (Option Nat)} {wi : TI} {g : TG} {tif : TT} {wi2 : TI} {g2 : TG} {tif2 : TT} {te : TE} (hc : X.calm = true) (hi : PI X tg iter wi)
    (hg : ∀ s H fp, PG (cxComp X N' scope s H fp) tg g) (hf : ∀ s H fp, PF (cxComp X N' scope s H fp) ifs tif) (hi2 : ∀ s H fp, PI (cxComp X N' scope s H fp) t2 i2 wi2) (hg2 : ∀ s H fp, PG (cxComp X N' scope s H fp) t2 g2) (hf2 : ∀ s H fp, PF (cxComp X N' scope s H fp) f2 tif2) (he : ∀ s H fp, PE (cxComp X N' scope s H fp) elt te)
    (hsc : scOk X.env.scope scope = true) (hcap : capOk X.N N' scope m = true) (hs : ∀ x, foldedSetIterable iter X.env x = pure x := by intro _; rfl) (hs2 : ∀ s H fp x, foldedSetIterable i2 (cxComp X N' scope s H fp).env x = pure x := by intro _ _ _ _; rfl) :
    PE X (.ListComp elt [⟨tg, iter, ifs, 0⟩, ⟨t2, i2, f2, 0⟩] scope pos) (tLC2 wi g tif wi2 g2 tif2 te m) := by
  intro pins s σ H Q I h
  have sc := scOk_facts hsc
  have hcl : ∀ y ∈ scope.names, y.2 = .free → ∃ c, X.env.cells.lookup y.1 = some c := fun y hy e => by
    rcases (sc.free y hy e).2 with z | z
    · exact I.ok.has y.1 (.inl z)
    · exact I.ok.has y.1 (.inr z)
  rw [eval_ListComp]
  refine wpAny_comprehension_free (use := none) (g := ⟨tg, iter, ifs, 0⟩) (gs := [⟨t2, i2, f2, 0⟩]) rfl hs (closureFor_eq hcl) sc.kind sc.loc ?_
  show wpAny _ _ (eval iter X.env) _ _ s
  refine thn (hi pins s σ H _ I h) fun v s1 h1 => thn h1 fun itv s2 h2 => ?_
  obtain ⟨it, fp, tn, J, H2, rfl, I2, T, st2, fF2, hW⟩ := h2
  refine wpAny_newObj_type ?_
  have hD : H2 s2.heap.objs.size = none := I2.fresh
  obtain ⟨W, ⟨n0, w0⟩, turn⟩ := hW _ hD
  generalize hDe : s2.heap.objs.size = D at *
  have I3 : Inv X pins σ (upd H2 D (.lst [])) { s2 with heap := s2.heap.push { cls := .type "list", dict := none, data := .seq ([] : List Value).toArray } } := by
    subst hDe
    exact I2.laid (t' := s2.toks) (fun b u e => Heap.get?_push_of_some _ e) (Nat.le_refl _) ⟨Nat.zero_le _, [], 0, .nil, Heap.get?_push_size _ rfl⟩
  have ob2 := T.obj 0 _ st2
  have ob3 : ∀ b ∈ fp, ∃ o, (s2.heap.push { cls := .type "list", dict := none, data := .seq ([] : List Value).toArray }).get? b = some o := fun b hb => let ⟨o, e, _⟩ := ob2 b hb; ⟨o, Heap.get?_push_of_some _ e⟩
  have f3 : ∀ b ∈ fp, FpOk X pins (upd H2 D (.lst [])) b := fun b hb => by
    obtain ⟨o, e, _⟩ := ob2 b hb
    have : b ≠ D := by rw [← hDe]; exact Nat.ne_of_lt (Heap.lt_size e)
    exact ⟨by rw [upd_ne this]; exact (fF2 b hb).1, (fF2 b hb).2⟩
  have k23 : ∀ b o, s2.heap.get? b = some o → (s2.heap.push { cls := .type "list", dict := none, data := .seq ([] : List Value).toArray }).get? b = some o := fun b o e => Heap.get?_push_of_some _ e
  generalize hH3 : upd H2 D (.lst []) = H3 at *
  generalize hs3 : ({ s2 with heap := s2.heap.push { cls := .type "list", dict := none, data := .seq ([] : List Value).toArray } } : Shared) = s3 at *
  have ob3 : ∀ b ∈ fp, ∃ o, s3.heap.get? b = some o := by rw [← hs3]; exact ob3
  have k23 : ∀ b o, s2.heap.get? b = some o → s3.heap.get? b = some o := by rw [← hs3]; exact k23
  refine wpAny_newFunctionEnv (fun y hy => sc.nocell y hy) (by intro y hy; simp at hy) (fun h₁ hns hsb => ?_) sc.kind
  have hk : ∀ b o, s3.heap.get? b = some o → h₁.get? b = some o := fun b o e => by
    rw [hsb.2 b (Nat.ne_of_lt (Heap.lt_size e))]; exact Heap.get?_push_of_some _ e
  have I4 : Inv (cxComp X N' scope s3 H3 fp) [] (cap m σ) H3 { s3 with heap := h₁ } := inv_comp hc I3 sc hcap f3 ob3 hns hk
  have tn4 : tn 0 h₁ := T.keep _ _ _ st2 fun b hb o e => hk b o (k23 b o e)
  have fr4 : ∀ b ∈ fp, H3 b = none := fun b hb => (f3 b hb).1
  have stat : ∀ {H' : Hp}, (∀ b ∈ fp, H' b = none) → ∀ b ∈ fp, FpOk (cxComp X N' scope s3 H3 fp) [] H' b := fun hn b hb => by
    refine ⟨hn b hb, I4.ok.exf b hb |>.1, I4.ok.exfs b hb, .inl hb, fun x c e => (I4.ok.exf b hb).2 x c e, fun p hp => absurd (show p ∈ ([] : List (Addr × Obj)) from hp) (by simp)⟩
  show codeAny (model X.prog X.w) X.A (.compStart (.ListComp elt [⟨tg, iter, ifs, 0⟩, ⟨t2, i2, f2, 0⟩] scope pos) 0 (.ref it) (.ref D) (cxComp X N' scope s3 H3 fp).env) (compPost (model X.prog X.w) X.A X.xe none (EP X pins σ Q) (.ref D) s3.heap.objs.size) { s3 with heap := h₁ }
  have loop : codeAny (model X.prog X.w) X.A (.compLoop (.ListComp elt [⟨tg, iter, ifs, 0⟩, ⟨t2, i2, f2, 0⟩] scope pos) 0 (.ref it) (.ref D) (cxComp X N' scope s3 H3 fp).env) (compPost (model X.prog X.w) X.A X.xe none (EP X pins σ Q) (.ref D) s3.heap.objs.size) { s3 with heap := h₁ } := by
    refine codeAny_loop rfl (fun n s' => ∃ i σ' H', Inv (cxComp X N' scope s3 H3 fp) [] σ' H' s' ∧ tn i s'.heap ∧ (∀ b ∈ fp, H' b = none) ∧ W i n σ' H') (fun n s' hI => ?_) n0 ⟨0, cap m σ, H3, I4, tn4, fr4, w0⟩
    show wpAny _ X.A ((compTurn (.ListComp elt [⟨tg, iter, ifs, 0⟩, ⟨t2, i2, f2, 0⟩] scope pos) 0 (.ref it) (.ref D) (cxComp X N' scope s3 H3 fp).env).onRaise (fun x => do noteFrame x (cxComp X N' scope s3 H3 fp).env; theTreesLotGoes x)) _ _ s'
    refine wpAny_noted ?_
    rw [compTurn_two0]
    refine wpAny_bind (wpAny_standAt (wpAny_bind ?_))
    obtain ⟨i, σ5, H5, I5, st5, fr5, w5⟩ := hI
    rcases turn i n σ5 H5 w5 with ⟨stop, q⟩ | ⟨go, step⟩
    · refine thn (T.done (cxComp X N' scope s3 H3 fp) rfl rfl rfl rfl i [] s' σ5 H5 _ I5 (stat fr5) st5 stop) fun r s6 ⟨hr, I6⟩ => ?_
      subst hr
      refine wpAny_pure ?_
      obtain ⟨mm, hn6, _⟩ := I6.loc
      exact ⟨mm, hn6, fun h' sb => ⟨.ref D, H5, inv_uncomp I3 f3 I6 sb, rfl, q⟩⟩
    · refine thn (T.item (cxComp X N' scope s3 H3 fp) rfl rfl rfl rfl i [] s' σ5 H5 _ I5 (stat fr5) st5 go) fun r s6 ⟨u, hr, h6⟩ => ?_
      subst hr
      refine wpAny_bind (thn h6 fun _ s7 ⟨x, H7, I7, r7, y7, st7, fr7⟩ => ?_)
      have I7' := I7.pinned (stat fr7) (T.obj _ _ st7)
      have again : ∀ {σ8 : L2.St} {H8 : Hp} {s8 : Shared}, Inv (cxComp X N' scope s3 H3 fp) ([] ++ pinsAt fp s7.heap) σ8 H8 s8 → (∃ n', n' < n ∧ W (i + 1) n' σ8 H8) →
          ∃ m', m' < n ∧ ∃ i σ' H', Inv (cxComp X N' scope s3 H3 fp) [] σ' H' s8 ∧ tn i s8.heap ∧ (∀ b ∈ fp, H' b = none) ∧ W i m' σ' H' := fun {σ8 H8 s8} I8 ⟨n', hn, w8⟩ => by
        refine ⟨n', hn, i + 1, σ8, H8, I8.unpinned, T.keep _ _ _ st7 fun b hb o e => (I8.pin (b, o) (List.mem_append_right _ (List.mem_append_right _ (mem_pinsAt hb e)))).1, fun b hb => ?_, w8⟩
        obtain ⟨o, e, d⟩ := T.obj _ _ st7 b hb
        exact (I8.pin (b, o) (List.mem_append_right _ (List.mem_append_right _ (mem_pinsAt hb e)))).2.1
      refine wpAny_bind (wpAny_mono (hg s3 H3 fp _ s7 σ5 H7 x u _ I7' r7 (step x H7 y7)) (fun _ s8 ⟨σ8, H8, I8, q8⟩ => ?_) fun _ _ z => z.elim)
      refine wpAny_bind (wpAny_mono (hf s3 H3 fp _ s8 σ8 H8 _ I8 q8) (fun k s9 ⟨H9, I9, q9⟩ => ?_) fun _ _ z => z.elim)
      cases k with
      | false =>
        rw [if_neg Bool.false_ne_true] at q9
        exact wpAny_pure ⟨rfl, again I9 q9⟩
      | true =>
        rw [if_pos rfl] at q9
        refine inner2 (X := cxComp X N' scope s3 H3 fp) rfl (fun _ _ z => z) (hi2 s3 H3 fp) (hg2 s3 H3 fp) (hf2 s3 H3 fp) (he s3 H3 fp) (hs2 s3 H3 fp) I9 q9 fun s10 σ10 H10 I10 q10 => ?_
        exact wpAny_pure ⟨rfl, again I10 q10⟩
  exact codeAny_compStart_list loop (T.self X.A 0 _ _ _ tn4 loop)
end
end L3
set_option Elab.async false
set_option linter.all false
set_option maxRecDepth 100000
set_option maxHeartbeats 4000000
namespace L3
open PySem PySem.Spec PyProof.Rows L2
def inGo (D : Addr) (stay : Gp → Prop) (g : TG3) (tif : TT3) (te : TE3) (N : St3 → Gp → Prop) : List T → St3 → Gp → Prop
  | [], τ, G => stay G ∧ N τ G
  | x :: r, τ, G => stay G ∧ g x τ G fun τ2 G2 => tif τ2 G2 fun k G3 =>
    if k = true then te τ2 G3 fun y G4 => (match G4 D with | some (.lst ys) => ys.length < sizeLine ∧ inGo D stay g tif te N r τ2 (gu G4 D (.lst (ys ++ [y]))) | _ => False) else inGo D stay g tif te N r τ2 G3
def lc2Go (D : Addr) (stay : Gp → Prop) (g : TG3) (tif : TT3) (wi2 : TI3) (g2 : TG3) (tif2 : TT3) (te : TE3) (q : Q3) : List T → St3 → Gp → Prop
  | [], _, G => stay G ∧ q (.ref D) G
  | x :: r, τ, G => stay G ∧ g x τ G fun τ2 G2 => tif τ2 G2 fun k G3 =>
    if k = true then wi2 τ2 G3 fun items2 stay2 G4 => inGo D stay2 g2 tif2 te (fun τ' G' => lc2Go D stay g tif wi2 g2 tif2 te q r τ' G') items2 τ2 G4 else lc2Go D stay g tif wi2 g2 tif2 te q r τ2 G3
def lc23 (wi : TI3) (g : TG3) (tif : TT3) (wi2 : TI3) (g2 : TG3) (tif2 : TT3) (te : TE3) (m : List (Option Nat)) : TE3 := fun τ G q => wi τ G fun items stay G1 => ∀ D, G1 D = none → lc2Go D stay g tif wi2 g2 tif2 te q items (cap m τ) (gu G1 D (.lst []))
section
variable {K : PySem.W.Frag}
theorem in_lift {wi2 : TI3} {g2 : TG3} {tif2 : TT3} {te : TE3} {D : Addr} {N3 : St3 → Gp → Prop} {N : L2.St → Hp → Prop} {τ : St3} {G : Gp} {σ : L2.St} {H : Hp} {Gb : Gp} {Hb : Hp} (rl : Rel K τ G σ H) (kb : Kp Gb Hb G H) (h : wi2 τ G fun items stay G1 => inGo D stay g2 tif2 te N3 items τ G1)
    (hN : ∀ τ' G' σ' H', Rel K τ' G' σ' H' → Kp Gb Hb G' H' → N3 τ' G' → N σ' H') : tIn (lI K wi2) (lG K g2) (lT K tif2) (lE K te) D N σ H := by
  refine ⟨τ, G, _, rl, h, fun items stay G1 h1 J H1 hr1 k1 ok => ?_⟩
  refine ⟨fun i n σ' H' => n = items.length - i ∧ i ≤ items.length ∧ ∃ τ' G', Rel K τ' G' σ' H' ∧ Kp G1 H1 G' H' ∧ inGo D stay g2 tif2 te N3 (items.drop i) τ' G', ⟨_, rfl, Nat.zero_le _, τ, G1, rl.next hr1 k1, Kp.refl, by simpa using h1⟩, ?_⟩
  rintro i n σ' H' ⟨rfl, hi, τ', G', rl', k', h'⟩
  by_cases hlt : i < items.length
  · rw [List.drop_eq_getElem_cons hlt] at h'
    obtain ⟨hst, h'⟩ := h'
    obtain ⟨go, yld, _⟩ := ok G' H' rl'.hp k' hst
    have hx : items[i]? = some items[i] := List.getElem?_eq_getElem hlt
    refine .inr ⟨go i _ hx, fun v H2 y => ?_⟩
    obtain ⟨rv, hr2, k2⟩ := yld i _ v H2 hx y
    refine ⟨_, τ', G', _, rv, rl'.next hr2 k2, h', fun τ3 G3 h3 σ3 H3 rl3 k3 => ⟨τ3, G3, _, rl3, h3, fun k G4 h4 H4 hr4 k4 => ?_⟩⟩
    have kk := (k2.trans k3).trans k4
    cases k with
    | false =>
      rw [if_neg Bool.false_ne_true] at h4
      refine iteF ?_
      exact ⟨_, by omega, rfl, hlt, τ3, G4, rl3.next hr4 k4, k'.trans kk, h4⟩
    | true =>
      rw [if_pos rfl] at h4
      refine iteT ?_
      refine ⟨τ3, G4, _, rl3.next hr4 k4, h4, fun z G5 h5 w H5 rw5 hr5 k5 => ?_⟩
      split at h5
      · rename_i ys e1
        obtain ⟨vs, g1, r1⟩ := hr5.lst e1
        exact ⟨vs, g1, by rw [← r1.length]; exact h5.1, _, by omega, rfl, hlt, τ3, _, ((rl3.next hr4 k4).next hr5 k5).next (hr5.wr e1 (r1.append (.cons rw5 .nil))) (Kp.wr e1), ((k'.trans kk).trans k5).trans (Kp.wr e1), h5.2⟩
      · exact h5.elim
  · have e : i = items.length := by omega
    subst e
    rw [List.drop_length] at h'
    obtain ⟨_, _, stop⟩ := ok G' H' rl'.hp k' h'.1
    exact .inl ⟨stop, hN _ _ _ _ rl' ((kb.trans k1).trans k') h'.2⟩
end
section
variable {X : Cx}
theorem e_lc2 {elt tg iter t2 i2 : Expr} {ifs f2 : List Expr} {scope : Scope} {pos : Pos} (N' : List Str) (m : List (Option Nat)) {wi : TI3} {g : TG3} {tif : TT3} {wi2 : TI3} {g2 : TG3} {tif2 : TT3} {te : TE3} (hc : X.calm = true) (hi : I3 X tg iter wi)
    (hg : ∀ s H fp, G3 (cxComp X N' scope s H fp) tg g) (hf : ∀ s H fp, F3 (cxComp X N' scope s H fp) ifs tif) (hi2 : ∀ s H fp, I3 (cxComp X N' scope s H fp) t2 i2 wi2) (hg2 : ∀ s H fp, G3 (cxComp X N' scope s H fp) t2 g2) (hf2 : ∀ s H fp, F3 (cxComp X N' scope s H fp) f2 tif2) (he : ∀ s H fp, E3 (cxComp X N' scope s H fp) elt te)
    (hsc : scOk X.env.scope scope = true) (hcap : capOk X.N N' scope m = true) (hs : ∀ x, foldedSetIterable iter X.env x = pure x := by intro _; rfl) (hs2 : ∀ s H fp x, foldedSetIterable i2 (cxComp X N' scope s H fp).env x = pure x := by intro _ _ _ _; rfl) :
    E3 X (.ListComp elt [⟨tg, iter, ifs, 0⟩, ⟨t2, i2, f2, 0⟩] scope pos) (lc23 wi g tif wi2 g2 tif2 te m) :=
  pe_w (pe_lc2 (g := lG X.K g) (tif := lT X.K tif) (wi2 := lI X.K wi2) (g2 := lG X.K g2) (tif2 := lT X.K tif2) (te := lE X.K te) hc hi hg hf hi2 hg2 hf2 he hsc hcap hs hs2) fun σ H Q ⟨τ, G, q, rl, h, af⟩ => by
    refine ⟨τ, G, _, rl, h, fun items stay G1 h1 J H1 hr1 k1 ok D hD => ?_⟩
    have gD : G1 D = none := hr1.free hD
    have h1 := h1 D gD
    have hr1' : HR X.K (gu G1 D (.lst [])) (upd H1 D (.lst [])) := HR.newL hr1 hD .nil
    have k1' : Kp G1 H1 (gu G1 D (.lst [])) (upd H1 D (.lst [])) := Kp.newL hD
    refine ⟨fun i n σ' H' => n = items.length - i ∧ i ≤ items.length ∧ ∃ τ' G', Rel X.K τ' G' σ' H' ∧ Kp G1 H1 G' H' ∧ lc2Go D stay g tif wi2 g2 tif2 te q (items.drop i) τ' G',
      ⟨_, rfl, Nat.zero_le _, cap m τ, _, ((rl.next hr1 k1).cap m).next hr1' k1', k1', by simpa using h1⟩, ?_⟩
    rintro i n σ' H' ⟨rfl, hi, τ', G', rl', k', h'⟩
    by_cases hlt : i < items.length
    · rw [List.drop_eq_getElem_cons hlt] at h'
      obtain ⟨hst, h'⟩ := h'
      obtain ⟨go, yld, _⟩ := ok G' H' rl'.hp k' hst
      have hx : items[i]? = some items[i] := List.getElem?_eq_getElem hlt
      refine .inr ⟨go i _ hx, fun v H2 y => ?_⟩
      obtain ⟨rv, hr2, k2⟩ := yld i _ v H2 hx y
      refine ⟨_, τ', G', _, rv, rl'.next hr2 k2, h', fun τ3 G3 h3 σ3 H3 rl3 k3 => ⟨τ3, G3, _, rl3, h3, fun k G4 h4 H4 hr4 k4 => ?_⟩⟩
      have kk := (k2.trans k3).trans k4
      cases k with
      | false =>
        rw [if_neg Bool.false_ne_true] at h4
        refine iteF ?_
        exact ⟨_, by omega, rfl, hlt, τ3, G4, rl3.next hr4 k4, k'.trans kk, h4⟩
      | true =>
        rw [if_pos rfl] at h4
        refine iteT ?_
        exact in_lift (rl3.next hr4 k4) (k'.trans kk) h4 fun τ5 G5 σ5 H5 rl5 k5 h5 => ⟨_, by omega, rfl, hlt, τ5, G5, rl5, k5, h5⟩
    · have e : i = items.length := by omega
      subst e
      rw [List.drop_length] at h'
      obtain ⟨_, _, stop⟩ := ok G' H' rl'.hp k' h'.1
      exact .inl ⟨stop, af _ _ h'.2 _ H' (.ref D) rl'.hp (k1.trans k')⟩
theorem je_lc2 {elt tg iter t2 i2 : Expr} {ifs f2 : List Expr} {scope : Scope} {pos : Pos} (N' : List Str) (m : List (Option Nat)) {wi : TI3} {g : TG3} {tif : TT3} {wi2 : TI3} {g2 : TG3} {tif2 : TT3} {te : TE3} (hc : X.calm = true) (hi : jI3 X tg iter wi)
    (hg : ∀ s H fp, jG3 (cxComp X N' scope s H fp) tg g) (hf : ∀ s H fp, jF3 (cxComp X N' scope s H fp) ifs tif) (hi2 : ∀ s H fp, jI3 (cxComp X N' scope s H fp) t2 i2 wi2) (hg2 : ∀ s H fp, jG3 (cxComp X N' scope s H fp) t2 g2) (hf2 : ∀ s H fp, jF3 (cxComp X N' scope s H fp) f2 tif2) (he : ∀ s H fp, jE3 (cxComp X N' scope s H fp) elt te)
    (hsc : scOk X.env.scope scope = true) (hcap : capOk X.N N' scope m = true) (hs : ∀ x, foldedSetIterable iter X.env x = pure x := by intro _; rfl) (hs2 : ∀ s H fp x, foldedSetIterable i2 (cxComp X N' scope s H fp).env x = pure x := by intro _ _ _ _; rfl) :
    jE3 X (.ListComp elt [⟨tg, iter, ifs, 0⟩, ⟨t2, i2, f2, 0⟩] scope pos) (lc23 wi g tif wi2 g2 tif2 te m) :=
  ⟨e_lc2 N' m hc hi.h (fun s H fp => (hg s H fp).h) (fun s H fp => (hf s H fp).h) (fun s H fp => (hi2 s H fp).h) (fun s H fp => (hg2 s H fp).h) (fun s H fp => (hf2 s H fp).h) (fun s H fp => (he s H fp).h) hsc hcap hs hs2⟩
end
end L3
set_option Elab.async false
set_option linter.all false
set_option maxRecDepth 100000
set_option maxHeartbeats 4000000
namespace L3
open PySem PySem.Spec PyProof.Rows L2
section
variable {X : Cx}
theorem intsAre_of : ∀ {its : List Value} {ns : List Int}, Vals (ns.map V.int) its → IntsAre its ns
  | _, [], h => by cases h; exact .nil
  | _, n :: ns, h => by
    cases h with
    | cons r t =>
      obtain ⟨k, rfl⟩ := r
      exact .cons n k (intsAre_of t)
end
end L3
set_option Elab.async false
set_option linter.all false
set_option maxRecDepth 100000
set_option maxHeartbeats 4000000
namespace L3
open PySem PySem.Spec PyProof.Rows L2
section
variable {X : Cx} {tg a b c : Expr} {pos : Pos}
end
end L3
set_option Elab.async false
set_option linter.all false
set_option maxRecDepth 100000
set_option maxHeartbeats 4000000
namespace L3
open PySem PySem.Spec PyProof.Rows L2
def dcount (ns : List Int) : Nat := (firstMet (fun i => ns.getD i 0) ns.length).length
section
variable {X : Cx}
theorem call_set_ints (hc : X.calm = true) : CallR X (.type "set") (fun xs H Q => ∃ (p : Addr) (ns : List Int), xs = [.ref p] ∧ SqL X.K H p (ns.map V.int) ∧ ns.length < 4000 ∧ ∀ l S, H l = none → Q (.ref l) (upd H l (.set S (dcount ns)))) := by
  intro pins s σ H xs us Q I r h
  obtain ⟨p, ns, rfl, hq, hl, q⟩ := h
  obtain ⟨u, rfl, rp⟩ := vals1 r
  cases (show u = Value.ref p from rp)
  obtain ⟨its, rv, pl, hz⟩ := I.list hq
  have hlen : its.length = ns.length := by have := rv.length; simp at this; omega
  refine call_set_list (items := its.toArray) (ns := ns) (I.ok.hd hc) pl.isList (by simpa using intsAre_of rv) (by rw [List.size_toArray]; unfold scanBound; omega) fun h' tk hs kp => ?_
  have e : (its.toArray).size = ns.length := by rw [List.size_toArray]; exact hlen
  rw [e] at hs
  exact ⟨.ref s.heap.objs.size, _, I.laid (t' := tk) (o := .set (fun k' => (firstMet (fun i => ns.getD i 0) ns.length).any (· == k')) (dcount ns)) (fun b o hb => kp b o (Heap.lt_size hb) hb) (Nat.le_refl _) hs, rfl, q _ _ (I.hok.fresh (Nat.le_refl _))⟩
theorem call_len_setV : CallR X (.builtin "len") (fun xs H Q => ∃ a S n, xs = [.ref a] ∧ H a = some (.set S n) ∧ Q (.int n) H) := by
  intro pins s σ H xs us Q I r h
  obtain ⟨a, S, n, rfl, ha, q⟩ := h
  obtain ⟨u, rfl, rp⟩ := vals1 r
  cases (show u = Value.ref a from rp)
  obtain ⟨o, es, ep, t, h1, h2, h3, _, _, h6, h7, h8⟩ := (show s.heap.SetOf (intKind X.prog X.w) a S n from I.hok a _ ha)
  refine call_len_set h1 h2 h3 h7 (by unfold scanBound at h6; omega) ⟨.int n, H, I.tok _, ⟨_, by rw [h8]⟩, q⟩
def lset3 (te : TE3) : TE3 := fun τ G q => te τ G fun x G1 => match x with
  | .ref p => (match getL G1 p with | some ys => (match intsT ys with | some ns => ns.length < 4000 ∧ q (.int (dcount ns)) G1 | none => False) | none => False)
  | _ => False
theorem je_lenset {e : Expr} {te : TE3} {p p2 pos pos2 : Pos} (hc : X.calm = true) (hg : Gl X "len") (hm : X.mg "len" = none) (hg2 : Gl X "set") (hm2 : X.mg "set" = none) (he : jE3 X e te)
    (h1 : starEach [e] X.env = (false, eval e X.env) :: starEach [] X.env := by rfl) (h2 : starEach [.Call (.Name "set" p2) [e] [] pos2] X.env = (false, eval (.Call (.Name "set" p2) [e] [] pos2) X.env) :: starEach [] X.env := by rfl)
    (h3 : (backTo pos (starEach [] X.env)).any (·.1) = false := by rfl) (h4 : (backTo pos2 (starEach [] X.env)).any (·.1) = false := by rfl) : jE3 X (.Call (.Name "len" p) [.Call (.Name "set" p2) [e] [] pos2] [] pos) (lset3 te) :=
  ⟨pe_w (pe_callB call_len_setV hg hm PySem.boot_len (pa_cons (pe_callTy (call_set_ints hc) hg2 hm2 (show bootBuiltins "set" = some (.type "set") by decide +kernel) (pa_cons he.h pa_nil h1) (he := h1) (hpl := h4)) pa_nil h2) (he := h2) (hpl := h3)) fun _ _ _ ⟨τ, G, q, rl, h, af⟩ => lE_seq rl h fun x G1 h1 v H1 rx hr1 k1 rl1 => by
    split at h1
    · rename_i l
      cases rx
      split at h1
      · rename_i ys e0
        split at h1
        · rename_i ns e1
          obtain ⟨us, hs, r2⟩ := getL_sq hr1 e0
          have := intsT_eq e1
          subst this
          have := rps_ints r2
          subst this
          exact ⟨l, ns, rfl, hs, h1.1, fun a S ha => ⟨a, S, _, rfl, upd_same, af _ _ h1.2 _ _ (.int _) (HR.laid hr1 ha) (k1.trans (Kp.laid ha))⟩⟩
        · exact h1.elim
      · exact h1.elim
    · exact h1.elim⟩
end
end L3
set_option Elab.async false
set_option linter.all false
set_option maxRecDepth 100000
set_option maxHeartbeats 4000000
namespace L3
open PySem PySem.Spec PyProof.Rows L2
theorem drop_walk {α : Type} {items : List α} {i : Nat} {x : α} {r : List α} (e : items.drop i = x :: r) : i < items.length ∧ items[i]? = some x ∧ items.drop (i + 1) = r := by
  have hl : i < items.length := by
    apply Classical.byContradiction
    intro z
    rw [List.drop_eq_nil_of_le (by omega)] at e
    cases e
  have e' := List.drop_eq_getElem_cons hl
  rw [e] at e'
  injection e' with e1 e2
  exact ⟨hl, by rw [List.getElem?_eq_getElem hl, e1], e2.symm⟩
theorem drop_end {α : Type} {items : List α} {i : Nat} (e : items.drop i = []) (hi : i ≤ items.length) : i = items.length := by
  have := congrArg List.length e
  simp at this
  omega
theorem inGo_inv {D : Addr} {stay : Gp → Prop} {g : TG3} {tif : TT3} {te : TE3} {N : St3 → Gp → Prop} (items : List T) (Pv : Nat → St3 → Gp → Prop) {τ : St3} {G : Gp} (h0 : Pv 0 τ G) (hst : ∀ i τ G, i ≤ items.length → Pv i τ G → stay G)
    (hs : ∀ i x τ G (R : St3 → Gp → Prop), items[i]? = some x → Pv i τ G → (∀ τ' G', Pv (i + 1) τ' G' → R τ' G') →
      g x τ G fun τ2 G2 => tif τ2 G2 fun k G3 => if k = true then te τ2 G3 fun y G4 => (match G4 D with | some (.lst ys) => ys.length < sizeLine ∧ R τ2 (gu G4 D (.lst (ys ++ [y]))) | _ => False) else R τ2 G3)
    (hd : ∀ τ G, Pv items.length τ G → N τ G) : inGo D stay g tif te N items τ G := by
  have key : ∀ (r : List T) (i : Nat) τ G, items.drop i = r → i ≤ items.length → Pv i τ G → inGo D stay g tif te N r τ G := by
    intro r
    induction r with
    | nil =>
      intro i τ G e hi p
      have := drop_end e hi
      subst this
      exact ⟨hst _ τ G hi p, hd τ G p⟩
    | cons x r ih =>
      intro i τ G e hi p
      obtain ⟨hl, hx, e2⟩ := drop_walk e
      exact ⟨hst i τ G hi p, hs i x τ G _ hx p fun τ2 G2 p2 => ih (i + 1) τ2 G2 e2 hl p2⟩
  exact key items 0 τ G (by simp) (Nat.zero_le _) h0
theorem lc2Go_inv {D : Addr} {stay : Gp → Prop} {g : TG3} {tif : TT3} {wi2 : TI3} {g2 : TG3} {tif2 : TT3} {te : TE3} {q : Q3} (items : List T) (Pv : Nat → St3 → Gp → Prop) {τ : St3} {G : Gp} (h0 : Pv 0 τ G) (hst : ∀ i τ G, i ≤ items.length → Pv i τ G → stay G)
    (hs : ∀ i x τ G (R : St3 → Gp → Prop), items[i]? = some x → Pv i τ G → (∀ τ' G', Pv (i + 1) τ' G' → R τ' G') →
      g x τ G fun τ2 G2 => tif τ2 G2 fun k G3 => if k = true then wi2 τ2 G3 fun items2 stay2 G4 => inGo D stay2 g2 tif2 te R items2 τ2 G4 else R τ2 G3)
    (hd : ∀ τ G, Pv items.length τ G → q (.ref D) G) : lc2Go D stay g tif wi2 g2 tif2 te q items τ G := by
  have key : ∀ (r : List T) (i : Nat) τ G, items.drop i = r → i ≤ items.length → Pv i τ G → lc2Go D stay g tif wi2 g2 tif2 te q r τ G := by
    intro r
    induction r with
    | nil =>
      intro i τ G e hi p
      have := drop_end e hi
      subst this
      exact ⟨hst _ τ G hi p, hd τ G p⟩
    | cons x r ih =>
      intro i τ G e hi p
      obtain ⟨hl, hx, e2⟩ := drop_walk e
      exact ⟨hst i τ G hi p, hs i x τ G (fun τ2 G2 => lc2Go D stay g tif wi2 g2 tif2 te q r τ2 G2) hx p fun τ2 G2 p2 => ih (i + 1) τ2 G2 e2 hl p2⟩
  exact key items 0 τ G (by simp) (Nat.zero_le _) h0
end L3
set_option Elab.async false
set_option linter.all false
set_option maxRecDepth 100000
set_option maxHeartbeats 4000000
namespace L3
open PySem PySem.Spec PyProof.Rows L2
section
variable {X : Cx} {a b : Expr} {ta tb : TE3} {pos : Pos}
structure ShW (d : PyData) : Prop where
  sh : d.showable = true
  nd : d.hasDict = false
  dp : d.depth ≤ 40
  fit : d.shown.length ≤ sizeLine
theorem ShOk.w {d : PyData} (h : ShOk d) : ShW d := ⟨h.sh, h.nd, h.dp, PyData.shown_fits_bulk (by decide) (by decide) h.lv h.bk⟩
theorem call_strW (hg : X.A.guards = some []) (hu : X.A.units + 64 < cLine) : CallR X (.type "str") (fun xs H Q => ∃ a d, xs = [.ref a] ∧ DV X.K H (.ref a) d ∧ ShW d ∧ Q (.str d.shown) H) := by
  intro pins s σ H xs us Q I r h
  obtain ⟨a, d, rfl, dv, ok, q⟩ := h
  obtain ⟨u, rfl, rp⟩ := vals1 r
  cases (show u = Value.ref a from rp)
  obtain ⟨as, rd⟩ := dv.reads I (show RelV (.ref a) (.ref a) from rfl)
  refine str_of_reads rd ok.sh (PyData.noDict_hsm ok.nd) hg (by have := ok.dp; omega) (fun _ _ e => e) (fun h' u tk hk => ?_) ok.fit
  exact ⟨.str _, H, I.kept (h' := h') (t' := tk) hk, ⟨_, rfl⟩, q⟩
def shV (st : Bool) : V → Hp → (Str → Prop) → Prop := fun v H q => match v with
  | .non => q (Str.ofString "None")
  | .bl b => q (if b = true then Str.ofString "True" else Str.ofString "False")
  | .int i => i.natAbs.log2 < 1920 ∧ q (Str.ofString (toString i))
  | .str x => if st then q x else (reprText x).length ≤ sizeLine ∧ q (reprText x)
  | .ref a => ∃ d, DV X.K H (.ref a) d ∧ ShW d ∧ q d.shown
  | _ => False
theorem call_strAny (hg : X.A.guards = some []) (hu : X.A.units + 64 < cLine) : CallR X (.type "str") (fun xs H Q => ∃ v, xs = [v] ∧ shV (X := X) true v H fun x => Q (.str x) H) := by
  intro pins s σ H xs us Q I r h
  obtain ⟨v, rfl, h⟩ := h
  obtain ⟨u, rfl, rp⟩ := vals1 r
  cases v with
  | non => cases (show u = Value.none from rp); exact P.str_of_none ⟨.str _, H, I.tok _, ⟨_, rfl⟩, h⟩
  | bl b => cases (show u = Value.bool b from rp); exact P.str_of_bool ⟨.str _, H, I.tok _, ⟨_, rfl⟩, h⟩
  | int i => obtain ⟨t, rfl⟩ := (show ∃ t, u = Value.int i t from rp); exact P.str_of_int h.1 ⟨.str _, H, I.tok _, ⟨_, rfl⟩, h.2⟩
  | str x => obtain ⟨t, rfl⟩ := (show ∃ t, u = Value.str x t from rp); exact P.str_of_str ⟨.str _, H, I, ⟨_, rfl⟩, h⟩
  | ref a =>
    obtain ⟨d, dv, ok, q⟩ := h
    exact call_strW hg hu _ _ _ _ _ _ _ I r ⟨a, d, rfl, dv, ok, q⟩
  | _ => exact h.elim
def shT (st : Bool) : T → Gp → (Str → Prop) → Prop := fun x G q => match x with
  | .non => q (Str.ofString "None")
  | .bl b => q (if b = true then Str.ofString "True" else Str.ofString "False")
  | .int i => i.natAbs.log2 < 1920 ∧ q (Str.ofString (toString i))
  | .str x => if st then q x else (reprText x).length ≤ sizeLine ∧ q (reprText x)
  | .tup _ => ∃ d, Dp G x d ∧ ShW d ∧ q d.shown
  | .ref _ => ∃ d, Dp G x d ∧ ShW d ∧ q d.shown
def show3 (st : Bool) : List T → Gp → Q3 → Prop := fun xs G q => match xs with
  | [x] => shT st x G fun y => q (.str y) G
  | _ => False
theorem ref_show {st : Bool} : RefC X.K (show3 st) (fun xs H Q => ∃ v, xs = [v] ∧ shV (X := X) st v H fun x => Q (.str x) H) := fun xs vs G H q Q hr rs h af => by
  unfold show3 at h
  split at h
  · rename_i x
    obtain ⟨v, rfl, r⟩ := rps1 rs
    refine ⟨v, rfl, ?_⟩
    cases r with
    | non => exact af _ G h _ H (.str _) hr Kp.refl
    | bl b => exact af _ G h _ H (.str _) hr Kp.refl
    | int i => exact ⟨h.1, af _ G h.2 _ H (.str _) hr Kp.refl⟩
    | str x =>
      cases st with
      | true => exact af _ G h _ H (.str _) hr Kp.refl
      | false => exact ⟨h.1, af _ G h.2 _ H (.str _) hr Kp.refl⟩
    | tup hs r2 =>
      obtain ⟨d, h1, h2, h3⟩ := h
      exact ⟨d, h1.dv hr (.tup hs r2), h2, af _ G h3 _ H (.str _) hr Kp.refl⟩
    | ref a =>
      obtain ⟨d, h1, h2, h3⟩ := h
      exact ⟨d, h1.dv hr (.ref a), h2, af _ G h3 _ H (.str _) hr Kp.refl⟩
  · exact h.elim
end
end L3
set_option Elab.async false
set_option linter.all false
set_option maxRecDepth 100000
set_option maxHeartbeats 4000000
namespace L3
open PySem PySem.Spec PyProof.Rows L2
section
variable {X : Cx} {K : PySem.W.Frag} {w : World} {mg : Str → Option Value}
inductive Ents (K : PySem.W.Frag) (w : World) : List DictEntry → List (Str × T) → Prop
  | nil : Ents K w [] []
  | cons {x : Str} {tk : Tok} {u : Value} {v : V} {t : T} {es : List DictEntry} {tab : List (Str × T)} : RelV v u → (∀ H, Rp K H t v) → Ents K w es tab → Ents K w (⟨PyData.keyHash w.params x, .str x tk, u⟩ :: es) ((x, t) :: tab)
def tabGet : List (Str × T) → Str → Option T
  | [], _ => none
  | (y, t) :: r, x => if y = x then some t else tabGet r x
structure Tb (K : PySem.W.Frag) (mg : Str → Option Value) (w : World) (x : Str) (tab : List (Str × T)) : Prop where
  at_ : ∃ (d : Addr) (es : Array DictEntry) (ep : Nat), mg x = some (.ref d) ∧ K.lookup d = some ⟨.type "dict", none, .dict es ep, #[]⟩ ∧ (d == sysModules) = false ∧ Ents K w es.toList tab
theorem Ents.keys {P : Program} : ∀ {es : List DictEntry} {tab : List (Str × T)}, Ents K w es tab → ∀ e ∈ es, ∃ k, (PySem.strKind P w).is k e.key = true ∧ e.hash = (PySem.strKind P w).hash k
  | _, _, .nil, e, h => by cases h
  | _, _, .cons (x := x) a b t, e, h => by
    rcases List.mem_cons.mp h with rfl | h
    · exact ⟨x, by show (x == x) = true; simp, rfl⟩
    · exact Ents.keys t e h
theorem Ents.find : ∀ {es : List DictEntry} {tab : List (Str × T)} (x : Str), Ents K w es tab →
    (match tabGet tab x with
     | some t => ∃ (u : Value) (v : V), (es.find? fun e => Value.isStrOf x e.key).map (·.val) = some u ∧ RelV v u ∧ ∀ H, Rp K H t v
     | none => (es.find? fun e => Value.isStrOf x e.key).map (·.val) = none)
  | _, _, x, .nil => by simp [tabGet]
  | _, _, x, .cons (x := y) (tk := tk) (u := u) (v := v) (t := t) (es := es) (tab := tab) a b r => by
    by_cases e : y = x
    · have : Value.isStrOf x (Value.str y tk) = true := by show (y == x) = true; simp [e]
      simp only [tabGet, e, if_true, List.find?_cons, this]
      subst e
      simp only [this]
      exact ⟨u, v, rfl, a, b⟩
    · have : Value.isStrOf x (Value.str y tk) = false := by show (y == x) = false; simp [e]
      have ih := Ents.find x r
      simp only [tabGet, e, if_false, List.find?_cons, this]
      exact ih
theorem Ents.map {P : Program} {h : Heap} {d : Addr} {es : Array DictEntry} {ep : Nat} {tab : List (Str × T)} (hd : h.get? d = some ⟨.type "dict", none, .dict es ep, #[]⟩) (en : Ents K w es.toList tab) :
    Heap.MapOf (PySem.strKind P w) h d (fun x => findBy Value.isStrOf es x) :=
  ⟨_, es, ep, hd, ⟨rfl, rfl, rfl⟩, rfl, fun e he => en.keys e (by simpa using he), fun _ => rfl⟩
def rTab (K : PySem.W.Frag) (d : Addr) (tab : List (Str × T)) : R2 := fun x y H Q => x = .ref d ∧ ∃ s t, y = .str s ∧ tabGet tab s = some t ∧ ∀ v, Rp K H t v → Q v H
theorem ix_tab {d : Addr} {es : Array DictEntry} {ep : Nat} {tab : List (Str × T)} (hk : X.K.lookup d = some ⟨.type "dict", none, .dict es ep, #[]⟩) (en : Ents X.K X.w es.toList tab) : IxR X (rTab X.K d tab) := by
  intro value slice pins s σ H x y v u Q I rx ry h hs
  obtain ⟨rfl, z, t, rfl, ht, q⟩ := h
  cases rx
  obtain ⟨tk, rfl⟩ := ry
  have hd := I.kIn _ _ hk
  have f := en.find z
  rw [ht] at f
  obtain ⟨u, v, hf, rv, rp⟩ := f
  have hf' : findBy Value.isStrOf es z = some u := by
    unfold findBy
    rw [← Array.find?_toList]
    exact hf
  refine subscriptTail_builtinR (x := u) ⟨_, hd, rfl⟩ PySem.F.slot_dict_getitem.lookup (wpAny_getItem_of (knd := PySem.strKind X.prog X.w) (Q := fun r s' => r = u ∧ EP X pins σ Q r s') (k := z) (by show (z == z) = true; simp) (en.map hd) hf' ⟨rfl, v, H, I.tok _, rv, q v (rp H)⟩) hs
def tget3 (tab : List (Str × T)) (te : TE3) : TE3 := fun τ G q => te τ G fun x G1 => match x with | .str s => (match tabGet tab s with | some t => q t G1 | none => False) | _ => False
theorem je_tget {x : Str} {e : Expr} {te : TE3} {tab : List (Str × T)} {p1 pos : Pos} (tb : Tb X.K X.mg X.w x tab) (hg : Gl X x) (he : jE3 X e te) (hs : PlainIx e) (hd : (x == ("__debug__" : Str)) = false := by decide) : jE3 X (.Subscript (.Name x p1) e pos) (tget3 tab te) := by
  obtain ⟨d, es, ep, hm, hk, hn, en⟩ := tb.at_
  exact ⟨pe_w (pe_ix (ix_tab hk en) (pe_glob hg hm (v := .ref d) rfl hd) he.h hs) fun _ _ _ ⟨τ, G, q, rl, h, af⟩ => lE_seq rl h fun y G1 h1 v H1 rx hr1 k1 rl1 => by
    cases y <;> try exact h1.elim
    case str z =>
      cases rx
      unfold tget3 at h
      simp only at h1
      split at h1
      · rename_i t ht
        exact ⟨rfl, z, t, rfl, ht, fun v rv => af.back k1 _ _ h1 _ _ rv hr1 Kp.refl⟩
      · exact h1.elim⟩
end
end L3
set_option Elab.async false
set_option linter.all false
set_option maxRecDepth 100000
set_option maxHeartbeats 4000000
namespace L3
open PySem PySem.Spec PyProof.Rows L2
inductive Cv : List Str → List V → List (Value × Value) → Prop
  | nil : Cv [] [] []
  | cons {k : Str} {tk : Tok} {v : V} {u : Value} {ks : List Str} {xs : List V} {vs : List (Value × Value)} : RelV v u → Cv ks xs vs → Cv (k :: ks) (v :: xs) ((.str k tk, u) :: vs)
structure jD3 (X : Cx) (keys : List (Option Expr)) (values : List Expr) (ks : List Str) (t : TA3) : Prop where
  h : ∀ (pos : Pos) (pins : List (Addr × Obj)) (s : Shared) (σ : L2.St) (H : Hp) (Q : List V → Hp → Prop), Inv X pins σ H s → lA X.K t σ H Q →
    wpAny (model X.prog X.w) X.A (evalPairs (pairTrees keys values X.env pos)) (fun vs s' => ∃ xs H', Inv X pins σ H' s' ∧ Cv ks xs vs ∧ Q xs H') X.xe s
  len : keys.length = values.length
  all : (keys.all fun x => x.isSome) = true
section
variable {X : Cx}
theorem jd_nil : jD3 X [] [] [] nil3 :=
  ⟨fun pos pins s σ H Q I ⟨τ, G, q, rl, h, af⟩ => by
    show wpAny _ _ (evalPairs []) _ _ _
    exact wpAny_pure ⟨[], H, I, .nil, af _ _ h _ _ .nil rl.hp Kp.refl⟩, rfl, rfl⟩
theorem jd_cons {k : Str} {j : Nat} {kp : Pos} {v : Expr} {tv : TE3} {keys : List (Option Expr)} {values : List Expr} {ks : List Str} {t : TA3} (hv : jE3 X v tv) (r : jD3 X keys values ks t) :
    jD3 X (some (.Constant (.str k) j kp) :: keys) (v :: values) (k :: ks) (cons3 tv t) :=
  ⟨fun pos pins s σ H Q I ⟨τ, G, q, rl, h, af⟩ => by
    show wpAny _ _ (evalPairs ((eval (.Constant (.str k) j kp) X.env, do let x ← eval v X.env; standAt pos; pure x) :: pairTrees keys values X.env pos)) _ _ _
    refine evalPairs_cons (thn (pe_str (X := X) (x := k) (j := j) (pos := kp) pins s σ H (fun y H' => y = .str k ∧ H' = H) I ⟨rfl, rfl⟩) fun kv s1 ⟨y, H1, I1, ry, ey, eH⟩ => ?_)
    subst ey; subst eH
    obtain ⟨tk, rfl⟩ := ry
    refine wpAny_bind (thn (hv.h pins s1 σ H1 (fun x H2 => lA X.K t σ H2 fun xs H3 => Q (x :: xs) H3) I1 (lE_seq rl h fun x G1 h1 v H2 rx hr1 k1 rl1 => ⟨τ, G1, _, rl1, h1, fun xs G2 h2 vs H3 rs hr2 k2 => af _ _ h2 _ _ (.cons (rx.keep hr1 k2) rs) hr2 (k1.trans k2)⟩)) fun u s2 ⟨x, H2, I2, rx, q2⟩ => ?_)
    refine wpAny_bind (wpAny_standAt (wpAny_pure ?_))
    exact thn (r.h pos pins s2 σ H2 _ I2 q2) fun vs s3 ⟨xs, H3, I3, cv, q3⟩ => ⟨x :: xs, H3, I3, .cons rx cv, q3⟩, by simp [r.len], by simpa using r.all⟩
theorem Cv.carries {P : Program} {w : World} : ∀ {ks : List Str} {xs : List V} {vs : List (Value × Value)}, Cv ks xs vs → Carries (PySem.strKind P w) vs (ks.zip (vs.map (·.2)))
  | _, _, _, .nil => True.intro
  | _, _, _, .cons (k := k) r t => ⟨by show (k == k) = true; simp, rfl, t.carries⟩
theorem Cv.len : ∀ {ks : List Str} {xs : List V} {vs : List (Value × Value)}, Cv ks xs vs → ks.length = vs.length
  | _, _, _, .nil => rfl
  | _, _, _, .cons _ t => by simp [t.len]
def vGet : List Str → List V → Str → Option V
  | k :: ks, v :: vs, x => if k = x then some v else vGet ks vs x
  | _, _, _ => none
theorem Cv.get : ∀ {ks : List Str} {xs : List V} {vs : List (Value × Value)} {x : Str} {v : V}, Cv ks xs vs → vGet ks xs x = some v → ∃ u, valueAt (ks.zip (vs.map (·.2))) x = some u ∧ RelV v u
  | _, _, _, x, v, .nil, h => by simp [vGet] at h
  | _, _, _, x, v, .cons (k := k) (u := u) r t, h => by
    by_cases e : k = x
    · simp [vGet, e] at h
      subst h
      exact ⟨u, by simp [valueAt, e], r⟩
    · simp [vGet, e] at h
      obtain ⟨u', h1, h2⟩ := Cv.get t h
      exact ⟨u', by simpa [valueAt, e] using h1, h2⟩
def tDsub (ks : List Str) (tv : TA) (te : TE) : TE := fun σ H Q => tv σ H fun xs H1 => te σ H1 fun y H2 => ∃ k v, y = .str k ∧ vGet ks xs k = some v ∧ Q v H2
theorem pe_dsub {keys : List (Option Expr)} {values : List Expr} {ks : List Str} {t : TA3} {e : Expr} {te : TE} {p1 pos : Pos} (hd : jD3 X keys values ks t) (he : PE X e te) (hs : PlainIx e) (nd : ks.Nodup) (ne : keys ≠ []) (h15 : keys.length ≤ 15) :
    PE X (.Subscript (.Dict keys values p1) e pos) (tDsub ks (lA X.K t) te) := by
  intro pins s σ H Q I hl
  refine Subscript_ ?_
  refine wpAny_Dict_walk (knd := PySem.strKind X.prog X.w) hd.all hd.len ne h15 ?_
  have hsz := I.sz
  have hlt := I.lt
  have I0 : Inv X pins σ H { s with heap := s.heap.push { cls := .type "dict", data := .dict #[] } } := I.kept (t' := s.toks) fun b o e => Heap.get?_push_of_some _ e
  have ok0 : H s.heap.objs.size = none ∧ s.heap.objs.size ≠ X.env.locals ∧ s.heap.objs.size ∉ X.fs := ⟨I.fresh, fun z => Nat.lt_irrefl _ (z ▸ hlt), I.nofs (Nat.le_refl _)⟩
  have hcell : ∀ x c, X.env.cells.lookup x = some c → c ≠ s.heap.objs.size := fun x c e z => by
    obtain ⟨v, o, ho, _⟩ := I.cell x c e
    have := Heap.lt_size ho
    rw [z] at this
    exact Nat.lt_irrefl _ this
  have hpin : ∀ p ∈ X.pn ++ pins, p.1 ≠ s.heap.objs.size := fun p hp z => by
    have := Heap.lt_size (I.pin p hp).1
    rw [z] at this
    exact Nat.lt_irrefl _ this
  have Ip : Inv X (pins ++ [(s.heap.objs.size, { cls := .type "dict", data := .dict #[] })]) σ H { s with heap := s.heap.push { cls := .type "dict", data := .dict #[] } } := I0.pins_of fun p hp => by
    rcases List.mem_append.mp hp with z | z
    · exact I0.pin p (List.mem_append_right _ z)
    · simp only [List.mem_singleton] at z
      subst z
      exact ⟨Heap.get?_push_size _ rfl, ok0.1, ok0.2.1, ok0.2.2, fun v => by simp⟩
  refine thn (hd.h p1 _ _ σ H _ Ip hl) fun vs s1 ⟨xs, H1, I1, cv, q1⟩ => ?_
  have p1' := I1.pin (s.heap.objs.size, { cls := .type "dict", data := .dict #[] }) (by simp)
  have hkeys : (List.map (fun x => x.fst) (ks.zip (vs.map (·.2)))) = ks := by
    have := cv.len
    rw [List.map_fst_zip (by simp; omega)]
  refine ⟨ks.zip (vs.map (·.2)), cv.carries, ⟨_, #[], 0, p1'.1, ⟨rfl, rfl, rfl⟩, rfl, fun e he => by simp at he, by first | exact True.intro | constructor, by simp⟩, fun h' hd' hsame => ?_⟩
  rw [merged_nil_of_nodup _ (by rw [hkeys]; exact nd)] at hd'
  have I1u : Inv X pins σ H1 s1 := I1.unpinned
  have I2 : Inv X pins σ H1 { heap := h', gens := s1.gens, drawn := s1.drawn, toks := s1.toks + vs.length, os := s1.os } :=
    I1u.turned (it := s.heap.objs.size) (fun b o hb e => by rw [hsame.2 b hb]; exact e) p1'.2.1 ok0.2.1 (.inr hsz) hcell hpin
  obtain ⟨o, es, ep, ho, hx, hdata, hk, hp, hn⟩ := hd'
  have I3 : Inv X (pins ++ [(s.heap.objs.size, o)]) σ H1 { heap := h', gens := s1.gens, drawn := s1.drawn, toks := s1.toks + vs.length, os := s1.os } := I2.pins_of fun p hp => by
    rcases List.mem_append.mp hp with z | z
    · exact I2.pin p (List.mem_append_right _ z)
    · simp only [List.mem_singleton] at z
      subst z
      exact ⟨ho, p1'.2.1, ok0.2.1, ok0.2.2, fun v => by rw [hdata]; simp⟩
  refine thn (he _ _ σ H1 _ I3 q1) fun u s2 ⟨y, H2, I4, ry, k, v, ey, hg, q2⟩ => ?_
  subst ey
  obtain ⟨tk, rfl⟩ := ry
  have po := I4.pin (s.heap.objs.size, o) (by simp)
  have dd : s2.heap.DictOf (PySem.strKind X.prog X.w) s.heap.objs.size (ks.zip (vs.map (·.2))) := ⟨o, es, ep, po.1, hx, hdata, hk, hp, hn⟩
  obtain ⟨u, hu, ru⟩ := cv.get hg
  exact subscriptTail_builtinR (x := u) ⟨_, po.1, hx.1⟩ PySem.F.slot_dict_getitem.lookup (wpAny_getItem_of (knd := PySem.strKind X.prog X.w) (Q := fun r s' => r = u ∧ EP X pins σ Q r s') (k := k) (by show (k == k) = true; simp) dd.mapOf hu ⟨rfl, v, H2, I4.unpinned.tok _, ru, q2⟩) (hs _ _)
def dsub3 (ks : List Str) (t : TA3) (te : TE3) : TE3 := fun τ G q => t τ G fun xs G1 => te τ G1 fun y G2 => match y with | .str k => (match tabGet (ks.zip xs) k with | some x => q x G2 | none => False) | _ => False
theorem vGet_of {K : PySem.W.Frag} {H : Hp} : ∀ {ks : List Str} {xs : List T} {vs : List V} {k : Str} {x : T}, Rps K H xs vs → tabGet (ks.zip xs) k = some x → ∃ v, vGet ks vs k = some v ∧ Rp K H x v
  | [], _, _, k, x, _, h => by simp [tabGet] at h
  | _ :: _, _, _, k, x, .nil, h => by simp [tabGet] at h
  | y :: ks, _, _, k, x, .cons (v := v) r t, h => by
    by_cases e : y = k
    · simp [tabGet, e] at h
      subst h
      exact ⟨v, by simp [vGet, e], r⟩
    · simp [tabGet, e] at h
      obtain ⟨v, h1, h2⟩ := vGet_of t h
      exact ⟨v, by simpa [vGet, e] using h1, h2⟩
theorem je_dsub {keys : List (Option Expr)} {values : List Expr} {ks : List Str} {t : TA3} {e : Expr} {te : TE3} {p1 pos : Pos} (hd : jD3 X keys values ks t) (he : jE3 X e te) (hs : PlainIx e := by intro _ _; rfl) (nd : ks.Nodup := by decide) (ne : keys ≠ [] := by simp) (h15 : keys.length ≤ 15 := by decide) :
    jE3 X (.Subscript (.Dict keys values p1) e pos) (dsub3 ks t te) :=
  ⟨pe_w (pe_dsub hd he.h hs nd ne h15) fun σ H Q ⟨τ, G, q, rl, h, af⟩ =>
    ⟨τ, G, _, rl, h, fun xs G1 h1 vs H1 rs hr1 k1 => lE_seq (rl.next hr1 k1) h1 fun y G2 h2 v H2 ry hr2 k2 rl2 => by
      cases y <;> try exact h2.elim
      case str k =>
        cases ry
        simp only at h2
        split at h2
        · rename_i x hx
          obtain ⟨v, hv, rv⟩ := vGet_of (rs.keep hr1 k2) hx
          exact ⟨k, v, rfl, hv, af _ _ h2 _ _ rv hr2 (k1.trans k2)⟩
        · exact h2.elim⟩⟩
end
theorem tup2_K {K : PySem.W.Frag} {p : Addr} {od : Option Addr} {n : Nat} {sl : Array (Option Value)} {i j : Int} {ti tj : Tok} (h : K.lookup p = some ⟨.type "tuple", od, .seq #[.int i ti, .int j tj] n, sl⟩) : ∀ H, Rp K H (.tup [.int i, .int j]) (.ref p) := fun H =>
  .tup (vs := [.int i, .int j]) (.inr ⟨_, _, _, h, rfl, rfl, by show 2 ≤ sizeLine; decide, .cons ⟨_, rfl⟩ (.cons ⟨_, rfl⟩ .nil)⟩) (.cons (.int _) (.cons (.int _) .nil))
def stridesT : List (Str × T) := [("row", .tup [.int 0, .int 1]), ("column", .tup [.int 1, .int 0]), ("slant", .tup [.int 1, .int 1]), ("back", .tup [.int 1, .int (-1)])]
end L3
set_option Elab.async false
set_option linter.all false
set_option maxRecDepth 100000
set_option maxHeartbeats 4000000
namespace L3
open PySem PySem.Spec PyProof.Rows L2
open PySem.SeqAt
def pyIn (dx : PyData) : List PyData → Option Bool
  | [] => some false
  | d :: ds => (match pyEq d dx, pyIn dx ds with | some b, some c => some (b || c) | _, _ => none)
theorem pyIn_all {dx : PyData} : ∀ {ds : List PyData} {b : Bool}, pyIn dx ds = some b → ∃ bs : List Bool, bs.length = ds.length ∧ (∀ (j : Nat) d, ds[j]? = some d → ∃ c, bs[j]? = some c ∧ pyEq d dx = some c) ∧ b = bs.any id
  | [], b, h => by simp [pyIn] at h; subst h; exact ⟨[], rfl, fun j d hd => by simp at hd, rfl⟩
  | d :: ds, b, h => by
    unfold pyIn at h
    split at h
    · rename_i b1 c1 e1 e2
      cases h
      obtain ⟨bs, hl, ha, hb⟩ := pyIn_all e2
      refine ⟨b1 :: bs, by simp [hl], fun j d' hd => ?_, by simp [hb]⟩
      cases j with
      | zero => simp at hd; subst hd; exact ⟨b1, rfl, e1⟩
      | succ j => simpa using ha j d' (by simpa using hd)
    · cases h
section
variable {X : Cx} {pins : List (Addr × Obj)} {σ : L2.St} {H : Hp} {s : Shared}
theorem in_deep (I : Inv X pins σ H s) {x : V} {dx : PyData} {v : Value} {xs : List V} {ds : List PyData} {its : List Value} {b : Bool} (hu : X.A.units + 64 < cLine) (hx : DV X.K H x dx) (rx : RelV x v) (hs : DVs X.K H xs ds) (rs : Vals xs its) (hb : pyIn dx ds = some b) (hd : ∀ d ∈ ds, dpt d ≤ 40) :
    ∃ e : Value → Bool, (∀ y ∈ its, EqAt X.A.in1 s y v (e y)) ∧ its.any e = b := by
  obtain ⟨bs, hl, ha, rfl⟩ := pyIn_all hb
  have un : X.A.in1.units + 40 < cLine := by
    have : X.A.in1.units ≤ X.A.units + 8 := by first | (show X.A.units + 1 ≤ _; omega) | (show X.A.units ≤ _; omega) | (simp [Around.in1]; omega)
    omega
  have at_ : ∀ (j : Nat) y, its[j]? = some y → ∃ c, bs[j]? = some c ∧ EqAt X.A.in1 s y v c := fun j y hj => by
    obtain ⟨hj1, _⟩ := List.getElem?_eq_some_iff.mp hj
    have hxl : j < xs.length := by rw [rs.length]; exact hj1
    obtain ⟨u, hu', ru⟩ := rs.get (List.getElem?_eq_getElem hxl)
    rw [hj] at hu'; cases hu'
    obtain ⟨d, hd1, hd2⟩ := hs.get (List.getElem?_eq_getElem hxl)
    obtain ⟨c, hc1, hc2⟩ := ha j d hd1
    exact ⟨c, hc1, (eq_deep I 40 hd2 hx hc2 (hd d (List.mem_of_getElem? hd1)) un ru rx).2⟩
  classical
  refine ⟨fun y => decide (∃ j : Nat, its[j]? = some y ∧ bs[j]? = some true), fun y hy => ?_, ?_⟩
  · by_cases he : ∃ j : Nat, its[j]? = some y ∧ bs[j]? = some true
    · obtain ⟨j, h1, h2⟩ := id he
      obtain ⟨c, hc, eq⟩ := at_ j y h1
      rw [h2] at hc; cases hc
      simpa [he] using eq
    · obtain ⟨j, hj, e⟩ := List.mem_iff_getElem.mp hy
      have hj' : its[j]? = some y := by rw [List.getElem?_eq_getElem hj, e]
      obtain ⟨c, hc, eq⟩ := at_ j y hj'
      cases c with
      | true => exact absurd ⟨j, hj', hc⟩ he
      | false => simpa [he] using eq
  · rw [Bool.eq_iff_iff, List.any_eq_true, List.any_eq_true]
    constructor
    · rintro ⟨y, _, hy⟩
      obtain ⟨j, _, h2⟩ := of_decide_eq_true hy
      exact ⟨true, List.mem_of_getElem? h2, rfl⟩
    · rintro ⟨c, hc, e⟩
      have : c = true := e
      subst this
      obtain ⟨j, hj, ej⟩ := List.mem_iff_getElem.mp hc
      have hl2 : its.length = bs.length := by rw [← rs.length, hs.length, hl]
      have hj2 : j < its.length := by omega
      exact ⟨its[j], List.getElem_mem hj2, decide_eq_true ⟨j, List.getElem?_eq_getElem hj2, by rw [List.getElem?_eq_getElem hj, ej]⟩⟩
def rInD (K : PySem.W.Frag) (neg : Bool) : R2 := fun x y H Q => ∃ p xs dx ds b, y = .ref p ∧ (SqL K H p xs ∨ SqT K H p xs) ∧ DV K H x dx ∧ DVs K H xs ds ∧ pyIn dx ds = some b ∧ (∀ d ∈ ds, dpt d ≤ 40) ∧ Q (.bl (if neg then !b else b)) H
theorem op_notInD (hu : X.A.units + 64 < cLine) : OpR X (compareOp .NotIn) (rInD X.K true) := by
  intro pins s σ H x y v u Q I rx ry h
  obtain ⟨p, xs, dx, ds, b, rfl, hq, hx, hs, hb, hd, q⟩ := h
  cases ry
  rcases hq with hq | hq
  · obtain ⟨its, r, pl, hz⟩ := I.list hq
    obtain ⟨e, he, ha⟩ := in_deep I hu hx rx hs r hb hd
    refine SeqAt.notIn_listAt e pl.isList (fun w hw => he w (by simpa using hw)) ⟨.bl _, H, I, rfl, ?_⟩
    rw [show its.toArray.any e = its.any e by simp, ha]
    exact q
  · obtain ⟨its, r, pl, hz⟩ := I.tuple hq
    obtain ⟨e, he, ha⟩ := in_deep I hu hx rx hs r hb hd
    refine SeqAt.notIn_tupleAt e pl (fun w hw => he w (by simpa using hw)) ⟨.bl _, H, I, rfl, ?_⟩
    rw [show its.toArray.any e = its.any e by simp, ha]
    exact q
end
def inA3 (neg : Bool) : R3 := fun x y G q => ∃ ys dx ds b, seqOf G y = some ys ∧ Dp G x dx ∧ Dps G ys ds ∧ pyIn dx ds = some b ∧ (∀ d ∈ ds, dpt d ≤ 40) ∧ q (.bl (if neg then !b else b)) G
theorem ref_inA {K : PySem.W.Frag} {neg : Bool} : Ref2 K (inA3 neg) (rInD K neg) := fun x y v u G H q Q hr rx ry h af => by
  obtain ⟨ys, dx, ds, b, h1, h2, h3, h4, h5, h6⟩ := h
  cases y with
  | tup zs =>
    simp [seqOf] at h1
    subst h1
    cases ry with
    | tup hs rs => exact ⟨_, _, dx, ds, b, rfl, .inr hs, h2.dv hr rx, h3.dv hr rs, h4, h5, af _ G h6 _ H (.bl _) hr Kp.refl⟩
  | ref p =>
    simp [seqOf] at h1
    cases ry
    obtain ⟨us, hs, rs⟩ := getL_sq hr h1
    exact ⟨_, _, dx, ds, b, rfl, .inl hs, h2.dv hr rx, h3.dv hr rs, h4, h5, af _ G h6 _ H (.bl _) hr Kp.refl⟩
  | _ => simp [seqOf] at h1
end L3
set_option Elab.async false
set_option linter.all false
set_option maxRecDepth 100000
set_option maxHeartbeats 4000000
namespace HT
open PySem PySem.Spec PyProof.Rows L2
section
open PySem.SeqAt
open PySem.AutoSeq1 (wpAny_loadPart')
open PySem.MeetsSeq PySem.MeetsSeq2 PySem.MeetsSeq3
end
section
variable {prog : Program} {w : World} {A : Around} {E : Value → Shared → Prop} {s : Shared}
end
end HT
namespace L3
open PySem PySem.Spec PyProof.Rows L2
end L3
set_option Elab.async false
set_option linter.all false
set_option maxRecDepth 100000
set_option maxHeartbeats 4000000
namespace L3
open PySem PySem.Spec PyProof.Rows L2
section
variable {X : Cx}
def rCount (K : PySem.W.Frag) : V → List V → Hp → VK → Prop := fun x vs H Q => ∃ l ns k, x = .ref l ∧ vs = [.int k] ∧ SqL K H l (ns.map V.int) ∧ Q (.int (List.count k ns : Nat)) H
theorem mt_count : MtR X "list.count" (rCount X.K) := by
  intro pins s σ H x vs v us Q I rx rv h
  obtain ⟨l, ns, k, rfl, rfl, hq, q⟩ := h
  cases rx
  obtain ⟨u, rfl, ru⟩ := rv.one
  obtain ⟨t, rfl⟩ := ru
  obtain ⟨its, rv', pl, hz⟩ := I.list hq
  exact count_list_ints pl.isList (intsAre_of rv') ⟨.int _, H, I.tok _, ⟨_, rfl⟩, q⟩
def cou3 : T → List T → Gp → Q3 → Prop := fun x xs G q => match x, xs with
  | .ref l, [.int k] => (match getL G l with | some ys => (match intsT ys with | some ns => q (.int (List.count k ns : Nat)) G | none => False) | none => False)
  | _, _ => False
theorem ref_cnt {K : PySem.W.Frag} : RefM K cou3 (rCount K) := fun x xs v vs G H q Q hr rx rs h af => by
  unfold cou3 at h
  split at h
  · rename_i l k
    split at h
    · rename_i ys e0
      split at h
      · rename_i ns e1
        cases rx
        obtain ⟨u, rfl, r⟩ := rps1 rs
        cases r
        obtain ⟨us, hs, r2⟩ := getL_sq hr e0
        have := intsT_eq e1
        subst this
        have := rps_ints r2
        subst this
        exact ⟨l, ns, k, rfl, rfl, hs, af _ _ h _ _ (.int _) hr Kp.refl⟩
      · exact h.elim
    · exact h.elim
  · exact h.elim
theorem je_count {t : TA3} {e : Expr} {o : Expr} {to : TE3} {apos cpos : Pos} (ho : jE3 X o to) (ha : jA3 X [e] t)
    (hbase : attributeBase o "count" X.env (eval o X.env) = eval o X.env := by rfl)
    (hfew : ((backTo cpos (starEach [e] X.env)).all (fun x => !x.1) && (backToKw cpos (keywordEach [] X.env)).all (fun x => x.1.isSome)
      && decide (([e] : List Expr).length + ([] : List Keyword).length + (if ([] : List Keyword).isEmpty then 0 else 1) < 30)) = true := by rfl)
    (hline : (apos.endLine == cpos.line) = true := by rfl) (hs : starEach [e] X.env = (false, eval e X.env) :: starEach [] X.env := by rfl) (hplain : (backTo cpos (starEach [] X.env)).any (·.1) = false := by rfl) :
    jE3 X (.Call (.Attribute o "count" apos) [e] [] cpos) (bm3 cou3 to t) := ⟨e_bm PySem.F.slot_list_count PySem.F.type_list_count mt_count ref_cnt ho.h ha.h hbase hfew hline hs hplain⟩
end
end L3
set_option Elab.async false
set_option linter.all false
set_option maxRecDepth 100000
set_option maxHeartbeats 4000000
namespace L3
open PySem PySem.Spec PyProof.Rows L2
def sp_none : Sp3 := fun _ _ _ => False
theorem fn3_none {P : Program} {w : World} {K : PySem.W.Frag} {mg : Str → Option Value} {base : Heap} {x qual : Str} {st : Stmt} {f : Addr} {fd : FuncData} {ps : List Str} (F : Fun K x qual st f fd) (bd : Binds K fd ps []) (hm : mg x = some (.ref f)) : Fn3 P w K mg base 0 x sp_none :=
  ⟨f, fd, ps, ⟨fun vs H Q E ⟨_, _, _, _, _, h, _⟩ => h.elim, fun A outer s H args us vs Q E _ _ _ _ ⟨_, _, _, _, _, h, _⟩ => h.elim⟩, bd, F.kp, hm⟩
theorem ixT (xs : List T) (i : Int) (G : Gp) (q : Q3) : ix3 (.tup xs) (.int i) G q = (match L2.atI xs i with | some z => q z G | none => False) := rfl
theorem ixR (p : Addr) (i : Int) (G : Gp) (q : Q3) : ix3 (.ref p) (.int i) G q = (match getL G p with | some xs => (match L2.atI xs i with | some z => q z G | none => False) | none => False) := rfl
theorem atI_nat' {α : Type} {xs : List α} {i : Int} (h0 : 0 ≤ i) (h1 : i < (xs.length : Int)) : L2.atI xs i = xs[i.toNat]? := by
  unfold L2.atI ixN
  have e1 : i.toNat < xs.length := by omega
  simp [h0, e1, h1]
theorem cm {i j : Int} (h1 : -1000000 < j) (h2 : j < 1000000) : CMul i j := .inr ⟨by omega, by omega⟩
theorem cm' {i j : Int} (h1 : -1000000 < i) (h2 : i < 1000000) : CMul i j := .inl ⟨by omega, by omega⟩
theorem lcGo_inv {stay : Gp → Prop} {g : TG3} {tif : TT3} {te : TE3} {q : Q3} (items : List T) (Pv : Nat → List T → St3 → Gp → Prop) {τ : St3} {G : Gp} (h0 : Pv 0 [] τ G) (hst : ∀ i ys τ G, i ≤ items.length → Pv i ys τ G → stay G)
    (hs : ∀ i x ys τ G (R : List T → St3 → Gp → Prop), items[i]? = some x → Pv i ys τ G → (∀ ys' τ' G', Pv (i + 1) ys' τ' G' → R ys' τ' G') →
      g x τ G fun τ2 G2 => tif τ2 G2 fun k G3 => if k = true then te τ2 G3 fun y G4 => ys.length < sizeLine ∧ R (ys ++ [y]) τ2 G4 else R ys τ2 G3)
    (hd : ∀ ys τ G, Pv items.length ys τ G → ∀ p, G p = none → q (.ref p) (gu G p (.lst ys))) : lcGo stay g tif te q items [] τ G := by
  have key : ∀ (r : List T) (i : Nat) ys τ G, items.drop i = r → i ≤ items.length → Pv i ys τ G → lcGo stay g tif te q r ys τ G := by
    intro r
    induction r with
    | nil =>
      intro i ys τ G e hi p
      have : i = items.length := by have := congrArg List.length e; simp at this; omega
      subst this
      exact ⟨hst _ ys τ G hi p, hd ys τ G p⟩
    | cons x r ih =>
      intro i ys τ G e hi p
      have hl : i < items.length := by
        apply Classical.byContradiction
        intro z
        rw [List.drop_eq_nil_of_le (by omega)] at e
        cases e
      have e' := List.drop_eq_getElem_cons hl
      rw [e] at e'
      injection e' with e1 e2
      exact ⟨hst i ys τ G hi p, hs i x ys τ G _ (by rw [List.getElem?_eq_getElem hl, e1]) p fun ys2 τ2 G2 p2 => ih (i + 1) ys2 τ2 G2 e2.symm hl p2⟩
  exact key items 0 [] τ G (by simp) (Nat.zero_le _) h0
theorem lcGo_map {stay : Gp → Prop} {g : TG3} {te : TE3} {q : Q3} {G : Gp} (f : T → T) (Ok : St3 → Prop) (hst : stay G) : ∀ (items ys : List T) (τ : St3), Ok τ →
    (∀ x ∈ items, ∀ τ, Ok τ → ∀ R : St3 → T → Gp → Prop, (∀ τ', Ok τ' → R τ' (f x) G) → g x τ G fun τ2 G2 => te τ2 G2 fun y G4 => R τ2 y G4) →
    ys.length + items.length < sizeLine → (∀ p, G p = none → q (.ref p) (gu G p (.lst (ys ++ items.map f)))) → lcGo stay g tt3 te q items ys τ G
  | [], ys, τ, _, _, _, h => ⟨hst, by simpa using h⟩
  | x :: r, ys, τ, ok, step, len, h => by
    refine ⟨hst, ?_⟩
    have e : (fun τ2 G2 => tt3 τ2 G2 fun k G3 => if k = true then te τ2 G3 fun y G4 => ys.length < sizeLine ∧ lcGo stay g tt3 te q r (ys ++ [y]) τ2 G4 else lcGo stay g tt3 te q r ys τ2 G3) = (fun τ2 G2 => te τ2 G2 fun y G4 => ys.length < sizeLine ∧ lcGo stay g tt3 te q r (ys ++ [y]) τ2 G4) := by
      funext τ2 G2; simp [tt3]
    rw [e]
    rw [List.length_cons] at len
    refine step x List.mem_cons_self τ ok _ fun τ' ok' => ⟨by omega, lcGo_map f Ok hst r (ys ++ [f x]) τ' ok' (fun z hz => step z (List.mem_cons_of_mem _ hz)) (by rw [List.length_append, List.length_singleton]; omega) fun p hp => ?_⟩
    simpa using h p hp
theorem rng_get {lo : Int} {n i : Nat} {x : T} (h : (rngT lo n)[i]? = some x) : i < n ∧ x = T.int (lo + (i : Int)) := by
  unfold rngT at h
  rw [List.getElem?_map] at h
  cases e : (List.range n)[i]? with
  | none => rw [e] at h; cases h
  | some k =>
    rw [e] at h
    obtain ⟨hi, hk⟩ := List.getElem?_eq_some_iff.mp e
    simp at hi hk
    subst hk
    exact ⟨hi, by simpa using h.symm⟩
theorem rng_len (lo : Int) (n : Nat) : (rngT lo n).length = n := by simp [rngT]
end L3
namespace Bk
open PySem L2 L3
def t_law_mix : TS3 := (seq3 (asg3 (o3 (iC (fun _ j => 0 < j) (· % ·)) (o3 (iC CMul (· * ·)) (o3 cat3 (o3 cat3 (o3 (iC (fun _ j => 0 < j) (· % ·)) (v3 0) (c3 (.int 2147483629))) (o3 (iC CMul (· * ·)) (o3 (iC CMul (· * ·)) (v3 1) (v3 1)) (c3 (.int 7919)))) (c3 (.int 11))) (c3 (.int 48271))) (c3 (.int 2147483647))) (gn3 2)) (ret3 (o3 (iC (fun _ j => 0 < j) (· % ·)) (o3 (iC CMul (· * ·)) (v3 2) (v3 2)) (c3 (.int 1999999973)))))
def t_law_left : TS3 := (seq3 (asg3 (if3 (tb3 (o3 (iB fun i j => decide (i < j)) (v3 1) (cb3 len3 (cons3 (v3 0) nil3)))) (o3 ix3 (v3 0) (v3 1)) (c3 (.int 0))) (gn3 2)) (seq3 (asg3 (if3 (tb3 (o3 (iB fun i j => decide (j ≤ i)) (cb3 abs3 (cons3 (v3 2) nil3)) (o3 (iC CPow (fun i j => i ^ j.toNat)) (c3 (.int 10)) (c3 (.int 18))))) (cb3 abs3 (cons3 (v3 2) nil3)) (c3 (.int 0))) (gn3 3)) (ret3 (lst3 (cons3 (v3 3) (cons3 (o3 cat3 (v3 2) (o3 (iC CMul (· * ·)) (c3 (.int 1000003)) (v3 1))) (cons3 (c3 (.int 0)) nil3)))))))
def t_law_pick (S_law_mix : Sp3) : TS3 := (seq3 (asg3 (o3 cat3 (o3 ix3 (v3 0) (c3 (.int 2))) (c3 (.int 1))) (gsub3 (v3 0) (c3 (.int 2)))) (seq3 (ifS3 (tb3 (o3 (iB fun i j => decide (j < i)) (o3 ix3 (v3 0) (c3 (.int 0))) (c3 (.int 0)))) (seq3 (asg3 (o3 (iC (fun _ j => 0 < j) (· % ·)) (o3 ix3 (v3 0) (c3 (.int 0))) (v3 1)) (gn3 2)) (seq3 (asg3 (o3 (iC CDiv (· / ·)) (o3 ix3 (v3 0) (c3 (.int 0))) (v3 1)) (gsub3 (v3 0) (c3 (.int 0)))) (ret3 (v3 2)))) next3) (ret3 (o3 (iC (fun _ j => 0 < j) (· % ·)) (o3 (iC CDiv (· / ·)) (cb3 S_law_mix (cons3 (cb3 S_law_mix (cons3 (o3 ix3 (v3 0) (c3 (.int 1))) (cons3 (o3 ix3 (v3 0) (c3 (.int 2))) nil3))) (cons3 (o3 cat3 (o3 ix3 (v3 0) (c3 (.int 2))) (c3 (.int 64))) nil3))) (c3 (.int 64))) (v3 1)))))
def t_law_same (S_law_same : Sp3) : TS3 := (seq3 (ifS3 (tb3 (isi3 (fun t => subT t "list" || subT t "tuple") (v3 1))) (seq3 (ifS3 (or3 (tb3 (o3 (eqA3 true) (isi3 (fun t => subT t "list") (v3 0)) (isi3 (fun t => subT t "list") (v3 1)))) (tb3 (o3 (eqA3 true) (isi3 (fun t => subT t "tuple") (v3 0)) (isi3 (fun t => subT t "tuple") (v3 1))))) (ret3 (c3 (.bl false))) next3) (ret3 (andV3 (o3 (eqA3 false) (cb3 len3 (cons3 (v3 0) nil3)) (cb3 len3 (cons3 (v3 1) nil3))) (cb3 all3 (cons3 (lc3 (izip3 (cons3 (v3 0) (cons3 (v3 1) nil3))) (gtup3 2 (gcons3 (gn3 0) (gcons3 (gn3 1) gnil3))) tt3 (cb3 S_law_same (cons3 (v3 0) (cons3 (v3 1) nil3))) [none, none]) nil3))))) next3) (seq3 (ifS3 (or3 (tb3 (o3 (isN3 false) (v3 1) (c3 .non))) (tb3 (isi3 (fun t => subT t "str" || subT t "bool") (v3 1)))) (ret3 (andV3 (o3 (eqA3 false) (v3 0) (v3 1)) (andV3 (o3 (eqA3 false) (isi3 (fun t => subT t "bool") (v3 0)) (isi3 (fun t => subT t "bool") (v3 1))) (o3 (eqA3 false) (o3 (isN3 false) (v3 0) (c3 .non)) (o3 (isN3 false) (v3 1) (c3 .non)))))) next3) (ret3 (andV3 (isi3 (fun t => subT t "int") (v3 0)) (andV3 (notV3 (isi3 (fun t => subT t "bool") (v3 0))) (o3 (eqA3 false) (v3 0) (v3 1)))))))
end Bk
set_option Elab.async false
set_option linter.all false
set_option maxRecDepth 100000
set_option maxHeartbeats 4000000
namespace Bk
open PySem L2 L3
inductive Dl where
  | skew (r c b x y : Int)
  | rests (r c b p : Int)
  | bits (h l : Nat) (ms : List Int)
  | table (b : Int) (cells : List (List Int))
  | joined (d e : Dl)
def rowT (r : List Int) : T := .tup (r.map T.int)
def Dl.t : Dl → T
  | .skew r c b x y => .tup [.str "skew", .int r, .int c, .int b, .int x, .int y]
  | .rests r c b p => .tup [.str "rests", .int r, .int c, .int b, .int p]
  | .bits h l ms => .tup [.str "bits", .int h, .int l, .tup (ms.map T.int)]
  | .table b cells => .tup [.str "table", .int b, .tup (cells.map rowT)]
  | .joined d e => .tup [.str "joined", d.t, e.t]
def Dl.R : Dl → Int
  | .skew r _ _ _ _ => r
  | .rests r _ _ _ => r
  | .bits h _ _ => 2 ^ h
  | .table _ cells => cells.length
  | .joined d e => d.R * e.R
def Dl.C : Dl → Int
  | .skew _ c _ _ _ => c
  | .rests _ c _ _ => c
  | .bits _ l _ => 2 ^ l
  | .table _ cells => ((cells[0]?).getD []).length
  | .joined d e => d.C * e.C
def Dl.B : Dl → Int
  | .skew _ _ b _ _ => b
  | .rests _ _ b _ => b
  | .bits _ _ ms => 2 ^ ms.length
  | .table b _ => b
  | .joined d e => d.B * e.B
def Dl.Ok : Dl → Prop
  | .skew r c b x y => 1 ≤ r ∧ r ≤ 60 ∧ 1 ≤ c ∧ c ≤ 60 ∧ 1 ≤ b ∧ b ≤ 1000 ∧ 0 ≤ x ∧ x ≤ 1000 ∧ 0 ≤ y ∧ y ≤ 1000
  | .rests r c b p => 1 ≤ r ∧ r ≤ 60 ∧ 1 ≤ c ∧ c ≤ 60 ∧ 1 ≤ b ∧ b ≤ 1000 ∧ 1 ≤ p ∧ p ≤ 100000 ∧ Int.gcd b p = 1 ∧ r * c ≤ b * p
  | .bits h l ms => h ≤ 4 ∧ l ≤ 4 ∧ ms.length ≤ 5 ∧ ∀ m ∈ ms, 0 ≤ m ∧ m < 2 ^ (h + l)
  | .table b cells => 1 ≤ b ∧ b ≤ 1000 ∧ 1 ≤ cells.length ∧ cells.length ≤ 60 ∧ ∃ c, 1 ≤ c ∧ c ≤ 60 ∧ ∀ row ∈ cells, row.length = c ∧ ∀ x ∈ row, 0 ≤ x ∧ x < b
  | .joined d e => d.Ok ∧ e.Ok ∧ d.R * e.R ≤ 4096 ∧ d.C * e.C ≤ 4096 ∧ d.B * e.B ≤ 4096
def Dl.dep : Dl → Nat
  | .joined d e => max d.dep e.dep + 1
  | _ => 0
theorem p2 (n : Nat) : ((2 : Int) ^ n) = ((2 ^ n : Nat) : Int) := by simp
theorem p2_pos (n : Nat) : (1 : Int) ≤ 2 ^ n := by
  rw [p2]; have := Nat.one_le_two_pow (n := n); omega
theorem p2_le {n k : Nat} (h : n ≤ k) : (2 : Int) ^ n ≤ 2 ^ k := by
  rw [p2, p2]; have := Nat.pow_le_pow_right (n := 2) (by omega) h; omega
structure Lims (d : Dl) : Prop where
  r1 : 1 ≤ d.R
  r2 : d.R ≤ 4096
  c1 : 1 ≤ d.C
  c2 : d.C ≤ 4096
  b1 : 1 ≤ d.B
  b2 : d.B ≤ 4096
theorem one_le_mul {a b : Int} (h1 : 1 ≤ a) (h2 : 1 ≤ b) : 1 ≤ a * b := by
  have := Int.mul_le_mul (a := 1) (b := 1) (c := a) (d := b) h1 h2 (by omega) (by omega)
  omega
theorem Dl.lims : ∀ {d : Dl}, d.Ok → Lims d
  | .skew r c b x y, ⟨h1, h2, h3, h4, h5, h6, _⟩ => ⟨h1, by simp [Dl.R]; omega, h3, by simp [Dl.C]; omega, h5, by simp [Dl.B]; omega⟩
  | .rests r c b x, ⟨h1, h2, h3, h4, h5, h6, _⟩ => ⟨h1, by simp [Dl.R]; omega, h3, by simp [Dl.C]; omega, h5, by simp [Dl.B]; omega⟩
  | .bits h l ms, ⟨h1, h2, h3, _⟩ => by
    have e1 := p2_le h1; have e2 := p2_le h2; have e3 := p2_le h3
    refine ⟨p2_pos _, ?_, p2_pos _, ?_, p2_pos _, ?_⟩ <;> simp [Dl.R, Dl.C, Dl.B] <;> omega
  | .table b cells, ⟨h1, h2, h3, h4, c, h5, h6, h7⟩ => by
    have e0 : cells[0]? = some cells[0] := List.getElem?_eq_getElem (by omega)
    have e1 := (h7 cells[0] (List.getElem_mem _)).1
    have e2 : (Dl.table b cells).C = c := by simp [Dl.C, e0, e1]
    exact ⟨by simp [Dl.R]; omega, by simp [Dl.R]; omega, by rw [e2]; omega, by rw [e2]; omega, h1, by simp [Dl.B]; omega⟩
  | .joined d e, ⟨h1, h2, h3, h4, h5⟩ => by
    have a := Dl.lims h1; have b := Dl.lims h2
    exact ⟨one_le_mul a.r1 b.r1, h3, one_le_mul a.c1 b.c1, h4, one_le_mul a.b1 b.b1, h5⟩
structure Inn (d : Dl) (i j : Int) : Prop where
  i1 : 0 ≤ i
  i2 : i < d.R
  j1 : 0 ≤ j
  j2 : j < d.C
abbrev ends (q : Q3) : Ends3 := { nx := fun _ G' => q .non G', rt := q }
theorem seq_i {A B : TS3} {d : Ends3} {τ : St3} {G : Gp} (h : ∀ nx, nx = B d → A { d with nx := nx } τ G) : seq3 A B d τ G := h _ rfl
theorem if_str {s l : Str} {i : Nat} {R S : TS3} {d : Ends3} {τ : St3} {G : Gp} (hτ : τ[i]? = some (some (T.str s))) : seq3 (ifS3 (tb3 (o3 (eqA3 false) (v3 i) (c3 (.str l)))) R next3) S d τ G = (if s = l then R { d with nx := S d } τ G else S d τ G) := by
  simp only [seq3, ifS3, tb3, o3, v3, hτ, c3, eqA3, scalT, next3]
  by_cases e : s = l <;> simp [e]
end Bk
set_option Elab.async false
set_option linter.all false
set_option maxRecDepth 100000
set_option maxHeartbeats 4000000
namespace Bk
open PySem L2 L3
theorem div_in {i a b : Int} (h0 : 0 ≤ i) (h1 : i < a * b) (hb : 1 ≤ b) : 0 ≤ i / b ∧ i / b < a ∧ 0 ≤ i % b ∧ i % b < b :=
  ⟨Int.ediv_nonneg h0 (by omega), Int.ediv_lt_of_lt_mul (by omega) h1, Int.emod_nonneg _ (by omega), Int.emod_lt_of_pos _ (by omega)⟩
theorem Inn.up {d e : Dl} {i j : Int} (I : Inn (.joined d e) i j) (Le : Lims e) : Inn d (i / e.R) (j / e.C) ∧ Inn e (i % e.R) (j % e.C) := by
  obtain ⟨i1, i2, j1, j2⟩ := I
  obtain ⟨a1, a2, a3, a4⟩ := div_in i1 i2 Le.r1
  obtain ⟨b1, b2, b3, b4⟩ := div_in j1 j2 Le.c1
  exact ⟨⟨a1, a2, b1, b2⟩, ⟨a3, a4, b3, b4⟩⟩
end Bk
set_option Elab.async false
set_option linter.all false
set_option maxRecDepth 100000
set_option maxHeartbeats 4000000
namespace Bk
open PySem L2 L3
def Lf (G : Gp) (a : Addr) (n : Int) : Prop := ∃ o c m, G a = some (.lst [.int o, .int c, .int m]) ∧ 0 ≤ o ∧ 0 ≤ m ∧ m ≤ n
def Ext (a : Addr) (G G' : Gp) : Prop := ∀ b o, b ≠ a → G b = some o → G' b = some o
theorem Lf.ne {G : Gp} {a p : Addr} {n : Int} (h : Lf G a n) (hp : G p = none) : p ≠ a := by
  rintro rfl
  obtain ⟨o, c, m, e, _⟩ := h
  rw [hp] at e; cases e
theorem Lf.new {G : Gp} {a p : Addr} {n : Int} {ob : O} (h : Lf G a n) (hp : p ≠ a) : Lf (gu G p ob) a n := by
  obtain ⟨o, c, m, e, r⟩ := h
  exact ⟨o, c, m, by rw [gu_ne (Ne.symm hp)]; exact e, r⟩
theorem Lf.mono {G : Gp} {a : Addr} {n k : Int} (h : Lf G a n) (hk : n ≤ k) : Lf G a k := by
  obtain ⟨o, c, m, e, h1, h2, h3⟩ := h
  exact ⟨o, c, m, e, h1, h2, by omega⟩
theorem Lf.ex {G G' : Gp} {a : Addr} {n : Int} (h : Lf G a n) (e : Ex G G') : Lf G' a n := by
  obtain ⟨o, c, m, e1, h1⟩ := h
  exact ⟨o, c, m, e _ _ e1, h1⟩
theorem Ext.refl {a : Addr} {G : Gp} : Ext a G G := fun _ _ _ e => e
theorem Ext.trans {a : Addr} {G G1 G2 : Gp} (x : Ext a G G1) (y : Ext a G1 G2) : Ext a G G2 := fun b o hb e => y b o hb (x b o hb e)
theorem ext_new {a p : Addr} {G : Gp} {ob : O} (hp : G p = none) : Ext a G (gu G p ob) := fun b o _ e => by
  rw [gu_ne (by rintro rfl; rw [hp] at e; cases e)]; exact e
def sp_law_mix : Sp3 := fun ts G q => ∃ c k, ts = [.int c, .int k] ∧ 0 ≤ k ∧ k < 4294967296 ∧ ∀ m, 0 ≤ m → m < 1999999973 → q (.int m) G
def sp_law_left : Sp3 := fun ts G q => ∃ (a : Addr) (k : Int) (ns : List Int), ts = [.ref a, .int k] ∧ G a = some (.frz (ns.map T.int)) ∧ ns.length ≤ 63 ∧ 0 ≤ k ∧ k ≤ 63 ∧ ∀ p o c, G p = none → 0 ≤ o → q (.ref p) (gu G p (.lst [.int o, .int c, .int 0]))
def sp_law_pick : Sp3 := fun ts G q => ∃ a n many, ts = [.ref a, .int many] ∧ 1 ≤ many ∧ many < 1073741824 ∧ Lf G a n ∧ n < 1073741824 ∧ ∀ d G', 0 ≤ d → d < many → Lf G' a (n + 1) → Ext a G G' → q (.int d) G'
structure Dr (d : Dl) (r c b : Int) : Prop where
  ok : d.Ok
  r2 : d.R ≤ r
  c2 : d.C ≤ c
  b2 : d.B ≤ b
theorem pick_i {a : Addr} {n many : Int} {G : Gp} {q : Q3} (hL : Lf G a n) (h1 : 1 ≤ many) (h2 : many < 1073741824) (hn : n < 1073741824) (h : ∀ d G', 0 ≤ d → d < many → Lf G' a (n + 1) → Ext a G G' → q (.int d) G') : sp_law_pick [.ref a, .int many] G q := ⟨a, n, many, rfl, h1, h2, hL, hn, h⟩
theorem rd_law_mix : ∀ ts G q, sp_law_mix ts G q → ts.length = 2 ∧ t_law_mix (ends q) (start3 ["_law_cell", "_law_k", "_law_m"] ts) G := by
  rintro ts G q ⟨c, k, rfl, h1, h2, h⟩
  refine ⟨rfl, ?_⟩
  simp [t_law_mix, seq3, asg3, gn3, ret3, retN3, ifS3, drop3, nev3, next3, v3, c3, o3, u3, neg3, L3.ixT, L3.ixR, cat3, iI, iC, iB, eqA3, scalT, isN3, tb3, and3, or3, not3, andV3, orV3, notV3, if3, ch3, cb3, cons3, nil3, isi3, tyT, subT, tup3, lst3, tsl3, np3, sp3, gtup3, gcons3, gnil3, gsub3, set3, par3, start3, bm3, app3, ext3, len3, abs3, min3, max3, int3, tuple3, list3, all3, any3, aug3, L2.atI, ixN, cut3, HT.sIx, getL, in3, flatT, eqF, gu, sizeLine_eq, List.getElem?_cons_zero, List.getElem?_cons_succ]
  exact ⟨.inl ⟨by omega, by omega⟩, cm (by omega) (by omega), cm (by omega) (by omega), .inl ⟨by omega, by omega⟩, h _ (Int.emod_nonneg _ (by omega)) (Int.emod_lt_of_pos _ (by omega))⟩
theorem cp : CPow 10 18 := ⟨by decide, by decide, by decide⟩
theorem rd_law_left : ∀ ts G q, sp_law_left ts G q → ts.length = 2 ∧ t_law_left (ends q) (start3 ["_law_script", "_law_k", "_law_cell", "_law_own"] ts) G := by
  rintro ts G q ⟨a, k, ns, rfl, hG, hl, h1, h2, h⟩
  refine ⟨rfl, ?_⟩
  simp [t_law_left, seq3, asg3, gn3, ret3, retN3, ifS3, drop3, nev3, next3, v3, c3, o3, u3, neg3, L3.ixT, L3.ixR, cat3, iI, iC, iB, eqA3, scalT, isN3, tb3, and3, or3, not3, andV3, orV3, notV3, if3, ch3, cb3, cons3, nil3, isi3, tyT, subT, tup3, lst3, tsl3, np3, sp3, gtup3, gcons3, gnil3, gsub3, set3, par3, start3, bm3, app3, ext3, len3, abs3, min3, max3, int3, tuple3, list3, all3, any3, aug3, L2.atI, ixN, cut3, HT.sIx, getL, in3, flatT, eqF, gu, sizeLine_eq, List.getElem?_cons_zero, List.getElem?_cons_succ, hG]
  have ck : CMul 1000003 k := cm (by omega) (by omega)
  by_cases hk : k < ns.length
  · have hk' : k.toNat < ns.length := by omega
    simp [hk, h1, hk', cp, ck]
    split
    · split
      · exact fun p hp => h p (-ns[k.toNat]) _ hp (by omega)
      · exact fun p hp => h p 0 _ hp (by omega)
    · split
      · exact fun p hp => h p ns[k.toNat] _ hp (by omega)
      · exact fun p hp => h p 0 _ hp (by omega)
  · simp [hk, cp, ck]
    exact fun p hp => h p 0 _ hp (by omega)
theorem rd_law_pick : ∀ ts G q, sp_law_pick ts G q → ts.length = 2 ∧ t_law_pick sp_law_mix (ends q) (start3 ["_law_left_here", "_law_many", "_law_digit"] ts) G := by
  rintro ts G q ⟨a, n, many, rfl, m1, m2, ⟨o, c, m, hG, ho, hm, hn⟩, h3, h⟩
  refine ⟨rfl, ?_⟩
  simp [t_law_pick, seq3, asg3, gn3, ret3, retN3, ifS3, drop3, nev3, next3, v3, c3, o3, u3, neg3, L3.ixT, L3.ixR, cat3, iI, iC, iB, eqA3, scalT, isN3, tb3, and3, or3, not3, andV3, orV3, notV3, if3, ch3, cb3, cons3, nil3, isi3, tyT, subT, tup3, lst3, tsl3, np3, sp3, gtup3, gcons3, gnil3, gsub3, set3, par3, start3, bm3, app3, ext3, len3, abs3, min3, max3, int3, tuple3, list3, all3, any3, aug3, L2.atI, ixN, cut3, HT.sIx, getL, in3, flatT, eqF, gu, sizeLine_eq, List.getElem?_cons_zero, List.getElem?_cons_succ, hG]
  split
  · refine ⟨by omega, ⟨by omega, m2⟩, h _ _ (Int.emod_nonneg _ (by omega)) (Int.emod_lt_of_pos _ (by omega)) ⟨o / many, c, m + 1, gu_same, Int.ediv_nonneg ho (by omega), by omega, by omega⟩ fun b ob hb e => ?_⟩
    rw [gu_ne hb, gu_ne hb]; exact e
  · refine ⟨c, m + 1, rfl, by omega, by omega, fun u u1 u2 => ?_⟩
    simp [gu_same]
    refine ⟨u, m + 1 + 64, rfl, by omega, by omega, fun v v1 v2 => ?_⟩
    simp
    refine ⟨⟨by omega, by omega⟩, by omega, h _ _ (Int.emod_nonneg _ (by omega)) (Int.emod_lt_of_pos _ (by omega)) ⟨o, c, m + 1, gu_same, ho, by omega, by omega⟩ fun b ob hb e => ?_⟩
    rw [gu_ne hb]; exact e
theorem cop {b p : Int} (hb : 1 ≤ b) : ∃ k : Nat, (k : Int) < b ∧ Int.gcd b (p + k) = 1 := by
  refine ⟨((1 - p) % b).toNat, ?_, ?_⟩
  · have := Int.emod_nonneg (1 - p) (show b ≠ 0 by omega)
    have := Int.emod_lt_of_pos (1 - p) (show 0 < b by omega)
    omega
  · have h1 := Int.emod_nonneg (1 - p) (show b ≠ 0 by omega)
    have h2 := Int.emod_add_mul_ediv (1 - p) b
    have e : p + (((1 - p) % b).toNat : Int) = 1 + b * (-((1 - p) / b)) := by
      rw [Int.toNat_of_nonneg h1, Int.mul_neg]; omega
    rw [e]; simp
structure Plc (b p0 pl : Int) (i : Nat) : Prop where
  lo : p0 ≤ pl
  hi : pl ≤ p0 + i
  at_ : Int.gcd b pl = 1 ∨ (pl = p0 + i ∧ ∀ k : Nat, k < i → Int.gcd b (p0 + k) ≠ 1)
theorem Plc.done {b p0 pl : Int} {n : Nat} (h : Plc b p0 pl n) (hb : 1 ≤ b) (hn : b ≤ n) : Int.gcd b pl = 1 := by
  rcases h.at_ with h | ⟨_, h⟩
  · exact h
  · obtain ⟨k, h1, h2⟩ := cop (p := p0) hb
    exact absurd h2 (h k (by omega))
theorem Plc.next {b p0 pl : Int} {i : Nat} (h : Plc b p0 pl i) (hb : 1 ≤ b) (hp : 1 ≤ p0) (hg : (1 : Int) < (Int.gcd b pl : Nat)) : Plc b p0 (pl + 1) (i + 1) := by
  rcases h.at_ with z | ⟨z1, z2⟩
  · rw [z] at hg; simp at hg
  · refine ⟨by have := h.lo; omega, by omega, .inr ⟨by omega, fun k hk => ?_⟩⟩
    rcases Nat.lt_or_ge k i with q | q
    · exact z2 k q
    · have : k = i := by omega
      subst this
      rw [← z1]
      omega
theorem Plc.stay {b p0 pl : Int} {i : Nat} (h : Plc b p0 pl i) (hb : 1 ≤ b) (hp : 1 ≤ p0) (hg : ¬ (1 : Int) < (Int.gcd b pl : Nat)) : Plc b p0 pl (i + 1) := by
  have g0 : 0 < Int.gcd b pl := Int.gcd_pos_of_ne_zero_left _ (by omega)
  exact ⟨h.lo, by have := h.hi; omega, .inl (by omega)⟩
end Bk
set_option Elab.async false
set_option linter.all false
set_option maxRecDepth 100000
set_option maxHeartbeats 4000000
namespace Bk
open PySem L2 L3
def DepLe : Nat → PyData → Prop
  | _, .none => True
  | _, .bool _ => True
  | _, .int _ => True
  | _, .str _ => True
  | n + 1, .list ds => ds.length ≤ 1000000 ∧ ∀ d ∈ ds, DepLe n d
  | n + 1, .tuple ds => ds.length ≤ 1000000 ∧ ∀ d ∈ ds, DepLe n d
  | _, _ => False
def sp_law_same : Nat → Sp3
  | 0 => sp_none
  | n + 1 => fun ts G q => ∃ (x y : T) (d : PyData), ts = [x, y] ∧ Dp G x d ∧ Dp G y d ∧ DepLe n d ∧ ∀ G', Ex G G' → q (.bl true) G'
theorem seqOf_up {G G' : Gp} (e : Ex G G') {x : T} {us : List T} (h : seqOf G x = some us) : seqOf G' x = some us := by
  cases x <;> simp [seqOf] at h ⊢
  · exact h
  · exact e.getL h
theorem allB_rep (n : Nat) : allB (List.replicate n (.bl true)) = some true := by
  induction n with
  | zero => rfl
  | succ n ih => rw [List.replicate_succ]; simp [allB, ih]
theorem same_all {G : Gp} {n : Nat} {x y : T} {us vs : List T} {ds : List PyData} {q : Q3} (hx : seqOf G x = some us) (hy : seqOf G y = some vs) (du : Dps G us ds) (dv : Dps G vs ds) (hl : us.length ≤ 1000000) (hd : ∀ d ∈ ds, ∃ m, n = m + 1 ∧ DepLe m d) (h : ∀ G', Ex G G' → q (.bl true) G') :
    lcGo (fun G => seqOf G x = some us ∧ seqOf G y = some vs) (gtup3 2 (gcons3 (gn3 0) (gcons3 (gn3 1) gnil3))) tt3 (cb3 (sp_law_same n) (cons3 (v3 0) (cons3 (v3 1) nil3))) (fun x G1 => all3 [x] G1 q) (zipT us vs) [] [none, none] G := by
  have e1 := du.length
  have e2 := dv.length
  refine lcGo_inv _ (fun i ys τ G' => Ex G G' ∧ ys = List.replicate i (.bl true) ∧ ∃ x0 x1, τ = [x0, x1]) ⟨Ex.refl, rfl, none, none, rfl⟩ (fun i ys τ G' _ hp => ⟨seqOf_up hp.1 hx, seqOf_up hp.1 hy⟩) ?_ ?_
  · rintro i z ys τ G' R hz ⟨E, rfl, x0, x1, rfl⟩ hR
    obtain ⟨a, b, ha, hb, rfl⟩ := zipT_get hz
    obtain ⟨d, hd1, da⟩ := du.get ha
    obtain ⟨d', hd2, db⟩ := dv.get hb
    rw [hd1] at hd2; cases hd2
    obtain ⟨m, rfl, dl⟩ := hd d (List.mem_of_getElem? hd1)
    have hi := (List.getElem?_eq_some_iff.mp ha).1
    simp [tt3, seq3, asg3, gn3, ret3, retN3, ifS3, drop3, nev3, next3, v3, c3, o3, u3, neg3, L3.ixT, L3.ixR, cat3, iI, iC, iB, eqA3, scalT, isN3, tb3, and3, or3, not3, andV3, orV3, notV3, if3, ch3, cb3, cons3, nil3, isi3, tyT, subT, tup3, lst3, tsl3, np3, sp3, gtup3, gcons3, gnil3, gsub3, set3, par3, start3, bm3, app3, ext3, len3, abs3, min3, max3, int3, tuple3, list3, all3, any3, aug3, L2.atI, ixN, cut3, HT.sIx, getL, in3, flatT, eqF, gu, sizeLine_eq, List.getElem?_cons_zero, List.getElem?_cons_succ]
    refine ⟨a, b, d, rfl, da.up E, db.up E, dl, fun G2 E2 => ⟨by omega, hR _ _ _ ⟨E.trans E2, ?_, _, _, rfl⟩⟩⟩
    rw [List.replicate_succ']
  · rintro ys τ G' ⟨E, rfl, x0, x1, rfl⟩ p hp
    simp [all3, getL, gu_same, allB_rep]
    exact h _ (E.trans (ex_new hp))
theorem dep_list {n : Nat} {ds : List PyData} (h : DepLe n (.list ds)) : ds.length ≤ 1000000 ∧ ∀ d ∈ ds, ∃ m, n = m + 1 ∧ DepLe m d := by
  cases n with
  | zero => exact h.elim
  | succ n => exact ⟨h.1, fun d hd => ⟨n, rfl, h.2 d hd⟩⟩
theorem dep_tuple {n : Nat} {ds : List PyData} (h : DepLe n (.tuple ds)) : ds.length ≤ 1000000 ∧ ∀ d ∈ ds, ∃ m, n = m + 1 ∧ DepLe m d := by
  cases n with
  | zero => exact h.elim
  | succ n => exact ⟨h.1, fun d hd => ⟨n, rfl, h.2 d hd⟩⟩
theorem rd_law_same (n : Nat) : ∀ ts G q, sp_law_same (n + 1) ts G q → ts.length = 2 ∧ t_law_same (sp_law_same n) (ends q) (start3 ["_law_found", "_law_due"] ts) G := by
  rintro ts G q ⟨x, y, d, rfl, hx, hy, hd, h⟩
  refine ⟨rfl, ?_⟩
  have h0 := h G Ex.refl
  cases hx with
  | non => cases hy; simp [t_law_same, seq3, asg3, gn3, ret3, retN3, ifS3, drop3, nev3, next3, v3, c3, o3, u3, neg3, L3.ixT, L3.ixR, cat3, iI, iC, iB, eqA3, scalT, isN3, tb3, and3, or3, not3, andV3, orV3, notV3, if3, ch3, cb3, cons3, nil3, isi3, tyT, subT, tup3, lst3, tsl3, np3, sp3, gtup3, gcons3, gnil3, gsub3, set3, par3, start3, bm3, app3, ext3, len3, abs3, min3, max3, int3, tuple3, list3, all3, any3, aug3, L2.atI, ixN, cut3, HT.sIx, getL, in3, flatT, eqF, gu, sizeLine_eq, List.getElem?_cons_zero, List.getElem?_cons_succ, h0]
  | bl b => cases hy; simp [t_law_same, seq3, asg3, gn3, ret3, retN3, ifS3, drop3, nev3, next3, v3, c3, o3, u3, neg3, L3.ixT, L3.ixR, cat3, iI, iC, iB, eqA3, scalT, isN3, tb3, and3, or3, not3, andV3, orV3, notV3, if3, ch3, cb3, cons3, nil3, isi3, tyT, subT, tup3, lst3, tsl3, np3, sp3, gtup3, gcons3, gnil3, gsub3, set3, par3, start3, bm3, app3, ext3, len3, abs3, min3, max3, int3, tuple3, list3, all3, any3, aug3, L2.atI, ixN, cut3, HT.sIx, getL, in3, flatT, eqF, gu, sizeLine_eq, List.getElem?_cons_zero, List.getElem?_cons_succ, h0]
  | int i => cases hy; simp [t_law_same, seq3, asg3, gn3, ret3, retN3, ifS3, drop3, nev3, next3, v3, c3, o3, u3, neg3, L3.ixT, L3.ixR, cat3, iI, iC, iB, eqA3, scalT, isN3, tb3, and3, or3, not3, andV3, orV3, notV3, if3, ch3, cb3, cons3, nil3, isi3, tyT, subT, tup3, lst3, tsl3, np3, sp3, gtup3, gcons3, gnil3, gsub3, set3, par3, start3, bm3, app3, ext3, len3, abs3, min3, max3, int3, tuple3, list3, all3, any3, aug3, L2.atI, ixN, cut3, HT.sIx, getL, in3, flatT, eqF, gu, sizeLine_eq, List.getElem?_cons_zero, List.getElem?_cons_succ, h0]
  | str s => cases hy; simp [t_law_same, seq3, asg3, gn3, ret3, retN3, ifS3, drop3, nev3, next3, v3, c3, o3, u3, neg3, L3.ixT, L3.ixR, cat3, iI, iC, iB, eqA3, scalT, isN3, tb3, and3, or3, not3, andV3, orV3, notV3, if3, ch3, cb3, cons3, nil3, isi3, tyT, subT, tup3, lst3, tsl3, np3, sp3, gtup3, gcons3, gnil3, gsub3, set3, par3, start3, bm3, app3, ext3, len3, abs3, min3, max3, int3, tuple3, list3, all3, any3, aug3, L2.atI, ixN, cut3, HT.sIx, getL, in3, flatT, eqF, gu, sizeLine_eq, List.getElem?_cons_zero, List.getElem?_cons_succ, h0]
  | tup dx =>
    cases hy with
    | tup dy =>
      rename_i xs ds ys
      have e1 := dx.length
      have e2 := dy.length
      obtain ⟨l1, l2⟩ := dep_tuple hd
      have key := same_all (n := n) (x := .tup xs) (y := .tup ys) (us := xs) (vs := ys) (q := q) rfl rfl dx dy (by omega) l2 h
      simp [t_law_same, lc3, izip3, seqOf, cap, seq3, asg3, gn3, ret3, retN3, ifS3, drop3, nev3, next3, v3, c3, o3, u3, neg3, L3.ixT, L3.ixR, cat3, iI, iC, iB, eqA3, scalT, isN3, tb3, and3, or3, not3, andV3, orV3, notV3, if3, ch3, cb3, cons3, nil3, isi3, tyT, subT, tup3, lst3, tsl3, np3, sp3, gtup3, gcons3, gnil3, gsub3, set3, par3, start3, bm3, app3, ext3, len3, abs3, min3, max3, int3, tuple3, list3, all3, any3, aug3, L2.atI, ixN, cut3, HT.sIx, getL, in3, flatT, eqF, gu, sizeLine_eq, List.getElem?_cons_zero, List.getElem?_cons_succ, e1, e2] at key ⊢
      exact key
  | lst gx dx =>
    cases hy with
    | lst gy dy =>
      rename_i p1 xs ds p2 ys
      have e1 := dx.length
      have e2 := dy.length
      obtain ⟨l1, l2⟩ := dep_list hd
      have key := same_all (n := n) (x := .ref p1) (y := .ref p2) (us := xs) (vs := ys) (q := q) gx gy dx dy (by omega) l2 h
      have e3 : xs.length = ys.length := by omega
      simp [t_law_same, lc3, izip3, seqOf, cap, seq3, asg3, gn3, ret3, retN3, ifS3, drop3, nev3, next3, v3, c3, o3, u3, neg3, L3.ixT, L3.ixR, cat3, iI, iC, iB, eqA3, scalT, isN3, tb3, and3, or3, not3, andV3, orV3, notV3, if3, ch3, cb3, cons3, nil3, isi3, tyT, subT, tup3, lst3, tsl3, np3, sp3, gtup3, gcons3, gnil3, gsub3, set3, par3, start3, bm3, app3, ext3, len3, abs3, min3, max3, int3, tuple3, list3, all3, any3, aug3, L2.atI, ixN, cut3, HT.sIx, in3, flatT, eqF, gu, sizeLine_eq, List.getElem?_cons_zero, List.getElem?_cons_succ, gx, gy, e3] at key ⊢
      exact key
end Bk
set_option Elab.async false
set_option linter.all false
set_option maxRecDepth 100000
set_option maxHeartbeats 4000000
namespace Bk
open PySem L2 L3
theorem atI_0 {α : Type} {x : α} {xs : List α} : L2.atI (x :: xs) 0 = some x := by simp [L2.atI, ixN]
theorem atI_1 {α : Type} {x y : α} {xs : List α} : L2.atI (x :: y :: xs) 1 = some y := by
  rw [atI_nat' (by omega) (by simp; omega)]; rfl
theorem atI_2 {α : Type} {x y z : α} {xs : List α} : L2.atI (x :: y :: z :: xs) 2 = some z := by
  rw [atI_nat' (by omega) (by simp; omega)]; rfl
theorem if_str0 {s l : Str} {xs : List T} {R S : TS3} {d : Ends3} {τ : St3} {G : Gp} (hτ : τ[0]? = some (some (T.tup (.str s :: xs)))) : seq3 (ifS3 (tb3 (o3 (eqA3 false) (o3 ix3 (v3 0) (c3 (.int 0))) (c3 (.str l)))) R next3) S d τ G = (if s = l then R { d with nx := S d } τ G else S d τ G) := by
  simp only [seq3, ifS3, tb3, o3, v3, hτ, c3, L3.ixT, atI_0, eqA3, scalT, next3]
  by_cases e : s = l <;> simp [e]
end Bk
set_option Elab.async false
set_option linter.all false
set_option maxRecDepth 100000
set_option maxHeartbeats 4000000
namespace Bk
open PySem L2 L3
structure Cells (cells : List (List Int)) (r c b : Int) : Prop where
  r : (cells.length : Int) = r
  c : ∀ row ∈ cells, (row.length : Int) = c ∧ ∀ x ∈ row, 0 ≤ x ∧ x < b
theorem Cells.ok {cells : List (List Int)} {r c b : Int} (C : Cells cells r c b) (r1 : 1 ≤ r) (r2 : r ≤ 60) (c1 : 1 ≤ c) (c2 : c ≤ 60) (b1 : 1 ≤ b) (b2 : b ≤ 1000) : (Dl.table b cells).Ok ∧ (Dl.table b cells).R = r ∧ (Dl.table b cells).C = c := by
  have hl := C.r
  have ok : (Dl.table b cells).Ok := ⟨b1, b2, by omega, by omega, c.toNat, by omega, by omega, fun row hr => ⟨by have := (C.c row hr).1; omega, (C.c row hr).2⟩⟩
  have e0 : cells[0]? = some cells[0] := List.getElem?_eq_getElem (by omega)
  exact ⟨ok, hl, by simp [Dl.C, e0]; exact (C.c cells[0] (List.getElem_mem _)).1⟩
end Bk
set_option Elab.async false
set_option linter.all false
set_option maxRecDepth 100000
set_option maxHeartbeats 4000000
namespace Bk
open PySem L2 L3
theorem mul_le2 {a b x y : Int} (h0 : 1 ≤ a) (h1 : a ≤ x) (h2 : 1 ≤ b) (h3 : b ≤ y) : a * b ≤ x * y := Int.mul_le_mul h1 h3 (by omega) (by omega)
theorem Dr.join {d e : Dl} {r c b r' c' b' : Int} (D : Dr d r c b) (E : Dr e r' c' b') (h1 : r * r' ≤ 4096) (h2 : c * c' ≤ 4096) (h3 : b * b' ≤ 4096) : Dr (.joined d e) (r * r') (c * c') (b * b') := by
  have Ld := Dl.lims D.ok
  have Le := Dl.lims E.ok
  have a1 := mul_le2 Ld.r1 D.r2 Le.r1 E.r2
  have a2 := mul_le2 Ld.c1 D.c2 Le.c1 E.c2
  have a3 := mul_le2 Ld.b1 D.b2 Le.b1 E.b2
  exact ⟨⟨D.ok, E.ok, by omega, by omega, by omega⟩, a1, a2, a3⟩
theorem Dr.mono {d : Dl} {r c b r' c' b' : Int} (D : Dr d r c b) (h1 : r ≤ r') (h2 : c ≤ c') (h3 : b ≤ b') : Dr d r' c' b' := ⟨D.ok, by have := D.r2; omega, by have := D.c2; omega, by have := D.b2; omega⟩
end Bk
set_option Elab.async false
set_option linter.all false
set_option maxRecDepth 100000
set_option maxHeartbeats 4000000
namespace Bk
open PySem L2 L3
end Bk
set_option Elab.async false
set_option linter.all false
set_option maxRecDepth 100000
set_option maxHeartbeats 4000000
namespace Bk
open PySem L2 L3
structure SD (k n : Nat) (d : PyData) : Prop where
  sh : d.showable = true
  nd : d.hasDict = false
  dp : d.depth ≤ k
  lv : d.leavesShort 13 = true
  bk : d.bulk ≤ n
theorem SD.ok {k n : Nat} {d : PyData} (h : SD k n d) (hk : k ≤ 40) (hn : n ≤ 2 ^ 20) : ShOk d := ⟨h.sh, h.nd, Nat.le_trans h.dp hk, h.lv, Nat.le_trans h.bk hn⟩
theorem SD.w {k n : Nat} {d : PyData} (h : SD k n d) (hk : k ≤ 40) (hn : n ≤ 2 ^ 20) : ShW d := (h.ok hk hn).w
theorem SD.mono {k n k' n' : Nat} {d : PyData} (h : SD k n d) (hk : k ≤ k') (hn : n ≤ n') : SD k' n' d := ⟨h.sh, h.nd, Nat.le_trans h.dp hk, h.lv, Nat.le_trans h.bk hn⟩
theorem sd_int (k n : Nat) {i : Int} (h : -1000000 ≤ i ∧ i ≤ 1000000) : SD k n (.int i) := by
  refine ⟨?_, rfl, Nat.zero_le _, ?_, Nat.zero_le _⟩
  · simp only [PyData.showable]
    have : i.natAbs < 2 ^ 20 := by omega
    have h2 : i.natAbs.log2 < 20 ∨ i.natAbs = 0 := by
      rcases Nat.eq_zero_or_pos i.natAbs with z | z
      · exact .inr z
      · exact .inl ((Nat.log2_lt (by omega)).mpr this)
    rcases h2 with h2 | h2
    · simp; omega
    · simp [h2]
  · have := PyProof.Rows.intsShortAll_ints2 [i] (by intro n hn; simp at hn; subst hn; omega)
    simpa [PyData.intsShortAll, PyData.intsShort, PyData.leavesShort] using this
theorem sd_str (k n : Nat) {x : Str} (h : x.cps.size ≤ n) (hc : (x.cps.toList.all fun c => decide (c < 16 ^ 8)) = true) : SD k n (.str x) := ⟨rfl, rfl, Nat.zero_le _, hc, h⟩
structure SDs (k n : Nat) (ds : List PyData) : Prop where
  sh : PyData.showableAll ds = true
  nd : PyData.hasDictAll ds = false
  dp : PyData.depthAll ds ≤ k
  lv : PyData.leavesShortAll 13 ds = true
  bk : PyData.bulkAll ds ≤ n
theorem sds_nil (k n : Nat) : SDs k n [] := ⟨rfl, rfl, Nat.zero_le _, rfl, Nat.zero_le _⟩
theorem sds_cons {k n m s : Nat} {d : PyData} {ds : List PyData} (h : SD k n d) (t : SDs k m ds) (hs : n + 1 + m ≤ s) : SDs k s (d :: ds) := by
  refine ⟨?_, ?_, ?_, ?_, ?_⟩
  · simp [PyData.showableAll, h.sh, t.sh]
  · simp [PyData.hasDictAll, h.nd, t.nd]
  · simp only [PyData.depthAll]; exact Nat.max_le.mpr ⟨h.dp, t.dp⟩
  · simp [PyData.leavesShortAll, h.lv, t.lv]
  · simp only [PyData.bulkAll]; have := h.bk; have := t.bk; omega
theorem sd_tuple {k n : Nat} {ds : List PyData} (t : SDs k n ds) : SD (k + 1) n (.tuple ds) := by
  refine ⟨?_, ?_, ?_, ?_, ?_⟩
  · simpa [PyData.showable] using t.sh
  · simpa [PyData.hasDict] using t.nd
  · simp only [PyData.depth]; have := t.dp; omega
  · simpa [PyData.leavesShort] using t.lv
  · simp only [PyData.bulk]; exact t.bk
theorem sd_list {k n : Nat} {ds : List PyData} (t : SDs k n ds) : SD (k + 1) n (.list ds) := by
  refine ⟨?_, ?_, ?_, ?_, ?_⟩
  · simpa [PyData.showable] using t.sh
  · simpa [PyData.hasDict] using t.nd
  · simp only [PyData.depth]; have := t.dp; omega
  · simpa [PyData.leavesShort] using t.lv
  · simp only [PyData.bulk]; exact t.bk
theorem sds_all {k n : Nat} : ∀ {ds : List PyData}, (∀ d ∈ ds, SD k n d) → SDs k (ds.length * (n + 1)) ds
  | [], _ => sds_nil _ _
  | d :: ds, h => sds_cons (h d (by simp)) (sds_all fun x hx => h x (by simp [hx])) (by rw [List.length_cons, Nat.succ_mul]; omega)
theorem SDs.mem {k n : Nat} : ∀ {ds : List PyData}, SDs k n ds → ∀ d ∈ ds, SD k n d
  | [], _, _, h => by cases h
  | e :: ds, t, d, h => by
    obtain ⟨a1, a2, a3, a4, a5⟩ := t
    simp only [PyData.showableAll, PyData.hasDictAll, PyData.depthAll, PyData.leavesShortAll, PyData.bulkAll, Bool.and_eq_true, Bool.or_eq_false_iff] at a1 a2 a3 a4 a5
    rcases List.mem_cons.mp h with rfl | h
    · exact ⟨a1.1, a2.1, by omega, a4.1, by omega⟩
    · exact SDs.mem (ds := ds) ⟨a1.2, a2.2, by omega, a4.2, by omega⟩ d h
theorem sds_ints {k : Nat} {ns : List Int} (h : ∀ n ∈ ns, -1000000 ≤ n ∧ n ≤ 1000000) : SDs k ns.length (ns.map PyData.int) := by
  have := sds_all (k := k) (n := 0) (ds := ns.map PyData.int) (by intro d hd; obtain ⟨i, hi, rfl⟩ := List.mem_map.mp hd; exact sd_int _ _ (h i hi))
  simpa using this
theorem SDs.append {k n m : Nat} : ∀ {ds es : List PyData}, SDs k n ds → SDs k m es → SDs k (n + m) (ds ++ es)
  | [], es, _, b => ⟨b.sh, b.nd, b.dp, b.lv, Nat.le_trans b.bk (Nat.le_add_left _ _)⟩
  | d :: ds, es, a, b => by
    obtain ⟨a1, a2, a3, a4, a5⟩ := a
    simp only [PyData.showableAll, PyData.hasDictAll, PyData.depthAll, PyData.leavesShortAll, PyData.bulkAll, Bool.and_eq_true, Bool.or_eq_false_iff] at a1 a2 a3 a4 a5
    have ih := SDs.append (ds := ds) (n := PyData.bulkAll ds) ⟨a1.2, a2.2, by omega, a4.2, Nat.le_refl _⟩ b
    rw [List.cons_append]
    exact sds_cons (n := d.bulk) ⟨a1.1, a2.1, by omega, a4.1, Nat.le_refl _⟩ ih (by omega)
theorem SDs.take {k n : Nat} : ∀ {ds : List PyData} (i : Nat), SDs k n ds → SDs k n (ds.take i)
  | [], _, t => by simpa using t
  | _ :: _, 0, _ => sds_nil _ _
  | d :: ds, i + 1, t => by
    obtain ⟨a1, a2, a3, a4, a5⟩ := t
    simp only [PyData.showableAll, PyData.hasDictAll, PyData.depthAll, PyData.leavesShortAll, PyData.bulkAll, Bool.and_eq_true, Bool.or_eq_false_iff] at a1 a2 a3 a4 a5
    have ih := SDs.take (k := k) (ds := ds) i (n := PyData.bulkAll ds) ⟨a1.2, a2.2, by omega, a4.2, Nat.le_refl _⟩
    exact sds_cons (n := d.bulk) ⟨a1.1, a2.1, by omega, a4.1, Nat.le_refl _⟩ ih (by omega)
theorem SDs.drop {k n : Nat} : ∀ {ds : List PyData} (i : Nat), SDs k n ds → SDs k n (ds.drop i)
  | [], _, t => by simpa using t
  | _ :: _, 0, t => t
  | d :: ds, i + 1, t => by
    obtain ⟨a1, a2, a3, a4, a5⟩ := t
    simp only [PyData.showableAll, PyData.hasDictAll, PyData.depthAll, PyData.leavesShortAll, PyData.bulkAll, Bool.and_eq_true, Bool.or_eq_false_iff] at a1 a2 a3 a4 a5
    exact SDs.drop (ds := ds) i ⟨a1.2, a2.2, by omega, a4.2, by omega⟩
def DS (G : Gp) (k n : Nat) (t : T) : Prop := ∃ d, Dp G t d ∧ SD k n d
def DSs (G : Gp) (k n : Nat) (ts : List T) : Prop := ∃ ds, Dps G ts ds ∧ SDs k n ds
theorem DS.up {G G' : Gp} {k n : Nat} {t : T} (h : DS G k n t) (e : Ex G G') : DS G' k n t := let ⟨d, a, b⟩ := h; ⟨d, a.up e, b⟩
theorem DSs.up {G G' : Gp} {k n : Nat} {t : List T} (h : DSs G k n t) (e : Ex G G') : DSs G' k n t := let ⟨d, a, b⟩ := h; ⟨d, a.up e, b⟩
theorem DS.mono {G : Gp} {k n k' n' : Nat} {t : T} (h : DS G k n t) (hk : k ≤ k') (hn : n ≤ n') : DS G k' n' t := let ⟨d, a, b⟩ := h; ⟨d, a, b.mono hk hn⟩
theorem SDs.mono {k n k' n' : Nat} {ds : List PyData} (h : SDs k n ds) (hk : k ≤ k') (hn : n ≤ n') : SDs k' n' ds := ⟨h.sh, h.nd, Nat.le_trans h.dp hk, h.lv, Nat.le_trans h.bk hn⟩
theorem DSs.mono {G : Gp} {k n k' n' : Nat} {ts : List T} (h : DSs G k n ts) (hk : k ≤ k') (hn : n ≤ n') : DSs G k' n' ts := let ⟨d, a, b⟩ := h; ⟨d, a, b.mono hk hn⟩
theorem _root_.L3.Dps.append {G : Gp} : ∀ {xs ys : List T} {ds es : List PyData}, Dps G xs ds → Dps G ys es → Dps G (xs ++ ys) (ds ++ es)
  | _, _, _, _, .nil, b => b
  | _, _, _, _, .cons a t, b => .cons a (L3.Dps.append t b)
theorem _root_.L3.Dps.take {G : Gp} : ∀ {xs : List T} {ds : List PyData} (i : Nat), Dps G xs ds → Dps G (xs.take i) (ds.take i)
  | _, _, 0, _ => .nil
  | _, _, _ + 1, .nil => .nil
  | _, _, i + 1, .cons a t => .cons a (L3.Dps.take i t)
theorem _root_.L3.Dps.drop {G : Gp} : ∀ {xs : List T} {ds : List PyData} (i : Nat), Dps G xs ds → Dps G (xs.drop i) (ds.drop i)
  | _, _, 0, h => h
  | _, _, _ + 1, .nil => .nil
  | _, _, i + 1, .cons a t => L3.Dps.drop i t
theorem DSs.append {G : Gp} {k n m : Nat} {xs ys : List T} (a : DSs G k n xs) (b : DSs G k m ys) : DSs G k (n + m) (xs ++ ys) := let ⟨d, a1, a2⟩ := a; let ⟨e, b1, b2⟩ := b; ⟨d ++ e, a1.append b1, a2.append b2⟩
theorem DSs.take {G : Gp} {k n : Nat} {xs : List T} (i : Nat) (a : DSs G k n xs) : DSs G k n (xs.take i) := let ⟨d, a1, a2⟩ := a; ⟨d.take i, a1.take i, a2.take i⟩
theorem DSs.drop {G : Gp} {k n : Nat} {xs : List T} (i : Nat) (a : DSs G k n xs) : DSs G k n (xs.drop i) := let ⟨d, a1, a2⟩ := a; ⟨d.drop i, a1.drop i, a2.drop i⟩
theorem dss_nil (G : Gp) (k n : Nat) : DSs G k n [] := ⟨[], .nil, sds_nil _ _⟩
theorem dss_cons {G : Gp} {k n m s : Nat} {t : T} {ts : List T} (h : DS G k n t) (r : DSs G k m ts) (hs : n + 1 + m ≤ s) : DSs G k s (t :: ts) := let ⟨d, a1, a2⟩ := h; let ⟨e, b1, b2⟩ := r; ⟨d :: e, .cons a1 b1, sds_cons a2 b2 hs⟩
theorem ds_tup {G : Gp} {k n : Nat} {ts : List T} (h : DSs G k n ts) : DS G (k + 1) n (.tup ts) := let ⟨d, a1, a2⟩ := h; ⟨_, .tup a1, sd_tuple a2⟩
theorem ds_lst {G : Gp} {k n : Nat} {p : Addr} {ts : List T} (g : getL G p = some ts) (h : DSs G k n ts) : DS G (k + 1) n (.ref p) := let ⟨d, a1, a2⟩ := h; ⟨_, .lst g a1, sd_list a2⟩
theorem ds_int (G : Gp) (k n : Nat) {i : Int} (h : -1000000 ≤ i ∧ i ≤ 1000000) : DS G k n (.int i) := ⟨_, .int i, sd_int _ _ h⟩
theorem ds_str (G : Gp) (k n : Nat) {x : Str} (h : x.cps.size ≤ n) (hc : (x.cps.toList.all fun c => decide (c < 16 ^ 8)) = true) : DS G k n (.str x) := ⟨_, .str x, sd_str _ _ h hc⟩
theorem dss_ints (G : Gp) (k : Nat) {ns : List Int} (h : ∀ n ∈ ns, -1000000 ≤ n ∧ n ≤ 1000000) : DSs G k ns.length (ns.map T.int) := ⟨_, Dps.ints ns, sds_ints h⟩
theorem DSs.get {G : Gp} {k n : Nat} {ts : List T} (h : DSs G k n ts) {i : Nat} {t : T} (e : ts[i]? = some t) : DS G k n t := by
  obtain ⟨ds, a, b⟩ := h
  obtain ⟨d, hd, hp⟩ := a.get e
  exact ⟨d, hp, b.mem d (List.mem_of_getElem? hd)⟩
theorem sh_text {st : Bool} {G : Gp} {k n : Nat} {t : T} (h : DS G k n t) (hk : k ≤ 40) (hn : n ≤ 2 ^ 20) : ∃ x : Str, ∀ G', Ex G G' → ∀ q : Str → Prop, q x → shT st t G' q := by
  obtain ⟨d, hd, s⟩ := h
  cases hd with
  | non => exact ⟨_, fun G' _ q h => h⟩
  | bl b => exact ⟨_, fun G' _ q h => h⟩
  | int i => exact ⟨_, fun G' _ q h => ⟨by simpa [PyData.showable] using s.sh, h⟩⟩
  | str x =>
    cases st with
    | true => exact ⟨_, fun G' _ q h => h⟩
    | false => exact ⟨reprText x, fun G' _ q h => ⟨(s.w hk hn).fit, h⟩⟩
  | tup hs => exact ⟨_, fun G' e q h => ⟨_, .tup (hs.up e), s.w hk hn, h⟩⟩
  | lst g hs => exact ⟨_, fun G' e q h => ⟨_, .lst (e.getL g) (hs.up e), s.w hk hn, h⟩⟩
end Bk
set_option Elab.async false
set_option linter.all false
set_option maxRecDepth 100000
set_option maxHeartbeats 4000000
namespace Bk
open PySem L2 L3
def Dl.sz : Dl → Nat
  | .joined d e => d.sz + e.sz + 20
  | _ => 5000
theorem dss_rows (G : Gp) (k c : Nat) : ∀ {cells : List (List Int)}, (∀ row ∈ cells, row.length ≤ c ∧ ∀ x ∈ row, 0 ≤ x ∧ x < 1000) → DSs G (k + 1) (cells.length * (c + 1)) (cells.map rowT)
  | [], _ => dss_nil _ _ _
  | row :: cells, h => by
    have h1 := h row (by simp)
    have a := ds_tup ((dss_ints G k (ns := row) fun n hn => by have := h1.2 n hn; omega).mono (Nat.le_refl _) h1.1)
    refine dss_cons (n := c) a (dss_rows G k c fun r hr => h r (by simp [hr])) ?_
    rw [List.length_cons, Nat.succ_mul]; omega
theorem Dl.ds (G : Gp) : ∀ {d : Dl}, d.Ok → DS G (d.dep + 3) d.sz d.t
  | .skew r c b x y, ok => by
    obtain ⟨k1, k2, k3, k4, k5, k6, k7, k8, k9, k10⟩ := ok
    have z : ∀ {i : Int}, -1000000 ≤ i ∧ i ≤ 1000000 → DS G 2 0 (.int i) := fun h => ds_int _ _ _ h
    exact ds_tup ((dss_cons (ds_str G 2 10 (by decide) (by decide)) (dss_cons (z (by omega)) (dss_cons (z (by omega)) (dss_cons (z (by omega)) (dss_cons (z (by omega)) (dss_cons (z (by omega)) (dss_nil _ _ 0) (Nat.le_refl _)) (Nat.le_refl _)) (Nat.le_refl _)) (Nat.le_refl _)) (Nat.le_refl _)) (Nat.le_refl _)).mono (by simp [Dl.dep]) (by simp [Dl.sz]))
  | .rests r c b p, ok => by
    obtain ⟨k1, k2, k3, k4, k5, k6, k7, k8, k9, k10⟩ := ok
    have z : ∀ {i : Int}, -1000000 ≤ i ∧ i ≤ 1000000 → DS G 2 0 (.int i) := fun h => ds_int _ _ _ h
    exact ds_tup ((dss_cons (ds_str G 2 10 (by decide) (by decide)) (dss_cons (z (by omega)) (dss_cons (z (by omega)) (dss_cons (z (by omega)) (dss_cons (z (by omega)) (dss_nil _ _ 0) (Nat.le_refl _)) (Nat.le_refl _)) (Nat.le_refl _)) (Nat.le_refl _)) (Nat.le_refl _)).mono (by simp [Dl.dep]) (by simp [Dl.sz]))
  | .bits h l ms, ok => by
    obtain ⟨k1, k2, k3, k4⟩ := ok
    have z : ∀ {i : Int}, -1000000 ≤ i ∧ i ≤ 1000000 → DS G 2 0 (.int i) := fun h => ds_int _ _ _ h
    have p8 : (2 : Int) ^ (h + l) ≤ 256 := by
      have : 2 ^ (h + l) ≤ 2 ^ 8 := Nat.pow_le_pow_right (by decide) (by omega)
      have e : ((2 ^ (h + l) : Nat) : Int) = (2 : Int) ^ (h + l) := by simp
      omega
    have m : DS G 2 5 (.tup (ms.map T.int)) := ds_tup ((dss_ints G 1 (ns := ms) fun n hn => by have := k4 n hn; omega).mono (Nat.le_refl _) k3)
    exact ds_tup ((dss_cons (ds_str G 2 10 (by decide) (by decide)) (dss_cons (z (by omega)) (dss_cons (z (by omega)) (dss_cons m (dss_nil _ _ 0) (Nat.le_refl _)) (Nat.le_refl _)) (Nat.le_refl _)) (Nat.le_refl _)).mono (by simp [Dl.dep]) (by simp [Dl.sz]))
  | .table b cells, ok => by
    obtain ⟨k1, k2, k3, k4, c, k5, k6, k7⟩ := ok
    have z : ∀ {i : Int}, -1000000 ≤ i ∧ i ≤ 1000000 → DS G 2 0 (.int i) := fun h => ds_int _ _ _ h
    have cs := dss_rows G 0 60 (cells := cells) fun row hr => ⟨by have := (k7 row hr).1; omega, fun x hx => by have := (k7 row hr).2 x hx; omega⟩
    have hm : cells.length * (60 + 1) ≤ 3660 := by
      calc cells.length * (60 + 1) ≤ 60 * 61 := Nat.mul_le_mul k4 (Nat.le_refl _)
        _ = 3660 := rfl
    exact ds_tup ((dss_cons (ds_str G 2 10 (by decide) (by decide)) (dss_cons (z (by omega)) (dss_cons (ds_tup (cs.mono (Nat.le_refl _) hm)) (dss_nil _ _ 0) (Nat.le_refl _)) (Nat.le_refl _)) (Nat.le_refl _)).mono (by simp [Dl.dep]) (by simp [Dl.sz]))
  | .joined d e, ok => by
    have a := (Dl.ds G ok.1)
    have b := (Dl.ds G ok.2.1)
    have e1 : (Dl.joined d e).dep = max d.dep e.dep + 1 := rfl
    have m1 : d.dep ≤ max d.dep e.dep := Nat.le_max_left _ _
    have m2 : e.dep ≤ max d.dep e.dep := Nat.le_max_right _ _
    have t := ds_tup (k := (Dl.joined d e).dep + 2) (dss_cons (ds_str G _ 10 (x := Str.ofString "joined") (by decide) (by decide)) (dss_cons (a.mono (by omega) (Nat.le_refl _)) (dss_cons (b.mono (by omega) (Nat.le_refl _)) (dss_nil _ _ 0) (Nat.le_refl _)) (Nat.le_refl _)) (Nat.le_refl _))
    exact DS.mono t (by omega) (by simp only [Dl.sz]; omega)
end Bk
set_option Elab.async false
set_option linter.all false
set_option maxRecDepth 100000
set_option maxHeartbeats 4000000
namespace Bk
open PySem L2 L3
def t_strung : TS3 := (ret3 (lc3 (irng3 (cons3 (v3 2) nil3)) (gn3 0) tt3 (tup3 (cons3 (o3 (iC CMul (· * ·)) (v3 0) (v3 1)) (cons3 (o3 (iC CMul (· * ·)) (v3 0) (v3 2)) nil3))) [none, some 0, some 1]))
def t_cells_of (S_strung : Sp3) : TS3 := (seq3 (asg3 (o3 ix3 (v3 0) (c3 (.int 0))) (gn3 1)) (seq3 (ifS3 (tb3 (o3 (eqA3 false) (v3 1) (c3 (.str "cells")))) (ret3 (cb3 list3 (cons3 (o3 ix3 (v3 0) (c3 (.int 1))) nil3))) next3) (seq3 (ifS3 (tb3 (o3 (eqA3 false) (v3 1) (c3 (.str "block")))) (ret3 (lc23 (irng3 (cons3 (o3 ix3 (v3 0) (c3 (.int 1))) nil3)) (gn3 0) tt3 (irng3 (cons3 (o3 ix3 (v3 2) (c3 (.int 2))) nil3)) (gn3 1) tt3 (tup3 (cons3 (v3 0) (cons3 (v3 1) nil3))) [none, none, some 0])) next3) (seq3 (ifS3 (tb3 (o3 (eqA3 false) (v3 1) (c3 (.str "step")))) (ret3 (cb3 S_strung (cons3 (o3 ix3 (v3 0) (c3 (.int 1))) (cons3 (o3 ix3 (v3 0) (c3 (.int 2))) (cons3 (o3 ix3 (v3 0) (c3 (.int 3))) nil3))))) next3) (seq3 (asg3 (tget3 stridesT (v3 1)) (gtup3 2 (gcons3 (gn3 2) (gcons3 (gn3 3) gnil3)))) (ret3 (cb3 S_strung (cons3 (v3 2) (cons3 (v3 3) (cons3 (o3 ix3 (v3 0) (c3 (.int 1))) nil3))))))))))
def t_law_many (S_law_pick : Sp3) : TS3 := (ret3 (o3 cat3 (c3 (.int 1)) (cb3 S_law_pick (cons3 (v3 0) (cons3 (o3 ix3 (lst3 (cons3 (c3 (.int 5)) (cons3 (c3 (.int 5)) (cons3 (c3 (.int 5)) (cons3 (c3 (.int 5)) (cons3 (c3 (.int 5)) (cons3 (c3 (.int 5)) (cons3 (c3 (.int 8)) (cons3 (c3 (.int 16)) nil3))))))))) (cb3 S_law_pick (cons3 (v3 0) (cons3 (c3 (.int 8)) nil3)))) nil3)))))
def t_law_walk (S_law_pick : Sp3) (S_law_many : Sp3) : TS3 := (seq3 (asg3 (cb3 S_law_pick (cons3 (v3 0) (cons3 (c3 (.int 9)) nil3))) (gn3 1)) (seq3 (ifS3 (tb3 (o3 (iB fun i j => decide (i < j)) (v3 1) (c3 (.int 4)))) (ret3 (tup3 (cons3 (o3 ix3 (lst3 (cons3 (c3 (.str "row")) (cons3 (c3 (.str "column")) (cons3 (c3 (.str "slant")) (cons3 (c3 (.str "back")) nil3))))) (v3 1)) (cons3 (cb3 S_law_many (cons3 (v3 0) nil3)) nil3)))) next3) (seq3 (ifS3 (tb3 (o3 (iB fun i j => decide (i < j)) (v3 1) (c3 (.int 6)))) (seq3 (par3 2 3 (cons3 (cb3 S_law_pick (cons3 (v3 0) (cons3 (c3 (.int 2)) nil3))) (cons3 (o3 cat3 (c3 (.int 1)) (cb3 S_law_pick (cons3 (v3 0) (cons3 (c3 (.int 4)) nil3)))) nil3))) (seq3 (asg3 (o3 cat3 (c3 (.int 1)) (cb3 S_law_pick (cons3 (v3 0) (cons3 (o3 (iC CDiv (· / ·)) (c3 (.int 16)) (v3 3)) nil3)))) (gn3 4)) (ret3 (o3 ix3 (lst3 (cons3 (tup3 (cons3 (c3 (.str "block")) (cons3 (v3 3) (cons3 (v3 4) nil3)))) (cons3 (tup3 (cons3 (c3 (.str "block")) (cons3 (v3 4) (cons3 (v3 3) nil3)))) nil3))) (v3 2))))) next3) (seq3 (ifS3 (tb3 (o3 (iB fun i j => decide (i < j)) (v3 1) (c3 (.int 8)))) (seq3 (par3 5 6 (cons3 (o3 (iI (· - ·)) (cb3 S_law_pick (cons3 (v3 0) (cons3 (c3 (.int 7)) nil3))) (c3 (.int 3))) (cons3 (o3 (iI (· - ·)) (cb3 S_law_pick (cons3 (v3 0) (cons3 (c3 (.int 9)) nil3))) (c3 (.int 4))) nil3))) (seq3 (ifS3 (tb3 (o3 (eqA3 false) (cb3 S_law_pick (cons3 (v3 0) (cons3 (c3 (.int 6)) nil3))) (c3 (.int 0)))) (ret3 (tup3 (cons3 (c3 (.str "step")) (cons3 (o3 (iC CMul (· * ·)) (c3 (.int 5)) (v3 5)) (cons3 (o3 cat3 (o3 (iC CMul (· * ·)) (c3 (.int 3)) (v3 6)) (cb3 int3 (cons3 (andV3 (o3 (eqA3 false) (v3 5) (c3 (.int 0))) (o3 (eqA3 false) (v3 6) (c3 (.int 0)))) nil3))) (cons3 (o3 cat3 (c3 (.int 1)) (cb3 S_law_pick (cons3 (v3 0) (cons3 (c3 (.int 4)) nil3)))) nil3)))))) next3) (ret3 (tup3 (cons3 (c3 (.str "step")) (cons3 (v3 5) (cons3 (o3 cat3 (v3 6) (cb3 int3 (cons3 (andV3 (o3 (eqA3 false) (v3 5) (c3 (.int 0))) (o3 (eqA3 false) (v3 6) (c3 (.int 0)))) nil3))) (cons3 (cb3 S_law_many (cons3 (v3 0) nil3)) nil3)))))))) next3) (seq3 (par3 7 8 (cons3 (lst3 nil3) (cons3 (o3 cat3 (c3 (.int 1)) (o3 (iC CMul (· * ·)) (c3 (.int 4)) (cb3 int3 (cons3 (o3 (eqA3 false) (cb3 S_law_pick (cons3 (v3 0) (cons3 (c3 (.int 5)) nil3))) (c3 (.int 0))) nil3)))) nil3))) (seq3 (for3 (irng3 (cons3 (cb3 S_law_many (cons3 (v3 0) nil3)) nil3)) (gn3 9) (seq3 (asg3 (tup3 (cons3 (o3 (iC CMul (· * ·)) (v3 8) (o3 (iI (· - ·)) (cb3 S_law_pick (cons3 (v3 0) (cons3 (c3 (.int 6)) nil3))) (c3 (.int 2)))) (cons3 (o3 (iC CMul (· * ·)) (v3 8) (o3 (iI (· - ·)) (cb3 S_law_pick (cons3 (v3 0) (cons3 (c3 (.int 6)) nil3))) (c3 (.int 2)))) nil3))) (gn3 10)) (ifS3 (tb3 (o3 (inA3 true) (v3 10) (v3 7))) (drop3 (bm3 app3 (v3 7) (cons3 (v3 10) nil3))) next3))) (ret3 (tup3 (cons3 (c3 (.str "cells")) (cons3 (cb3 tuple3 (cons3 (v3 7) nil3)) nil3))))))))))
def t_law_cells : TS3 := (seq3 (ifS3 (tb3 (o3 (eqA3 false) (o3 ix3 (v3 0) (c3 (.int 0))) (c3 (.str "cells")))) (ret3 (cb3 list3 (cons3 (o3 ix3 (v3 0) (c3 (.int 1))) nil3))) next3) (seq3 (ifS3 (tb3 (o3 (eqA3 false) (o3 ix3 (v3 0) (c3 (.int 0))) (c3 (.str "block")))) (seq3 (asg3 (lst3 nil3) (gn3 1)) (seq3 (for3 (irng3 (cons3 (o3 ix3 (v3 0) (c3 (.int 1))) nil3)) (gn3 2) (drop3 (bm3 ext3 (v3 1) (cons3 (lc3 (irng3 (cons3 (o3 ix3 (v3 0) (c3 (.int 2))) nil3)) (gn3 0) tt3 (tup3 (cons3 (v3 1) (cons3 (v3 0) nil3))) [none, some 2]) nil3)))) (ret3 (v3 1)))) next3) (seq3 (asg3 (dsub3 ["row", "column", "slant", "back", "step"] (cons3 (tup3 (cons3 (c3 (.int 0)) (cons3 (c3 (.int 1)) nil3))) (cons3 (tup3 (cons3 (c3 (.int 1)) (cons3 (c3 (.int 0)) nil3))) (cons3 (tup3 (cons3 (c3 (.int 1)) (cons3 (c3 (.int 1)) nil3))) (cons3 (tup3 (cons3 (c3 (.int 1)) (cons3 (u3 neg3 (c3 (.int 1))) nil3))) (cons3 (tsl3 (v3 0) (sp3 (c3 (.int 1))) (sp3 (c3 (.int 3)))) nil3))))) (o3 ix3 (v3 0) (c3 (.int 0)))) (gtup3 2 (gcons3 (gn3 3) (gcons3 (gn3 4) gnil3)))) (ret3 (lc3 (irng3 (cons3 (o3 ix3 (v3 0) (u3 neg3 (c3 (.int 1)))) nil3)) (gn3 0) tt3 (tup3 (cons3 (o3 (iC CMul (· * ·)) (v3 0) (v3 1)) (cons3 (o3 (iC CMul (· * ·)) (v3 0) (v3 2)) nil3))) [none, some 3, some 4])))))
def t_first_alike : TS3 := (seq3 (for3 (irng3 (cons3 (cb3 len3 (cons3 (v3 0) nil3)) nil3)) (gn3 1) (for3 (irng3 (cons3 (o3 cat3 (v3 1) (c3 (.int 1))) (cons3 (cb3 len3 (cons3 (v3 0) nil3)) nil3))) (gn3 2) (ifS3 (tb3 (o3 (eqA3 false) (o3 ix3 (v3 0) (v3 1)) (o3 ix3 (v3 0) (v3 2)))) (ret3 (tup3 (cons3 (v3 1) (cons3 (v3 2) nil3)))) next3))) (ret3 (c3 .non)))
theorem getL_lst {G : Gp} {p : Addr} {xs : List T} (h : G p = some (.lst xs)) : getL G p = some xs := by unfold getL; rw [h]
theorem atI_mem {xs : List T} {d : Int} (h0 : 0 ≤ d) (h1 : d < (xs.length : Int)) : ∃ z, L2.atI xs d = some z ∧ z ∈ xs := by
  rw [atI_nat' h0 h1]
  have : d.toNat < xs.length := by omega
  exact ⟨xs[d.toNat], List.getElem?_eq_getElem this, List.getElem_mem this⟩
inductive Wk where
  | line (k m : Nat)
  | block (h w : Nat)
  | step (d a : Int) (m : Nat)
  | cells (ps : List (Int × Int))
def lnName : Nat → Str
  | 0 => "row" | 1 => "column" | 2 => "slant" | _ => "back"
def lnD : Nat → Int
  | 0 => 0 | _ => 1
def lnA : Nat → Int
  | 0 => 1 | 1 => 0 | 2 => 1 | _ => -1
def pT (p : Int × Int) : T := .tup [.int p.1, .int p.2]
def Wk.t : Wk → T
  | .line k m => .tup [.str (lnName k), .int m]
  | .block h w => .tup [.str "block", .int h, .int w]
  | .step d a m => .tup [.str "step", .int d, .int a, .int m]
  | .cells ps => .tup [.str "cells", .tup (ps.map pT)]
def along (d a : Int) (m : Nat) : List (Int × Int) := (List.range m).map fun (t : Nat) => ((t : Int) * d, (t : Int) * a)
def blockC (h w : Nat) : List (Int × Int) := (List.range h).flatMap fun (p : Nat) => (List.range w).map fun (q : Nat) => ((p : Int), (q : Int))
def Wk.pc : Wk → List (Int × Int)
  | .line k m => along (lnD k) (lnA k) m
  | .block h w => blockC h w
  | .step d a m => along d a m
  | .cells ps => ps
def Wk.cT (w : Wk) : List T := w.pc.map pT
def Wk.Ok : Wk → Prop
  | .line k m => k < 4 ∧ 1 ≤ m ∧ m ≤ 16
  | .block h w => 1 ≤ h ∧ 1 ≤ w ∧ h ≤ 16 ∧ w ≤ 16 ∧ h * w ≤ 16
  | .step d a m => (-16 ≤ d ∧ d ≤ 16) ∧ (-16 ≤ a ∧ a ≤ 16) ∧ 1 ≤ m ∧ m ≤ 16
  | .cells ps => 1 ≤ ps.length ∧ ps.length ≤ 16 ∧ ps.Nodup ∧ ∀ p ∈ ps, (-16 ≤ p.1 ∧ p.1 ≤ 16) ∧ (-16 ≤ p.2 ∧ p.2 ≤ 16)
theorem block_succ (h w : Nat) : blockC (h + 1) w = blockC h w ++ (List.range w).map fun (q : Nat) => ((h : Int), (q : Int)) := by
  simp [blockC, List.range_succ]
theorem block_len (h w : Nat) : (blockC h w).length = h * w := by
  induction h with
  | zero => simp [blockC]
  | succ h ih => rw [block_succ, List.length_append, ih, List.length_map, List.length_range, Nat.succ_mul]
theorem pc_len {w : Wk} (ok : w.Ok) : 1 ≤ w.pc.length ∧ w.pc.length ≤ 16 := by
  cases w with
  | line k m => simp only [Wk.pc, along, List.length_map, List.length_range]; exact ok.2
  | block h v =>
    obtain ⟨h1, h2, h3, h4, h5⟩ := ok
    simp only [Wk.pc, block_len]
    exact ⟨Nat.mul_le_mul h1 h2, h5⟩
  | step d a m => simp only [Wk.pc, along, List.length_map, List.length_range]; exact ok.2.2
  | cells ps => exact ⟨ok.1, ok.2.1⟩
def sp_strung : Sp3 := fun ts G q => ∃ (d a : Int) (m : Nat), ts = [.int d, .int a, .int m] ∧ (-1000 ≤ d ∧ d ≤ 1000) ∧ (-1000 ≤ a ∧ a ≤ 1000) ∧ m ≤ 1000 ∧ ∀ p, G p = none → q (.ref p) (gu G p (.lst ((along d a m).map pT)))
theorem lc_along {d a : Int} {m : Nat} {G : Gp} {q : Q3} (hd : -1000 ≤ d ∧ d ≤ 1000) (ha : -1000 ≤ a ∧ a ≤ 1000) (hm : m ≤ 1000) (h : ∀ p, G p = none → q (.ref p) (gu G p (.lst ((along d a m).map pT)))) :
    lcGo (fun _ => True) (gn3 0) tt3 (tup3 (cons3 (o3 (iC CMul (· * ·)) (v3 0) (v3 1)) (cons3 (o3 (iC CMul (· * ·)) (v3 0) (v3 2)) nil3))) q (rngT 0 m) [] [none, some (.int d), some (.int a)] G := by
  refine lcGo_map (fun t => match t with | .int i => T.tup [.int (i * d), .int (i * a)] | t => t) (fun τ => ∃ x0, τ = [x0, some (.int d), some (.int a)]) True.intro _ _ _ ⟨none, rfl⟩ ?_ (by simp [rngT, sizeLine_eq]; omega) ?_
  · rintro z hz τ ⟨x0, rfl⟩ K hK
    unfold rngT at hz
    obtain ⟨i, _, rfl⟩ := List.mem_map.mp hz
    simp [seq3, asg3, gn3, ret3, retN3, ifS3, drop3, nev3, next3, v3, c3, o3, u3, neg3, L3.ixT, L3.ixR, cat3, iI, iC, iB, eqA3, scalT, isN3, tb3, and3, or3, not3, andV3, orV3, notV3, if3, ch3, cb3, cons3, nil3, isi3, tyT, subT, tup3, lst3, tsl3, np3, sp3, gtup3, gcons3, gnil3, gsub3, set3, par3, start3, bm3, app3, ext3, len3, abs3, min3, max3, int3, tuple3, list3, all3, any3, aug3, cut3, HT.sIx, in3, flatT, eqF, sizeLine_eq, List.getElem?_cons_zero, List.getElem?_cons_succ]
    exact ⟨cm (by omega) (by omega), cm (by omega) (by omega), by simpa using hK _ ⟨_, rfl⟩⟩
  · intro p hp
    have := h p hp
    simpa [along, pT, rngT, List.map_map, Function.comp_def] using this
theorem rd_strung : ∀ ts G q, sp_strung ts G q → ts.length = 3 ∧ t_strung (ends q) (start3 ["down", "along", "many"] ts) G := by
  rintro ts G q ⟨d, a, m, rfl, hd, ha, hm, h⟩
  refine ⟨rfl, ?_⟩
  simp [t_strung, lc3, irng3, cap, seq3, asg3, gn3, ret3, retN3, ifS3, drop3, nev3, next3, v3, c3, o3, u3, neg3, L3.ixT, L3.ixR, cat3, iI, iC, iB, eqA3, scalT, isN3, tb3, and3, or3, not3, andV3, orV3, notV3, if3, ch3, cb3, cons3, nil3, isi3, tyT, subT, tup3, lst3, tsl3, np3, sp3, gtup3, gcons3, gnil3, gsub3, set3, par3, start3, bm3, app3, ext3, len3, abs3, min3, max3, int3, tuple3, list3, all3, any3, aug3, cut3, HT.sIx, in3, flatT, eqF, sizeLine_eq, List.getElem?_cons_zero, List.getElem?_cons_succ]
  refine ⟨by omega, ?_⟩
  exact lc_along hd ha hm h
theorem gu_gu {G : Gp} {p : Addr} {x y : O} : gu (gu G p x) p y = gu G p y := by
  funext b; unfold gu; split <;> rfl
def sp_cells_of : Sp3 := fun ts G q => ∃ w : Wk, ts = [w.t] ∧ w.Ok ∧ ∀ p, G p = none → q (.ref p) (gu G p (.lst w.cT))
theorem row_succ (i j : Nat) : ((List.range (j + 1)).map fun (q : Nat) => ((i : Int), (q : Int))) = ((List.range j).map fun (q : Nat) => ((i : Int), (q : Int))) ++ [((i : Int), (j : Int))] := by simp [List.range_succ]
theorem rd_cells_of : ∀ ts G q, sp_cells_of ts G q → ts.length = 1 ∧ t_cells_of sp_strung (ends q) (start3 ["walk", "kind", "down", "along"] ts) G := by
  rintro ts G q ⟨w, rfl, ok, h⟩
  refine ⟨rfl, ?_⟩
  unfold t_cells_of
  refine seq_i fun nx q1 => ?_
  cases w with
  | cells ps =>
    show nx [some (Wk.cells ps).t, some (.str "cells"), none, none] G
    rw [q1, if_str rfl, if_pos rfl]
    exact h
  | block v w =>
    obtain ⟨h1, h2, h3, h4, h5⟩ := ok
    show nx [some (Wk.block v w).t, some (.str "block"), none, none] G
    rw [q1, if_str rfl, if_neg (by decide), if_str rfl, if_pos rfl]
    simp only [ret3, lc23, irng3, cons3, nil3, o3, v3, c3, Wk.t, L3.ixT, atI_1, cap, List.getElem?_cons_zero]
    refine ⟨⟨by omega, by omega⟩, fun D hD => ?_⟩
    rw [Int.toNat_natCast]
    refine lc2Go_inv _ (fun i τ G' => G' = gu G D (.lst ((blockC i w).map pT)) ∧ ∃ x0 x1, τ = [x0, x1, some (.tup [.str "block", .int v, .int w])]) ⟨by simp [blockC], none, none, rfl⟩ (fun _ _ _ _ _ => True.intro) ?_ ?_
    · rintro i x τ G' R hx ⟨rfl, x0, x1, rfl⟩ hR
      obtain ⟨hi, rfl⟩ := rng_get hx
      simp [tt3, irng3, atI_2, seq3, asg3, gn3, ret3, retN3, ifS3, drop3, nev3, next3, v3, c3, o3, u3, neg3, L3.ixT, L3.ixR, cat3, iI, iC, iB, eqA3, scalT, isN3, tb3, and3, or3, not3, andV3, orV3, notV3, if3, ch3, cb3, cons3, nil3, isi3, tyT, subT, tup3, lst3, tsl3, np3, sp3, gtup3, gcons3, gnil3, gsub3, set3, par3, start3, bm3, app3, ext3, len3, abs3, min3, max3, int3, tuple3, list3, all3, any3, aug3, cut3, HT.sIx, getL, in3, flatT, eqF, gu, sizeLine_eq, List.getElem?_cons_zero, List.getElem?_cons_succ]
      refine ⟨by omega, ?_⟩
      refine inGo_inv _ (fun j τ G' => G' = gu G D (.lst ((blockC i w ++ (List.range j).map fun (q : Nat) => ((i : Int), (q : Int))).map pT)) ∧ ∃ x1, τ = [some (.int i), x1, some (.tup [.str "block", .int v, .int w])]) ⟨by simp, x1, rfl⟩ (fun _ _ _ _ _ => True.intro) ?_ ?_
      · rintro j x τ G' R2 hx ⟨rfl, x1, rfl⟩ hR2
        obtain ⟨hj, rfl⟩ := rng_get hx
        have hb : i * w ≤ 16 * 16 := Nat.mul_le_mul (by omega) h4
        simp only [gn3, tt3, tup3, cons3, nil3, v3, List.set_cons_succ, List.set_cons_zero, List.getElem?_cons_zero, List.getElem?_cons_succ, if_true, gu_same]
        refine ⟨by simp [sizeLine_eq], by simp [block_len, sizeLine_eq]; omega, hR2 _ _ ⟨?_, _, rfl⟩⟩
        rw [gu_gu, row_succ, ← List.append_assoc, List.map_append]
        simp [pT]
      · rintro τ G' ⟨rfl, x1, rfl⟩
        rw [rng_len]
        exact hR _ _ ⟨by rw [block_succ], _, _, rfl⟩
    · rintro τ G' ⟨rfl, x0, x1, rfl⟩
      rw [rng_len]
      exact h D hD
  | step d a m =>
    show nx [some (Wk.step d a m).t, some (.str "step"), none, none] G
    rw [q1, if_str rfl, if_neg (by decide), if_str rfl, if_neg (by decide), if_str rfl, if_pos rfl]
    show sp_strung [.int d, .int a, .int m] G q
    obtain ⟨k1, k2, k3, k4⟩ := ok
    exact ⟨d, a, m, rfl, by omega, by omega, by omega, h⟩
  | line k m =>
    have hk := ok.1
    have hn : lnName k ≠ Str.ofString "cells" ∧ lnName k ≠ Str.ofString "block" ∧ lnName k ≠ Str.ofString "step" := by
      rcases k with _ | _ | _ | _ | k
      · decide
      · decide
      · decide
      · decide
      · omega
    have tg : tabGet stridesT (lnName k) = some (.tup [.int (lnD k), .int (lnA k)]) := by
      rcases k with _ | _ | _ | _ | k
      · rfl
      · rfl
      · rfl
      · rfl
      · omega
    have bd : (-1000 ≤ lnD k ∧ lnD k ≤ 1000) ∧ (-1000 ≤ lnA k ∧ lnA k ≤ 1000) := by
      rcases k with _ | _ | _ | _ | k
      · decide
      · decide
      · decide
      · decide
      · omega
    show nx [some (Wk.line k m).t, some (.str (lnName k)), none, none] G
    rw [q1, if_str rfl, if_neg hn.1, if_str rfl, if_neg hn.2.1, if_str rfl, if_neg hn.2.2]
    refine seq_i fun nx2 q2 => ?_
    simp only [asg3, tget3, v3, List.getElem?_cons_zero, List.getElem?_cons_succ, tg]
    simp [gtup3, gcons3, gnil3, gn3]
    show nx2 [some (Wk.line k m).t, some (.str (lnName k)), some (.int (lnD k)), some (.int (lnA k))] G
    rw [q2]
    show sp_strung [.int (lnD k), .int (lnA k), .int m] G q
    exact ⟨_, _, m, rfl, bd.1, bd.2, by have := ok.2.2; omega, h⟩
end Bk
set_option Elab.async false
set_option linter.all false
set_option maxRecDepth 100000
set_option maxHeartbeats 4000000
namespace Bk
open PySem L2 L3
def sp_law_many : Sp3 := fun ts G q => ∃ a n, ts = [.ref a] ∧ Lf G a n ∧ n < 10000000 ∧ ∀ (m : Nat) G', 1 ≤ m → m ≤ 16 → Lf G' a (n + 2) → Ext a G G' → q (.int m) G'
theorem rd_law_many : ∀ ts G q, sp_law_many ts G q → ts.length = 1 ∧ t_law_many sp_law_pick (ends q) (start3 ["_law_left_here"] ts) G := by
  rintro ts G q ⟨a, n, rfl, hL, hn, h⟩
  refine ⟨rfl, ?_⟩
  simp [t_law_many, seq3, asg3, gn3, ret3, retN3, ifS3, drop3, nev3, next3, v3, c3, o3, u3, neg3, L3.ixT, L3.ixR, cat3, iI, iC, iB, eqA3, scalT, isN3, tb3, and3, or3, not3, andV3, orV3, notV3, if3, ch3, cb3, cons3, nil3, isi3, tyT, subT, tup3, lst3, tsl3, np3, sp3, gtup3, gcons3, gnil3, gsub3, set3, par3, start3, bm3, app3, ext3, len3, abs3, min3, max3, int3, tuple3, list3, all3, any3, aug3, cut3, HT.sIx, in3, flatT, eqF, sizeLine_eq, List.getElem?_cons_zero, List.getElem?_cons_succ]
  intro p hp
  have np := hL.ne hp
  refine pick_i (hL.new np) (by omega) (by omega) (by omega) fun d G1 d0 d1 L1 E1 => ?_
  have g := getL_lst (E1 _ _ np gu_same)
  obtain ⟨z, hz, hm⟩ := atI_mem (xs := [T.int 5, .int 5, .int 5, .int 5, .int 5, .int 5, .int 8, .int 16]) d0 (by simpa using d1)
  simp only [L3.ixR, g, hz]
  have : ∃ k : Int, z = .int k ∧ 1 ≤ k ∧ k ≤ 16 := by
    simp only [List.mem_cons, List.not_mem_nil, or_false] at hm
    rcases hm with rfl | rfl | rfl | rfl | rfl | rfl | rfl | rfl <;> exact ⟨_, rfl, by omega, by omega⟩
  obtain ⟨k, rfl, k1, k2⟩ := this
  refine pick_i L1 (by omega) (by omega) (by omega) fun e G2 e0 e1 L2' E2 => ?_
  simp
  obtain ⟨e', rfl⟩ := Int.eq_ofNat_of_zero_le e0
  have := h (e' + 1) G2 (by omega) (by omega) (L2'.mono (by omega)) ((ext_new hp).trans (E1.trans E2))
  rw [show (1 : Int) + (e' : Int) = ((e' + 1 : Nat) : Int) by omega]
  exact this
def pD (p : Int × Int) : PyData := .tuple [.int p.1, .int p.2]
theorem pT_dp (G : Gp) (p : Int × Int) : Dp G (pT p) (pD p) := .tup (.cons (.int _) (.cons (.int _) .nil))
theorem pTs_dp (G : Gp) : ∀ ps : List (Int × Int), Dps G (ps.map pT) (ps.map pD)
  | [] => .nil
  | p :: ps => .cons (pT_dp G p) (pTs_dp G ps)
theorem pD_eq (p r : Int × Int) : pyEq (pD p) (pD r) = some (decide (p = r)) := by
  obtain ⟨a, b⟩ := p
  obtain ⟨c, d⟩ := r
  simp only [pD, pyEq, pyEqs]
  by_cases h : a = c <;> by_cases h' : b = d <;> simp [h, h']
theorem pIn (r : Int × Int) : ∀ ps : List (Int × Int), pyIn (pD r) (ps.map pD) = some (decide (r ∈ ps))
  | [] => by simp [pyIn]
  | p :: ps => by
    simp only [List.map_cons, pyIn, pD_eq, pIn r ps]
    by_cases h : p = r
    · subst h; simp
    · have h' : ¬ r = p := fun z => h z.symm
      simp [h, h']
theorem pD_dpt (p : Int × Int) : dpt (pD p) ≤ 40 := by simp [pD, dpt, dpts]
def sp_law_walk : Sp3 := fun ts G q => ∃ a n, ts = [.ref a] ∧ Lf G a n ∧ n < 1000000 ∧ ∀ (w : Wk) G', w.Ok → Lf G' a (n + 60) → Ext a G G' → q w.t G'
theorem rd_law_walk : ∀ ts G q, sp_law_walk ts G q → ts.length = 1 ∧ t_law_walk sp_law_pick sp_law_many (ends q) (start3 ["_law_left_here", "_law_way", "_law_lying", "_law_high", "_law_wide", "_law_down", "_law_along", "_law_pairs", "_law_far", "_law_turn", "_law_pair"] ts) G := by
  rintro ts G q ⟨a, n, rfl, hL, hn, h⟩
  refine ⟨rfl, ?_⟩
  unfold t_law_walk
  refine seq_i fun nx1 q1 => ?_
  simp [seq3, asg3, gn3, ret3, retN3, ifS3, drop3, nev3, next3, v3, c3, o3, u3, neg3, L3.ixT, L3.ixR, cat3, iI, iC, iB, eqA3, scalT, isN3, tb3, and3, or3, not3, andV3, orV3, notV3, if3, ch3, cb3, cons3, nil3, isi3, tyT, subT, tup3, lst3, tsl3, np3, sp3, gtup3, gcons3, gnil3, gsub3, set3, par3, start3, bm3, app3, ext3, len3, abs3, min3, max3, int3, tuple3, list3, all3, any3, aug3, cut3, HT.sIx, in3, flatT, eqF, sizeLine_eq, List.getElem?_cons_zero, List.getElem?_cons_succ]
  refine pick_i hL (by omega) (by omega) (by omega) fun way G1 w0 w1 L1 E1 => ?_
  try simp
  rw [q1]
  clear q1
  refine seq_i fun nx2 q2 => ?_
  by_cases lt : way < 4
  · simp [lt, seq3, asg3, gn3, ret3, retN3, ifS3, drop3, nev3, next3, v3, c3, o3, u3, neg3, L3.ixT, L3.ixR, cat3, iI, iC, iB, eqA3, scalT, isN3, tb3, and3, or3, not3, andV3, orV3, notV3, if3, ch3, cb3, cons3, nil3, isi3, tyT, subT, tup3, lst3, tsl3, np3, sp3, gtup3, gcons3, gnil3, gsub3, set3, par3, start3, bm3, app3, ext3, len3, abs3, min3, max3, int3, tuple3, list3, all3, any3, aug3, cut3, HT.sIx, in3, flatT, eqF, sizeLine_eq, List.getElem?_cons_zero, List.getElem?_cons_succ]
    intro p hp
    have np := L1.ne hp
    have L3' := L1.new np (ob := .lst [.str "row", .str "column", .str "slant", .str "back"])
    obtain ⟨k, rfl⟩ := Int.eq_ofNat_of_zero_le w0
    have hk : k < 4 := by omega
    have e1 : L2.atI [T.str (Str.ofString "row"), .str (Str.ofString "column"), .str (Str.ofString "slant"), .str (Str.ofString "back")] (k : Int) = some (.str (lnName k)) := by
      rcases k with _ | _ | _ | _ | k
      · rfl
      · rfl
      · rfl
      · rfl
      · omega
    simp only [L3.ixR, getL_lst gu_same, e1]
    refine ⟨a, _, rfl, L3', by omega, fun m G2 m1 m2 L4 E4 => ?_⟩
    exact h (.line k m) _ ⟨hk, m1, m2⟩ (L4.mono (by omega)) (E1.trans ((ext_new hp).trans E4))
  simp only [ifS3, tb3, o3, v3, c3, iB, List.getElem?_cons_zero, List.getElem?_cons_succ, lt, decide_false, Bool.false_eq_true, if_false, next3]
  rw [q2]
  clear q2
  refine seq_i fun nx3 q3 => ?_
  by_cases lt6 : way < 6
  · simp only [ifS3, tb3, o3, v3, c3, iB, List.getElem?_cons_zero, List.getElem?_cons_succ, lt6, decide_true, if_true]
    refine seq_i fun nx4 q4 => ?_
    simp [seq3, asg3, gn3, ret3, retN3, ifS3, drop3, nev3, next3, v3, c3, o3, u3, neg3, L3.ixT, L3.ixR, cat3, iI, iC, iB, eqA3, scalT, isN3, tb3, and3, or3, not3, andV3, orV3, notV3, if3, ch3, cb3, cons3, nil3, isi3, tyT, subT, tup3, lst3, tsl3, np3, sp3, gtup3, gcons3, gnil3, gsub3, set3, par3, start3, bm3, app3, ext3, len3, abs3, min3, max3, int3, tuple3, list3, all3, any3, aug3, cut3, HT.sIx, in3, flatT, eqF, sizeLine_eq, List.getElem?_cons_zero, List.getElem?_cons_succ]
    refine pick_i L1 (by omega) (by omega) (by omega) fun ly G2 y0 y1 L2' E2 => ?_
    try simp
    refine pick_i L2' (by omega) (by omega) (by omega) fun hi G3 h0 h1 L3' E3 => ?_
    try simp
    rw [q4]
    clear q4
    obtain ⟨hh, rfl⟩ := Int.eq_ofNat_of_zero_le h0
    refine seq_i fun nx5 q5 => ?_
    simp [seq3, asg3, gn3, ret3, retN3, ifS3, drop3, nev3, next3, v3, c3, o3, u3, neg3, L3.ixT, L3.ixR, cat3, iI, iC, iB, eqA3, scalT, isN3, tb3, and3, or3, not3, andV3, orV3, notV3, if3, ch3, cb3, cons3, nil3, isi3, tyT, subT, tup3, lst3, tsl3, np3, sp3, gtup3, gcons3, gnil3, gsub3, set3, par3, start3, bm3, app3, ext3, len3, abs3, min3, max3, int3, tuple3, list3, all3, any3, aug3, cut3, HT.sIx, in3, flatT, eqF, sizeLine_eq, List.getElem?_cons_zero, List.getElem?_cons_succ]
    have dv : 1 ≤ (16 : Int) / (1 + (hh : Int)) ∧ (16 : Int) / (1 + (hh : Int)) ≤ 16 := by
      have : hh = 0 ∨ hh = 1 ∨ hh = 2 ∨ hh = 3 := by omega
      rcases this with rfl | rfl | rfl | rfl <;> decide
    refine ⟨⟨by omega, by omega⟩, pick_i L3' (by omega) (by omega) (by omega) fun wi G4 u0 u1 L4 E4 => ?_⟩
    try simp
    rw [q5]
    clear q5
    obtain ⟨ww, rfl⟩ := Int.eq_ofNat_of_zero_le u0
    have pr : (hh + 1) * (ww + 1) ≤ 16 := by
      have : hh = 0 ∨ hh = 1 ∨ hh = 2 ∨ hh = 3 := by omega
      rcases this with rfl | rfl | rfl | rfl <;> simp at u1 <;> omega
    simp [seq3, asg3, gn3, ret3, retN3, ifS3, drop3, nev3, next3, v3, c3, o3, u3, neg3, L3.ixT, L3.ixR, cat3, iI, iC, iB, eqA3, scalT, isN3, tb3, and3, or3, not3, andV3, orV3, notV3, if3, ch3, cb3, cons3, nil3, isi3, tyT, subT, tup3, lst3, tsl3, np3, sp3, gtup3, gcons3, gnil3, gsub3, set3, par3, start3, bm3, app3, ext3, len3, abs3, min3, max3, int3, tuple3, list3, all3, any3, aug3, cut3, HT.sIx, in3, flatT, eqF, sizeLine_eq, List.getElem?_cons_zero, List.getElem?_cons_succ]
    intro p hp
    have np := L4.ne hp
    have X4 := E1.trans (E2.trans (E3.trans E4))
    have z1 : (1 : Int) + (hh : Int) = ((hh + 1 : Nat) : Int) := by omega
    have z2 : (1 : Int) + (ww : Int) = ((ww + 1 : Nat) : Int) := by omega
    rw [z1, z2]
    have hl : ly = 0 ∨ ly = 1 := by omega
    rcases hl with rfl | rfl
    · simp only [L3.ixR, getL_lst gu_same, atI_0]
      exact h (.block (hh + 1) (ww + 1)) _ ⟨by omega, by omega, by omega, by omega, pr⟩ ((L4.new np).mono (by omega)) (X4.trans (ext_new hp))
    · simp only [L3.ixR, getL_lst gu_same, atI_1]
      exact h (.block (ww + 1) (hh + 1)) _ ⟨by omega, by omega, by omega, by omega, by rw [Nat.mul_comm]; exact pr⟩ ((L4.new np).mono (by omega)) (X4.trans (ext_new hp))
  simp only [ifS3, tb3, o3, v3, c3, iB, List.getElem?_cons_zero, List.getElem?_cons_succ, lt6, decide_false, Bool.false_eq_true, if_false, next3]
  rw [q3]
  clear q3
  refine seq_i fun nx4 q4 => ?_
  by_cases lt8 : way < 8
  · simp only [ifS3, tb3, o3, v3, c3, iB, List.getElem?_cons_zero, List.getElem?_cons_succ, lt8, decide_true, if_true]
    refine seq_i fun nx5 q5 => ?_
    simp [seq3, asg3, gn3, ret3, retN3, ifS3, drop3, nev3, next3, v3, c3, o3, u3, neg3, L3.ixT, L3.ixR, cat3, iI, iC, iB, eqA3, scalT, isN3, tb3, and3, or3, not3, andV3, orV3, notV3, if3, ch3, cb3, cons3, nil3, isi3, tyT, subT, tup3, lst3, tsl3, np3, sp3, gtup3, gcons3, gnil3, gsub3, set3, par3, start3, bm3, app3, ext3, len3, abs3, min3, max3, int3, tuple3, list3, all3, any3, aug3, cut3, HT.sIx, in3, flatT, eqF, sizeLine_eq, List.getElem?_cons_zero, List.getElem?_cons_succ]
    refine pick_i L1 (by omega) (by omega) (by omega) fun d G2 d0 d1 L2' E2 => ?_
    try simp
    refine pick_i L2' (by omega) (by omega) (by omega) fun al G3 a0 a1 L3' E3 => ?_
    try simp
    rw [q5]
    clear q5
    obtain ⟨D, hD⟩ : ∃ D, D = d - 3 := ⟨_, rfl⟩
    obtain ⟨A, hA⟩ : ∃ A, A = al - 4 := ⟨_, rfl⟩
    rw [← hD, ← hA]
    refine seq_i fun nx6 q6 => ?_
    simp [seq3, asg3, gn3, ret3, retN3, ifS3, drop3, nev3, next3, v3, c3, o3, u3, neg3, L3.ixT, L3.ixR, cat3, iI, iC, iB, eqA3, scalT, isN3, tb3, and3, or3, not3, andV3, orV3, notV3, if3, ch3, cb3, cons3, nil3, isi3, tyT, subT, tup3, lst3, tsl3, np3, sp3, gtup3, gcons3, gnil3, gsub3, set3, par3, start3, bm3, app3, ext3, len3, abs3, min3, max3, int3, tuple3, list3, all3, any3, aug3, cut3, HT.sIx, in3, flatT, eqF, sizeLine_eq, List.getElem?_cons_zero, List.getElem?_cons_succ]
    refine pick_i L3' (by omega) (by omega) (by omega) fun six G4 s0 s1 L4 E4 => ?_
    have X4 := E1.trans (E2.trans (E3.trans E4))
    by_cases k0 : six = 0
    · subst k0
      simp [seq3, asg3, gn3, ret3, retN3, ifS3, drop3, nev3, next3, v3, c3, o3, u3, neg3, L3.ixT, L3.ixR, cat3, iI, iC, iB, eqA3, scalT, isN3, tb3, and3, or3, not3, andV3, orV3, notV3, if3, ch3, cb3, cons3, nil3, isi3, tyT, subT, tup3, lst3, tsl3, np3, sp3, gtup3, gcons3, gnil3, gsub3, set3, par3, start3, bm3, app3, ext3, len3, abs3, min3, max3, int3, tuple3, list3, all3, any3, aug3, cut3, HT.sIx, in3, flatT, eqF, sizeLine_eq, List.getElem?_cons_zero, List.getElem?_cons_succ]
      refine ⟨cm (by omega) (by omega), cm (by omega) (by omega), ?_⟩
      have fin : ∀ e : Int, 0 ≤ e → e ≤ 1 → sp_law_pick [.ref a, .int 4] G4 fun x G' => (match T.int 1, x with | .int i, .int j => q (.tup [.str (Str.ofString "step"), .int (5 * D), .int (3 * A + e), .int (i + j)]) G' | _, _ => False) := by
        intro e e0 e1
        refine pick_i L4 (by omega) (by omega) (by omega) fun m G5 m0 m1 L5 E5 => ?_
        obtain ⟨m', rfl⟩ := Int.eq_ofNat_of_zero_le m0
        have := h (.step (5 * D) (3 * A + e) (m' + 1)) G5 ⟨⟨by omega, by omega⟩, ⟨by omega, by omega⟩, by omega, by omega⟩ (L5.mono (by omega)) (X4.trans E5)
        simp only [Wk.t] at this
        rw [show ((m' + 1 : Nat) : Int) = 1 + (m' : Int) by omega] at this
        exact this
      by_cases hD0 : D = 0
      · by_cases hA0 : A = 0
        · have := fin 1 (by omega) (by omega)
          simp [hD0, hA0, seq3, asg3, gn3, ret3, retN3, ifS3, drop3, nev3, next3, v3, c3, o3, u3, neg3, L3.ixT, L3.ixR, cat3, iI, iC, iB, eqA3, scalT, isN3, tb3, and3, or3, not3, andV3, orV3, notV3, if3, ch3, cb3, cons3, nil3, isi3, tyT, subT, tup3, lst3, tsl3, np3, sp3, gtup3, gcons3, gnil3, gsub3, set3, par3, start3, bm3, app3, ext3, len3, abs3, min3, max3, int3, tuple3, list3, all3, any3, aug3, cut3, HT.sIx, in3, flatT, eqF, sizeLine_eq, List.getElem?_cons_zero, List.getElem?_cons_succ] at this ⊢
          exact this
        · have := fin 0 (by omega) (by omega)
          simp [hD0, hA0, seq3, asg3, gn3, ret3, retN3, ifS3, drop3, nev3, next3, v3, c3, o3, u3, neg3, L3.ixT, L3.ixR, cat3, iI, iC, iB, eqA3, scalT, isN3, tb3, and3, or3, not3, andV3, orV3, notV3, if3, ch3, cb3, cons3, nil3, isi3, tyT, subT, tup3, lst3, tsl3, np3, sp3, gtup3, gcons3, gnil3, gsub3, set3, par3, start3, bm3, app3, ext3, len3, abs3, min3, max3, int3, tuple3, list3, all3, any3, aug3, cut3, HT.sIx, in3, flatT, eqF, sizeLine_eq, List.getElem?_cons_zero, List.getElem?_cons_succ] at this ⊢
          exact this
      · have := fin 0 (by omega) (by omega)
        simp [hD0, seq3, asg3, gn3, ret3, retN3, ifS3, drop3, nev3, next3, v3, c3, o3, u3, neg3, L3.ixT, L3.ixR, cat3, iI, iC, iB, eqA3, scalT, isN3, tb3, and3, or3, not3, andV3, orV3, notV3, if3, ch3, cb3, cons3, nil3, isi3, tyT, subT, tup3, lst3, tsl3, np3, sp3, gtup3, gcons3, gnil3, gsub3, set3, par3, start3, bm3, app3, ext3, len3, abs3, min3, max3, int3, tuple3, list3, all3, any3, aug3, cut3, HT.sIx, in3, flatT, eqF, sizeLine_eq, List.getElem?_cons_zero, List.getElem?_cons_succ] at this ⊢
        exact this
    · simp [k0]
      rw [q6]
      clear q6
      have fin : ∀ e : Int, 0 ≤ e → e ≤ 1 → sp_law_many [.ref a] G4 fun x G' => q (.tup [.str (Str.ofString "step"), .int D, .int (A + e), x]) G' := by
        intro e e0 e1
        refine ⟨a, _, rfl, L4, by omega, fun m G5 m0 m1 L5 E5 => ?_⟩
        exact h (.step D (A + e) m) G5 ⟨⟨by omega, by omega⟩, ⟨by omega, by omega⟩, by omega, by omega⟩ (L5.mono (by omega)) (X4.trans E5)
      by_cases hD0 : D = 0
      · by_cases hA0 : A = 0
        · have := fin 1 (by omega) (by omega)
          simp [hD0, hA0, seq3, asg3, gn3, ret3, retN3, ifS3, drop3, nev3, next3, v3, c3, o3, u3, neg3, L3.ixT, L3.ixR, cat3, iI, iC, iB, eqA3, scalT, isN3, tb3, and3, or3, not3, andV3, orV3, notV3, if3, ch3, cb3, cons3, nil3, isi3, tyT, subT, tup3, lst3, tsl3, np3, sp3, gtup3, gcons3, gnil3, gsub3, set3, par3, start3, bm3, app3, ext3, len3, abs3, min3, max3, int3, tuple3, list3, all3, any3, aug3, cut3, HT.sIx, in3, flatT, eqF, sizeLine_eq, List.getElem?_cons_zero, List.getElem?_cons_succ] at this ⊢
          exact this
        · have := fin 0 (by omega) (by omega)
          simp [hD0, hA0, seq3, asg3, gn3, ret3, retN3, ifS3, drop3, nev3, next3, v3, c3, o3, u3, neg3, L3.ixT, L3.ixR, cat3, iI, iC, iB, eqA3, scalT, isN3, tb3, and3, or3, not3, andV3, orV3, notV3, if3, ch3, cb3, cons3, nil3, isi3, tyT, subT, tup3, lst3, tsl3, np3, sp3, gtup3, gcons3, gnil3, gsub3, set3, par3, start3, bm3, app3, ext3, len3, abs3, min3, max3, int3, tuple3, list3, all3, any3, aug3, cut3, HT.sIx, in3, flatT, eqF, sizeLine_eq, List.getElem?_cons_zero, List.getElem?_cons_succ] at this ⊢
          exact this
      · have := fin 0 (by omega) (by omega)
        simp [hD0, seq3, asg3, gn3, ret3, retN3, ifS3, drop3, nev3, next3, v3, c3, o3, u3, neg3, L3.ixT, L3.ixR, cat3, iI, iC, iB, eqA3, scalT, isN3, tb3, and3, or3, not3, andV3, orV3, notV3, if3, ch3, cb3, cons3, nil3, isi3, tyT, subT, tup3, lst3, tsl3, np3, sp3, gtup3, gcons3, gnil3, gsub3, set3, par3, start3, bm3, app3, ext3, len3, abs3, min3, max3, int3, tuple3, list3, all3, any3, aug3, cut3, HT.sIx, in3, flatT, eqF, sizeLine_eq, List.getElem?_cons_zero, List.getElem?_cons_succ] at this ⊢
        exact this
  simp only [ifS3, tb3, o3, v3, c3, iB, List.getElem?_cons_zero, List.getElem?_cons_succ, lt8, decide_false, Bool.false_eq_true, if_false, next3]
  rw [q4]
  clear q4
  refine seq_i fun nx5 q5 => ?_
  simp [seq3, asg3, gn3, ret3, retN3, ifS3, drop3, nev3, next3, v3, c3, o3, u3, neg3, L3.ixT, L3.ixR, cat3, iI, iC, iB, eqA3, scalT, isN3, tb3, and3, or3, not3, andV3, orV3, notV3, if3, ch3, cb3, cons3, nil3, isi3, tyT, subT, tup3, lst3, tsl3, np3, sp3, gtup3, gcons3, gnil3, gsub3, set3, par3, start3, bm3, app3, ext3, len3, abs3, min3, max3, int3, tuple3, list3, all3, any3, aug3, cut3, HT.sIx, in3, flatT, eqF, sizeLine_eq, List.getElem?_cons_zero, List.getElem?_cons_succ]
  intro pp hpp
  have npp := L1.ne hpp
  have Lp := L1.new npp (ob := .lst [])
  refine pick_i Lp (by omega) (by omega) (by omega) fun fv G2 f0 f1 L2' E2 => ?_
  have gp2 := E2 _ _ npp gu_same
  have X2 : Ext a G G2 := E1.trans ((ext_new hpp).trans E2)
  have hf : ∃ far : Int, (far = 1 ∨ far = 5) ∧ nx5 = nx5 := ⟨1, .inl rfl, rfl⟩
  clear hf
  have fin : ∀ far : Int, far = 1 ∨ far = 5 → nx5 [some (.ref a), some (.int way), none, none, none, none, none, some (.ref pp), some (.int far), none, none] G2 := by
    intro far hfar
    rw [q5]
    clear q5
    refine seq_i fun nx6 q6 => ?_
    simp only [for3, irng3, cb3, cons3, nil3, v3, List.getElem?_cons_zero, List.getElem?_cons_succ]
    refine ⟨a, _, rfl, L2', by omega, fun m G3 m1 m2 L3' E3 => ?_⟩
    have gp3 := E3 _ _ npp gp2
    refine ⟨⟨by omega, by omega⟩, ?_⟩
    rw [Int.toNat_natCast]
    refine forGo_inv _ (fun i τ G' => ∃ ps : List (Int × Int), G' pp = some (.lst (ps.map pT)) ∧ (1 ≤ i → 1 ≤ ps.length) ∧ ps.length ≤ i ∧ ps.Nodup ∧ (∀ p ∈ ps, (-16 ≤ p.1 ∧ p.1 ≤ 16) ∧ (-16 ≤ p.2 ∧ p.2 ≤ 16)) ∧ Lf G' a (n + 5 + 2 * i) ∧ Ext a G G' ∧ ∃ x9 x10, τ = [some (.ref a), some (.int way), none, none, none, none, none, some (.ref pp), some (.int far), x9, x10])
      ⟨[], gp3, by omega, by simp, by simp, (by intro p hp; cases hp), by simpa using L3'.mono (by omega), X2.trans E3, none, none, rfl⟩ (fun _ _ _ _ _ => True.intro) ?_ ?_
    · rintro i z τ G' nx hz ⟨ps, gp, i1, pl, nd, bd, L, E, x9, x10, rfl⟩ hnx
      obtain ⟨hi, rfl⟩ := rng_get hz
      simp only [gn3, List.set_cons_succ, List.set_cons_zero]
      refine seq_i fun nx7 q7 => ?_
      simp [seq3, asg3, gn3, ret3, retN3, ifS3, drop3, nev3, next3, v3, c3, o3, u3, neg3, L3.ixT, L3.ixR, cat3, iI, iC, iB, eqA3, scalT, isN3, tb3, and3, or3, not3, andV3, orV3, notV3, if3, ch3, cb3, cons3, nil3, isi3, tyT, subT, tup3, lst3, tsl3, np3, sp3, gtup3, gcons3, gnil3, gsub3, set3, par3, start3, bm3, app3, ext3, len3, abs3, min3, max3, int3, tuple3, list3, all3, any3, aug3, cut3, HT.sIx, in3, flatT, eqF, sizeLine_eq, List.getElem?_cons_zero, List.getElem?_cons_succ]
      refine pick_i L (by omega) (by omega) (by omega) fun u G4 u0 u1 L4 E4 => ?_
      try simp
      refine ⟨cm (by omega) (by omega), pick_i L4 (by omega) (by omega) (by omega) fun v G5 v0 v1 L5 E5 => ?_⟩
      try simp
      refine ⟨cm (by omega) (by omega), ?_⟩
      rw [q7]
      clear q7
      have gp5 := E5 _ _ npp (E4 _ _ npp gp)
      have X5 := E.trans (E4.trans E5)
      have pe : T.tup [.int (far * (u - 2)), .int (far * (v - 2))] = pT (far * (u - 2), far * (v - 2)) := rfl
      rw [pe]
      have pb : (-16 ≤ far * (u - 2) ∧ far * (u - 2) ≤ 16) ∧ (-16 ≤ far * (v - 2) ∧ far * (v - 2) ≤ 16) := by rcases hfar with rfl | rfl <;> omega
      generalize hP : (far * (u - 2), far * (v - 2)) = P at *
      have pb' : (-16 ≤ P.1 ∧ P.1 ≤ 16) ∧ (-16 ≤ P.2 ∧ P.2 ≤ 16) := by rw [← hP]; exact pb
      simp only [ifS3, tb3, o3, v3, List.getElem?_cons_zero, List.getElem?_cons_succ]
      refine ⟨_, _, _, _, getL_lst gp5, pT_dp _ _, pTs_dp _ _, pIn _ _, fun d hd => ?_, ?_⟩
      · obtain ⟨p, _, rfl⟩ := List.mem_map.mp hd
        exact pD_dpt p
      · by_cases hm : P ∈ ps
        · simp [hm, seq3, asg3, gn3, ret3, retN3, ifS3, drop3, nev3, next3, v3, c3, o3, u3, neg3, L3.ixT, L3.ixR, cat3, iI, iC, iB, eqA3, scalT, isN3, tb3, and3, or3, not3, andV3, orV3, notV3, if3, ch3, cb3, cons3, nil3, isi3, tyT, subT, tup3, lst3, tsl3, np3, sp3, gtup3, gcons3, gnil3, gsub3, set3, par3, start3, bm3, app3, ext3, len3, abs3, min3, max3, int3, tuple3, list3, all3, any3, aug3, cut3, HT.sIx, in3, flatT, eqF, sizeLine_eq, List.getElem?_cons_zero, List.getElem?_cons_succ]
          exact hnx _ _ ⟨ps, gp5, fun _ => List.length_pos_of_mem hm, by omega, nd, bd, L5.mono (by omega), X5, _, _, rfl⟩
        · simp [hm, gp5, seq3, asg3, gn3, ret3, retN3, ifS3, drop3, nev3, next3, v3, c3, o3, u3, neg3, L3.ixT, L3.ixR, cat3, iI, iC, iB, eqA3, scalT, isN3, tb3, and3, or3, not3, andV3, orV3, notV3, if3, ch3, cb3, cons3, nil3, isi3, tyT, subT, tup3, lst3, tsl3, np3, sp3, gtup3, gcons3, gnil3, gsub3, set3, par3, start3, bm3, app3, ext3, len3, abs3, min3, max3, int3, tuple3, list3, all3, any3, aug3, cut3, HT.sIx, in3, flatT, eqF, sizeLine_eq, List.getElem?_cons_zero, List.getElem?_cons_succ]
          refine ⟨by rw [getL_lst gp5]; rfl, by omega, ?_⟩
          refine hnx _ _ ⟨ps ++ [P], by rw [gu_same]; simp, fun _ => by simp, by simp; omega, ?_, fun p hp => ?_, L5.new npp |>.mono (by omega), fun b o hb eb => ?_, _, _, rfl⟩
          · rw [List.nodup_append]
            exact ⟨nd, by simp, fun x hx y hy => by simp at hy; subst hy; rintro rfl; exact hm hx⟩
          · rcases List.mem_append.mp hp with hp | hp
            · exact bd p hp
            · simp at hp; subst hp; exact pb'
          · have : b ≠ pp := by
              rintro rfl
              have := E1 _ _ hb eb
              rw [hpp] at this; cases this
            rw [gu_ne this]
            exact X5 _ _ hb eb
    · rintro τ G' ⟨ps, gp, i1, pl, nd, bd, L, E, x9, x10, rfl⟩
      rw [rng_len] at i1 pl L
      show nx6 _ _
      rw [q6]
      simp [getL_lst gp, seq3, asg3, gn3, ret3, retN3, ifS3, drop3, nev3, next3, v3, c3, o3, u3, neg3, L3.ixT, L3.ixR, cat3, iI, iC, iB, eqA3, scalT, isN3, tb3, and3, or3, not3, andV3, orV3, notV3, if3, ch3, cb3, cons3, nil3, isi3, tyT, subT, tup3, lst3, tsl3, np3, sp3, gtup3, gcons3, gnil3, gsub3, set3, par3, start3, bm3, app3, ext3, len3, abs3, min3, max3, int3, tuple3, list3, all3, any3, aug3, cut3, HT.sIx, in3, flatT, eqF, sizeLine_eq, List.getElem?_cons_zero, List.getElem?_cons_succ]
      exact h (.cells ps) G' ⟨i1 m1, by omega, nd, bd⟩ (L.mono (by omega)) E
  by_cases k0 : fv = 0
  · have := fin 5 (.inr rfl)
    simp [k0, seq3, asg3, gn3, ret3, retN3, ifS3, drop3, nev3, next3, v3, c3, o3, u3, neg3, L3.ixT, L3.ixR, cat3, iI, iC, iB, eqA3, scalT, isN3, tb3, and3, or3, not3, andV3, orV3, notV3, if3, ch3, cb3, cons3, nil3, isi3, tyT, subT, tup3, lst3, tsl3, np3, sp3, gtup3, gcons3, gnil3, gsub3, set3, par3, start3, bm3, app3, ext3, len3, abs3, min3, max3, int3, tuple3, list3, all3, any3, aug3, cut3, HT.sIx, in3, flatT, eqF, sizeLine_eq, List.getElem?_cons_zero, List.getElem?_cons_succ]
    exact ⟨cm (by omega) (by omega), this⟩
  · have := fin 1 (.inl rfl)
    simp [k0, seq3, asg3, gn3, ret3, retN3, ifS3, drop3, nev3, next3, v3, c3, o3, u3, neg3, L3.ixT, L3.ixR, cat3, iI, iC, iB, eqA3, scalT, isN3, tb3, and3, or3, not3, andV3, orV3, notV3, if3, ch3, cb3, cons3, nil3, isi3, tyT, subT, tup3, lst3, tsl3, np3, sp3, gtup3, gcons3, gnil3, gsub3, set3, par3, start3, bm3, app3, ext3, len3, abs3, min3, max3, int3, tuple3, list3, all3, any3, aug3, cut3, HT.sIx, in3, flatT, eqF, sizeLine_eq, List.getElem?_cons_zero, List.getElem?_cons_succ]
    exact ⟨cm (by omega) (by omega), this⟩
end Bk
set_option Elab.async false
set_option linter.all false
set_option maxRecDepth 100000
set_option maxHeartbeats 4000000
namespace Bk
open PySem L2 L3
def sp_law_cells : Sp3 := fun ts G q => ∃ w : Wk, ts = [w.t] ∧ w.Ok ∧ ∀ p G', Ex G G' → G p = none → G' p = some (.lst w.cT) → q (.ref p) G'
theorem lc_row {i w : Nat} {G : Gp} {q : Q3} (hw : w ≤ 1000) (h : ∀ p, G p = none → q (.ref p) (gu G p (.lst (((List.range w).map fun (j : Nat) => ((i : Int), (j : Int))).map pT)))) :
    lcGo (fun _ => True) (gn3 0) tt3 (tup3 (cons3 (v3 1) (cons3 (v3 0) nil3))) q (rngT 0 w) [] [none, some (.int i)] G := by
  refine lcGo_map (fun t => T.tup [.int (i : Int), t]) (fun τ => ∃ x0, τ = [x0, some (.int (i : Int))]) True.intro _ _ _ ⟨none, rfl⟩ ?_ (by simp [rngT, sizeLine_eq]; omega) ?_
  · rintro z hz τ ⟨x0, rfl⟩ K hK
    simp [seq3, asg3, gn3, ret3, retN3, ifS3, drop3, nev3, next3, v3, c3, o3, u3, neg3, L3.ixT, L3.ixR, cat3, iI, iC, iB, eqA3, scalT, isN3, tb3, and3, or3, not3, andV3, orV3, notV3, if3, ch3, cb3, cons3, nil3, isi3, tyT, subT, tup3, lst3, tsl3, np3, sp3, gtup3, gcons3, gnil3, gsub3, set3, par3, start3, bm3, app3, ext3, len3, abs3, min3, max3, int3, tuple3, list3, all3, any3, aug3, cut3, HT.sIx, in3, flatT, eqF, sizeLine_eq, List.getElem?_cons_zero, List.getElem?_cons_succ]
    exact hK _ ⟨_, rfl⟩
  · intro p hp
    have := h p hp
    simpa [pT, rngT, List.map_map, Function.comp_def] using this
theorem law_stride {k : Nat} (hk : k < 4) {x : T} : tabGet (([("row" : Str), "column", "slant", "back", "step"]).zip [T.tup [.int 0, .int 1], .tup [.int 1, .int 0], .tup [.int 1, .int 1], .tup [.int 1, .int (-1)], x]) (lnName k) = some (.tup [.int (lnD k), .int (lnA k)]) := by
  rcases k with _ | _ | _ | _ | k
  · rfl
  · rfl
  · rfl
  · rfl
  · omega
theorem rd_law_cells : ∀ ts G q, sp_law_cells ts G q → ts.length = 1 ∧ t_law_cells (ends q) (start3 ["_law_walk_here", "_law_found", "_law_p", "_law_down", "_law_along"] ts) G := by
  rintro ts G q ⟨w, rfl, ok, h⟩
  refine ⟨rfl, ?_⟩
  unfold t_law_cells
  cases w with
  | cells ps =>
    show seq3 _ _ _ [some (.tup [.str "cells", .tup (ps.map pT)]), none, none, none, none] G
    rw [if_str0 rfl, if_pos rfl]
    simp only [ret3, cb3, cons3, nil3, o3, v3, c3, L3.ixT, atI_1, list3, List.getElem?_cons_zero]
    intro p hp
    exact h p _ (ex_new hp) hp gu_same
  | block v w =>
    obtain ⟨h1, h2, h3, h4, h5⟩ := ok
    show seq3 _ _ _ [some (.tup [.str "block", .int v, .int w]), none, none, none, none] G
    rw [if_str0 rfl, if_neg (by decide), if_str0 rfl, if_pos rfl]
    refine seq_i fun nx1 q1 => ?_
    simp [seq3, asg3, gn3, ret3, retN3, ifS3, drop3, nev3, next3, v3, c3, o3, u3, neg3, L3.ixT, L3.ixR, cat3, iI, iC, iB, eqA3, scalT, isN3, tb3, and3, or3, not3, andV3, orV3, notV3, if3, ch3, cb3, cons3, nil3, isi3, tyT, subT, tup3, lst3, tsl3, np3, sp3, gtup3, gcons3, gnil3, gsub3, set3, par3, start3, bm3, app3, ext3, len3, abs3, min3, max3, int3, tuple3, list3, all3, any3, aug3, cut3, HT.sIx, in3, flatT, eqF, sizeLine_eq, List.getElem?_cons_zero, List.getElem?_cons_succ]
    intro p hp
    rw [q1]
    clear q1
    refine seq_i fun nx2 q2 => ?_
    simp only [for3, irng3, cons3, nil3, o3, v3, c3, L3.ixT, atI_1, List.getElem?_cons_zero]
    refine ⟨⟨by omega, by omega⟩, ?_⟩
    rw [Int.toNat_natCast]
    refine forGo_inv _ (fun i τ G' => Ex G G' ∧ G' p = some (.lst ((blockC i w).map pT)) ∧ ∃ x2, τ = [some (.tup [.str "block", .int v, .int w]), some (.ref p), x2, none, none]) ⟨ex_new hp, by rw [gu_same]; rfl, none, rfl⟩ (fun _ _ _ _ _ => True.intro) ?_ ?_
    · rintro i z τ G' nx hz ⟨E, gp, x2, rfl⟩ hnx
      obtain ⟨hi, rfl⟩ := rng_get hz
      have hb : i * w ≤ 16 * 16 := Nat.mul_le_mul (by omega) h4
      simp only [gn3, List.set_cons_succ, List.set_cons_zero, drop3, bm3, v3, cons3, nil3, lc3, irng3, o3, c3, L3.ixT, atI_2, cap, List.getElem?_cons_zero, List.getElem?_cons_succ]
      refine ⟨by rw [getL_lst gp]; rfl, ⟨by omega, by omega⟩, ?_⟩
      rw [Int.toNat_natCast, show (0 : Int) + (i : Int) = (i : Int) by omega]
      refine lc_row (by omega) fun p2 hp2 => ?_
      have hne : p ≠ p2 := by rintro rfl; rw [gp] at hp2; cases hp2
      simp only [ext3, gu_ne hne, gp, gu_same]
      refine ⟨by simp [block_len, sizeLine_eq]; omega, hnx _ _ ⟨fun b o hb' => ?_, ?_, _, rfl⟩⟩
      · have n1 : b ≠ p := by rintro rfl; rw [hp] at hb'; cases hb'
        have n2 : b ≠ p2 := by rintro rfl; rw [E _ _ hb'] at hp2; cases hp2
        rw [gu_ne n1, gu_ne n2]
        exact E _ _ hb'
      · rw [gu_same, block_succ, List.map_append]
    · rintro τ G' ⟨E, gp, x2, rfl⟩
      rw [rng_len] at gp
      show nx2 _ _
      rw [q2]
      exact h p G' E hp gp
  | step d a m =>
    obtain ⟨k1, k2, k3, k4⟩ := ok
    show seq3 _ _ _ [some (.tup [.str "step", .int d, .int a, .int m]), none, none, none, none] G
    rw [if_str0 rfl, if_neg (by decide), if_str0 rfl, if_neg (by decide)]
    refine seq_i fun nx1 q1 => ?_
    have tg : tabGet (([("row" : Str), "column", "slant", "back", "step"]).zip [T.tup [.int 0, .int 1], .tup [.int 1, .int 0], .tup [.int 1, .int 1], .tup [.int 1, .int (-1)], .tup [.int d, .int a]]) (Str.ofString "step") = some (.tup [.int d, .int a]) := rfl
    have sl : sl3 (.tup [.str "step", .int d, .int a, .int m]) (some 1) (some 3) G = fun q => q (.tup [.int d, .int a]) G := by
      funext q; simp [sl3, HT.sIx, L3.cut3]
    have s2 : ∀ x y : T, [x, y].length ≤ sizeLine := fun x y => by simp [sizeLine_eq]
    simp only [asg3, dsub3, cons3, nil3, tup3, c3, u3, neg3, tsl3, sp3, o3, v3, L3.ixT, atI_0, List.getElem?_cons_zero, sl]
    refine ⟨s2 _ _, s2 _ _, s2 _ _, s2 _ _, ?_⟩
    simp only [tg]
    simp [gtup3, gcons3, gnil3, gn3]
    rw [q1]
    have am : L2.atI [T.str (Str.ofString "step"), .int d, .int a, .int m] (-1) = some (.int (m : Int)) := rfl
    simp only [ret3, lc3, irng3, cons3, nil3, o3, v3, c3, u3, neg3, L3.ixT, am, cap, List.getElem?_cons_zero]
    refine ⟨⟨by omega, by omega⟩, ?_⟩
    rw [Int.toNat_natCast]
    exact lc_along (by omega) (by omega) (by omega) fun p hp => h p _ (ex_new hp) hp gu_same
  | line k m =>
    obtain ⟨hk, k3, k4⟩ := ok
    have hn : lnName k ≠ Str.ofString "cells" ∧ lnName k ≠ Str.ofString "block" := by
      rcases k with _ | _ | _ | _ | k
      · decide
      · decide
      · decide
      · decide
      · omega
    have bd : (-1000 ≤ lnD k ∧ lnD k ≤ 1000) ∧ (-1000 ≤ lnA k ∧ lnA k ≤ 1000) := by
      rcases k with _ | _ | _ | _ | k
      · decide
      · decide
      · decide
      · decide
      · omega
    show seq3 _ _ _ [some (.tup [.str (lnName k), .int m]), none, none, none, none] G
    rw [if_str0 rfl, if_neg hn.1, if_str0 rfl, if_neg hn.2]
    refine seq_i fun nx1 q1 => ?_
    have sl : sl3 (.tup [.str (lnName k), .int m]) (some 1) (some 3) G = fun q => q (.tup [.int m]) G := by
      funext q; simp [sl3, HT.sIx, L3.cut3]
    have s2 : ∀ x y : T, [x, y].length ≤ sizeLine := fun x y => by simp [sizeLine_eq]
    simp only [asg3, dsub3, cons3, nil3, tup3, c3, u3, neg3, tsl3, sp3, o3, v3, L3.ixT, atI_0, List.getElem?_cons_zero, sl]
    refine ⟨s2 _ _, s2 _ _, s2 _ _, s2 _ _, ?_⟩
    have tg := law_stride hk (x := .tup [.int m])
    simp only [tg]
    simp [gtup3, gcons3, gnil3, gn3]
    rw [q1]
    have am : L2.atI [T.str (lnName k), .int m] (-1) = some (.int (m : Int)) := rfl
    simp only [ret3, lc3, irng3, cons3, nil3, o3, v3, c3, u3, neg3, L3.ixT, am, cap, List.getElem?_cons_zero]
    refine ⟨⟨by omega, by omega⟩, ?_⟩
    rw [Int.toNat_natCast]
    exact lc_along bd.1 bd.2 (by omega) fun p hp => h p _ (ex_new hp) hp gu_same
end Bk
set_option Elab.async false
set_option linter.all false
set_option maxRecDepth 100000
set_option maxHeartbeats 4000000
namespace Bk
open PySem L2 L3
def lmin : List Int → Int
  | [] => 0
  | [x] => x
  | x :: y :: r => min x (lmin (y :: r))
def lmax : List Int → Int
  | [] => 0
  | [x] => x
  | x :: y :: r => max x (lmax (y :: r))
theorem lmin_spec : ∀ {ns : List Int}, ns ≠ [] → lmin ns ∈ ns ∧ ∀ a ∈ ns, lmin ns ≤ a
  | [], h => absurd rfl h
  | [x], _ => by simp [lmin]
  | x :: y :: r, _ => by
    obtain ⟨h1, h2⟩ := lmin_spec (ns := y :: r) (by simp)
    simp only [lmin]
    constructor
    · rcases Int.le_total x (lmin (y :: r)) with z | z
      · rw [Int.min_eq_left z]; simp
      · rw [Int.min_eq_right z]; exact List.mem_cons_of_mem _ h1
    · intro a ha
      rcases List.mem_cons.mp ha with rfl | ha
      · exact Int.min_le_left _ _
      · exact Int.le_trans (Int.min_le_right _ _) (h2 a ha)
theorem lmax_spec : ∀ {ns : List Int}, ns ≠ [] → lmax ns ∈ ns ∧ ∀ a ∈ ns, a ≤ lmax ns
  | [], h => absurd rfl h
  | [x], _ => by simp [lmax]
  | x :: y :: r, _ => by
    obtain ⟨h1, h2⟩ := lmax_spec (ns := y :: r) (by simp)
    simp only [lmax]
    constructor
    · rcases Int.le_total x (lmax (y :: r)) with z | z
      · rw [Int.max_eq_right z]; exact List.mem_cons_of_mem _ h1
      · rw [Int.max_eq_left z]; simp
    · intro a ha
      rcases List.mem_cons.mp ha with rfl | ha
      · exact Int.le_max_left _ _
      · exact Int.le_trans (h2 a ha) (Int.le_max_right _ _)
def dn (cs : List (Int × Int)) : List Int := cs.map (·.1)
def al (cs : List (Int × Int)) : List Int := cs.map (·.2)
def n1 (R : Int) (cs : List (Int × Int)) : Nat := (R - lmax (dn cs) - -lmin (dn cs)).toNat
def n2 (C : Int) (cs : List (Int × Int)) : Nat := (C - lmax (al cs) - -lmin (al cs)).toNat
def CsOk (cs : List (Int × Int)) : Prop := cs ≠ [] ∧ cs.length ≤ 16 ∧ ∀ p ∈ cs, (-1000 ≤ p.1 ∧ p.1 ≤ 1000) ∧ (-1000 ≤ p.2 ∧ p.2 ≤ 1000)
structure MM (cs : List (Int × Int)) : Prop where
  a1 : -1000 ≤ lmin (dn cs)
  a2 : lmin (dn cs) ≤ 1000
  a3 : -1000 ≤ lmax (dn cs)
  a4 : lmax (dn cs) ≤ 1000
  b1 : -1000 ≤ lmin (al cs)
  b2 : lmin (al cs) ≤ 1000
  b3 : -1000 ≤ lmax (al cs)
  b4 : lmax (al cs) ≤ 1000
  n1 : dn cs ≠ []
  n2 : al cs ≠ []
theorem CsOk.mm {cs : List (Int × Int)} (ok : CsOk cs) : MM cs := by
  obtain ⟨ne, _, bd⟩ := ok
  have d1 : dn cs ≠ [] := by simpa [dn] using ne
  have d2 : al cs ≠ [] := by simpa [al] using ne
  have e1 : ∀ x ∈ dn cs, -1000 ≤ x ∧ x ≤ 1000 := fun x hx => by obtain ⟨p, hp, rfl⟩ := List.mem_map.mp hx; exact (bd p hp).1
  have e2 : ∀ x ∈ al cs, -1000 ≤ x ∧ x ≤ 1000 := fun x hx => by obtain ⟨p, hp, rfl⟩ := List.mem_map.mp hx; exact (bd p hp).2
  have h1 := e1 _ (lmin_spec d1).1; have h2 := e1 _ (lmax_spec d1).1; have h3 := e2 _ (lmin_spec d2).1; have h4 := e2 _ (lmax_spec d2).1
  exact ⟨h1.1, h1.2, h2.1, h2.2, h3.1, h3.2, h4.1, h4.2, d1, d2⟩
end Bk
set_option Elab.async false
set_option linter.all false
set_option maxRecDepth 100000
set_option maxHeartbeats 4000000
namespace Bk
open PySem L2 L3
end Bk
set_option Elab.async false
set_option linter.all false
set_option maxRecDepth 100000
set_option maxHeartbeats 4000000
namespace Bk
open PySem L2 L3
structure St (d : Dl) (w : Wk) (s : Int × Int) : Prop where
  ok : d.Ok
  wok : w.Ok
  inn : ∀ p ∈ w.pc, Inn d (s.1 + p.1) (s.2 + p.2)
end Bk
set_option Elab.async false
set_option linter.all false
set_option maxRecDepth 100000
set_option maxHeartbeats 4000000
namespace Bk
open PySem L2 L3
theorem len_seq {G : Gp} {x : T} {us : List T} {q : Q3} (h : seqOf G x = some us) : len3 [x] G q = q (.int us.length) G := by
  cases x with
  | tup xs => simp [seqOf] at h; subst h; rfl
  | ref p => simp [seqOf] at h; simp [len3, h]
  | _ => simp [seqOf] at h
theorem ix_seq {G : Gp} {x : T} {us : List T} {i : Int} {z : T} {q : Q3} (h : seqOf G x = some us) (hz : L2.atI us i = some z) : ix3 x (.int i) G q = q z G := by
  cases x with
  | tup xs => simp [seqOf] at h; subst h; rw [L3.ixT, hz]
  | ref p => simp [seqOf] at h; rw [L3.ixR, h]; simp only [hz]
  | _ => simp [seqOf] at h
def Un2 (ns : List Int) (i : Nat) : Prop := ∀ a b, a < i → a < b → b < ns.length → ns[a]? ≠ ns[b]?
structure Fst (ns : List Int) (i j : Nat) : Prop where
  ij : i < j
  jl : j < ns.length
  un : Un2 ns i
  nb : ∀ b, i < b → b < j → ns[i]? ≠ ns[b]?
  eq : ns[i]? = ns[j]?
theorem Fst.uniq {ns : List Int} {i j i' j' : Nat} (F : Fst ns i j) (F' : Fst ns i' j') : i = i' ∧ j = j' := by
  have e : i = i' := by
    rcases Nat.lt_trichotomy i i' with z | z | z
    · exact absurd F.eq (F'.un i j z F.ij F.jl)
    · exact z
    · exact absurd F'.eq (F.un i' j' z F'.ij F'.jl)
  subst e
  refine ⟨rfl, ?_⟩
  rcases Nat.lt_trichotomy j j' with z | z | z
  · exact absurd F.eq (F'.nb j F.ij z)
  · exact z
  · exact absurd F'.eq (F.nb j' F'.ij z)
open Classical in
noncomputable def faO (ns : List Int) : Option (Nat × Nat) := if h : ∃ ij : Nat × Nat, Fst ns ij.1 ij.2 then some h.choose else none
theorem faO_some {ns : List Int} {i j : Nat} (F : Fst ns i j) : faO ns = some (i, j) := by
  have h : ∃ ij : Nat × Nat, Fst ns ij.1 ij.2 := ⟨(i, j), F⟩
  unfold faO
  rw [dif_pos h]
  have := h.choose_spec
  obtain ⟨e1, e2⟩ := this.uniq F
  exact congrArg some (Prod.ext e1 e2)
theorem faO_none {ns : List Int} (h : Un2 ns ns.length) : faO ns = none := by
  unfold faO
  rw [dif_neg]
  rintro ⟨ij, F⟩
  exact h ij.1 ij.2 (Nat.lt_trans F.ij F.jl) F.ij F.jl F.eq
def sp_first_alike : Sp3 := fun ts G q => ∃ (x : T) (ns : List Int), ts = [x] ∧ seqOf G x = some (ns.map T.int) ∧ ns.length ≤ 1000000 ∧ (Un2 ns ns.length → q .non G) ∧ (∀ i j : Nat, Fst ns i j → q (.tup [.int i, .int j]) G)
theorem rd_first_alike : ∀ ts G q, sp_first_alike ts G q → ts.length = 1 ∧ t_first_alike (ends q) (start3 ["things", "k", "l"] ts) G := by
  rintro ts G q ⟨x, ns, rfl, hx, hl, h1, h2⟩
  refine ⟨rfl, ?_⟩
  have lm : (ns.map T.int).length = ns.length := List.length_map _
  unfold t_first_alike
  refine seq_i fun nx0 q0 => ?_
  simp only [for3, irng3, cons3, nil3, cb3, v3, start3, List.map, List.length, List.cons_append, List.getElem?_cons_zero, len_seq hx, lm]
  refine ⟨⟨by omega, by omega⟩, ?_⟩
  rw [Int.toNat_natCast]
  refine forGo_inv _ (fun i τ G' => G' = G ∧ Un2 ns i ∧ ∃ x1 x2, τ = [some x, x1, x2]) ⟨rfl, fun a b ha => by omega, none, none, rfl⟩ (fun _ _ _ _ _ => True.intro) ?_ ?_
  · rintro i z τ G' nx hz ⟨rfl, hu, x1, x2, rfl⟩ hn
    obtain ⟨hi, rfl⟩ := rng_get hz
    simp only [gn3, for3, irng3, List.set_cons_succ, List.set_cons_zero, cons3, nil3, c3, v3, o3, cb3, cat3, List.getElem?_cons_zero, List.getElem?_cons_succ, len_seq hx, lm]
    refine ⟨⟨by omega, by omega⟩, ?_⟩
    rw [show ((ns.length : Int) - (0 + (i : Int) + 1)).toNat = ns.length - (i + 1) by omega]
    refine forGo_inv _ (fun j τ G'' => G'' = G' ∧ (∀ b, i < b → b < i + 1 + j → b < ns.length → ns[i]? ≠ ns[b]?) ∧ ∃ x2, τ = [some x, some (.int (0 + (i : Int))), x2]) ⟨rfl, fun b hb hb2 => by omega, x2, rfl⟩ (fun _ _ _ _ _ => True.intro) ?_ ?_
    · rintro j z τ G'' nx2 hz ⟨rfl, hv, x2, rfl⟩ hn2
      obtain ⟨hj, rfl⟩ := rng_get hz
      have hij : i + 1 + j < ns.length := by omega
      have ga : L2.atI (ns.map T.int) (0 + (i : Int)) = some (T.int ns[i]) := by
        rw [atI_nat' (by omega) (by simp; omega), show ((0 : Int) + (i : Int)).toNat = i by omega]; simp [hi]
      have gb : L2.atI (ns.map T.int) (0 + (i : Int) + 1 + (j : Int)) = some (T.int ns[i + 1 + j]) := by
        rw [atI_nat' (by omega) (by simp; omega), show ((0 : Int) + (i : Int) + 1 + (j : Int)).toNat = i + 1 + j by omega]; simp [hij]
      simp only [gn3, List.set_cons_succ, List.set_cons_zero, ifS3, tb3, o3, v3, List.getElem?_cons_zero, List.getElem?_cons_succ, ix_seq hx ga, ix_seq hx gb, eqA3, scalT]
      by_cases e : ns[i] = ns[i + 1 + j]
      · have := h2 i (i + 1 + j) ⟨by omega, hij, hu, fun b hb hb2 => hv b hb (by omega) (by omega), by simp [hi, hij, e]⟩
        simp [e, seq3, asg3, gn3, ret3, retN3, ifS3, drop3, nev3, next3, v3, c3, o3, u3, neg3, L3.ixT, L3.ixR, cat3, iI, iC, iB, eqA3, scalT, isN3, tb3, and3, or3, not3, andV3, orV3, notV3, if3, ch3, cb3, cons3, nil3, isi3, tyT, subT, tup3, lst3, tsl3, np3, sp3, gtup3, gcons3, gnil3, gsub3, set3, par3, start3, bm3, app3, ext3, len3, abs3, min3, max3, int3, tuple3, list3, all3, any3, aug3, cut3, HT.sIx, in3, flatT, eqF, sizeLine_eq, List.getElem?_cons_zero, List.getElem?_cons_succ]
        simpa [Int.natCast_add] using this
      · simp [e, seq3, asg3, gn3, ret3, retN3, ifS3, drop3, nev3, next3, v3, c3, o3, u3, neg3, L3.ixT, L3.ixR, cat3, iI, iC, iB, eqA3, scalT, isN3, tb3, and3, or3, not3, andV3, orV3, notV3, if3, ch3, cb3, cons3, nil3, isi3, tyT, subT, tup3, lst3, tsl3, np3, sp3, gtup3, gcons3, gnil3, gsub3, set3, par3, start3, bm3, app3, ext3, len3, abs3, min3, max3, int3, tuple3, list3, all3, any3, aug3, cut3, HT.sIx, in3, flatT, eqF, sizeLine_eq, List.getElem?_cons_zero, List.getElem?_cons_succ]
        refine hn2 _ _ ⟨rfl, fun b hb hb2 hb3 => ?_, _, by simp; rfl⟩
        by_cases eb : b = i + 1 + j
        · subst eb; simp [hi, hij, e]
        · exact hv b hb (by omega) hb3
    · rintro τ G'' ⟨rfl, hv, x2, rfl⟩
      refine hn _ _ ⟨rfl, fun a b ha hab hb => ?_, _, _, rfl⟩
      rw [rng_len] at hv
      by_cases e : a = i
      · subst e; exact hv b hab (by omega) hb
      · exact hu a b (by omega) hab hb
  · rintro τ G' ⟨rfl, hu, x1, x2, rfl⟩
    rw [rng_len] at hu
    show nx0 _ _
    rw [q0]
    exact h1 hu
theorem find_at {α β : Type} {f : α → Option β} {xs : List α} {i : Nat} {x : α} {b : β} (hx : xs[i]? = some x) (hf : f x = some b) (hb : ∀ j y, j < i → xs[j]? = some y → f y = none) : xs.findSome? f = some b := by
  induction xs generalizing i with
  | nil => simp at hx
  | cons z zs ih =>
    cases i with
    | zero => simp at hx; subst hx; simp [hf]
    | succ i =>
      have := hb 0 z (by omega) (by simp)
      simp only [List.findSome?_cons, this]
      exact ih (by simpa using hx) fun j y hj hy => hb (j + 1) y (by omega) (by simpa using hy)
theorem find_end {α β : Type} {f : α → Option β} {xs : List α} (hb : ∀ j y, j < xs.length → xs[j]? = some y → f y = none) : xs.findSome? f = none := by
  rw [List.findSome?_eq_none_iff]
  intro x hx
  obtain ⟨j, hj, e⟩ := List.mem_iff_getElem.mp hx
  exact hb j x hj (by rw [List.getElem?_eq_getElem hj, e])
end Bk
set_option Elab.async false
set_option linter.all false
set_option maxRecDepth 100000
set_option maxHeartbeats 4000000
namespace Bk
open PySem L2 L3
def t_rests_by (S_cells_of : Sp3) : TS3 := (seq3 (asg3 (v3 1) (gtup3 2 (gcons3 (gn3 3) (gcons3 (gn3 4) gnil3)))) (ret3 (cb3 tuple3 (cons3 (lc3 (iseq3 (cb3 S_cells_of (cons3 (v3 2) nil3))) (gtup3 2 (gcons3 (gn3 0) (gcons3 (gn3 1) gnil3))) tt3 (o3 (iC (fun _ j => 0 < j) (· % ·)) (o3 cat3 (o3 (iC CMul (· * ·)) (v3 3) (v3 0)) (o3 (iC CMul (· * ·)) (v3 4) (v3 1))) (v3 2)) [none, none, some 0, some 3, some 4]) nil3))))
def t_all_factors : TS3 := (ret3 (lc23 (irng3 (cons3 (v3 0) nil3)) (gn3 0) tt3 (irng3 (cons3 (v3 2) nil3)) (gn3 1) tt3 (tup3 (cons3 (v3 0) (cons3 (v3 1) nil3))) [none, none, some 0]))
def t_first_bar (S_rests_by : Sp3) (S_first_alike : Sp3) : TS3 := (seq3 (for3 (ienum3 (cons3 (v3 2) nil3)) (gtup3 2 (gcons3 (gn3 3) (gcons3 (gn3 4) gnil3))) (seq3 (asg3 (cb3 S_first_alike (cons3 (cb3 S_rests_by (cons3 (v3 0) (cons3 (v3 1) (cons3 (v3 4) nil3)))) nil3)) (gn3 5)) (ifS3 (tb3 (o3 (isN3 true) (v3 5) (c3 .non))) (ret3 (tup3 (cons3 (v3 3) (cons3 (o3 ix3 (v3 5) (c3 (.int 0))) (cons3 (o3 ix3 (v3 5) (c3 (.int 1))) nil3))))) next3))) (ret3 (c3 .non)))
def t_skew_for (S_all_factors : Sp3) (S_first_bar : Sp3) : TS3 := (seq3 (asg3 (lst3 nil3) (gn3 2)) (seq3 (for3 (iseq3 (cb3 S_all_factors (cons3 (v3 0) nil3))) (gn3 3) (seq3 (asg3 (cb3 S_first_bar (cons3 (v3 0) (cons3 (v3 3) (cons3 (v3 1) nil3)))) (gn3 4)) (seq3 (ifS3 (tb3 (o3 (isN3 false) (v3 4) (c3 .non))) (ret3 (tup3 (cons3 (c3 (.str "skew")) (cons3 (o3 ix3 (v3 3) (c3 (.int 0))) (cons3 (o3 ix3 (v3 3) (c3 (.int 1))) nil3))))) next3) (drop3 (bm3 app3 (v3 2) (cons3 (v3 4) nil3)))))) (ret3 (tup3 (cons3 (c3 (.str "none")) (cons3 (v3 2) nil3))))))
def t_law_rests_at : TS3 := (ret3 (lc3 (iseq3 (v3 0)) (gtup3 2 (gcons3 (gn3 0) (gcons3 (gn3 1) gnil3))) tt3 (o3 (iC (fun _ j => 0 < j) (· % ·)) (o3 cat3 (o3 (iC CMul (· * ·)) (v3 3) (v3 0)) (o3 (iC CMul (· * ·)) (v3 4) (v3 1))) (v3 2)) [none, none, some 1, some 2, some 3]))
def t_law_alike (S_law_rests_at : Sp3) : TS3 := (seq3 (asg3 (cb3 S_law_rests_at (cons3 (v3 0) (cons3 (v3 1) (cons3 (v3 2) (cons3 (v3 3) nil3))))) (gn3 4)) (seq3 (ifS3 (tb3 (o3 (eqA3 false) (lset3 (v3 4)) (cb3 len3 (cons3 (v3 4) nil3)))) (ret3 (c3 .non)) next3) (seq3 (asg3 (lc3 (irng3 (cons3 (cb3 len3 (cons3 (v3 4) nil3)) nil3)) (gn3 0) (tb3 (o3 (iB fun i j => decide (j < i)) (bm3 cou3 (v3 1) (cons3 (o3 ix3 (v3 1) (v3 0)) nil3)) (c3 (.int 1)))) (v3 0) [none, some 4]) (gn3 5)) (ret3 (tup3 (cons3 (o3 ix3 (v3 5) (c3 (.int 0))) (cons3 (o3 ix3 (lc3 (iseq3 (tsl3 (v3 5) (sp3 (c3 (.int 1))) np3)) (gn3 0) (tb3 (o3 (eqA3 false) (o3 ix3 (v3 1) (v3 0)) (o3 ix3 (v3 1) (o3 ix3 (v3 2) (c3 (.int 0)))))) (v3 0) [none, some 4, some 5]) (c3 (.int 0))) nil3)))))))
def t_law_barred (S_law_alike : Sp3) : TS3 := (seq3 (for3 (ienum3 (cons3 (v3 0) nil3)) (gtup3 2 (gcons3 (gn3 4) (gcons3 (gn3 5) gnil3))) (seq3 (asg3 (cb3 S_law_alike (cons3 (v3 5) (cons3 (v3 1) (cons3 (v3 2) (cons3 (v3 3) nil3))))) (gn3 6)) (ifS3 (tb3 (o3 (isN3 true) (v3 6) (c3 .non))) (ret3 (o3 cat3 (tup3 (cons3 (v3 4) nil3)) (v3 6))) next3))) (ret3 (c3 .non)))
def t_law_skew_due (S_law_cells : Sp3) (S_law_barred : Sp3) : TS3 := (seq3 (asg3 (lc3 (iseq3 (v3 1)) (gn3 0) tt3 (cb3 S_law_cells (cons3 (v3 0) nil3)) [none]) (gn3 2)) (seq3 (asg3 (lst3 nil3) (gn3 3)) (seq3 (for3 (irng3 (cons3 (o3 (iC CMul (· * ·)) (v3 0) (v3 0)) nil3)) (gn3 4) (seq3 (asg3 (cb3 S_law_barred (cons3 (v3 2) (cons3 (v3 0) (cons3 (o3 (iC CDiv (· / ·)) (v3 4) (v3 0)) (cons3 (o3 (iC (fun _ j => 0 < j) (· % ·)) (v3 4) (v3 0)) nil3))))) (gn3 5)) (seq3 (ifS3 (tb3 (o3 (isN3 false) (v3 5) (c3 .non))) (ret3 (tup3 (cons3 (c3 (.str "skew")) (cons3 (o3 (iC CDiv (· / ·)) (v3 4) (v3 0)) (cons3 (o3 (iC (fun _ j => 0 < j) (· % ·)) (v3 4) (v3 0)) nil3))))) next3) (drop3 (bm3 app3 (v3 3) (cons3 (v3 5) nil3)))))) (ret3 (tup3 (cons3 (c3 (.str "none")) (cons3 (v3 3) nil3)))))))
def t_law_walks (S_law_pick : Sp3) (S_law_walk : Sp3) : TS3 := (ret3 (lc3 (irng3 (cons3 (o3 ix3 (lst3 (cons3 (c3 (.int 1)) (cons3 (c3 (.int 2)) (cons3 (c3 (.int 2)) (cons3 (c3 (.int 3)) (cons3 (c3 (.int 3)) (cons3 (c3 (.int 4)) (cons3 (c3 (.int 5)) (cons3 (c3 (.int 0)) nil3))))))))) (cb3 S_law_pick (cons3 (v3 0) (cons3 (c3 (.int 8)) nil3)))) nil3)) (gn3 0) tt3 (cb3 S_law_walk (cons3 (v3 1) nil3)) [none, some 0]))
def t_least_skew (S_skew_for : Sp3) : TS3 := (seq3 (asg3 (lst3 nil3) (gn3 2)) (seq3 (for3 (irng3 (cons3 (c3 (.int 1)) (cons3 (o3 cat3 (v3 1) (c3 (.int 1))) nil3))) (gn3 3) (seq3 (asg3 (cb3 S_skew_for (cons3 (v3 3) (cons3 (v3 0) nil3))) (gn3 4)) (seq3 (ifS3 (tb3 (o3 (eqA3 false) (o3 ix3 (v3 4) (c3 (.int 0))) (c3 (.str "skew")))) (ret3 (tup3 (cons3 (v3 3) (cons3 (o3 ix3 (v3 4) (c3 (.int 1))) (cons3 (o3 ix3 (v3 4) (c3 (.int 2))) (cons3 (v3 2) nil3)))))) next3) (drop3 (bm3 app3 (v3 2) (cons3 (o3 ix3 (v3 4) (c3 (.int 1))) nil3)))))) (ret3 (c3 .non))))
theorem ex_fst {ns : List Int} (h : ¬ Un2 ns ns.length) : ∃ i j, Fst ns i j := by
  have key : ∀ k, k ≤ ns.length → Un2 ns k ∨ ∃ i j, Fst ns i j := by
    intro k
    induction k with
    | zero => exact fun _ => .inl fun a b ha => by omega
    | succ k ih =>
      intro hk
      rcases ih (by omega) with hu | he
      · have inner : ∀ n, (∀ b, k < b → b < k + 1 + n → b < ns.length → ns[k]? ≠ ns[b]?) ∨ ∃ j, Fst ns k j := by
          intro n
          induction n with
          | zero => exact .inl fun b h1 h2 => by omega
          | succ n ihn =>
            rcases ihn with hn | he
            · by_cases hb : k + 1 + n < ns.length ∧ ns[k]? = ns[k + 1 + n]?
              · exact .inr ⟨k + 1 + n, by omega, hb.1, hu, fun b h1 h2 => hn b h1 h2 (by omega), hb.2⟩
              · refine .inl fun b h1 h2 h3 => ?_
                by_cases e : b = k + 1 + n
                · subst e; exact fun z => hb ⟨h3, z⟩
                · exact hn b h1 (by omega) h3
            · exact .inr he
        rcases inner ns.length with hn | ⟨j, F⟩
        · refine .inl fun a b ha hab hb => ?_
          by_cases e : a = k
          · subst e; exact hn b hab (by omega) hb
          · exact hu a b (by omega) hab hb
        · exact .inr ⟨k, j, F⟩
      · exact .inr he
  rcases key ns.length (Nat.le_refl _) with hu | he
  · exact absurd hu h
  · exact he
theorem met_len (val : Nat → Int) : ∀ i, (PyProof.Rows.firstMet val i).length = i ↔ ∀ a b, a < b → b < i → val a ≠ val b
  | 0 => by simp [PyProof.Rows.firstMet_zero]
  | i + 1 => by
    have ih := met_len val i
    have le := PyProof.Rows.firstMet_length_le val i
    have an := PyProof.Rows.firstMet_any val i (val i)
    rw [PyProof.Rows.firstMet_succ]
    unfold PyProof.Rows.step_dedup
    by_cases hq : ((PyProof.Rows.firstMet val i).any (· == val i)) = true
    · rw [if_pos hq]
      constructor
      · intro e; omega
      · intro hh
        rw [an] at hq
        simp at hq
        obtain ⟨a, ha, e⟩ := hq
        exact absurd e (hh a i ha (by omega))
    · rw [if_neg hq, List.length_append, List.length_singleton]
      have hq' : ∀ a, a < i → val a ≠ val i := by
        intro a ha e
        apply hq
        rw [an]
        simp
        exact ⟨a, ha, e⟩
      constructor
      · intro e a b hab hb
        by_cases eb : b = i
        · subst eb; exact hq' a hab
        · exact (ih.mp (by omega)) a b hab (by omega)
      · intro hh
        rw [ih.mpr fun a b hab hb => hh a b hab (by omega)]
theorem dcount_unl {ns : List Int} : dcount ns = ns.length ↔ Un2 ns ns.length := by
  unfold dcount
  rw [met_len]
  constructor
  · intro h a b ha hab hb e
    refine h a b hab hb ?_
    rw [List.getD_eq_getElem?_getD, List.getD_eq_getElem?_getD, e]
  · intro h a b hab hb e
    have ha : a < ns.length := by omega
    apply h a b ha hab hb
    rw [List.getD_eq_getElem?_getD, List.getD_eq_getElem?_getD] at e
    simp [ha, hb] at e
    simp [ha, hb, e]
def rL (b a c : Int) (cs : List (Int × Int)) : List Int := cs.map fun p => (a * p.1 + c * p.2) % b
theorem rL_len (b a c : Int) (cs : List (Int × Int)) : (rL b a c cs).length = cs.length := by simp [rL]
def restF (b a c : Int) : T → T := fun t => match t with | .tup [.int x, .int y] => T.int ((a * x + c * y) % b) | t => t
theorem restF_map (b a c : Int) (cs : List (Int × Int)) : [] ++ (cs.map pT).map (restF b a c) = (rL b a c cs).map T.int := by
  rw [List.nil_append, List.map_map]
  unfold rL
  rw [List.map_map]
  apply List.map_congr_left
  intro t _
  simp [pT, restF]
theorem lc_rests {b a c : Int} {cs : List (Int × Int)} {p : Addr} {G : Gp} {q : Q3} (hb : 1 ≤ b) (ha : 0 ≤ a ∧ a ≤ 1000) (hc : 0 ≤ c ∧ c ≤ 1000) (hl : cs.length ≤ 1000) (gc : getL G p = some (cs.map pT)) (h : ∀ p2, G p2 = none → q (.ref p2) (gu G p2 (.lst ((rL b a c cs).map T.int)))) :
    lcGo (fun G => getL G p = some (cs.map pT)) (gtup3 2 (gcons3 (gn3 0) (gcons3 (gn3 1) gnil3))) tt3 (o3 (iC (fun _ j => 0 < j) (· % ·)) (o3 cat3 (o3 (iC CMul (· * ·)) (v3 3) (v3 0)) (o3 (iC CMul (· * ·)) (v3 4) (v3 1))) (v3 2)) q (cs.map pT) [] [none, none, some (.int b), some (.int a), some (.int c)] G := by
  refine lcGo_map (restF b a c) (fun τ => ∃ x0 x1, τ = [x0, x1, some (.int b), some (.int a), some (.int c)]) gc _ _ _ ⟨none, none, rfl⟩ ?_ (by simp [sizeLine_eq]; omega) ?_
  · rintro z hz τ ⟨x0, x1, rfl⟩ K hK
    obtain ⟨i, _, rfl⟩ := List.mem_map.mp hz
    simp [pT, seq3, asg3, gn3, ret3, retN3, ifS3, drop3, nev3, next3, v3, c3, o3, u3, neg3, L3.ixT, L3.ixR, cat3, iI, iC, iB, eqA3, scalT, isN3, tb3, and3, or3, not3, andV3, orV3, notV3, if3, ch3, cb3, cons3, nil3, isi3, tyT, subT, tup3, lst3, tsl3, np3, sp3, gtup3, gcons3, gnil3, gsub3, set3, par3, start3, bm3, app3, ext3, len3, abs3, min3, max3, int3, tuple3, list3, all3, any3, aug3, cut3, HT.sIx, in3, flatT, eqF, sizeLine_eq, List.getElem?_cons_zero, List.getElem?_cons_succ]
    exact ⟨cm' (by omega) (by omega), cm' (by omega) (by omega), by omega, by simpa [pT, restF] using hK [some (.int i.1), some (.int i.2), some (.int b), some (.int a), some (.int c)] ⟨_, _, rfl⟩⟩
  · intro p2 hp2
    rw [restF_map]
    exact h p2 hp2
def sp_rests_by : Sp3 := fun ts G q => ∃ (b a c : Int) (w : Wk), ts = [.int b, .tup [.int a, .int c], w.t] ∧ 1 ≤ b ∧ (0 ≤ a ∧ a ≤ 1000) ∧ (0 ≤ c ∧ c ≤ 1000) ∧ w.Ok ∧ ∀ G', Ex G G' → q (.tup ((rL b a c w.pc).map T.int)) G'
theorem rd_rests_by : ∀ ts G q, sp_rests_by ts G q → ts.length = 3 ∧ t_rests_by sp_cells_of (ends q) (start3 ["banks", "factors", "walk", "a", "b"] ts) G := by
  rintro ts G q ⟨b, a, c, w, rfl, hb, ha, hc, ok, h⟩
  refine ⟨rfl, ?_⟩
  have cl := (pc_len ok).2
  unfold t_rests_by
  refine seq_i fun nx q1 => ?_
  simp [seq3, asg3, gn3, ret3, retN3, ifS3, drop3, nev3, next3, v3, c3, o3, u3, neg3, L3.ixT, L3.ixR, cat3, iI, iC, iB, eqA3, scalT, isN3, tb3, and3, or3, not3, andV3, orV3, notV3, if3, ch3, cb3, cons3, nil3, isi3, tyT, subT, tup3, lst3, tsl3, np3, sp3, gtup3, gcons3, gnil3, gsub3, set3, par3, start3, bm3, app3, ext3, len3, abs3, min3, max3, int3, tuple3, list3, all3, any3, aug3, cut3, HT.sIx, in3, flatT, eqF, sizeLine_eq, List.getElem?_cons_zero, List.getElem?_cons_succ]
  rw [q1]
  simp only [ret3, cb3, cons3, nil3, lc3, iseq3, v3, List.getElem?_cons_zero, List.getElem?_cons_succ]
  refine ⟨w, rfl, ok, fun p hp => ?_⟩
  have gc : getL (gu G p (.lst w.cT)) p = some (w.pc.map pT) := getL_lst gu_same
  simp only [gc, cap]
  refine lc_rests hb ha hc (by omega) gc fun p2 hp2 => ?_
  simp only [tuple3, getL_lst gu_same]
  exact h _ ((ex_new hp).trans (ex_new hp2))
def sp_law_rests_at : Sp3 := fun ts G q => ∃ (b a c : Int) (cs : List (Int × Int)) (p : Addr), ts = [.ref p, .int b, .int a, .int c] ∧ 1 ≤ b ∧ (0 ≤ a ∧ a ≤ 1000) ∧ (0 ≤ c ∧ c ≤ 1000) ∧ cs.length ≤ 1000 ∧ getL G p = some (cs.map pT) ∧ ∀ p2, G p2 = none → q (.ref p2) (gu G p2 (.lst ((rL b a c cs).map T.int)))
theorem rd_law_rests_at : ∀ ts G q, sp_law_rests_at ts G q → ts.length = 4 ∧ t_law_rests_at (ends q) (start3 ["_law_cells_here", "_law_banks", "_law_a", "_law_b"] ts) G := by
  rintro ts G q ⟨b, a, c, cs, p, rfl, hb, ha, hc, hl, gc, h⟩
  refine ⟨rfl, ?_⟩
  unfold t_law_rests_at
  simp only [ret3, lc3, iseq3, v3, start3, List.map, List.length, List.cons_append, List.getElem?_cons_zero, List.getElem?_cons_succ, gc, cap]
  exact lc_rests hb ha hc hl gc h
def faT : Option (Nat × Nat) → T
  | none => .non
  | some (i, j) => .tup [.int i, .int j]
end Bk
set_option Elab.async false
set_option linter.all false
set_option maxRecDepth 100000
set_option maxHeartbeats 4000000
namespace Bk
open PySem L2 L3
theorem count_two {ns : List Int} {a b : Nat} {x : Int} (hab : a < b) (ha : ns[a]? = some x) (hb : ns[b]? = some x) : 1 < ns.count x := by
  have e : ns.count x = (ns.take b).count x + (ns.drop b).count x := by rw [← List.count_append, List.take_append_drop]
  have h1 : x ∈ ns.take b := List.mem_of_getElem? (i := a) (by rw [List.getElem?_take, if_pos hab]; exact ha)
  have h2 : x ∈ ns.drop b := List.mem_of_getElem? (i := 0) (by rw [List.getElem?_drop]; exact hb)
  have := List.count_pos_iff.mpr h1
  have := List.count_pos_iff.mpr h2
  omega
theorem count_one {ns : List Int} {k : Nat} {x : Int} (hk : ns[k]? = some x) (h : ∀ b, b ≠ k → ns[b]? ≠ some x) : ns.count x ≤ 1 := by
  obtain ⟨hl, e⟩ := List.getElem?_eq_some_iff.mp hk
  have e1 : ns.count x = (ns.take k).count x + (ns.drop k).count x := by rw [← List.count_append, List.take_append_drop]
  have z1 : (ns.take k).count x = 0 := by
    apply List.count_eq_zero.mpr
    intro hm
    obtain ⟨i, hi⟩ := List.mem_iff_getElem?.mp hm
    rw [List.getElem?_take] at hi
    split at hi
    · exact h i (by omega) hi
    · cases hi
  have z2 : (ns.drop (k + 1)).count x = 0 := by
    apply List.count_eq_zero.mpr
    intro hm
    obtain ⟨i, hi⟩ := List.mem_iff_getElem?.mp hm
    rw [List.getElem?_drop] at hi
    exact h _ (by omega) hi
  rw [e1, z1, List.drop_eq_getElem_cons hl, List.count_cons, z2]
  split <;> omega
def fP (ns : List Int) (k : Nat) : Bool := decide (1 < ns.count (ns.getD k 0))
def fl (ns : List Int) : List Nat := (List.range ns.length).filter (fP ns)
theorem getD_some {ns : List Int} {k : Nat} (h : k < ns.length) : ns[k]? = some (ns.getD k 0) := by simp [h]
theorem fl_head {ns : List Int} {i j : Nat} (F : Fst ns i j) : ∃ t, fl ns = i :: t ∧ ∃ u, t.filter (fun k => decide (ns.getD k 0 = ns.getD i 0)) = j :: u := by
  obtain ⟨ij, jl, un, nb, al⟩ := F
  have il : i < ns.length := by omega
  have pw : (fl ns).Pairwise (· < ·) := List.Pairwise.filter _ List.pairwise_lt_range
  have mem : ∀ k, k ∈ fl ns ↔ k < ns.length ∧ 1 < ns.count (ns.getD k 0) := by
    intro k; simp [fl, fP]
  have ei := getD_some il
  have ej := getD_some jl
  have eij : ns.getD i 0 = ns.getD j 0 := by rw [ei, ej] at al; exact Option.some.inj al
  have mi : i ∈ fl ns := (mem i).mpr ⟨il, count_two ij ei (by rw [eij]; exact ej)⟩
  have mj : j ∈ fl ns := (mem j).mpr ⟨jl, count_two ij (by rw [← eij]; exact ei) ej⟩
  cases e : fl ns with
  | nil => rw [e] at mi; cases mi
  | cons x t =>
    rw [e] at pw mi mj
    have px := List.pairwise_cons.mp pw
    have mx := (mem x).mp (by rw [e]; exact List.mem_cons_self)
    have xi : x = i := by
      rcases List.mem_cons.mp mi with z | z
      · exact z.symm
      · exfalso
        have lt := px.1 i z
        have := count_one (getD_some mx.1) fun b hb hbe => ?_
        · omega
        · have hbl : b < ns.length := (List.getElem?_eq_some_iff.mp hbe).1
          rcases Nat.lt_or_gt_of_ne hb with z | z
          · exact un b x (by omega) z mx.1 (by rw [hbe, getD_some mx.1])
          · exact un x b lt z hbl (by rw [hbe, getD_some mx.1])
    subst xi
    refine ⟨t, rfl, ?_⟩
    have mj' : j ∈ t := by
      rcases List.mem_cons.mp mj with z | z
      · omega
      · exact z
    have mf : j ∈ t.filter (fun k => decide (ns.getD k 0 = ns.getD x 0)) := List.mem_filter.mpr ⟨mj', by simpa using eij.symm⟩
    have pf : (t.filter (fun k => decide (ns.getD k 0 = ns.getD x 0))).Pairwise (· < ·) := List.Pairwise.filter _ px.2
    cases e2 : t.filter (fun k => decide (ns.getD k 0 = ns.getD x 0)) with
    | nil => rw [e2] at mf; cases mf
    | cons y u =>
      rw [e2] at pf mf
      have my : y ∈ t.filter (fun k => decide (ns.getD k 0 = ns.getD x 0)) := by rw [e2]; exact List.mem_cons_self
      obtain ⟨yt, ye⟩ := List.mem_filter.mp my
      have ye : ns.getD y 0 = ns.getD x 0 := by simpa using ye
      have xy := px.1 y yt
      have yl := ((mem y).mp (by rw [e]; exact List.mem_cons_of_mem _ yt)).1
      rcases List.mem_cons.mp mf with z | z
      · exact ⟨u, by rw [z]⟩
      · exfalso
        have lt := (List.pairwise_cons.mp pf).1 j z
        exact nb y xy lt (by rw [ei, getD_some yl, ye])
def sp_law_alike : Sp3 := fun ts G q => ∃ (b a c : Int) (cs : List (Int × Int)) (p : Addr), ts = [.ref p, .int b, .int a, .int c] ∧ 1 ≤ b ∧ (0 ≤ a ∧ a ≤ 1000) ∧ (0 ≤ c ∧ c ≤ 1000) ∧ cs.length ≤ 1000 ∧ getL G p = some (cs.map pT) ∧ ∀ G', Ex G G' → q (faT (faO (rL b a c cs))) G'
theorem lc_found {ns : List Int} {p : Addr} {G : Gp} {q : Q3} (hl : ns.length ≤ 1000) (g : getL G p = some (ns.map T.int)) (h : ∀ p2, G p2 = none → q (.ref p2) (gu G p2 (.lst ((fl ns).map fun (k : Nat) => T.int k)))) :
    lcGo (fun _ => True) (gn3 0) (tb3 (o3 (iB fun i j => decide (j < i)) (bm3 cou3 (v3 1) (cons3 (o3 ix3 (v3 1) (v3 0)) nil3)) (c3 (.int 1)))) (v3 0) q (rngT 0 ns.length) [] [none, some (.ref p)] G := by
  refine lcGo_inv _ (fun i ys τ G' => G' = G ∧ ys = ((List.range i).filter (fP ns)).map (fun (k : Nat) => T.int k) ∧ ∃ x0, τ = [x0, some (.ref p)]) ⟨rfl, rfl, none, rfl⟩ (fun _ _ _ _ _ _ => True.intro) ?_ ?_
  · rintro i z ys τ G' R hz ⟨rfl, rfl, x0, rfl⟩ hR
    obtain ⟨hi, rfl⟩ := rng_get hz
    have ga : L2.atI (ns.map T.int) (0 + (i : Int)) = some (T.int (ns.getD i 0)) := by
      rw [atI_nat' (by omega) (by simp; omega), show ((0 : Int) + (i : Int)).toNat = i by omega]; simp [hi]
    have hx : seqOf G' (.ref p) = some (ns.map T.int) := g
    simp only [gn3, List.set_cons_zero, tb3, o3, bm3, v3, c3, cons3, nil3, List.getElem?_cons_zero, List.getElem?_cons_succ, ix_seq hx ga, g, cou3, intsT_map, iB, Option.isSome_some, true_and]
    have le := List.length_filter_le (fP ns) (List.range i)
    rw [List.length_range] at le
    have key : ∀ b : Bool, b = fP ns i → (if b = true then (((List.range i).filter (fP ns)).map (fun (k : Nat) => T.int k)).length < sizeLine ∧ R (((List.range i).filter (fP ns)).map (fun (k : Nat) => T.int k) ++ [.int (0 + (i : Int))]) [some (.int (0 + (i : Int))), some (.ref p)] G' else R (((List.range i).filter (fP ns)).map (fun (k : Nat) => T.int k)) [some (.int (0 + (i : Int))), some (.ref p)] G') := by
      intro b hb
      cases b with
      | true =>
        rw [if_pos rfl]
        refine ⟨by rw [List.length_map, sizeLine_eq]; omega, hR _ _ _ ⟨rfl, ?_, _, rfl⟩⟩
        rw [List.range_succ, List.filter_append, List.filter_cons, ← hb]
        simp
      | false =>
        rw [if_neg (by decide)]
        refine hR _ _ _ ⟨rfl, ?_, _, rfl⟩
        rw [List.range_succ, List.filter_append, List.filter_cons, ← hb]
        simp
    refine key _ ?_
    unfold fP
    rw [decide_eq_decide]
    omega
  · rintro ys τ G' ⟨rfl, rfl, x0, rfl⟩ p2 hp2
    rw [rng_len]
    exact h p2 hp2
theorem lc_second {ns : List Int} {i0 : Nat} {t : List Nat} {ps p f : Addr} {G : Gp} {q : Q3} (hl : ns.length ≤ 1000) (hi0 : i0 < ns.length) (ht : ∀ k ∈ t, k < ns.length) (htl : t.length ≤ 1000) (g : getL G p = some (ns.map T.int)) (gf : getL G f = some ((i0 :: t).map fun (k : Nat) => T.int k)) (gs : getL G ps = some (t.map fun (k : Nat) => T.int k))
    (h : ∀ p2, G p2 = none → q (.ref p2) (gu G p2 (.lst ((t.filter (fun k => decide (ns.getD k 0 = ns.getD i0 0))).map fun (k : Nat) => T.int k)))) :
    lcGo (fun G => getL G ps = some (t.map fun (k : Nat) => T.int k)) (gn3 0) (tb3 (o3 (eqA3 false) (o3 ix3 (v3 1) (v3 0)) (o3 ix3 (v3 1) (o3 ix3 (v3 2) (c3 (.int 0)))))) (v3 0) q (t.map fun (k : Nat) => T.int k) [] [none, some (.ref p), some (.ref f)] G := by
  refine lcGo_inv _ (fun i ys τ G' => G' = G ∧ ys = ((t.take i).filter (fun k => decide (ns.getD k 0 = ns.getD i0 0))).map (fun (k : Nat) => T.int k) ∧ ∃ x0, τ = [x0, some (.ref p), some (.ref f)]) ⟨rfl, rfl, none, rfl⟩ (fun _ _ _ _ _ hP => by rw [hP.1]; exact gs) ?_ ?_
  · rintro i z ys τ G' R hz ⟨rfl, rfl, x0, rfl⟩ hR
    rw [List.getElem?_map] at hz
    cases e : t[i]? with
    | none => rw [e] at hz; cases hz
    | some k =>
      rw [e] at hz
      have : z = T.int (k : Int) := by simpa using hz.symm
      subst this
      obtain ⟨hi, hk⟩ := List.getElem?_eq_some_iff.mp e
      have kl := ht k (List.mem_of_getElem? e)
      have ga : L2.atI (ns.map T.int) (k : Int) = some (T.int (ns.getD k 0)) := by
        rw [atI_nat' (by omega) (by simp; omega), Int.toNat_natCast]; simp [kl]
      have gb : L2.atI (ns.map T.int) (i0 : Int) = some (T.int (ns.getD i0 0)) := by
        rw [atI_nat' (by omega) (by simp; omega), Int.toNat_natCast]; simp [hi0]
      have gc : L2.atI ((i0 :: t).map fun (k : Nat) => T.int k) 0 = some (T.int (i0 : Int)) := by rw [List.map_cons]; exact atI_0
      have hx : seqOf G' (.ref p) = some (ns.map T.int) := g
      have hf : seqOf G' (.ref f) = some ((i0 :: t).map fun (k : Nat) => T.int k) := gf
      simp only [gn3, List.set_cons_zero, tb3, o3, v3, c3, List.getElem?_cons_zero, List.getElem?_cons_succ, ix_seq hx ga, ix_seq hf gc, ix_seq hx gb, eqA3, scalT]
      have le := List.length_filter_le (fun k => decide (ns.getD k 0 = ns.getD i0 0)) (t.take i)
      rw [List.length_take] at le
      have st : t.take (i + 1) = t.take i ++ [k] := by rw [List.take_succ_eq_append_getElem hi, hk]
      generalize hL : (t.take i).filter (fun k => decide (ns.getD k 0 = ns.getD i0 0)) = L at *
      have key : ∀ b : Bool, b = decide (ns.getD k 0 = ns.getD i0 0) → (if (if false = true then !b else b) = true then (L.map (fun (k : Nat) => T.int k)).length < sizeLine ∧ R (L.map (fun (k : Nat) => T.int k) ++ [.int (k : Int)]) [some (.int (k : Int)), some (.ref p), some (.ref f)] G' else R (L.map (fun (k : Nat) => T.int k)) [some (.int (k : Int)), some (.ref p), some (.ref f)] G') := by
        intro b hb
        cases b with
        | true =>
          refine ⟨by rw [List.length_map, sizeLine_eq]; omega, hR _ _ _ ⟨rfl, ?_, _, rfl⟩⟩
          rw [st, List.filter_append, List.filter_cons, ← hb, hL]
          simp
        | false =>
          refine hR _ _ _ ⟨rfl, ?_, _, rfl⟩
          rw [st, List.filter_append, List.filter_cons, ← hb, hL]
          simp
      exact key _ rfl
  · rintro ys τ G' ⟨rfl, rfl, x0, rfl⟩ p2 hp2
    rw [List.length_map, List.take_length]
    exact h p2 hp2
theorem rd_law_alike : ∀ ts G q, sp_law_alike ts G q → ts.length = 4 ∧ t_law_alike sp_law_rests_at (ends q) (start3 ["_law_cells_here", "_law_banks", "_law_a", "_law_b", "_law_some", "_law_found"] ts) G := by
  rintro ts G q ⟨b, a, c, cs, p, rfl, hb, ha, hc, hl, gc, h⟩
  refine ⟨rfl, ?_⟩
  unfold t_law_alike
  refine seq_i fun nx1 q1 => ?_
  simp only [asg3, cb3, cons3, nil3, v3, gn3, start3, List.map, List.length, List.cons_append, List.getElem?_cons_zero, List.getElem?_cons_succ, List.set_cons_succ, List.set_cons_zero]
  refine ⟨b, a, c, cs, p, rfl, hb, ha, hc, hl, gc, fun p1 hp1 => ?_⟩
  have nl := rL_len b a c cs
  generalize rL b a c cs = ns at *
  have hl' : ns.length ≤ 1000 := by omega
  have E1 : Ex G (gu G p1 (.lst (ns.map T.int))) := ex_new hp1
  have g1 : getL (gu G p1 (.lst (ns.map T.int))) p1 = some (ns.map T.int) := getL_lst gu_same
  generalize gu G p1 (.lst (ns.map T.int)) = G1 at E1 g1
  show nx1 [some (.ref p), some (.int b), some (.int a), some (.int c), some (.ref p1), none] G1
  rw [q1]
  clear q1
  refine seq_i fun nx2 q2 => ?_
  have hx : seqOf G1 (.ref p1) = some (ns.map T.int) := g1
  simp only [ifS3, tb3, o3, lset3, cb3, cons3, nil3, v3, List.getElem?_cons_zero, List.getElem?_cons_succ, g1, intsT_map, len_seq hx, List.length_map, eqA3, scalT]
  refine ⟨by omega, ?_⟩
  by_cases u : dcount ns = ns.length
  · have := h G1 E1
    rw [faO_none (dcount_unl.mp u)] at this
    simp [u, seq3, asg3, gn3, ret3, retN3, ifS3, drop3, nev3, next3, v3, c3, o3, u3, neg3, L3.ixT, L3.ixR, cat3, iI, iC, iB, eqA3, scalT, isN3, tb3, and3, or3, not3, andV3, orV3, notV3, if3, ch3, cb3, cons3, nil3, isi3, tyT, subT, tup3, lst3, tsl3, np3, sp3, gtup3, gcons3, gnil3, gsub3, set3, par3, start3, bm3, app3, ext3, len3, abs3, min3, max3, int3, tuple3, list3, all3, any3, aug3, cut3, HT.sIx, in3, flatT, eqF, sizeLine_eq, List.getElem?_cons_zero, List.getElem?_cons_succ]
    exact this
  · obtain ⟨i, j, F⟩ := ex_fst fun z => u (dcount_unl.mpr z)
    obtain ⟨t, e1, v, e2⟩ := fl_head F
    have u' : ¬ ((dcount ns : Nat) : Int) = (ns.length : Int) := by omega
    simp [u', seq3, asg3, gn3, ret3, retN3, ifS3, drop3, nev3, next3, v3, c3, o3, u3, neg3, L3.ixT, L3.ixR, cat3, iI, iC, iB, eqA3, scalT, isN3, tb3, and3, or3, not3, andV3, orV3, notV3, if3, ch3, cb3, cons3, nil3, isi3, tyT, subT, tup3, lst3, tsl3, np3, sp3, gtup3, gcons3, gnil3, gsub3, set3, par3, start3, bm3, app3, ext3, len3, abs3, min3, max3, int3, tuple3, list3, all3, any3, aug3, cut3, HT.sIx, in3, flatT, eqF, sizeLine_eq, List.getElem?_cons_zero, List.getElem?_cons_succ]
    rw [q2]
    clear q2
    refine seq_i fun nx3 q3 => ?_
    simp only [asg3, lc3, irng3, cb3, cons3, nil3, v3, List.getElem?_cons_zero, List.getElem?_cons_succ, len_seq hx, List.length_map, cap]
    refine ⟨⟨by omega, by omega⟩, ?_⟩
    rw [Int.toNat_natCast]
    refine lc_found hl' g1 fun p2 hp2 => ?_
    simp only [gn3, List.set_cons_succ, List.set_cons_zero]
    rw [q3]
    clear q3
    have n12 : p1 ≠ p2 := by rintro rfl; unfold getL at g1; rw [hp2] at g1; cases g1
    have E2 : Ex G1 (gu G1 p2 (.lst ((fl ns).map fun (k : Nat) => T.int k))) := ex_new hp2
    have g2 : getL (gu G1 p2 (.lst ((fl ns).map fun (k : Nat) => T.int k))) p2 = some ((fl ns).map fun (k : Nat) => T.int k) := getL_lst gu_same
    have g1' := E2.getL g1
    generalize gu G1 p2 (.lst ((fl ns).map fun (k : Nat) => T.int k)) = G2 at E2 g2 g1'
    have flm : ∀ k ∈ fl ns, k < ns.length := fun k hk => by have := (List.mem_filter.mp hk).1; simpa using this
    have fll : (fl ns).length ≤ ns.length := by have := List.length_filter_le (fP ns) (List.range ns.length); rwa [List.length_range] at this
    rw [e1] at g2 flm fll
    have a0 : L2.atI ((i :: t).map fun (k : Nat) => T.int k) 0 = some (T.int (i : Int)) := by rw [List.map_cons]; exact atI_0
    have hf : seqOf G2 (.ref p2) = some ((i :: t).map fun (k : Nat) => T.int k) := g2
    simp only [ret3, tup3, cons3, nil3, o3, v3, c3, lc3, iseq3, tsl3, sp3, np3, List.getElem?_cons_zero, List.getElem?_cons_succ, ix_seq hf a0, cap]
    have ct : cut3 ((i :: t).map fun (k : Nat) => T.int k) (some 1) none = t.map fun (k : Nat) => T.int k := by
      simp [L3.cut3, HT.sIx]
      exact List.take_of_length_le (by simp)
    simp only [sl3, g2, ct]
    intro p3 hp3
    have g3 : getL (gu G2 p3 (.lst (t.map fun (k : Nat) => T.int k))) p3 = some (t.map fun (k : Nat) => T.int k) := getL_lst gu_same
    have E3 : Ex G2 (gu G2 p3 (.lst (t.map fun (k : Nat) => T.int k))) := ex_new hp3
    have g2' := E3.getL g2
    have g1'' := E3.getL g1'
    generalize gu G2 p3 (.lst (t.map fun (k : Nat) => T.int k)) = G3 at E3 g3 g2' g1''
    simp only [g3]
    have il : i < ns.length := by have := F.ij; have := F.jl; omega
    refine lc_second hl' il (fun k hk => flm k (List.mem_cons_of_mem _ hk)) (by rw [List.length_cons] at fll; omega) g1'' g2' g3 fun p4 hp4 => ?_
    rw [e2]
    have a1 : L2.atI ((j :: v).map fun (k : Nat) => T.int k) 0 = some (T.int (j : Int)) := by rw [List.map_cons]; exact atI_0
    have hg : seqOf (gu G3 p4 (.lst ((j :: v).map fun (k : Nat) => T.int k))) (.ref p4) = some ((j :: v).map fun (k : Nat) => T.int k) := getL_lst gu_same
    rw [ix_seq hg a1]
    refine ⟨by simp [sizeLine_eq], ?_⟩
    have := h _ (((E1.trans E2).trans E3).trans (ex_new hp4 (o := .lst ((j :: v).map fun (k : Nat) => T.int k))))
    rw [faO_some F] at this
    exact this
end Bk
set_option Elab.async false
set_option linter.all false
set_option maxRecDepth 100000
set_option maxHeartbeats 4000000
namespace Bk
open PySem L2 L3
noncomputable def barO (b a c : Int) : Nat → List Wk → Option (Nat × Nat × Nat)
  | _, [] => none
  | n, w :: ws => match faO (rL b a c w.pc) with
    | some ij => some (n, ij)
    | none => barO b a c (n + 1) ws
def barT : Option (Nat × Nat × Nat) → T
  | none => .non
  | some (n, i, j) => .tup [.int n, .int i, .int j]
def barD : Option (Nat × Nat × Nat) → PyData
  | none => .none
  | some (n, i, j) => .tuple [.int n, .int i, .int j]
theorem bar_dp (G : Gp) : ∀ o, Dp G (barT o) (barD o)
  | none => .non
  | some (_, _, _) => .tup (.cons (.int _) (.cons (.int _) (.cons (.int _) .nil)))
theorem barT_none {o : Option (Nat × Nat × Nat)} : barT o = .non ↔ o = none := by
  cases o with
  | none => simp [barT]
  | some r => simp [barT]
theorem barO_app (b a c : Int) : ∀ (xs ys : List Wk) (n : Nat), barO b a c n (xs ++ ys) = match barO b a c n xs with
    | some r => some r
    | none => barO b a c (n + xs.length) ys
  | [], ys, n => by simp [barO]
  | x :: xs, ys, n => by
    simp only [List.cons_append, barO]
    cases faO (rL b a c x.pc) with
    | some ij => rfl
    | none =>
      simp only
      rw [barO_app b a c xs ys (n + 1), List.length_cons, show n + (xs.length + 1) = n + 1 + xs.length by omega]
theorem barO_next (b a c : Int) {ws : List Wk} {i : Nat} {w : Wk} (h : ws[i]? = some w) (hn : barO b a c 0 (ws.take i) = none) (hw : faO (rL b a c w.pc) = none) : barO b a c 0 (ws.take (i + 1)) = none := by
  obtain ⟨hi, e⟩ := List.getElem?_eq_some_iff.mp h
  rw [List.take_succ_eq_append_getElem hi, e, barO_app, hn]
  simp [barO, hw]
theorem barO_hit (b a c : Int) {ws : List Wk} {i : Nat} {w : Wk} {ij : Nat × Nat} (h : ws[i]? = some w) (hn : barO b a c 0 (ws.take i) = none) (hw : faO (rL b a c w.pc) = some ij) : barO b a c 0 ws = some (i, ij) := by
  obtain ⟨hi, e⟩ := List.getElem?_eq_some_iff.mp h
  have : ws = ws.take i ++ (w :: ws.drop (i + 1)) := by rw [← e, ← List.drop_eq_getElem_cons hi, List.take_append_drop]
  rw [this, barO_app, hn]
  simp only [barO, hw, List.length_take, Nat.min_eq_left (Nat.le_of_lt hi), Nat.zero_add]
def WsOk (ws : List Wk) : Prop := ws.length ≤ 10 ∧ ∀ w ∈ ws, w.Ok
def sp_first_bar : Sp3 := fun ts G q => ∃ (b a c : Int) (ws : List Wk) (p : Addr), ts = [.int b, .tup [.int a, .int c], .ref p] ∧ 1 ≤ b ∧ (0 ≤ a ∧ a ≤ 100) ∧ (0 ≤ c ∧ c ≤ 100) ∧ getL G p = some (ws.map Wk.t) ∧ WsOk ws ∧ ∀ G', Ex G G' → q (barT (barO b a c 0 ws)) G'
theorem rd_first_bar : ∀ ts G q, sp_first_bar ts G q → ts.length = 3 ∧ t_first_bar sp_rests_by sp_first_alike (ends q) (start3 ["banks", "factors", "walks", "n", "walk", "found"] ts) G := by
  rintro ts G q ⟨b, a, c, ws, p, rfl, hb, ha, hc, hp, ok, h⟩
  refine ⟨rfl, ?_⟩
  unfold t_first_bar
  refine seq_i fun nx0 q0 => ?_
  simp only [for3, ienum3, cons3, nil3, v3, start3, List.map, List.length, List.getElem?_cons_zero, List.getElem?_cons_succ]
  simp [seqOf, hp]
  refine forGo_inv _ (fun i τ G' => Ex G G' ∧ barO b a c 0 (ws.take i) = none ∧ ∃ x3 x4 x5, τ = [some (.int b), some (.tup [.int a, .int c]), some (.ref p), x3, x4, x5]) ⟨Ex.refl, by simp [barO], none, none, none, rfl⟩ (fun _ _ _ _ hp' => hp'.1.getL hp) ?_ ?_
  · rintro i z τ G' nx hz ⟨E, hn, x3, x4, x5, rfl⟩ hnx
    obtain ⟨y, hy, rfl⟩ := enumT_get hz
    rw [List.getElem?_map] at hy
    cases e : ws[i]? with
    | none => rw [e] at hy; cases hy
    | some w =>
      rw [e] at hy
      have : y = w.t := by simpa using hy.symm
      subst this
      have wok := ok.2 w (List.mem_of_getElem? e)
      have cl := (pc_len wok).2
      simp [gtup3, gcons3, gnil3, gn3]
      refine seq_i fun nx1 q1 => ?_
      simp only [asg3, cb3, cons3, nil3, v3, gn3, List.getElem?_cons_zero, List.getElem?_cons_succ, List.set_cons_succ, List.set_cons_zero]
      refine ⟨b, a, c, w, rfl, hb, by omega, by omega, wok, fun G2 E2 => ?_⟩
      refine ⟨_, rL b a c w.pc, rfl, rfl, by rw [rL_len]; omega, fun un => ?_, fun i' j' F => ?_⟩
      · rw [q1]
        simp [seq3, asg3, gn3, ret3, retN3, ifS3, drop3, nev3, next3, v3, c3, o3, u3, neg3, L3.ixT, L3.ixR, cat3, iI, iC, iB, eqA3, scalT, isN3, tb3, and3, or3, not3, andV3, orV3, notV3, if3, ch3, cb3, cons3, nil3, isi3, tyT, subT, tup3, lst3, tsl3, np3, sp3, gtup3, gcons3, gnil3, gsub3, set3, par3, start3, bm3, app3, ext3, len3, abs3, min3, max3, int3, tuple3, list3, all3, any3, aug3, cut3, HT.sIx, in3, flatT, eqF, sizeLine_eq, List.getElem?_cons_zero, List.getElem?_cons_succ]
        exact hnx _ _ ⟨E.trans E2, barO_next b a c e hn (faO_none un), _, _, _, rfl⟩
      · rw [q1]
        simp [atI_0, atI_1, seq3, asg3, gn3, ret3, retN3, ifS3, drop3, nev3, next3, v3, c3, o3, u3, neg3, L3.ixT, L3.ixR, cat3, iI, iC, iB, eqA3, scalT, isN3, tb3, and3, or3, not3, andV3, orV3, notV3, if3, ch3, cb3, cons3, nil3, isi3, tyT, subT, tup3, lst3, tsl3, np3, sp3, gtup3, gcons3, gnil3, gsub3, set3, par3, start3, bm3, app3, ext3, len3, abs3, min3, max3, int3, tuple3, list3, all3, any3, aug3, cut3, HT.sIx, in3, flatT, eqF, sizeLine_eq, List.getElem?_cons_zero, List.getElem?_cons_succ]
        have := h G2 (E.trans E2)
        rw [barO_hit b a c e hn (faO_some F)] at this
        exact this
  · rintro τ G' ⟨E, hn, x3, x4, x5, rfl⟩
    rw [enumT_len, List.length_map, List.take_length] at hn
    show nx0 _ _
    rw [q0]
    simp [seq3, asg3, gn3, ret3, retN3, ifS3, drop3, nev3, next3, v3, c3, o3, u3, neg3, L3.ixT, L3.ixR, cat3, iI, iC, iB, eqA3, scalT, isN3, tb3, and3, or3, not3, andV3, orV3, notV3, if3, ch3, cb3, cons3, nil3, isi3, tyT, subT, tup3, lst3, tsl3, np3, sp3, gtup3, gcons3, gnil3, gsub3, set3, par3, start3, bm3, app3, ext3, len3, abs3, min3, max3, int3, tuple3, list3, all3, any3, aug3, cut3, HT.sIx, in3, flatT, eqF, sizeLine_eq, List.getElem?_cons_zero, List.getElem?_cons_succ]
    have := h G' E
    rw [hn] at this
    exact this
def Rows (G : Gp) (rs : List Addr) (ws : List Wk) : Prop := rs.length = ws.length ∧ ∀ (i : Nat) (r : Addr) (w : Wk), rs[i]? = some r → ws[i]? = some w → getL G r = some (w.pc.map pT)
def sp_law_barred : Sp3 := fun ts G q => ∃ (b a c : Int) (ws : List Wk) (rs : List Addr) (p : Addr), ts = [.ref p, .int b, .int a, .int c] ∧ 1 ≤ b ∧ (0 ≤ a ∧ a ≤ 100) ∧ (0 ≤ c ∧ c ≤ 100) ∧ getL G p = some (rs.map T.ref) ∧ Rows G rs ws ∧ WsOk ws ∧ ∀ G', Ex G G' → q (barT (barO b a c 0 ws)) G'
theorem rd_law_barred : ∀ ts G q, sp_law_barred ts G q → ts.length = 4 ∧ t_law_barred sp_law_alike (ends q) (start3 ["_law_rows", "_law_banks", "_law_a", "_law_b", "_law_n", "_law_cells_here", "_law_found"] ts) G := by
  rintro ts G q ⟨b, a, c, ws, rs, p, rfl, hb, ha, hc, hp, hr, ok, h⟩
  refine ⟨rfl, ?_⟩
  unfold t_law_barred
  refine seq_i fun nx0 q0 => ?_
  simp only [for3, ienum3, cons3, nil3, v3, start3, List.map, List.length, List.getElem?_cons_zero, List.getElem?_cons_succ]
  simp [seqOf, hp]
  refine forGo_inv _ (fun i τ G' => Ex G G' ∧ barO b a c 0 (ws.take i) = none ∧ ∃ x3 x4 x5, τ = [some (.ref p), some (.int b), some (.int a), some (.int c), x3, x4, x5]) ⟨Ex.refl, by simp [barO], none, none, none, rfl⟩ (fun _ _ _ _ hp' => hp'.1.getL hp) ?_ ?_
  · rintro i z τ G' nx hz ⟨E, hn, x3, x4, x5, rfl⟩ hnx
    obtain ⟨y, hy, rfl⟩ := enumT_get hz
    rw [List.getElem?_map] at hy
    cases e : rs[i]? with
    | none => rw [e] at hy; cases hy
    | some r =>
      rw [e] at hy
      have : y = .ref r := by simpa using hy.symm
      subst this
      have hi : i < ws.length := by rw [← hr.1]; exact (List.getElem?_eq_some_iff.mp e).1
      have ew : ws[i]? = some ws[i] := List.getElem?_eq_getElem hi
      generalize ws[i] = w at ew
      have wok := ok.2 w (List.mem_of_getElem? ew)
      have cl := (pc_len wok).2
      simp [gtup3, gcons3, gnil3, gn3]
      refine seq_i fun nx1 q1 => ?_
      simp only [asg3, cb3, cons3, nil3, v3, gn3, List.getElem?_cons_zero, List.getElem?_cons_succ, List.set_cons_succ, List.set_cons_zero]
      refine ⟨b, a, c, w.pc, r, rfl, hb, by omega, by omega, by omega, E.getL (hr.2 i r w e ew), fun G2 E2 => ?_⟩
      rw [q1]
      cases ef : faO (rL b a c w.pc) with
      | none =>
        simp [faT, seq3, asg3, gn3, ret3, retN3, ifS3, drop3, nev3, next3, v3, c3, o3, u3, neg3, L3.ixT, L3.ixR, cat3, iI, iC, iB, eqA3, scalT, isN3, tb3, and3, or3, not3, andV3, orV3, notV3, if3, ch3, cb3, cons3, nil3, isi3, tyT, subT, tup3, lst3, tsl3, np3, sp3, gtup3, gcons3, gnil3, gsub3, set3, par3, start3, bm3, app3, ext3, len3, abs3, min3, max3, int3, tuple3, list3, all3, any3, aug3, cut3, HT.sIx, in3, flatT, eqF, sizeLine_eq, List.getElem?_cons_zero, List.getElem?_cons_succ]
        exact hnx _ _ ⟨E.trans E2, barO_next b a c ew hn ef, _, _, _, rfl⟩
      | some ij =>
        obtain ⟨i', j'⟩ := ij
        simp [faT, seq3, asg3, gn3, ret3, retN3, ifS3, drop3, nev3, next3, v3, c3, o3, u3, neg3, L3.ixT, L3.ixR, cat3, iI, iC, iB, eqA3, scalT, isN3, tb3, and3, or3, not3, andV3, orV3, notV3, if3, ch3, cb3, cons3, nil3, isi3, tyT, subT, tup3, lst3, tsl3, np3, sp3, gtup3, gcons3, gnil3, gsub3, set3, par3, start3, bm3, app3, ext3, len3, abs3, min3, max3, int3, tuple3, list3, all3, any3, aug3, cut3, HT.sIx, in3, flatT, eqF, sizeLine_eq, List.getElem?_cons_zero, List.getElem?_cons_succ]
        have := h G2 (E.trans E2)
        rw [barO_hit b a c ew hn ef] at this
        exact this
  · rintro τ G' ⟨E, hn, x3, x4, x5, rfl⟩
    rw [enumT_len, List.length_map, hr.1, List.take_length] at hn
    show nx0 _ _
    rw [q0]
    simp [seq3, asg3, gn3, ret3, retN3, ifS3, drop3, nev3, next3, v3, c3, o3, u3, neg3, L3.ixT, L3.ixR, cat3, iI, iC, iB, eqA3, scalT, isN3, tb3, and3, or3, not3, andV3, orV3, notV3, if3, ch3, cb3, cons3, nil3, isi3, tyT, subT, tup3, lst3, tsl3, np3, sp3, gtup3, gcons3, gnil3, gsub3, set3, par3, start3, bm3, app3, ext3, len3, abs3, min3, max3, int3, tuple3, list3, all3, any3, aug3, cut3, HT.sIx, in3, flatT, eqF, sizeLine_eq, List.getElem?_cons_zero, List.getElem?_cons_succ]
    have := h G' E
    rw [hn] at this
    exact this
end Bk
set_option Elab.async false
set_option linter.all false
set_option maxRecDepth 100000
set_option maxHeartbeats 4000000
namespace Bk
open PySem L2 L3
def facT (B n : Nat) : T := .tup [.int ((n / B : Nat) : Int), .int ((n % B : Nat) : Int)]
def facs (B N : Nat) : List T := (List.range N).map (facT B)
theorem facs_succ (B N : Nat) : facs B (N + 1) = facs B N ++ [facT B N] := by simp [facs, List.range_succ]
theorem fac_at {B i j : Nat} (h : j < B) : facT B (i * B + j) = .tup [.int (i : Int), .int (j : Int)] := by
  have e1 : (i * B + j) / B = i := by rw [Nat.mul_comm, Nat.mul_add_div (by omega), Nat.div_eq_of_lt h]; rfl
  have e2 : (i * B + j) % B = j := by rw [Nat.mul_comm, Nat.mul_add_mod, Nat.mod_eq_of_lt h]
  unfold facT
  rw [e1, e2]
def sp_all_factors : Sp3 := fun ts G q => ∃ B : Nat, ts = [.int B] ∧ 1 ≤ B ∧ B ≤ 100 ∧ ∀ p, G p = none → q (.ref p) (gu G p (.lst (facs B (B * B))))
theorem rd_all_factors : ∀ ts G q, sp_all_factors ts G q → ts.length = 1 ∧ t_all_factors (ends q) (start3 ["banks"] ts) G := by
  rintro ts G q ⟨B, rfl, h1, h2, h⟩
  refine ⟨rfl, ?_⟩
  simp [t_all_factors, lc23, irng3, cap, seq3, asg3, gn3, ret3, retN3, ifS3, drop3, nev3, next3, v3, c3, o3, u3, neg3, L3.ixT, L3.ixR, cat3, iI, iC, iB, eqA3, scalT, isN3, tb3, and3, or3, not3, andV3, orV3, notV3, if3, ch3, cb3, cons3, nil3, isi3, tyT, subT, tup3, lst3, tsl3, np3, sp3, gtup3, gcons3, gnil3, gsub3, set3, par3, start3, bm3, app3, ext3, len3, abs3, min3, max3, int3, tuple3, list3, all3, any3, aug3, L2.atI, ixN, cut3, HT.sIx, getL, in3, flatT, eqF, gu, sizeLine_eq, List.getElem?_cons_zero, List.getElem?_cons_succ]
  refine ⟨by omega, fun D hD => ?_⟩
  refine lc2Go_inv _ (fun i τ G' => G' = gu G D (.lst (facs B (i * B))) ∧ ∃ x0 x1, τ = [x0, x1, some (.int B)]) ⟨by simp [facs], none, none, rfl⟩ (fun _ _ _ _ _ => True.intro) ?_ ?_
  · rintro i x τ G' R hx ⟨rfl, x0, x1, rfl⟩ hR
    obtain ⟨hi, rfl⟩ := rng_get hx
    simp [tt3, irng3, seq3, asg3, gn3, ret3, retN3, ifS3, drop3, nev3, next3, v3, c3, o3, u3, neg3, L3.ixT, L3.ixR, cat3, iI, iC, iB, eqA3, scalT, isN3, tb3, and3, or3, not3, andV3, orV3, notV3, if3, ch3, cb3, cons3, nil3, isi3, tyT, subT, tup3, lst3, tsl3, np3, sp3, gtup3, gcons3, gnil3, gsub3, set3, par3, start3, bm3, app3, ext3, len3, abs3, min3, max3, int3, tuple3, list3, all3, any3, aug3, L2.atI, ixN, cut3, HT.sIx, getL, in3, flatT, eqF, gu, sizeLine_eq, List.getElem?_cons_zero, List.getElem?_cons_succ]
    refine ⟨by omega, ?_⟩
    refine inGo_inv _ (fun j τ G' => G' = gu G D (.lst (facs B (i * B + j))) ∧ ∃ x1, τ = [some (.int i), x1, some (.int B)]) ⟨by simp, x1, rfl⟩ (fun _ _ _ _ _ => True.intro) ?_ ?_
    · rintro j x τ G' R2 hx ⟨rfl, x1, rfl⟩ hR2
      obtain ⟨hj, rfl⟩ := rng_get hx
      simp [tt3, gu_same, seq3, asg3, gn3, ret3, retN3, ifS3, drop3, nev3, next3, v3, c3, o3, u3, neg3, L3.ixT, L3.ixR, cat3, iI, iC, iB, eqA3, scalT, isN3, tb3, and3, or3, not3, andV3, orV3, notV3, if3, ch3, cb3, cons3, nil3, isi3, tyT, subT, tup3, lst3, tsl3, np3, sp3, gtup3, gcons3, gnil3, gsub3, set3, par3, start3, bm3, app3, ext3, len3, abs3, min3, max3, int3, tuple3, list3, all3, any3, aug3, L2.atI, ixN, cut3, HT.sIx, getL, in3, flatT, eqF, gu, sizeLine_eq, List.getElem?_cons_zero, List.getElem?_cons_succ]
      have hb1 : i * B ≤ 100 * 100 := Nat.mul_le_mul (by omega) h2
      refine ⟨by simp [facs]; omega, hR2 _ _ ⟨?_, _, rfl⟩⟩
      rw [gu_gu, ← Nat.add_assoc, facs_succ, fac_at hj]
    · rintro τ G' ⟨rfl, x1, rfl⟩
      rw [rng_len]
      exact hR _ _ ⟨by rw [Nat.succ_mul], _, _, rfl⟩
  · rintro τ G' ⟨rfl, x0, x1, rfl⟩
    rw [rng_len]
    exact h D hD
theorem facs_get {B N i : Nat} {x : T} (h : (facs B N)[i]? = some x) : i < N ∧ x = facT B i := by
  unfold facs at h
  rw [List.getElem?_map] at h
  cases e : (List.range N)[i]? with
  | none => rw [e] at h; cases h
  | some k =>
    rw [e] at h
    obtain ⟨hi, hk⟩ := List.getElem?_eq_some_iff.mp e
    simp at hi hk
    subst hk
    exact ⟨hi, by simpa using h.symm⟩
theorem fac_bd {B n : Nat} (h1 : 1 ≤ B) (h : n < B * B) : n / B < B ∧ n % B < B := ⟨(Nat.div_lt_iff_lt_mul (by omega)).mpr h, Nat.mod_lt _ (by omega)⟩
noncomputable def fbar (B : Nat) (ws : List Wk) (n : Nat) : Option (Nat × Nat × Nat) := barO (B : Int) ((n / B : Nat) : Int) ((n % B : Nat) : Int) 0 ws
noncomputable def barsT (B : Nat) (ws : List Wk) (N : Nat) : List T := (List.range N).map fun n => barT (fbar B ws n)
noncomputable def barsD (B : Nat) (ws : List Wk) (N : Nat) : List PyData := (List.range N).map fun n => barD (fbar B ws n)
theorem barsT_succ (B : Nat) (ws : List Wk) (N : Nat) : barsT B ws (N + 1) = barsT B ws N ++ [barT (fbar B ws N)] := by simp [barsT, List.range_succ]
theorem barsT_len (B : Nat) (ws : List Wk) (N : Nat) : (barsT B ws N).length = N := by simp [barsT]
theorem bars_dp (G : Gp) (B : Nat) (ws : List Wk) : ∀ N, Dps G (barsT B ws N) (barsD B ws N) := by
  intro N
  unfold barsT barsD
  induction (List.range N) with
  | nil => exact .nil
  | cons x xs ih => exact .cons (bar_dp G _) ih
noncomputable def skO (B : Nat) (ws : List Wk) : Option Nat := (List.range (B * B)).find? (fun n => (fbar B ws n).isNone)
structure SkR (B : Nat) (ws : List Wk) (G G' : Gp) (x : T) : Prop where
  ex : Ex G G'
  un : ∀ n, skO B ws = some n → x = .tup [.str "skew", .int ((n / B : Nat) : Int), .int ((n % B : Nat) : Int)]
  no : skO B ws = none → ∃ pb, x = .tup [.str "none", .ref pb] ∧ G pb = none ∧ G' pb = some (.lst (barsT B ws (B * B)))
theorem sk_at {B : Nat} {ws : List Wk} {i : Nat} (hi : i < B * B) (h : fbar B ws i = none) (hb : ∀ n, n < i → (fbar B ws n).isSome = true) : skO B ws = some i := by
  unfold skO
  rw [List.find?_range_eq_some]
  refine ⟨by simp [h], by simpa using hi, fun j hj => ?_⟩
  have := hb j hj
  cases e : fbar B ws j with
  | none => rw [e] at this; cases this
  | some r => rfl
theorem sk_end {B : Nat} {ws : List Wk} (hb : ∀ n, n < B * B → (fbar B ws n).isSome = true) : skO B ws = none := by
  unfold skO
  rw [List.find?_eq_none]
  intro n hn
  have := hb n (by simpa using hn)
  cases e : fbar B ws n with
  | none => rw [e] at this; cases this
  | some r => simp
theorem bar_some {B : Nat} {ws : List Wk} {i : Nat} (h : fbar B ws i ≠ none) : ∃ n k l : Nat, barT (fbar B ws i) = .tup [.int n, .int k, .int l] ∧ (fbar B ws i).isSome = true := by
  cases e : fbar B ws i with
  | none => exact absurd e h
  | some r =>
    obtain ⟨n, k, l⟩ := r
    exact ⟨n, k, l, rfl, rfl⟩
def sp_skew_for : Sp3 := fun ts G q => ∃ (B : Nat) (ws : List Wk) (p : Addr), ts = [.int B, .ref p] ∧ 1 ≤ B ∧ B ≤ 32 ∧ getL G p = some (ws.map Wk.t) ∧ WsOk ws ∧ ∀ x G', SkR B ws G G' x → q x G'
theorem rd_skew_for : ∀ ts G q, sp_skew_for ts G q → ts.length = 2 ∧ t_skew_for sp_all_factors sp_first_bar (ends q) (start3 ["banks", "walks", "bars", "factors", "bar"] ts) G := by
  rintro ts G q ⟨B, ws, p, rfl, h1, h2, hp, ok, h⟩
  refine ⟨rfl, ?_⟩
  unfold t_skew_for
  refine seq_i fun nx0 q0 => ?_
  simp [seq3, asg3, gn3, ret3, retN3, ifS3, drop3, nev3, next3, v3, c3, o3, u3, neg3, L3.ixT, L3.ixR, cat3, iI, iC, iB, eqA3, scalT, isN3, tb3, and3, or3, not3, andV3, orV3, notV3, if3, ch3, cb3, cons3, nil3, isi3, tyT, subT, tup3, lst3, tsl3, np3, sp3, gtup3, gcons3, gnil3, gsub3, set3, par3, start3, bm3, app3, ext3, len3, abs3, min3, max3, int3, tuple3, list3, all3, any3, aug3, cut3, HT.sIx, in3, flatT, eqF, sizeLine_eq, List.getElem?_cons_zero, List.getElem?_cons_succ]
  intro pb hpb
  rw [q0]
  clear q0
  have E0 : Ex G (gu G pb (.lst [])) := ex_new hpb
  have hB : B * B ≤ 32 * 32 := Nat.mul_le_mul h2 h2
  refine seq_i fun nx1 q1 => ?_
  simp only [for3, iseq3, cb3, cons3, nil3, v3, List.getElem?_cons_zero, List.getElem?_cons_succ]
  refine ⟨B, rfl, h1, by omega, fun pf hpf => ?_⟩
  have nfb : pf ≠ pb := by rintro rfl; rw [gu_same] at hpf; cases hpf
  simp only [getL_lst gu_same]
  refine forGo_inv _ (fun i τ G' => Ex G G' ∧ getL G' pf = some (facs B (B * B)) ∧ G' pb = some (.lst (barsT B ws i)) ∧ (∀ n, n < i → (fbar B ws n).isSome = true) ∧ ∃ x3 x4, τ = [some (.int B), some (.ref p), some (.ref pb), x3, x4])
    ⟨E0.trans (ex_new hpf), getL_lst gu_same, by rw [gu_ne (Ne.symm nfb), gu_same]; rfl, fun n hn => by omega, none, none, rfl⟩ (fun _ _ _ _ hP => hP.2.1) ?_ ?_
  · rintro i z τ G' nx hz ⟨E, gf, gb, hs, x3, x4, rfl⟩ hnx
    obtain ⟨hi, rfl⟩ := facs_get hz
    have bd := fac_bd h1 hi
    simp only [gn3, List.set_cons_succ, List.set_cons_zero]
    refine seq_i fun nx2 q2 => ?_
    simp only [asg3, cb3, cons3, nil3, v3, gn3, List.getElem?_cons_zero, List.getElem?_cons_succ, List.set_cons_succ, List.set_cons_zero, facT]
    refine ⟨B, _, _, ws, p, rfl, by omega, ⟨Int.natCast_nonneg _, by omega⟩, ⟨Int.natCast_nonneg _, by omega⟩, E.getL hp, ok, fun G2 E2 => ?_⟩
    rw [q2]
    clear q2
    refine seq_i fun nx3 q3 => ?_
    by_cases hn : fbar B ws i = none
    · have e : barT (barO (B : Int) ((i / B : Nat) : Int) ((i % B : Nat) : Int) 0 ws) = .non := barT_none.mpr hn
      rw [e]
      simp [atI_0, atI_1, seq3, asg3, gn3, ret3, retN3, ifS3, drop3, nev3, next3, v3, c3, o3, u3, neg3, L3.ixT, L3.ixR, cat3, iI, iC, iB, eqA3, scalT, isN3, tb3, and3, or3, not3, andV3, orV3, notV3, if3, ch3, cb3, cons3, nil3, isi3, tyT, subT, tup3, lst3, tsl3, np3, sp3, gtup3, gcons3, gnil3, gsub3, set3, par3, start3, bm3, app3, ext3, len3, abs3, min3, max3, int3, tuple3, list3, all3, any3, aug3, cut3, HT.sIx, in3, flatT, eqF, sizeLine_eq, List.getElem?_cons_zero, List.getElem?_cons_succ]
      have sk := sk_at hi hn hs
      refine h _ _ ⟨E.trans E2, fun n en => ?_, fun en => ?_⟩
      · rw [sk] at en; cases en; rfl
      · rw [sk] at en; cases en
    · obtain ⟨n, k, l, e, es⟩ := bar_some hn
      have e' : barT (barO (B : Int) ((i / B : Nat) : Int) ((i % B : Nat) : Int) 0 ws) = .tup [.int n, .int k, .int l] := e
      rw [e']
      simp [seq3, asg3, gn3, ret3, retN3, ifS3, drop3, nev3, next3, v3, c3, o3, u3, neg3, L3.ixT, L3.ixR, cat3, iI, iC, iB, eqA3, scalT, isN3, tb3, and3, or3, not3, andV3, orV3, notV3, if3, ch3, cb3, cons3, nil3, isi3, tyT, subT, tup3, lst3, tsl3, np3, sp3, gtup3, gcons3, gnil3, gsub3, set3, par3, start3, bm3, app3, ext3, len3, abs3, min3, max3, int3, tuple3, list3, all3, any3, aug3, cut3, HT.sIx, in3, flatT, eqF, sizeLine_eq, List.getElem?_cons_zero, List.getElem?_cons_succ]
      rw [q3]
      have gb2 := E2 _ _ gb
      simp [gb2, seq3, asg3, gn3, ret3, retN3, ifS3, drop3, nev3, next3, v3, c3, o3, u3, neg3, L3.ixT, L3.ixR, cat3, iI, iC, iB, eqA3, scalT, isN3, tb3, and3, or3, not3, andV3, orV3, notV3, if3, ch3, cb3, cons3, nil3, isi3, tyT, subT, tup3, lst3, tsl3, np3, sp3, gtup3, gcons3, gnil3, gsub3, set3, par3, start3, bm3, app3, ext3, len3, abs3, min3, max3, int3, tuple3, list3, all3, any3, aug3, cut3, HT.sIx, in3, flatT, eqF, sizeLine_eq, List.getElem?_cons_zero, List.getElem?_cons_succ]
      have bl := barsT_len B ws i
      refine ⟨by rw [getL_lst gb2]; rfl, by rw [bl]; omega, ?_⟩
      refine hnx _ _ ⟨fun b o hb => ?_, ?_, ?_, fun m hm => ?_, _, _, rfl⟩
      · rw [gu_ne (by rintro rfl; rw [hpb] at hb; cases hb)]
        exact E2 _ _ (E _ _ hb)
      · have := E2.getL gf
        unfold getL at this ⊢
        rw [gu_ne nfb]
        exact this
      · rw [gu_same, barsT_succ, e]
      · rcases Nat.lt_or_ge m i with z | z
        · exact hs m z
        · have : m = i := by omega
          subst this; exact es
  · rintro τ G' ⟨E, gf, gb, hs, x3, x4, rfl⟩
    have fl : (facs B (B * B)).length = B * B := by simp [facs]
    rw [fl] at hs gb
    show nx1 _ _
    rw [q1]
    simp [seq3, asg3, gn3, ret3, retN3, ifS3, drop3, nev3, next3, v3, c3, o3, u3, neg3, L3.ixT, L3.ixR, cat3, iI, iC, iB, eqA3, scalT, isN3, tb3, and3, or3, not3, andV3, orV3, notV3, if3, ch3, cb3, cons3, nil3, isi3, tyT, subT, tup3, lst3, tsl3, np3, sp3, gtup3, gcons3, gnil3, gsub3, set3, par3, start3, bm3, app3, ext3, len3, abs3, min3, max3, int3, tuple3, list3, all3, any3, aug3, cut3, HT.sIx, in3, flatT, eqF, sizeLine_eq, List.getElem?_cons_zero, List.getElem?_cons_succ]
    have sk := sk_end hs
    refine h _ _ ⟨E, fun n en => ?_, fun _ => ⟨pb, rfl, hpb, gb⟩⟩
    rw [sk] at en; cases en
theorem lc_cells {ws : List Wk} {p : Addr} {G : Gp} {q : Q3} (ok : WsOk ws) (hp : getL G p = some (ws.map Wk.t)) (h : ∀ rs p2 G', Ex G G' → Rows G' rs ws → G' p2 = none → q (.ref p2) (gu G' p2 (.lst (rs.map T.ref)))) :
    lcGo (fun G => getL G p = some (ws.map Wk.t)) (gn3 0) tt3 (cb3 sp_law_cells (cons3 (v3 0) nil3)) q (ws.map Wk.t) [] [none] G := by
  refine lcGo_inv _ (fun i ys τ G' => Ex G G' ∧ (∃ rs, ys = rs.map T.ref ∧ Rows G' rs (ws.take i)) ∧ ∃ x0, τ = [x0]) ⟨Ex.refl, ⟨[], rfl, rfl, fun i r w hr => by simp at hr⟩, none, rfl⟩ (fun _ _ _ _ _ hP => hP.1.getL hp) ?_ ?_
  · rintro i z ys τ G' R hz ⟨E, ⟨rs, rfl, hr⟩, x0, rfl⟩ hR
    rw [List.getElem?_map] at hz
    cases e : ws[i]? with
    | none => rw [e] at hz; cases hz
    | some w =>
      rw [e] at hz
      have : z = w.t := by simpa using hz.symm
      subst this
      have hi := (List.getElem?_eq_some_iff.mp e).1
      have wok := ok.2 w (List.mem_of_getElem? e)
      have l10 := ok.1
      have lr : rs.length = i := by rw [hr.1, List.length_take, Nat.min_eq_left (Nat.le_of_lt hi)]
      simp [tt3, seq3, asg3, gn3, ret3, retN3, ifS3, drop3, nev3, next3, v3, c3, o3, u3, neg3, L3.ixT, L3.ixR, cat3, iI, iC, iB, eqA3, scalT, isN3, tb3, and3, or3, not3, andV3, orV3, notV3, if3, ch3, cb3, cons3, nil3, isi3, tyT, subT, tup3, lst3, tsl3, np3, sp3, gtup3, gcons3, gnil3, gsub3, set3, par3, start3, bm3, app3, ext3, len3, abs3, min3, max3, int3, tuple3, list3, all3, any3, aug3, cut3, HT.sIx, in3, flatT, eqF, sizeLine_eq, List.getElem?_cons_zero, List.getElem?_cons_succ]
      refine ⟨w, rfl, wok, fun p2 G2 E2 f2 g2 => ⟨by omega, hR _ _ _ ⟨E.trans E2, ⟨rs ++ [p2], by simp, ?_, ?_⟩, _, rfl⟩⟩⟩
      · rw [List.length_append, lr, List.length_take]; simp; omega
      · intro k r v hk hv
        rw [List.getElem?_take] at hv
        split at hv
        · rename_i lt
          rcases Nat.lt_or_ge k i with z | z
          · rw [List.getElem?_append_left (by omega)] at hk
            exact E2.getL (hr.2 k r v hk (by rw [List.getElem?_take, if_pos z]; exact hv))
          · have : k = i := by omega
            subst this
            rw [List.getElem?_append_right (by omega), lr] at hk
            simp at hk
            subst hk
            rw [e] at hv
            cases hv
            exact getL_lst g2
        · cases hv
  · rintro ys τ G' ⟨E, ⟨rs, rfl, hr⟩, x0, rfl⟩ p2 hp2
    rw [List.length_map, List.take_length] at hr
    exact h rs p2 G' E hr hp2
abbrev sp_law_skew_due : Sp3 := sp_skew_for
theorem rd_law_skew_due : ∀ ts G q, sp_law_skew_due ts G q → ts.length = 2 ∧ t_law_skew_due sp_law_cells sp_law_barred (ends q) (start3 ["_law_banks", "_law_walks_here", "_law_rows", "_law_blocked", "_law_pair", "_law_bar"] ts) G := by
  rintro ts G q ⟨B, ws, p, rfl, h1, h2, hp, ok, h⟩
  refine ⟨rfl, ?_⟩
  unfold t_law_skew_due
  refine seq_i fun nx0 q0 => ?_
  simp only [asg3, lc3, iseq3, v3, gn3, start3, List.map, List.length, List.cons_append, List.getElem?_cons_zero, List.getElem?_cons_succ, List.set_cons_succ, List.set_cons_zero, hp, cap]
  refine lc_cells ok hp fun rs pr G1 E1 hr hpr => ?_
  show nx0 [some (.int B), some (.ref p), some (.ref pr), none, none, none] _
  have E2 : Ex G1 (gu G1 pr (.lst (rs.map T.ref))) := ex_new hpr
  have gr : getL (gu G1 pr (.lst (rs.map T.ref))) pr = some (rs.map T.ref) := getL_lst gu_same
  have hr2 : Rows (gu G1 pr (.lst (rs.map T.ref))) rs ws := ⟨hr.1, fun i r w a b => E2.getL (hr.2 i r w a b)⟩
  have E02 := E1.trans E2
  generalize gu G1 pr (.lst (rs.map T.ref)) = G2 at E2 gr hr2 E02
  rw [q0]
  clear q0
  refine seq_i fun nx1 q1 => ?_
  simp [seq3, asg3, gn3, ret3, retN3, ifS3, drop3, nev3, next3, v3, c3, o3, u3, neg3, L3.ixT, L3.ixR, cat3, iI, iC, iB, eqA3, scalT, isN3, tb3, and3, or3, not3, andV3, orV3, notV3, if3, ch3, cb3, cons3, nil3, isi3, tyT, subT, tup3, lst3, tsl3, np3, sp3, gtup3, gcons3, gnil3, gsub3, set3, par3, start3, bm3, app3, ext3, len3, abs3, min3, max3, int3, tuple3, list3, all3, any3, aug3, cut3, HT.sIx, in3, flatT, eqF, sizeLine_eq, List.getElem?_cons_zero, List.getElem?_cons_succ]
  intro pb hpb
  rw [q1]
  clear q1
  have E3 : Ex G2 (gu G2 pb (.lst [])) := ex_new hpb
  have hB : B * B ≤ 32 * 32 := Nat.mul_le_mul h2 h2
  refine seq_i fun nx2 q2 => ?_
  simp only [for3, irng3, cons3, nil3, o3, iC, v3, List.getElem?_cons_zero, List.getElem?_cons_succ]
  have eB : (B : Int) * (B : Int) = ((B * B : Nat) : Int) := (Int.natCast_mul _ _).symm
  rw [eB]
  refine ⟨cm (by omega) (by omega), ⟨by omega, by omega⟩, ?_⟩
  rw [Int.toNat_natCast]
  refine forGo_inv _ (fun i τ G' => Ex G2 G' ∧ G' pb = some (.lst (barsT B ws i)) ∧ (∀ n, n < i → (fbar B ws n).isSome = true) ∧ ∃ x4 x5, τ = [some (.int B), some (.ref p), some (.ref pr), some (.ref pb), x4, x5])
    ⟨E3, by rw [gu_same]; rfl, fun n hn => by omega, none, none, rfl⟩ (fun _ _ _ _ _ => True.intro) ?_ ?_
  · rintro i z τ G' nx hz ⟨E, gb, hs, x4, x5, rfl⟩ hnx
    obtain ⟨hi, rfl⟩ := rng_get hz
    have bd := fac_bd h1 hi
    have iA : (0 + (i : Int)) / (B : Int) = ((i / B : Nat) : Int) := by rw [Int.zero_add]; exact (Int.natCast_ediv _ _).symm
    have iC' : (0 + (i : Int)) % (B : Int) = ((i % B : Nat) : Int) := by rw [Int.zero_add]; exact (Int.natCast_emod _ _).symm
    simp only [gn3, List.set_cons_succ, List.set_cons_zero]
    refine seq_i fun nx3 q3 => ?_
    simp only [asg3, cb3, cons3, nil3, o3, iC, v3, gn3, List.getElem?_cons_zero, List.getElem?_cons_succ, List.set_cons_succ, List.set_cons_zero, iA, iC']
    refine ⟨⟨by omega, by omega⟩, by omega, ?_⟩
    refine ⟨B, _, _, ws, rs, pr, rfl, by omega, ⟨Int.natCast_nonneg _, by omega⟩, ⟨Int.natCast_nonneg _, by omega⟩, E.getL gr, ⟨hr2.1, fun i r w a b => E.getL (hr2.2 i r w a b)⟩, ok, fun G4 E4 => ?_⟩
    rw [q3]
    clear q3
    refine seq_i fun nx4 q4 => ?_
    by_cases hn : fbar B ws i = none
    · have e : barT (barO (B : Int) ((i / B : Nat) : Int) ((i % B : Nat) : Int) 0 ws) = .non := barT_none.mpr hn
      rw [e]
      have sk := sk_at hi hn hs
      simp only [ifS3, tb3, o3, isN3, v3, c3, ret3, tup3, cons3, nil3, iC, List.getElem?_cons_zero, List.getElem?_cons_succ, iA, iC']
      refine ⟨⟨by omega, by omega⟩, by omega, by simp [sizeLine_eq], ?_⟩
      refine h _ _ ⟨(E02.trans E).trans E4, fun n en => ?_, fun en => ?_⟩
      · rw [sk] at en; cases en; rfl
      · rw [sk] at en; cases en
    · obtain ⟨n, k, l, e, es⟩ := bar_some hn
      have e' : barT (barO (B : Int) ((i / B : Nat) : Int) ((i % B : Nat) : Int) 0 ws) = .tup [.int n, .int k, .int l] := e
      rw [e']
      simp [seq3, asg3, gn3, ret3, retN3, ifS3, drop3, nev3, next3, v3, c3, o3, u3, neg3, L3.ixT, L3.ixR, cat3, iI, iC, iB, eqA3, scalT, isN3, tb3, and3, or3, not3, andV3, orV3, notV3, if3, ch3, cb3, cons3, nil3, isi3, tyT, subT, tup3, lst3, tsl3, np3, sp3, gtup3, gcons3, gnil3, gsub3, set3, par3, start3, bm3, app3, ext3, len3, abs3, min3, max3, int3, tuple3, list3, all3, any3, aug3, cut3, HT.sIx, in3, flatT, eqF, sizeLine_eq, List.getElem?_cons_zero, List.getElem?_cons_succ]
      rw [q4]
      have gb2 := E4 _ _ gb
      simp [gb2, seq3, asg3, gn3, ret3, retN3, ifS3, drop3, nev3, next3, v3, c3, o3, u3, neg3, L3.ixT, L3.ixR, cat3, iI, iC, iB, eqA3, scalT, isN3, tb3, and3, or3, not3, andV3, orV3, notV3, if3, ch3, cb3, cons3, nil3, isi3, tyT, subT, tup3, lst3, tsl3, np3, sp3, gtup3, gcons3, gnil3, gsub3, set3, par3, start3, bm3, app3, ext3, len3, abs3, min3, max3, int3, tuple3, list3, all3, any3, aug3, cut3, HT.sIx, in3, flatT, eqF, sizeLine_eq, List.getElem?_cons_zero, List.getElem?_cons_succ]
      have bl := barsT_len B ws i
      refine ⟨by rw [getL_lst gb2]; rfl, by rw [bl]; omega, ?_⟩
      refine hnx _ _ ⟨fun b o hb => ?_, ?_, fun m hm => ?_, _, _, rfl⟩
      · rw [gu_ne (by rintro rfl; rw [hpb] at hb; cases hb)]
        exact E4 _ _ (E _ _ hb)
      · rw [gu_same, barsT_succ, e]
      · rcases Nat.lt_or_ge m i with z | z
        · exact hs m z
        · have : m = i := by omega
          subst this; exact es
  · rintro τ G' ⟨E, gb, hs, x4, x5, rfl⟩
    rw [rng_len] at hs gb
    show nx2 _ _
    rw [q2]
    simp [seq3, asg3, gn3, ret3, retN3, ifS3, drop3, nev3, next3, v3, c3, o3, u3, neg3, L3.ixT, L3.ixR, cat3, iI, iC, iB, eqA3, scalT, isN3, tb3, and3, or3, not3, andV3, orV3, notV3, if3, ch3, cb3, cons3, nil3, isi3, tyT, subT, tup3, lst3, tsl3, np3, sp3, gtup3, gcons3, gnil3, gsub3, set3, par3, start3, bm3, app3, ext3, len3, abs3, min3, max3, int3, tuple3, list3, all3, any3, aug3, cut3, HT.sIx, in3, flatT, eqF, sizeLine_eq, List.getElem?_cons_zero, List.getElem?_cons_succ]
    have sk := sk_end hs
    have hpb0 : G pb = none := by
      cases e : G pb with
      | none => rfl
      | some o => rw [E02 _ _ e] at hpb; cases hpb
    refine h _ _ ⟨E02.trans E, fun n en => ?_, fun _ => ⟨pb, rfl, hpb0, gb⟩⟩
    rw [sk] at en; cases en
def sp_law_walks : Sp3 := fun ts G q => ∃ a n, ts = [.ref a] ∧ Lf G a n ∧ n < 100000 ∧ ∀ (ws : List Wk) (p : Addr) G', WsOk ws → Lf G' a (n + 1000) → Ext a G G' → G p = none → G' p = some (.lst (ws.map Wk.t)) → p ≠ a → q (.ref p) G'
theorem rd_law_walks : ∀ ts G q, sp_law_walks ts G q → ts.length = 1 ∧ t_law_walks sp_law_pick sp_law_walk (ends q) (start3 ["_law_left_here"] ts) G := by
  rintro ts G q ⟨a, n, rfl, hL, hn, h⟩
  refine ⟨rfl, ?_⟩
  simp [t_law_walks, lc3, irng3, cap, seq3, asg3, gn3, ret3, retN3, ifS3, drop3, nev3, next3, v3, c3, o3, u3, neg3, L3.ixT, L3.ixR, cat3, iI, iC, iB, eqA3, scalT, isN3, tb3, and3, or3, not3, andV3, orV3, notV3, if3, ch3, cb3, cons3, nil3, isi3, tyT, subT, tup3, lst3, tsl3, np3, sp3, gtup3, gcons3, gnil3, gsub3, set3, par3, start3, bm3, app3, ext3, len3, abs3, min3, max3, int3, tuple3, list3, all3, any3, aug3, cut3, HT.sIx, in3, flatT, eqF, sizeLine_eq, List.getElem?_cons_zero, List.getElem?_cons_succ]
  intro p hp
  have np := hL.ne hp
  refine pick_i (hL.new np) (by omega) (by omega) (by omega) fun d G1 d0 d1 L1 E1 => ?_
  have g := getL_lst (E1 _ _ np gu_same)
  obtain ⟨z, hz, hm⟩ := atI_mem (xs := [T.int 1, .int 2, .int 2, .int 3, .int 3, .int 4, .int 5, .int 0]) d0 (by simpa using d1)
  simp only [L3.ixR, g, hz]
  have : ∃ k : Nat, z = .int k ∧ k ≤ 5 := by
    simp only [List.mem_cons, List.not_mem_nil, or_false] at hm
    rcases hm with rfl | rfl | rfl | rfl | rfl | rfl | rfl | rfl
    · exact ⟨1, rfl, by omega⟩
    · exact ⟨2, rfl, by omega⟩
    · exact ⟨2, rfl, by omega⟩
    · exact ⟨3, rfl, by omega⟩
    · exact ⟨3, rfl, by omega⟩
    · exact ⟨4, rfl, by omega⟩
    · exact ⟨5, rfl, by omega⟩
    · exact ⟨0, rfl, by omega⟩
  obtain ⟨k, rfl, k2⟩ := this
  have X1 : Ext a G G1 := (ext_new hp).trans E1
  simp only
  refine ⟨⟨by omega, by omega⟩, ?_⟩
  rw [Int.toNat_natCast]
  refine lcGo_inv _ (fun i ys τ G' => ∃ ws : List Wk, ys = ws.map Wk.t ∧ ws.length = i ∧ (∀ w ∈ ws, w.Ok) ∧ Lf G' a (n + 1 + 60 * i) ∧ Ext a G1 G' ∧ ∃ x0, τ = [x0, some (.ref a)]) ⟨[], rfl, rfl, (by intro w hw; cases hw), by simpa using L1, Ext.refl, none, rfl⟩ (fun _ _ _ _ _ _ => True.intro) ?_ ?_
  · rintro i z ys τ G' R hz ⟨ws, rfl, e, ok, L, E, x0, rfl⟩ hR
    obtain ⟨hi, rfl⟩ := rng_get hz
    simp [tt3, seq3, asg3, gn3, ret3, retN3, ifS3, drop3, nev3, next3, v3, c3, o3, u3, neg3, L3.ixT, L3.ixR, cat3, iI, iC, iB, eqA3, scalT, isN3, tb3, and3, or3, not3, andV3, orV3, notV3, if3, ch3, cb3, cons3, nil3, isi3, tyT, subT, tup3, lst3, tsl3, np3, sp3, gtup3, gcons3, gnil3, gsub3, set3, par3, start3, bm3, app3, ext3, len3, abs3, min3, max3, int3, tuple3, list3, all3, any3, aug3, cut3, HT.sIx, in3, flatT, eqF, sizeLine_eq, List.getElem?_cons_zero, List.getElem?_cons_succ]
    refine ⟨a, _, rfl, L, by omega, fun w G2 wok L2' E2 => ⟨by omega, hR _ _ _ ⟨ws ++ [w], by simp, by simp [e], fun x hx => ?_, L2'.mono (by omega), E.trans E2, _, rfl⟩⟩⟩
    rcases List.mem_append.mp hx with hx | hx
    · exact ok x hx
    · simp at hx; subst hx; exact wok
  · rintro ys τ G' ⟨ws, rfl, e, ok, L, E, x0, rfl⟩ p2 hp2
    rw [rng_len] at e L
    have np2 := L.ne hp2
    refine h ws p2 _ ⟨by omega, ok⟩ ((L.new np2).mono (by omega)) ((X1.trans E).trans (ext_new hp2)) ?_ gu_same np2
    cases e : G p2 with
    | none => rfl
    | some o => rw [(X1.trans E) _ _ np2 e] at hp2; cases hp2
end Bk
set_option Elab.async false
set_option linter.all false
set_option maxRecDepth 100000
set_option maxHeartbeats 4000000
namespace Bk
open PySem L2 L3
theorem dss_ps (G : Gp) (k : Nat) : ∀ {ps : List (Int × Int)}, (∀ p ∈ ps, (-16 ≤ p.1 ∧ p.1 ≤ 16) ∧ (-16 ≤ p.2 ∧ p.2 ≤ 16)) → DSs G (k + 1) (ps.length * 3) (ps.map pT)
  | [], _ => dss_nil _ _ _
  | p :: ps, h => by
    have hp := h p (by simp)
    have a : DS G (k + 1) 2 (pT p) := ds_tup (dss_cons (ds_int G k 0 (by omega)) (dss_cons (ds_int G k 0 (by omega)) (dss_nil _ _ 0) (Nat.le_refl _)) (Nat.le_refl _))
    refine dss_cons a (dss_ps G k fun r hr => h r (by simp [hr])) ?_
    rw [List.length_cons, Nat.succ_mul]; omega
theorem wk_ds (G : Gp) {w : Wk} (ok : w.Ok) : DS G 3 100 w.t := by
  have z : ∀ {i : Int}, -1000000 ≤ i ∧ i ≤ 1000000 → DS G 2 0 (.int i) := fun h => ds_int _ _ _ h
  have lnS : ∀ k, (lnName k).cps.size ≤ 10 ∧ ((lnName k).cps.toList.all fun c => decide (c < 16 ^ 8)) = true := by
    intro k
    rcases k with _ | _ | _ | k
    · decide
    · decide
    · decide
    · exact (by decide : (Str.ofString "back").cps.size ≤ 10 ∧ ((Str.ofString "back").cps.toList.all fun c => decide (c < 16 ^ 8)) = true)
  cases w with
  | line k m =>
    obtain ⟨h1, h2, h3⟩ := ok
    exact (ds_tup (dss_cons (ds_str G 2 10 (lnS k).1 (lnS k).2) (dss_cons (z (by omega)) (dss_nil _ _ 0) (Nat.le_refl _)) (Nat.le_refl _))).mono (by omega) (by omega)
  | block h v =>
    obtain ⟨h1, h2, h3, h4, h5⟩ := ok
    exact (ds_tup (dss_cons (ds_str G 2 10 (by decide) (by decide)) (dss_cons (z (by omega)) (dss_cons (z (by omega)) (dss_nil _ _ 0) (Nat.le_refl _)) (Nat.le_refl _)) (Nat.le_refl _))).mono (by omega) (by omega)
  | step d a m =>
    obtain ⟨h1, h2, h3, h4⟩ := ok
    exact (ds_tup (dss_cons (ds_str G 2 10 (by decide) (by decide)) (dss_cons (z (by omega)) (dss_cons (z (by omega)) (dss_cons (z (by omega)) (dss_nil _ _ 0) (Nat.le_refl _)) (Nat.le_refl _)) (Nat.le_refl _)) (Nat.le_refl _))).mono (by omega) (by omega)
  | cells ps =>
    obtain ⟨h1, h2, h3, h4⟩ := ok
    have a : DS G 2 48 (.tup (ps.map pT)) := (ds_tup (dss_ps G 0 h4)).mono (by omega) (by omega)
    exact (ds_tup (dss_cons (ds_str G 2 10 (by decide) (by decide)) (dss_cons a (dss_nil _ _ 0) (Nat.le_refl _)) (Nat.le_refl _))).mono (by omega) (by omega)
theorem wks_ds (G : Gp) : ∀ (us : List Wk), (∀ w ∈ us, w.Ok) → DSs G 3 (us.length * 101) (us.map Wk.t) := fun us => by
  induction us with
  | nil => exact fun _ => dss_nil _ _ _
  | cons u us ih =>
    intro hu
    refine dss_cons (wk_ds _ (hu u (by simp))) (ih fun w hw => hu w (by simp [hw])) ?_
    rw [List.length_cons, Nat.succ_mul]; omega
theorem wks_text {G : Gp} {ws : List Wk} {p : Addr} (ok : WsOk ws) (g : getL G p = some (ws.map Wk.t)) : ∃ x : Str, ∀ G', Ex G G' → ∀ q : Str → Prop, q x → shT true (.ref p) G' q := by
  have l := ok.1
  exact sh_text (st := true) (ds_lst g (wks_ds G ws ok.2)) (by omega) (by omega)
noncomputable def resD (B : Nat) (ws : List Wk) : PyData := match skO B ws with
  | some n => .tuple [.str "skew", .int ((n / B : Nat) : Int), .int ((n % B : Nat) : Int)]
  | none => .tuple [.str "none", .list (barsD B ws (B * B))]
theorem SkR.dp {B : Nat} {ws : List Wk} {G G' : Gp} {x : T} (h : SkR B ws G G' x) : Dp G' x (resD B ws) := by
  unfold resD
  cases e : skO B ws with
  | some n =>
    rw [h.un n e]
    exact .tup (.cons (.str _) (.cons (.int _) (.cons (.int _) .nil)))
  | none =>
    obtain ⟨pb, rfl, _, gb⟩ := h.no e
    exact .tup (.cons (.str _) (.cons (.lst (getL_lst gb) (bars_dp _ _ _ _)) .nil))
theorem barsD_dep (B : Nat) (ws : List Wk) (N : Nat) (hN : N ≤ 1024) : DepLe 2 (.list (barsD B ws N)) := by
  have : ∀ n, DepLe 1 (barD (fbar B ws n)) := fun n => by
    cases fbar B ws n with
    | none => simp [barD, DepLe]
    | some r => simp [barD, DepLe]
  refine ⟨by simp [barsD]; omega, fun d hd => ?_⟩
  unfold barsD at hd
  obtain ⟨n, _, rfl⟩ := List.mem_map.mp hd
  exact this n
end Bk
set_option Elab.async false
set_option linter.all false
set_option maxRecDepth 100000
set_option maxHeartbeats 4000000
namespace K36
open PySem L2 L3 Bk
def top (i : Nat) : Stmt := PySem.Challenge.pw_bankwalk_k36_least_skews.main.body.getD i (.Pass ⟨0, 0, 0, 0⟩)
abbrev st_first_alike : Stmt := top 1
theorem sc_first_alike : FnScope ["things", "k", "l"] ["things"] (defScope st_first_alike) := ⟨rfl, rfl, rfl, by decide +kernel, rfl, by decide +kernel, by decide +kernel⟩
theorem ok_first_alike {P : Program} {w : World} {K : PySem.W.Frag} {mg : Str → Option Value} {base : Heap} {f : Addr} {fd : FuncData} {k : Nat} {sp : Sp3} (F : Fun K "first_alike" "first_alike" st_first_alike f fd) (bd : Binds K fd ["things"] []) (hm : mg "first_alike" = some (.ref f))  (m_len : mg "len" = none) (m_range : mg "range" = none)
    (read : ∀ ts G q, sp ts G q → ts.length = 1 ∧ (Bk.t_first_alike) { nx := fun _ G' => q .non G', rt := q } (start3 ["things", "k", "l"] ts) G) : Fn3 P w K mg base (k + 1) "first_alike" sp :=
  jfn3_of (t3 := (Bk.t_first_alike)) F sc_first_alike bd hm (fun cdv A outer s H E hr => (jb_cons (js_for PassesOwn.never rfl (ji_range1 rfl m_range (ja_cons (je_callB call_len ref_len rfl m_len PySem.boot_len (ja_cons (je_var 0) ja_nil)) ja_nil) (h1 := by intro _ _ _ h; simpa [cons3, nil3] using h)) (jg_name (i := 1) (sc_first_alike.nd)) (jb_one (js_for PassesOwn.never rfl (ji_range2 rfl m_range (ja_cons (je_plus (je_var 1) je_int) (ja_cons (je_callB call_len ref_len rfl m_len PySem.boot_len (ja_cons (je_var 0) ja_nil)) ja_nil)) (h1 := by intro _ _ _ h; simpa [cons3, nil3] using h)) (jg_name (i := 2) (sc_first_alike.nd)) (jb_one (js_if (jt_cmp (op_eqA hr.units) ref_eqA (je_ix (je_var 0) (je_var 1)) (je_ix (je_var 0) (je_var 2)) (nomark _)) (jb_one (js_ret (je_tup (ja_cons (je_var 1) (ja_cons (je_var 2) ja_nil))))) jb_nil))))) (jb_one (js_ret je_non)))) read
abbrev st_strung : Stmt := top 4
theorem sc_strung : FnScope ["down", "along", "many"] ["down", "along", "many"] (defScope st_strung) := ⟨rfl, rfl, rfl, by decide +kernel, rfl, by decide +kernel, by decide +kernel⟩
theorem ok_strung {P : Program} {w : World} {K : PySem.W.Frag} {mg : Str → Option Value} {base : Heap} {f : Addr} {fd : FuncData} {k : Nat} {sp : Sp3} (F : Fun K "strung" "strung" st_strung f fd) (bd : Binds K fd ["down", "along", "many"] []) (hm : mg "strung" = some (.ref f))  (m_range : mg "range" = none)
    (read : ∀ ts G q, sp ts G q → ts.length = 3 ∧ (Bk.t_strung) { nx := fun _ G' => q .non G', rt := q } (start3 ["down", "along", "many"] ts) G) : Fn3 P w K mg base (k + 1) "strung" sp :=
  jfn3_of (t3 := (Bk.t_strung)) F sc_strung bd hm (fun cdv A outer s H E hr => (jb_one (js_ret (je_lc ["t", "down", "along"] [none, some 0, some 1] rfl (ji_range1 rfl m_range (ja_cons (je_var 2) ja_nil) (h1 := by intro _ _ _ h; simpa [cons3, nil3] using h)) (fun _ _ _ => (jg_name (i := 0) (show (["t", "down", "along"] : List Str).Nodup by decide +kernel))) (fun _ _ _ => jf_nil) (fun _ _ _ => (je_tup (ja_cons (je_mul (je_var 0) (je_var 1)) (ja_cons (je_mul (je_var 0) (je_var 2)) ja_nil)))) (show scOk (defScope st_strung) _ = true by decide +kernel) (show capOk ["down", "along", "many"] ["t", "down", "along"] _ [none, some 0, some 1] = true by decide +kernel))))) read
abbrev st_cells_of : Stmt := top 5
theorem sc_cells_of : FnScope ["walk", "kind", "down", "along"] ["walk"] (defScope st_cells_of) := ⟨rfl, rfl, rfl, by decide +kernel, rfl, by decide +kernel, by decide +kernel⟩
theorem ok_cells_of {P : Program} {w : World} {K : PySem.W.Frag} {mg : Str → Option Value} {base : Heap} {f : Addr} {fd : FuncData} {k : Nat} {sp : Sp3} {S_strung : Sp3} (F : Fun K "cells_of" "cells_of" st_cells_of f fd) (bd : Binds K fd ["walk"] []) (hm : mg "cells_of" = some (.ref f)) (F_strung : Fn3 P w K mg base k "strung" S_strung) (m_list : mg "list" = none) (m_range : mg "range" = none) (m_STRIDES : Tb K mg w "STRIDES" stridesT)
    (read : ∀ ts G q, sp ts G q → ts.length = 1 ∧ (Bk.t_cells_of S_strung) { nx := fun _ G' => q .non G', rt := q } (start3 ["walk", "kind", "down", "along"] ts) G) : Fn3 P w K mg base (k + 1) "cells_of" sp :=
  jfn3_of (t3 := (Bk.t_cells_of S_strung)) F sc_cells_of bd hm (fun cdv A outer s H E hr => (jb_cons (js_set 1 sc_cells_of.nd (je_ix (je_var 0) je_int)) (jb_cons (js_if (jt_cmp (op_eqA hr.units) ref_eqA (je_var 1) je_str (nomark _)) (jb_one (js_ret (je_callTy call_list_of ref_list rfl m_list PyProof.Rows.boot_list (ja_cons (je_ix (je_var 0) je_int) ja_nil)))) jb_nil) (jb_cons (js_if (jt_cmp (op_eqA hr.units) ref_eqA (je_var 1) je_str (nomark _)) (jb_one (js_ret (je_lc2 ["p", "q", "walk"] [none, none, some 0] rfl (ji_range1 rfl m_range (ja_cons (je_ix (je_var 0) je_int) ja_nil) (h1 := by intro _ _ _ h; simpa [cons3, nil3] using h)) (fun _ _ _ => (jg_name (i := 0) (show (["p", "q", "walk"] : List Str).Nodup by decide +kernel))) (fun _ _ _ => jf_nil) (fun _ _ _ => (ji_range1 rfl m_range (ja_cons (je_ix (je_var 2) je_int) ja_nil) (h1 := by intro _ _ _ h; simpa [cons3, nil3] using h))) (fun _ _ _ => (jg_name (i := 1) (show (["p", "q", "walk"] : List Str).Nodup by decide +kernel))) (fun _ _ _ => jf_nil) (fun _ _ _ => (je_tup (ja_cons (je_var 0) (ja_cons (je_var 1) ja_nil)))) (show scOk (defScope st_cells_of) _ = true by decide +kernel) (show capOk ["walk", "kind", "down", "along"] ["p", "q", "walk"] _ [none, none, some 0] = true by decide +kernel)))) jb_nil) (jb_cons (js_if (jt_cmp (op_eqA hr.units) ref_eqA (je_var 1) je_str (nomark _)) (jb_one (js_ret (je_call F_strung hr rfl (ja_cons (je_ix (je_var 0) je_int) (ja_cons (je_ix (je_var 0) je_int) (ja_cons (je_ix (je_var 0) je_int) ja_nil)))))) jb_nil) (jb_cons (js_asg (je_tget m_STRIDES rfl (je_var 1) (fun _ _ => rfl)) (jg_tup rfl (jg_cons (jg_name (i := 2) (sc_cells_of.nd)) (jg_cons (jg_name (i := 3) (sc_cells_of.nd)) jg_nil)))) (jb_one (js_ret (je_call F_strung hr rfl (ja_cons (je_var 2) (ja_cons (je_var 3) (ja_cons (je_ix (je_var 0) je_int) ja_nil)))))))))))) read
abbrev st_rests_by : Stmt := top 7
theorem sc_rests_by : FnScope ["banks", "factors", "walk", "a", "b"] ["banks", "factors", "walk"] (defScope st_rests_by) := ⟨rfl, rfl, rfl, by decide +kernel, rfl, by decide +kernel, by decide +kernel⟩
theorem ok_rests_by {P : Program} {w : World} {K : PySem.W.Frag} {mg : Str → Option Value} {base : Heap} {f : Addr} {fd : FuncData} {k : Nat} {sp : Sp3} {S_cells_of : Sp3} (F : Fun K "rests_by" "rests_by" st_rests_by f fd) (bd : Binds K fd ["banks", "factors", "walk"] []) (hm : mg "rests_by" = some (.ref f)) (F_cells_of : Fn3 P w K mg base k "cells_of" S_cells_of) (m_tuple : mg "tuple" = none)
    (read : ∀ ts G q, sp ts G q → ts.length = 3 ∧ (Bk.t_rests_by S_cells_of) { nx := fun _ G' => q .non G', rt := q } (start3 ["banks", "factors", "walk", "a", "b"] ts) G) : Fn3 P w K mg base (k + 1) "rests_by" sp :=
  jfn3_of (t3 := (Bk.t_rests_by S_cells_of)) F sc_rests_by bd hm (fun cdv A outer s H E hr => (jb_cons (js_asg (je_var 1) (jg_tup rfl (jg_cons (jg_name (i := 3) (sc_rests_by.nd)) (jg_cons (jg_name (i := 4) (sc_rests_by.nd)) jg_nil)))) (jb_one (js_ret (je_callTy call_tuple_of ref_tuple rfl m_tuple PyProof.Rows.boot_tuple (ja_cons (je_lc ["p", "q", "banks", "a", "b"] [none, none, some 0, some 3, some 4] rfl (ji_seq (je_call F_cells_of hr rfl (ja_cons (je_var 2) ja_nil))) (fun _ _ _ => (jg_tup rfl (jg_cons (jg_name (i := 0) (show (["p", "q", "banks", "a", "b"] : List Str).Nodup by decide +kernel)) (jg_cons (jg_name (i := 1) (show (["p", "q", "banks", "a", "b"] : List Str).Nodup by decide +kernel)) jg_nil)))) (fun _ _ _ => jf_nil) (fun _ _ _ => (je_mod (je_plus (je_mul (je_var 3) (je_var 0)) (je_mul (je_var 4) (je_var 1))) (je_var 2))) (show scOk (defScope st_rests_by) _ = true by decide +kernel) (show capOk ["banks", "factors", "walk", "a", "b"] ["p", "q", "banks", "a", "b"] _ [none, none, some 0, some 3, some 4] = true by decide +kernel)) ja_nil)))))) read
abbrev st_all_factors : Stmt := top 9
theorem sc_all_factors : FnScope ["banks"] ["banks"] (defScope st_all_factors) := ⟨rfl, rfl, rfl, by decide +kernel, rfl, by decide +kernel, by decide +kernel⟩
theorem ok_all_factors {P : Program} {w : World} {K : PySem.W.Frag} {mg : Str → Option Value} {base : Heap} {f : Addr} {fd : FuncData} {k : Nat} {sp : Sp3} (F : Fun K "all_factors" "all_factors" st_all_factors f fd) (bd : Binds K fd ["banks"] []) (hm : mg "all_factors" = some (.ref f))  (m_range : mg "range" = none)
    (read : ∀ ts G q, sp ts G q → ts.length = 1 ∧ (Bk.t_all_factors) { nx := fun _ G' => q .non G', rt := q } (start3 ["banks"] ts) G) : Fn3 P w K mg base (k + 1) "all_factors" sp :=
  jfn3_of (t3 := (Bk.t_all_factors)) F sc_all_factors bd hm (fun cdv A outer s H E hr => (jb_one (js_ret (je_lc2 ["a", "b", "banks"] [none, none, some 0] rfl (ji_range1 rfl m_range (ja_cons (je_var 0) ja_nil) (h1 := by intro _ _ _ h; simpa [cons3, nil3] using h)) (fun _ _ _ => (jg_name (i := 0) (show (["a", "b", "banks"] : List Str).Nodup by decide +kernel))) (fun _ _ _ => jf_nil) (fun _ _ _ => (ji_range1 rfl m_range (ja_cons (je_var 2) ja_nil) (h1 := by intro _ _ _ h; simpa [cons3, nil3] using h))) (fun _ _ _ => (jg_name (i := 1) (show (["a", "b", "banks"] : List Str).Nodup by decide +kernel))) (fun _ _ _ => jf_nil) (fun _ _ _ => (je_tup (ja_cons (je_var 0) (ja_cons (je_var 1) ja_nil)))) (show scOk (defScope st_all_factors) _ = true by decide +kernel) (show capOk ["banks"] ["a", "b", "banks"] _ [none, none, some 0] = true by decide +kernel))))) read
abbrev st_first_bar : Stmt := top 10
theorem sc_first_bar : FnScope ["banks", "factors", "walks", "n", "walk", "found"] ["banks", "factors", "walks"] (defScope st_first_bar) := ⟨rfl, rfl, rfl, by decide +kernel, rfl, by decide +kernel, by decide +kernel⟩
theorem ok_first_bar {P : Program} {w : World} {K : PySem.W.Frag} {mg : Str → Option Value} {base : Heap} {f : Addr} {fd : FuncData} {k : Nat} {sp : Sp3} {S_rests_by : Sp3} {S_first_alike : Sp3} (F : Fun K "first_bar" "first_bar" st_first_bar f fd) (bd : Binds K fd ["banks", "factors", "walks"] []) (hm : mg "first_bar" = some (.ref f)) (F_rests_by : Fn3 P w K mg base k "rests_by" S_rests_by) (F_first_alike : Fn3 P w K mg base k "first_alike" S_first_alike) (m_enumerate : mg "enumerate" = none)
    (read : ∀ ts G q, sp ts G q → ts.length = 3 ∧ (Bk.t_first_bar S_rests_by S_first_alike) { nx := fun _ G' => q .non G', rt := q } (start3 ["banks", "factors", "walks", "n", "walk", "found"] ts) G) : Fn3 P w K mg base (k + 1) "first_bar" sp :=
  jfn3_of (t3 := (Bk.t_first_bar S_rests_by S_first_alike)) F sc_first_bar bd hm (fun cdv A outer s H E hr => (jb_cons (js_for PassesOwn.never rfl (ji_enum rfl m_enumerate (ja_cons (je_var 2) ja_nil)) (jg_tup rfl (jg_cons (jg_name (i := 3) (sc_first_bar.nd)) (jg_cons (jg_name (i := 4) (sc_first_bar.nd)) jg_nil))) (jb_cons (js_set 5 sc_first_bar.nd (je_call F_first_alike hr rfl (ja_cons (je_call F_rests_by hr rfl (ja_cons (je_var 0) (ja_cons (je_var 1) (ja_cons (je_var 4) ja_nil)))) ja_nil))) (jb_one (js_if (jt_cmp op_notN ref_notN (je_var 5) je_non (nomark _)) (jb_one (js_ret (je_tup (ja_cons (je_var 3) (ja_cons (je_ix (je_var 5) je_int) (ja_cons (je_ix (je_var 5) je_int) ja_nil)))))) jb_nil)))) (jb_one (js_ret je_non)))) read
abbrev st_skew_for : Stmt := top 11
theorem sc_skew_for : FnScope ["banks", "walks", "bars", "factors", "bar"] ["banks", "walks"] (defScope st_skew_for) := ⟨rfl, rfl, rfl, by decide +kernel, rfl, by decide +kernel, by decide +kernel⟩
theorem ok_skew_for {P : Program} {w : World} {K : PySem.W.Frag} {mg : Str → Option Value} {base : Heap} {f : Addr} {fd : FuncData} {k : Nat} {sp : Sp3} {S_all_factors : Sp3} {S_first_bar : Sp3} (F : Fun K "skew_for" "skew_for" st_skew_for f fd) (bd : Binds K fd ["banks", "walks"] []) (hm : mg "skew_for" = some (.ref f)) (F_all_factors : Fn3 P w K mg base k "all_factors" S_all_factors) (F_first_bar : Fn3 P w K mg base k "first_bar" S_first_bar) 
    (read : ∀ ts G q, sp ts G q → ts.length = 2 ∧ (Bk.t_skew_for S_all_factors S_first_bar) { nx := fun _ G' => q .non G', rt := q } (start3 ["banks", "walks", "bars", "factors", "bar"] ts) G) : Fn3 P w K mg base (k + 1) "skew_for" sp :=
  jfn3_of (t3 := (Bk.t_skew_for S_all_factors S_first_bar)) F sc_skew_for bd hm (fun cdv A outer s H E hr => (jb_cons (js_set 2 sc_skew_for.nd (je_lst ja_nil)) (jb_cons (js_for PassesOwn.never rfl (ji_seq (je_call F_all_factors hr rfl (ja_cons (je_var 0) ja_nil))) (jg_name (i := 3) (sc_skew_for.nd)) (jb_cons (js_set 4 sc_skew_for.nd (je_call F_first_bar hr rfl (ja_cons (je_var 0) (ja_cons (je_var 3) (ja_cons (je_var 1) ja_nil))))) (jb_cons (js_if (jt_cmp op_isN ref_isN (je_var 4) je_non (nomark _)) (jb_one (js_ret (je_tup (ja_cons je_str (ja_cons (je_ix (je_var 3) je_int) (ja_cons (je_ix (je_var 3) je_int) ja_nil)))))) jb_nil) (jb_one (js_expr (je_append (je_var 2) (ja_cons (je_var 4) ja_nil))))))) (jb_one (js_ret (je_tup (ja_cons je_str (ja_cons (je_var 2) ja_nil)))))))) read
abbrev st_least_skew : Stmt := top 12
theorem sc_least_skew : FnScope ["walks", "most", "bars", "banks", "told"] ["walks", "most"] (defScope st_least_skew) := ⟨rfl, rfl, rfl, by decide +kernel, rfl, by decide +kernel, by decide +kernel⟩
theorem ok_least_skew {P : Program} {w : World} {K : PySem.W.Frag} {mg : Str → Option Value} {base : Heap} {f : Addr} {fd : FuncData} {k : Nat} {sp : Sp3} {S_skew_for : Sp3} (F : Fun K "least_skew" "least_skew" st_least_skew f fd) (bd : Binds K fd ["walks", "most"] []) (hm : mg "least_skew" = some (.ref f)) (F_skew_for : Fn3 P w K mg base k "skew_for" S_skew_for) (m_range : mg "range" = none)
    (read : ∀ ts G q, sp ts G q → ts.length = 2 ∧ (Bk.t_least_skew S_skew_for) { nx := fun _ G' => q .non G', rt := q } (start3 ["walks", "most", "bars", "banks", "told"] ts) G) : Fn3 P w K mg base (k + 1) "least_skew" sp :=
  jfn3_of (t3 := (Bk.t_least_skew S_skew_for)) F sc_least_skew bd hm (fun cdv A outer s H E hr => (jb_cons (js_set 2 sc_least_skew.nd (je_lst ja_nil)) (jb_cons (js_for PassesOwn.never rfl (ji_range2 rfl m_range (ja_cons je_int (ja_cons (je_plus (je_var 1) je_int) ja_nil)) (h1 := by intro _ _ _ h; simpa [cons3, nil3] using h)) (jg_name (i := 3) (sc_least_skew.nd)) (jb_cons (js_set 4 sc_least_skew.nd (je_call F_skew_for hr rfl (ja_cons (je_var 3) (ja_cons (je_var 0) ja_nil)))) (jb_cons (js_if (jt_cmp (op_eqA hr.units) ref_eqA (je_ix (je_var 4) je_int) je_str (nomark _)) (jb_one (js_ret (je_tup (ja_cons (je_var 3) (ja_cons (je_ix (je_var 4) je_int) (ja_cons (je_ix (je_var 4) je_int) (ja_cons (je_var 2) ja_nil))))))) jb_nil) (jb_one (js_expr (je_append (je_var 2) (ja_cons (je_ix (je_var 4) je_int) ja_nil))))))) (jb_one (js_ret je_non))))) read
abbrev st_law_mix : Stmt := top 14
theorem sc_law_mix : FnScope ["_law_cell", "_law_k", "_law_m"] ["_law_cell", "_law_k"] (defScope st_law_mix) := ⟨rfl, rfl, rfl, by decide +kernel, rfl, by decide +kernel, by decide +kernel⟩
theorem ok_law_mix {P : Program} {w : World} {K : PySem.W.Frag} {mg : Str → Option Value} {base : Heap} {f : Addr} {fd : FuncData} {k : Nat} {sp : Sp3} (F : Fun K "_law_mix" "_law_mix" st_law_mix f fd) (bd : Binds K fd ["_law_cell", "_law_k"] []) (hm : mg "_law_mix" = some (.ref f))  
    (read : ∀ ts G q, sp ts G q → ts.length = 2 ∧ (Bk.t_law_mix) { nx := fun _ G' => q .non G', rt := q } (start3 ["_law_cell", "_law_k", "_law_m"] ts) G) : Fn3 P w K mg base (k + 1) "_law_mix" sp :=
  jfn3_of (t3 := (Bk.t_law_mix)) F sc_law_mix bd hm (fun cdv A outer s H E hr => (jb_cons (js_set 2 sc_law_mix.nd (je_mod (je_mul (je_plus (je_plus (je_mod (je_var 0) je_int) (je_mul (je_mul (je_var 1) (je_var 1)) je_int)) je_int) je_int) je_int)) (jb_one (js_ret (je_mod (je_mul (je_var 2) (je_var 2)) je_int))))) read
abbrev st_law_left : Stmt := top 15
theorem sc_law_left : FnScope ["_law_script", "_law_k", "_law_cell", "_law_own"] ["_law_script", "_law_k"] (defScope st_law_left) := ⟨rfl, rfl, rfl, by decide +kernel, rfl, by decide +kernel, by decide +kernel⟩
theorem ok_law_left {P : Program} {w : World} {K : PySem.W.Frag} {mg : Str → Option Value} {base : Heap} {f : Addr} {fd : FuncData} {k : Nat} {sp : Sp3} (F : Fun K "_law_left" "_law_left" st_law_left f fd) (bd : Binds K fd ["_law_script", "_law_k"] []) (hm : mg "_law_left" = some (.ref f))  (m_len : mg "len" = none) (m_abs : mg "abs" = none)
    (read : ∀ ts G q, sp ts G q → ts.length = 2 ∧ (Bk.t_law_left) { nx := fun _ G' => q .non G', rt := q } (start3 ["_law_script", "_law_k", "_law_cell", "_law_own"] ts) G) : Fn3 P w K mg base (k + 1) "_law_left" sp :=
  jfn3_of (t3 := (Bk.t_law_left)) F sc_law_left bd hm (fun cdv A outer s H E hr => (jb_cons (js_set 2 sc_law_left.nd (je_if (jt_cmp op_lt ref_iB (je_var 1) (je_callB call_len ref_len rfl m_len PySem.boot_len (ja_cons (je_var 0) ja_nil)) (nomark _)) (je_ix (je_var 0) (je_var 1)) je_int)) (jb_cons (js_set 3 sc_law_left.nd (je_if (jt_cmp op_ge ref_iB (je_callB call_abs ref_abs rfl m_abs PyProof.Rows.boot_abs (ja_cons (je_var 2) ja_nil)) (je_pow je_int je_int) (nomark _)) (je_callB call_abs ref_abs rfl m_abs PyProof.Rows.boot_abs (ja_cons (je_var 2) ja_nil)) je_int)) (jb_one (js_ret (je_lst (ja_cons (je_var 3) (ja_cons (je_plus (je_var 2) (je_mul je_int (je_var 1))) (ja_cons je_int ja_nil))))))))) read
abbrev st_law_pick : Stmt := top 16
theorem sc_law_pick : FnScope ["_law_left_here", "_law_many_here", "_law_digit"] ["_law_left_here", "_law_many_here"] (defScope st_law_pick) := ⟨rfl, rfl, rfl, by decide +kernel, rfl, by decide +kernel, by decide +kernel⟩
theorem ok_law_pick {P : Program} {w : World} {K : PySem.W.Frag} {mg : Str → Option Value} {base : Heap} {f : Addr} {fd : FuncData} {k : Nat} {sp : Sp3} {S_law_mix : Sp3} (F : Fun K "_law_pick" "_law_pick" st_law_pick f fd) (bd : Binds K fd ["_law_left_here", "_law_many_here"] []) (hm : mg "_law_pick" = some (.ref f)) (F_law_mix : Fn3 P w K mg base k "_law_mix" S_law_mix) 
    (read : ∀ ts G q, sp ts G q → ts.length = 2 ∧ (Bk.t_law_pick S_law_mix) { nx := fun _ G' => q .non G', rt := q } (start3 ["_law_left_here", "_law_many_here", "_law_digit"] ts) G) : Fn3 P w K mg base (k + 1) "_law_pick" sp :=
  jfn3_of (t3 := (Bk.t_law_pick S_law_mix)) F sc_law_pick bd hm (fun cdv A outer s H E hr => (jb_cons (js_asg (je_plus (je_ix (je_var 0) je_int) je_int) (jg_sub (je_var 0) je_int)) (jb_cons (js_if (jt_cmp op_gt ref_iB (je_ix (je_var 0) je_int) je_int (nomark _)) (jb_cons (js_set 2 sc_law_pick.nd (je_mod (je_ix (je_var 0) je_int) (je_var 1))) (jb_cons (js_asg (je_div (je_ix (je_var 0) je_int) (je_var 1)) (jg_sub (je_var 0) je_int)) (jb_one (js_ret (je_var 2))))) jb_nil) (jb_one (js_ret (je_mod (je_div (je_call F_law_mix hr rfl (ja_cons (je_call F_law_mix hr rfl (ja_cons (je_ix (je_var 0) je_int) (ja_cons (je_ix (je_var 0) je_int) ja_nil))) (ja_cons (je_plus (je_ix (je_var 0) je_int) je_int) ja_nil))) je_int) (je_var 1))))))) read
abbrev st_law_many : Stmt := top 17
theorem sc_law_many : FnScope ["_law_left_here"] ["_law_left_here"] (defScope st_law_many) := ⟨rfl, rfl, rfl, by decide +kernel, rfl, by decide +kernel, by decide +kernel⟩
theorem ok_law_many {P : Program} {w : World} {K : PySem.W.Frag} {mg : Str → Option Value} {base : Heap} {f : Addr} {fd : FuncData} {k : Nat} {sp : Sp3} {S_law_pick : Sp3} (F : Fun K "_law_many" "_law_many" st_law_many f fd) (bd : Binds K fd ["_law_left_here"] []) (hm : mg "_law_many" = some (.ref f)) (F_law_pick : Fn3 P w K mg base k "_law_pick" S_law_pick) 
    (read : ∀ ts G q, sp ts G q → ts.length = 1 ∧ (Bk.t_law_many S_law_pick) { nx := fun _ G' => q .non G', rt := q } (start3 ["_law_left_here"] ts) G) : Fn3 P w K mg base (k + 1) "_law_many" sp :=
  jfn3_of (t3 := (Bk.t_law_many S_law_pick)) F sc_law_many bd hm (fun cdv A outer s H E hr => (jb_one (js_ret (je_plus je_int (je_call F_law_pick hr rfl (ja_cons (je_var 0) (ja_cons (je_ix (je_lst (ja_cons je_int (ja_cons je_int (ja_cons je_int (ja_cons je_int (ja_cons je_int (ja_cons je_int (ja_cons je_int (ja_cons je_int ja_nil))))))))) (je_call F_law_pick hr rfl (ja_cons (je_var 0) (ja_cons je_int ja_nil)))) ja_nil))))))) read
abbrev st_law_walk : Stmt := top 18
theorem sc_law_walk : FnScope ["_law_left_here", "_law_way", "_law_lying", "_law_high", "_law_wide", "_law_down", "_law_along", "_law_pairs", "_law_far", "_law_turn", "_law_pair"] ["_law_left_here"] (defScope st_law_walk) := ⟨rfl, rfl, rfl, by decide +kernel, rfl, by decide +kernel, by decide +kernel⟩
theorem ok_law_walk {P : Program} {w : World} {K : PySem.W.Frag} {mg : Str → Option Value} {base : Heap} {f : Addr} {fd : FuncData} {k : Nat} {sp : Sp3} {S_law_pick : Sp3} {S_law_many : Sp3} (F : Fun K "_law_walk" "_law_walk" st_law_walk f fd) (bd : Binds K fd ["_law_left_here"] []) (hm : mg "_law_walk" = some (.ref f)) (F_law_pick : Fn3 P w K mg base k "_law_pick" S_law_pick) (F_law_many : Fn3 P w K mg base k "_law_many" S_law_many) (m_int : mg "int" = none) (m_range : mg "range" = none) (m_tuple : mg "tuple" = none)
    (read : ∀ ts G q, sp ts G q → ts.length = 1 ∧ (Bk.t_law_walk S_law_pick S_law_many) { nx := fun _ G' => q .non G', rt := q } (start3 ["_law_left_here", "_law_way", "_law_lying", "_law_high", "_law_wide", "_law_down", "_law_along", "_law_pairs", "_law_far", "_law_turn", "_law_pair"] ts) G) : Fn3 P w K mg base (k + 1) "_law_walk" sp :=
  jfn3_of (t3 := (Bk.t_law_walk S_law_pick S_law_many)) F sc_law_walk bd hm (fun cdv A outer s H E hr => (jb_cons (js_set 1 sc_law_walk.nd (je_call F_law_pick hr rfl (ja_cons (je_var 0) (ja_cons je_int ja_nil)))) (jb_cons (js_if (jt_cmp op_lt ref_iB (je_var 1) je_int (nomark _)) (jb_one (js_ret (je_tup (ja_cons (je_ix (je_lst (ja_cons je_str (ja_cons je_str (ja_cons je_str (ja_cons je_str ja_nil))))) (je_var 1)) (ja_cons (je_call F_law_many hr rfl (ja_cons (je_var 0) ja_nil)) ja_nil))))) jb_nil) (jb_cons (js_if (jt_cmp op_lt ref_iB (je_var 1) je_int (nomark _)) (jb_cons (js_par (i := 2) (j := 3) rfl sc_law_walk.nd rfl rfl (by decide) rfl rfl (ja_cons (je_call F_law_pick hr rfl (ja_cons (je_var 0) (ja_cons je_int ja_nil))) (ja_cons (je_plus je_int (je_call F_law_pick hr rfl (ja_cons (je_var 0) (ja_cons je_int ja_nil)))) ja_nil))) (jb_cons (js_set 4 sc_law_walk.nd (je_plus je_int (je_call F_law_pick hr rfl (ja_cons (je_var 0) (ja_cons (je_div je_int (je_var 3)) ja_nil))))) (jb_one (js_ret (je_ix (je_lst (ja_cons (je_tup (ja_cons je_str (ja_cons (je_var 3) (ja_cons (je_var 4) ja_nil)))) (ja_cons (je_tup (ja_cons je_str (ja_cons (je_var 4) (ja_cons (je_var 3) ja_nil)))) ja_nil))) (je_var 2)))))) jb_nil) (jb_cons (js_if (jt_cmp op_lt ref_iB (je_var 1) je_int (nomark _)) (jb_cons (js_par (i := 5) (j := 6) rfl sc_law_walk.nd rfl rfl (by decide) rfl rfl (ja_cons (je_sub (je_call F_law_pick hr rfl (ja_cons (je_var 0) (ja_cons je_int ja_nil))) je_int) (ja_cons (je_sub (je_call F_law_pick hr rfl (ja_cons (je_var 0) (ja_cons je_int ja_nil))) je_int) ja_nil))) (jb_cons (js_if (jt_cmp (op_eqA hr.units) ref_eqA (je_call F_law_pick hr rfl (ja_cons (je_var 0) (ja_cons je_int ja_nil))) je_int (nomark _)) (jb_one (js_ret (je_tup (ja_cons je_str (ja_cons (je_mul je_int (je_var 5)) (ja_cons (je_plus (je_mul je_int (je_var 6)) (je_callTy call_int1 ref_int rfl m_int PyProof.Rows.boot_int (ja_cons (je_and (je_cmp (op_eqA hr.units) ref_eqA (je_var 5) je_int (nomark _)) (je_one (je_cmp (op_eqA hr.units) ref_eqA (je_var 6) je_int (nomark _)))) ja_nil))) (ja_cons (je_plus je_int (je_call F_law_pick hr rfl (ja_cons (je_var 0) (ja_cons je_int ja_nil)))) ja_nil))))))) jb_nil) (jb_one (js_ret (je_tup (ja_cons je_str (ja_cons (je_var 5) (ja_cons (je_plus (je_var 6) (je_callTy call_int1 ref_int rfl m_int PyProof.Rows.boot_int (ja_cons (je_and (je_cmp (op_eqA hr.units) ref_eqA (je_var 5) je_int (nomark _)) (je_one (je_cmp (op_eqA hr.units) ref_eqA (je_var 6) je_int (nomark _)))) ja_nil))) (ja_cons (je_call F_law_many hr rfl (ja_cons (je_var 0) ja_nil)) ja_nil))))))))) jb_nil) (jb_cons (js_par (i := 7) (j := 8) rfl sc_law_walk.nd rfl rfl (by decide) rfl rfl (ja_cons (je_lst ja_nil) (ja_cons (je_plus je_int (je_mul je_int (je_callTy call_int1 ref_int rfl m_int PyProof.Rows.boot_int (ja_cons (je_cmp (op_eqA hr.units) ref_eqA (je_call F_law_pick hr rfl (ja_cons (je_var 0) (ja_cons je_int ja_nil))) je_int (nomark _)) ja_nil)))) ja_nil))) (jb_cons (js_for PassesOwn.never rfl (ji_range1 rfl m_range (ja_cons (je_call F_law_many hr rfl (ja_cons (je_var 0) ja_nil)) ja_nil) (h1 := by intro _ _ _ h; simpa [cons3, nil3] using h)) (jg_name (i := 9) (sc_law_walk.nd)) (jb_cons (js_set 10 sc_law_walk.nd (je_tup (ja_cons (je_mul (je_var 8) (je_sub (je_call F_law_pick hr rfl (ja_cons (je_var 0) (ja_cons je_int ja_nil))) je_int)) (ja_cons (je_mul (je_var 8) (je_sub (je_call F_law_pick hr rfl (ja_cons (je_var 0) (ja_cons je_int ja_nil))) je_int)) ja_nil)))) (jb_one (js_if (jt_cmp (op_notInD hr.units) ref_inA (je_var 10) (je_var 7) (by with_unfolding_all rfl)) (jb_one (js_expr (je_append (je_var 7) (ja_cons (je_var 10) ja_nil)))) jb_nil)))) (jb_one (js_ret (je_tup (ja_cons je_str (ja_cons (je_callTy call_tuple_of ref_tuple rfl m_tuple PyProof.Rows.boot_tuple (ja_cons (je_var 7) ja_nil)) ja_nil)))))))))))) read
abbrev st_law_cells : Stmt := top 19
theorem sc_law_cells : FnScope ["_law_walk_here", "_law_found", "_law_p", "_law_down", "_law_along"] ["_law_walk_here"] (defScope st_law_cells) := ⟨rfl, rfl, rfl, by decide +kernel, rfl, by decide +kernel, by decide +kernel⟩
theorem ok_law_cells {P : Program} {w : World} {K : PySem.W.Frag} {mg : Str → Option Value} {base : Heap} {f : Addr} {fd : FuncData} {k : Nat} {sp : Sp3} (F : Fun K "_law_cells" "_law_cells" st_law_cells f fd) (bd : Binds K fd ["_law_walk_here"] []) (hm : mg "_law_cells" = some (.ref f))  (m_list : mg "list" = none) (m_range : mg "range" = none)
    (read : ∀ ts G q, sp ts G q → ts.length = 1 ∧ (Bk.t_law_cells) { nx := fun _ G' => q .non G', rt := q } (start3 ["_law_walk_here", "_law_found", "_law_p", "_law_down", "_law_along"] ts) G) : Fn3 P w K mg base (k + 1) "_law_cells" sp :=
  jfn3_of (t3 := (Bk.t_law_cells)) F sc_law_cells bd hm (fun cdv A outer s H E hr => (jb_cons (js_if (jt_cmp (op_eqA hr.units) ref_eqA (je_ix (je_var 0) je_int) je_str (nomark _)) (jb_one (js_ret (je_callTy call_list_of ref_list rfl m_list PyProof.Rows.boot_list (ja_cons (je_ix (je_var 0) je_int) ja_nil)))) jb_nil) (jb_cons (js_if (jt_cmp (op_eqA hr.units) ref_eqA (je_ix (je_var 0) je_int) je_str (nomark _)) (jb_cons (js_set 1 sc_law_cells.nd (je_lst ja_nil)) (jb_cons (js_for PassesOwn.never rfl (ji_range1 rfl m_range (ja_cons (je_ix (je_var 0) je_int) ja_nil) (h1 := by intro _ _ _ h; simpa [cons3, nil3] using h)) (jg_name (i := 2) (sc_law_cells.nd)) (jb_one (js_expr (je_extend (je_var 1) (ja_cons (je_lc ["_law_q", "_law_p"] [none, some 2] rfl (ji_range1 rfl m_range (ja_cons (je_ix (je_var 0) je_int) ja_nil) (h1 := by intro _ _ _ h; simpa [cons3, nil3] using h)) (fun _ _ _ => (jg_name (i := 0) (show (["_law_q", "_law_p"] : List Str).Nodup by decide +kernel))) (fun _ _ _ => jf_nil) (fun _ _ _ => (je_tup (ja_cons (je_var 1) (ja_cons (je_var 0) ja_nil)))) (show scOk (defScope st_law_cells) _ = true by decide +kernel) (show capOk ["_law_walk_here", "_law_found", "_law_p", "_law_down", "_law_along"] ["_law_q", "_law_p"] _ [none, some 2] = true by decide +kernel)) ja_nil))))) (jb_one (js_ret (je_var 1))))) jb_nil) (jb_cons (js_asg (je_dsub (jd_cons (je_tup (ja_cons je_int (ja_cons je_int ja_nil))) (jd_cons (je_tup (ja_cons je_int (ja_cons je_int ja_nil))) (jd_cons (je_tup (ja_cons je_int (ja_cons je_int ja_nil))) (jd_cons (je_tup (ja_cons je_int (ja_cons (je_neg je_int) ja_nil))) (jd_cons (je_slice (je_var 0) (jp_some je_int) (jp_some je_int)) jd_nil))))) (je_ix (je_var 0) je_int)) (jg_tup rfl (jg_cons (jg_name (i := 3) (sc_law_cells.nd)) (jg_cons (jg_name (i := 4) (sc_law_cells.nd)) jg_nil)))) (jb_one (js_ret (je_lc ["_law_t", "_law_down", "_law_along"] [none, some 3, some 4] rfl (ji_range1 rfl m_range (ja_cons (je_ix (je_var 0) (je_neg je_int)) ja_nil) (h1 := by intro _ _ _ h; simpa [cons3, nil3] using h)) (fun _ _ _ => (jg_name (i := 0) (show (["_law_t", "_law_down", "_law_along"] : List Str).Nodup by decide +kernel))) (fun _ _ _ => jf_nil) (fun _ _ _ => (je_tup (ja_cons (je_mul (je_var 0) (je_var 1)) (ja_cons (je_mul (je_var 0) (je_var 2)) ja_nil)))) (show scOk (defScope st_law_cells) _ = true by decide +kernel) (show capOk ["_law_walk_here", "_law_found", "_law_p", "_law_down", "_law_along"] ["_law_t", "_law_down", "_law_along"] _ [none, some 3, some 4] = true by decide +kernel)))))))) read
abbrev st_law_same : Stmt := top 20
theorem sc_law_same : FnScope ["_law_found", "_law_due"] ["_law_found", "_law_due"] (defScope st_law_same) := ⟨rfl, rfl, rfl, by decide +kernel, rfl, by decide +kernel, by decide +kernel⟩
theorem ok_law_same {P : Program} {w : World} {K : PySem.W.Frag} {mg : Str → Option Value} {base : Heap} {f : Addr} {fd : FuncData} {k : Nat} {sp : Sp3} {S_law_same : Sp3} (F : Fun K "_law_same" "_law_same" st_law_same f fd) (bd : Binds K fd ["_law_found", "_law_due"] []) (hm : mg "_law_same" = some (.ref f)) (F_law_same : Fn3 P w K mg base k "_law_same" S_law_same) (m_isinstance : mg "isinstance" = none) (m_list : mg "list" = none) (m_tuple : mg "tuple" = none) (m_zip : mg "zip" = none) (m_all : mg "all" = none) (m_len : mg "len" = none) (m_str : mg "str" = none) (m_bool : mg "bool" = none) (m_int : mg "int" = none)
    (read : ∀ ts G q, sp ts G q → ts.length = 2 ∧ (Bk.t_law_same S_law_same) { nx := fun _ G' => q .non G', rt := q } (start3 ["_law_found", "_law_due"] ts) G) : Fn3 P w K mg base (k + 1) "_law_same" sp :=
  jfn3_of (t3 := (Bk.t_law_same S_law_same)) F sc_law_same bd hm (fun cdv A outer s H E hr => (jb_cons (js_if (jt_val (je_isi2 (je_var 1) rfl m_isinstance rfl m_list PyProof.Rows.boot_list rfl m_tuple PyProof.Rows.boot_tuple)) (jb_cons (js_if (jpt (jt_or (jt_cmp (op_neA hr.units) ref_neA (je_isi (je_var 0) rfl m_isinstance rfl m_list PyProof.Rows.boot_list) (je_isi (je_var 1) rfl m_isinstance rfl m_list PyProof.Rows.boot_list) (nomark _)) (jt_or1 (jt_cmp (op_neA hr.units) ref_neA (je_isi (je_var 0) rfl m_isinstance rfl m_tuple PyProof.Rows.boot_tuple) (je_isi (je_var 1) rfl m_isinstance rfl m_tuple PyProof.Rows.boot_tuple) (nomark _))))) (jb_one (js_ret je_bl)) jb_nil) (jb_one (js_ret (je_and (je_cmp (op_eqA hr.units) ref_eqA (je_callB call_len ref_len rfl m_len PySem.boot_len (ja_cons (je_var 0) ja_nil)) (je_callB call_len ref_len rfl m_len PySem.boot_len (ja_cons (je_var 1) ja_nil)) (nomark _)) (je_one (je_callB (call_all_bools rfl) ref_all rfl m_all PyProof.Rows.boot_all (ja_cons (je_lc ["_law_one", "_law_other"] [none, none] rfl (ji_zip rfl m_zip (ja_cons (je_var 0) (ja_cons (je_var 1) ja_nil))) (fun _ _ _ => (jg_tup rfl (jg_cons (jg_name (i := 0) (show (["_law_one", "_law_other"] : List Str).Nodup by decide +kernel)) (jg_cons (jg_name (i := 1) (show (["_law_one", "_law_other"] : List Str).Nodup by decide +kernel)) jg_nil)))) (fun _ _ _ => jf_nil) (fun _ _ _ => (je_call F_law_same hr rfl (ja_cons (je_var 0) (ja_cons (je_var 1) ja_nil)))) (show scOk (defScope st_law_same) _ = true by decide +kernel) (show capOk ["_law_found", "_law_due"] ["_law_one", "_law_other"] _ [none, none] = true by decide +kernel)) ja_nil))))))) jb_nil) (jb_cons (js_if (jpt (jt_or (jt_cmp op_isN ref_isN (je_var 1) je_non (nomark _)) (jt_or1 (jt_val (je_isi2 (je_var 1) rfl m_isinstance rfl m_str PyProof.Rows.boot_str rfl m_bool PyProof.Rows.boot_bool))))) (jb_one (js_ret (je_and (je_cmp (op_eqA hr.units) ref_eqA (je_var 0) (je_var 1) (nomark _)) (je_and (je_cmp (op_eqA hr.units) ref_eqA (je_isi (je_var 0) rfl m_isinstance rfl m_bool PyProof.Rows.boot_bool) (je_isi (je_var 1) rfl m_isinstance rfl m_bool PyProof.Rows.boot_bool) (nomark _)) (je_one (je_cmp (op_eqA hr.units) ref_eqA (je_cmp op_isN ref_isN (je_var 0) je_non (nomark _)) (je_cmp op_isN ref_isN (je_var 1) je_non (nomark _)) (nomark _))))))) jb_nil) (jb_one (js_ret (je_and (je_isi (je_var 0) rfl m_isinstance rfl m_int PyProof.Rows.boot_int) (je_and (je_not (je_isi (je_var 0) rfl m_isinstance rfl m_bool PyProof.Rows.boot_bool)) (je_one (je_cmp (op_eqA hr.units) ref_eqA (je_var 0) (je_var 1) (nomark _)))))))))) read
abbrev st_law_rests_at : Stmt := top 21
theorem sc_law_rests_at : FnScope ["_law_cells_here", "_law_banks", "_law_a", "_law_b"] ["_law_cells_here", "_law_banks", "_law_a", "_law_b"] (defScope st_law_rests_at) := ⟨rfl, rfl, rfl, by decide +kernel, rfl, by decide +kernel, by decide +kernel⟩
theorem ok_law_rests_at {P : Program} {w : World} {K : PySem.W.Frag} {mg : Str → Option Value} {base : Heap} {f : Addr} {fd : FuncData} {k : Nat} {sp : Sp3} (F : Fun K "_law_rests_at" "_law_rests_at" st_law_rests_at f fd) (bd : Binds K fd ["_law_cells_here", "_law_banks", "_law_a", "_law_b"] []) (hm : mg "_law_rests_at" = some (.ref f))  
    (read : ∀ ts G q, sp ts G q → ts.length = 4 ∧ (Bk.t_law_rests_at) { nx := fun _ G' => q .non G', rt := q } (start3 ["_law_cells_here", "_law_banks", "_law_a", "_law_b"] ts) G) : Fn3 P w K mg base (k + 1) "_law_rests_at" sp :=
  jfn3_of (t3 := (Bk.t_law_rests_at)) F sc_law_rests_at bd hm (fun cdv A outer s H E hr => (jb_one (js_ret (je_lc ["_law_p", "_law_q", "_law_banks", "_law_a", "_law_b"] [none, none, some 1, some 2, some 3] rfl (ji_seq (je_var 0)) (fun _ _ _ => (jg_tup rfl (jg_cons (jg_name (i := 0) (show (["_law_p", "_law_q", "_law_banks", "_law_a", "_law_b"] : List Str).Nodup by decide +kernel)) (jg_cons (jg_name (i := 1) (show (["_law_p", "_law_q", "_law_banks", "_law_a", "_law_b"] : List Str).Nodup by decide +kernel)) jg_nil)))) (fun _ _ _ => jf_nil) (fun _ _ _ => (je_mod (je_plus (je_mul (je_var 3) (je_var 0)) (je_mul (je_var 4) (je_var 1))) (je_var 2))) (show scOk (defScope st_law_rests_at) _ = true by decide +kernel) (show capOk ["_law_cells_here", "_law_banks", "_law_a", "_law_b"] ["_law_p", "_law_q", "_law_banks", "_law_a", "_law_b"] _ [none, none, some 1, some 2, some 3] = true by decide +kernel))))) read
abbrev st_law_alike : Stmt := top 22
theorem sc_law_alike : FnScope ["_law_cells_here", "_law_banks", "_law_a", "_law_b", "_law_some", "_law_found"] ["_law_cells_here", "_law_banks", "_law_a", "_law_b"] (defScope st_law_alike) := ⟨rfl, rfl, rfl, by decide +kernel, rfl, by decide +kernel, by decide +kernel⟩
theorem ok_law_alike {P : Program} {w : World} {K : PySem.W.Frag} {mg : Str → Option Value} {base : Heap} {f : Addr} {fd : FuncData} {k : Nat} {sp : Sp3} {S_law_rests_at : Sp3} (F : Fun K "_law_alike" "_law_alike" st_law_alike f fd) (bd : Binds K fd ["_law_cells_here", "_law_banks", "_law_a", "_law_b"] []) (hm : mg "_law_alike" = some (.ref f)) (F_law_rests_at : Fn3 P w K mg base k "_law_rests_at" S_law_rests_at) (m_len : mg "len" = none) (m_set : mg "set" = none) (m_range : mg "range" = none)
    (read : ∀ ts G q, sp ts G q → ts.length = 4 ∧ (Bk.t_law_alike S_law_rests_at) { nx := fun _ G' => q .non G', rt := q } (start3 ["_law_cells_here", "_law_banks", "_law_a", "_law_b", "_law_some", "_law_found"] ts) G) : Fn3 P w K mg base (k + 1) "_law_alike" sp :=
  jfn3_of (t3 := (Bk.t_law_alike S_law_rests_at)) F sc_law_alike bd hm (fun cdv A outer s H E hr => (jb_cons (js_set 4 sc_law_alike.nd (je_call F_law_rests_at hr rfl (ja_cons (je_var 0) (ja_cons (je_var 1) (ja_cons (je_var 2) (ja_cons (je_var 3) ja_nil)))))) (jb_cons (js_if (jt_cmp (op_eqA hr.units) ref_eqA (je_lenset rfl rfl m_len rfl m_set (je_var 4)) (je_callB call_len ref_len rfl m_len PySem.boot_len (ja_cons (je_var 4) ja_nil)) (nomark _)) (jb_one (js_ret je_non)) jb_nil) (jb_cons (js_set 5 sc_law_alike.nd (je_lc ["_law_k", "_law_some"] [none, some 4] rfl (ji_range1 rfl m_range (ja_cons (je_callB call_len ref_len rfl m_len PySem.boot_len (ja_cons (je_var 4) ja_nil)) ja_nil) (h1 := by intro _ _ _ h; simpa [cons3, nil3] using h)) (fun _ _ _ => (jg_name (i := 0) (show (["_law_k", "_law_some"] : List Str).Nodup by decide +kernel))) (fun _ _ _ => jf_one (jt_cmp op_gt ref_iB (je_count (je_var 1) (ja_cons (je_ix (je_var 1) (je_var 0)) ja_nil)) je_int (nomark _))) (fun _ _ _ => (je_var 0)) (show scOk (defScope st_law_alike) _ = true by decide +kernel) (show capOk ["_law_cells_here", "_law_banks", "_law_a", "_law_b", "_law_some", "_law_found"] ["_law_k", "_law_some"] _ [none, some 4] = true by decide +kernel))) (jb_one (js_ret (je_tup (ja_cons (je_ix (je_var 5) je_int) (ja_cons (je_ix (je_lc ["_law_k", "_law_some", "_law_found"] [none, some 4, some 5] rfl (ji_seq (je_slice (je_var 5) (jp_some je_int) jp_none)) (fun _ _ _ => (jg_name (i := 0) (show (["_law_k", "_law_some", "_law_found"] : List Str).Nodup by decide +kernel))) (fun _ _ _ => jf_one (jt_cmp (op_eqA hr.units) ref_eqA (je_ix (je_var 1) (je_var 0)) (je_ix (je_var 1) (je_ix (je_var 2) je_int)) (nomark _))) (fun _ _ _ => (je_var 0)) (show scOk (defScope st_law_alike) _ = true by decide +kernel) (show capOk ["_law_cells_here", "_law_banks", "_law_a", "_law_b", "_law_some", "_law_found"] ["_law_k", "_law_some", "_law_found"] _ [none, some 4, some 5] = true by decide +kernel)) je_int) ja_nil))))))))) read
abbrev st_law_barred : Stmt := top 23
theorem sc_law_barred : FnScope ["_law_rows", "_law_banks", "_law_a", "_law_b", "_law_n", "_law_cells_here", "_law_found"] ["_law_rows", "_law_banks", "_law_a", "_law_b"] (defScope st_law_barred) := ⟨rfl, rfl, rfl, by decide +kernel, rfl, by decide +kernel, by decide +kernel⟩
theorem ok_law_barred {P : Program} {w : World} {K : PySem.W.Frag} {mg : Str → Option Value} {base : Heap} {f : Addr} {fd : FuncData} {k : Nat} {sp : Sp3} {S_law_alike : Sp3} (F : Fun K "_law_barred" "_law_barred" st_law_barred f fd) (bd : Binds K fd ["_law_rows", "_law_banks", "_law_a", "_law_b"] []) (hm : mg "_law_barred" = some (.ref f)) (F_law_alike : Fn3 P w K mg base k "_law_alike" S_law_alike) (m_enumerate : mg "enumerate" = none)
    (read : ∀ ts G q, sp ts G q → ts.length = 4 ∧ (Bk.t_law_barred S_law_alike) { nx := fun _ G' => q .non G', rt := q } (start3 ["_law_rows", "_law_banks", "_law_a", "_law_b", "_law_n", "_law_cells_here", "_law_found"] ts) G) : Fn3 P w K mg base (k + 1) "_law_barred" sp :=
  jfn3_of (t3 := (Bk.t_law_barred S_law_alike)) F sc_law_barred bd hm (fun cdv A outer s H E hr => (jb_cons (js_for PassesOwn.never rfl (ji_enum rfl m_enumerate (ja_cons (je_var 0) ja_nil)) (jg_tup rfl (jg_cons (jg_name (i := 4) (sc_law_barred.nd)) (jg_cons (jg_name (i := 5) (sc_law_barred.nd)) jg_nil))) (jb_cons (js_set 6 sc_law_barred.nd (je_call F_law_alike hr rfl (ja_cons (je_var 5) (ja_cons (je_var 1) (ja_cons (je_var 2) (ja_cons (je_var 3) ja_nil)))))) (jb_one (js_if (jt_cmp op_notN ref_notN (je_var 6) je_non (nomark _)) (jb_one (js_ret (je_plus (je_tup (ja_cons (je_var 4) ja_nil)) (je_var 6)))) jb_nil)))) (jb_one (js_ret je_non)))) read
abbrev st_law_skew_due : Stmt := top 24
theorem sc_law_skew_due : FnScope ["_law_banks", "_law_walks_here", "_law_rows", "_law_blocked", "_law_pair", "_law_bar"] ["_law_banks", "_law_walks_here"] (defScope st_law_skew_due) := ⟨rfl, rfl, rfl, by decide +kernel, rfl, by decide +kernel, by decide +kernel⟩
theorem ok_law_skew_due {P : Program} {w : World} {K : PySem.W.Frag} {mg : Str → Option Value} {base : Heap} {f : Addr} {fd : FuncData} {k : Nat} {sp : Sp3} {S_law_cells : Sp3} {S_law_barred : Sp3} (F : Fun K "_law_skew_due" "_law_skew_due" st_law_skew_due f fd) (bd : Binds K fd ["_law_banks", "_law_walks_here"] []) (hm : mg "_law_skew_due" = some (.ref f)) (F_law_cells : Fn3 P w K mg base k "_law_cells" S_law_cells) (F_law_barred : Fn3 P w K mg base k "_law_barred" S_law_barred) (m_range : mg "range" = none)
    (read : ∀ ts G q, sp ts G q → ts.length = 2 ∧ (Bk.t_law_skew_due S_law_cells S_law_barred) { nx := fun _ G' => q .non G', rt := q } (start3 ["_law_banks", "_law_walks_here", "_law_rows", "_law_blocked", "_law_pair", "_law_bar"] ts) G) : Fn3 P w K mg base (k + 1) "_law_skew_due" sp :=
  jfn3_of (t3 := (Bk.t_law_skew_due S_law_cells S_law_barred)) F sc_law_skew_due bd hm (fun cdv A outer s H E hr => (jb_cons (js_lcset 2 ["_law_walk_here"] [none] rfl sc_law_skew_due.nd (ji_seq (je_var 1)) (fun _ _ _ => (jg_name (i := 0) (show (["_law_walk_here"] : List Str).Nodup by decide +kernel))) (fun _ _ _ => jf_nil) (fun _ _ _ => (je_call F_law_cells hr rfl (ja_cons (je_var 0) ja_nil))) (show scOk (defScope st_law_skew_due) _ = true by decide +kernel) (show capOk ["_law_banks", "_law_walks_here", "_law_rows", "_law_blocked", "_law_pair", "_law_bar"] ["_law_walk_here"] _ [none] = true by decide +kernel) rfl rfl) (jb_cons (js_set 3 sc_law_skew_due.nd (je_lst ja_nil)) (jb_cons (js_for PassesOwn.never rfl (ji_range1 rfl m_range (ja_cons (je_mul (je_var 0) (je_var 0)) ja_nil) (h1 := by intro _ _ _ h; simpa [cons3, nil3] using h)) (jg_name (i := 4) (sc_law_skew_due.nd)) (jb_cons (js_set 5 sc_law_skew_due.nd (je_call F_law_barred hr rfl (ja_cons (je_var 2) (ja_cons (je_var 0) (ja_cons (je_div (je_var 4) (je_var 0)) (ja_cons (je_mod (je_var 4) (je_var 0)) ja_nil)))))) (jb_cons (js_if (jt_cmp op_isN ref_isN (je_var 5) je_non (nomark _)) (jb_one (js_ret (je_tup (ja_cons je_str (ja_cons (je_div (je_var 4) (je_var 0)) (ja_cons (je_mod (je_var 4) (je_var 0)) ja_nil)))))) jb_nil) (jb_one (js_expr (je_append (je_var 3) (ja_cons (je_var 5) ja_nil))))))) (jb_one (js_ret (je_tup (ja_cons je_str (ja_cons (je_var 3) ja_nil))))))))) read
abbrev st_law_walks : Stmt := top 25
theorem sc_law_walks : FnScope ["_law_left_here"] ["_law_left_here"] (defScope st_law_walks) := ⟨rfl, rfl, rfl, by decide +kernel, rfl, by decide +kernel, by decide +kernel⟩
theorem ok_law_walks {P : Program} {w : World} {K : PySem.W.Frag} {mg : Str → Option Value} {base : Heap} {f : Addr} {fd : FuncData} {k : Nat} {sp : Sp3} {S_law_pick : Sp3} {S_law_walk : Sp3} (F : Fun K "_law_walks" "_law_walks" st_law_walks f fd) (bd : Binds K fd ["_law_left_here"] []) (hm : mg "_law_walks" = some (.ref f)) (F_law_pick : Fn3 P w K mg base k "_law_pick" S_law_pick) (F_law_walk : Fn3 P w K mg base k "_law_walk" S_law_walk) (m_range : mg "range" = none)
    (read : ∀ ts G q, sp ts G q → ts.length = 1 ∧ (Bk.t_law_walks S_law_pick S_law_walk) { nx := fun _ G' => q .non G', rt := q } (start3 ["_law_left_here"] ts) G) : Fn3 P w K mg base (k + 1) "_law_walks" sp :=
  jfn3_of (t3 := (Bk.t_law_walks S_law_pick S_law_walk)) F sc_law_walks bd hm (fun cdv A outer s H E hr => (jb_one (js_ret (je_lc ["_law_turn", "_law_left_here"] [none, some 0] rfl (ji_range1 rfl m_range (ja_cons (je_ix (je_lst (ja_cons je_int (ja_cons je_int (ja_cons je_int (ja_cons je_int (ja_cons je_int (ja_cons je_int (ja_cons je_int (ja_cons je_int ja_nil))))))))) (je_call F_law_pick hr rfl (ja_cons (je_var 0) (ja_cons je_int ja_nil)))) ja_nil) (h1 := by intro _ _ _ h; simpa [cons3, nil3] using h)) (fun _ _ _ => (jg_name (i := 0) (show (["_law_turn", "_law_left_here"] : List Str).Nodup by decide +kernel))) (fun _ _ _ => jf_nil) (fun _ _ _ => (je_call F_law_walk hr rfl (ja_cons (je_var 1) ja_nil))) (show scOk (defScope st_law_walks) _ = true by decide +kernel) (show capOk ["_law_left_here"] ["_law_turn", "_law_left_here"] _ [none, some 0] = true by decide +kernel))))) read
abbrev st_law_least_due : Stmt := top 26
theorem sc_law_least_due : FnScope ["_law_walks_here", "_law_most", "_law_lesser", "_law_banks", "_law_found"] ["_law_walks_here", "_law_most"] (defScope st_law_least_due) := ⟨rfl, rfl, rfl, by decide +kernel, rfl, by decide +kernel, by decide +kernel⟩
theorem ok_law_least_due {P : Program} {w : World} {K : PySem.W.Frag} {mg : Str → Option Value} {base : Heap} {f : Addr} {fd : FuncData} {k : Nat} {sp : Sp3} {S_law_skew_due : Sp3} (F : Fun K "_law_least_due" "_law_least_due" st_law_least_due f fd) (bd : Binds K fd ["_law_walks_here", "_law_most"] []) (hm : mg "_law_least_due" = some (.ref f)) (F_law_skew_due : Fn3 P w K mg base k "_law_skew_due" S_law_skew_due) (m_range : mg "range" = none)
    (read : ∀ ts G q, sp ts G q → ts.length = 2 ∧ (Bk.t_least_skew S_law_skew_due) { nx := fun _ G' => q .non G', rt := q } (start3 ["_law_walks_here", "_law_most", "_law_lesser", "_law_banks", "_law_found"] ts) G) : Fn3 P w K mg base (k + 1) "_law_least_due" sp :=
  jfn3_of (t3 := (Bk.t_least_skew S_law_skew_due)) F sc_law_least_due bd hm (fun cdv A outer s H E hr => (jb_cons (js_set 2 sc_law_least_due.nd (je_lst ja_nil)) (jb_cons (js_for PassesOwn.never rfl (ji_range2 rfl m_range (ja_cons je_int (ja_cons (je_plus (je_var 1) je_int) ja_nil)) (h1 := by intro _ _ _ h; simpa [cons3, nil3] using h)) (jg_name (i := 3) (sc_law_least_due.nd)) (jb_cons (js_set 4 sc_law_least_due.nd (je_call F_law_skew_due hr rfl (ja_cons (je_var 3) (ja_cons (je_var 0) ja_nil)))) (jb_cons (js_if (jt_cmp (op_eqA hr.units) ref_eqA (je_ix (je_var 4) je_int) je_str (nomark _)) (jb_one (js_ret (je_tup (ja_cons (je_var 3) (ja_cons (je_ix (je_var 4) je_int) (ja_cons (je_ix (je_var 4) je_int) (ja_cons (je_var 2) ja_nil))))))) jb_nil) (jb_one (js_expr (je_append (je_var 2) (ja_cons (je_ix (je_var 4) je_int) ja_nil))))))) (jb_one (js_ret je_non))))) read
abbrev st_law_known : Stmt := top 27
theorem sc_law_known : FnScope ["_law_many_here", "_law_walks_here", "_law_pair", "_law_both", "_law_found"] ["_law_many_here"] (defScope st_law_known) := ⟨rfl, rfl, rfl, by decide +kernel, rfl, by decide +kernel, by decide +kernel⟩
def t_law_known (S_least_skew : Sp3) : TS3 := (seq3 (for3 (iseq3 (tup3 (cons3 (tup3 (cons3 (lst3 (cons3 (tup3 (cons3 (c3 (.str "row")) (cons3 (v3 0) nil3))) nil3)) (cons3 (tup3 (cons3 (c3 (.int 0)) (cons3 (c3 (.int 1)) nil3))) nil3))) (cons3 (tup3 (cons3 (lst3 (cons3 (tup3 (cons3 (c3 (.str "column")) (cons3 (v3 0) nil3))) nil3)) (cons3 (tup3 (cons3 (c3 (.int 1)) (cons3 (c3 (.int 0)) nil3))) nil3))) nil3)))) (gtup3 2 (gcons3 (gn3 1) (gcons3 (gn3 2) gnil3))) (ifS3 (tb3 (o3 (eqA3 true) (tsl3 (cb3 S_least_skew (cons3 (v3 1) (cons3 (c3 (.int 16)) nil3))) np3 (sp3 (c3 (.int 3)))) (o3 cat3 (tup3 (cons3 (v3 0) nil3)) (if3 (tb3 (o3 (iB fun i j => decide (j < i)) (v3 0) (c3 (.int 1)))) (v3 2) (tup3 (cons3 (c3 (.int 0)) (cons3 (c3 (.int 0)) nil3))))))) (ret3 (c3 (.bl false))) next3)) (seq3 (asg3 (lst3 (cons3 (tup3 (cons3 (c3 (.str "column")) (cons3 (v3 0) nil3))) (cons3 (tup3 (cons3 (c3 (.str "row")) (cons3 (v3 0) nil3))) nil3))) (gn3 3)) (seq3 (asg3 (cb3 S_least_skew (cons3 (v3 3) (cons3 (v3 0) nil3))) (gn3 4)) (ret3 (andV3 (o3 (eqA3 false) (tsl3 (v3 4) np3 (sp3 (c3 (.int 3)))) (tup3 (cons3 (v3 0) (cons3 (cb3 int3 (cons3 (o3 (iB fun i j => decide (j < i)) (v3 0) (c3 (.int 1))) nil3)) (cons3 (cb3 int3 (cons3 (o3 (iB fun i j => decide (j < i)) (v3 0) (c3 (.int 1))) nil3)) nil3))))) (o3 (isN3 false) (cb3 S_least_skew (cons3 (v3 3) (cons3 (o3 (iI (· - ·)) (v3 0) (c3 (.int 1))) nil3))) (c3 .non)))))))
theorem ok_law_known {P : Program} {w : World} {K : PySem.W.Frag} {mg : Str → Option Value} {base : Heap} {f : Addr} {fd : FuncData} {k : Nat} {sp : Sp3} {S_least_skew : Sp3} (F : Fun K "_law_known" "_law_known" st_law_known f fd) (bd : Binds K fd ["_law_many_here"] []) (hm : mg "_law_known" = some (.ref f)) (F_least_skew : Fn3 P w K mg base k "least_skew" S_least_skew) (m_int : mg "int" = none)
    (read : ∀ ts G q, sp ts G q → ts.length = 1 ∧ (t_law_known S_least_skew) { nx := fun _ G' => q .non G', rt := q } (start3 ["_law_many_here", "_law_walks_here", "_law_pair", "_law_both", "_law_found"] ts) G) : Fn3 P w K mg base (k + 1) "_law_known" sp :=
  jfn3_of (t3 := (t_law_known S_least_skew)) F sc_law_known bd hm (fun cdv A outer s H E hr => (jb_cons (js_for PassesOwn.never rfl (ji_seq (je_tup (ja_cons (je_tup (ja_cons (je_lst (ja_cons (je_tup (ja_cons je_str (ja_cons (je_var 0) ja_nil))) ja_nil)) (ja_cons (je_tup (ja_cons je_int (ja_cons je_int ja_nil))) ja_nil))) (ja_cons (je_tup (ja_cons (je_lst (ja_cons (je_tup (ja_cons je_str (ja_cons (je_var 0) ja_nil))) ja_nil)) (ja_cons (je_tup (ja_cons je_int (ja_cons je_int ja_nil))) ja_nil))) ja_nil)))) (jg_tup rfl (jg_cons (jg_name (i := 1) (sc_law_known.nd)) (jg_cons (jg_name (i := 2) (sc_law_known.nd)) jg_nil))) (jb_one (js_if (jt_cmp (op_neA hr.units) ref_neA (je_slice (je_call F_least_skew hr rfl (ja_cons (je_var 1) (ja_cons je_int ja_nil))) jp_none (jp_some je_int)) (je_plus (je_tup (ja_cons (je_var 0) ja_nil)) (je_if (jt_cmp op_gt ref_iB (je_var 0) je_int (nomark _)) (je_var 2) (je_tup (ja_cons je_int (ja_cons je_int ja_nil))))) (nomark _)) (jb_one (js_ret je_bl)) jb_nil))) (jb_cons (js_set 3 sc_law_known.nd (je_lst (ja_cons (je_tup (ja_cons je_str (ja_cons (je_var 0) ja_nil))) (ja_cons (je_tup (ja_cons je_str (ja_cons (je_var 0) ja_nil))) ja_nil)))) (jb_cons (js_set 4 sc_law_known.nd (je_call F_least_skew hr rfl (ja_cons (je_var 3) (ja_cons (je_var 0) ja_nil)))) (jb_one (js_ret (je_and (je_cmp (op_eqA hr.units) ref_eqA (je_slice (je_var 4) jp_none (jp_some je_int)) (je_tup (ja_cons (je_var 0) (ja_cons (je_callTy call_int1 ref_int rfl m_int PyProof.Rows.boot_int (ja_cons (je_cmp op_gt ref_iB (je_var 0) je_int (nomark _)) ja_nil)) (ja_cons (je_callTy call_int1 ref_int rfl m_int PyProof.Rows.boot_int (ja_cons (je_cmp op_gt ref_iB (je_var 0) je_int (nomark _)) ja_nil)) ja_nil)))) (nomark _)) (je_one (je_cmp op_isN ref_isN (je_call F_least_skew hr rfl (ja_cons (je_var 3) (ja_cons (je_sub (je_var 0) je_int) ja_nil))) je_non (nomark _)))))))))) read
abbrev st_law : Stmt := top 28
theorem sc_law : FnScope ["_law_script", "_law_k", "_law_left_here", "_law_most", "_law_many_here", "_law_walks_here", "_law_due", "_law_kept", "_law_turn", "_law_found", "_law_sizes", "_law_one"] ["_law_script"] (defScope st_law) := ⟨rfl, rfl, rfl, by decide +kernel, rfl, by decide +kernel, by decide +kernel⟩
def t_law (S_law_left : Sp3) (S_law_pick : Sp3) (S_law_walks : Sp3) (S_law_least_due : Sp3) (S_least_skew : Sp3) (S_law_same : Sp3) (S_law_known : Sp3) : TS3 := (seq3 (for3 (irng3 (cons3 (o3 cat3 (c3 (.int 1)) (cb3 min3 (cons3 (c3 (.int 2)) (cons3 (cb3 len3 (cons3 (v3 0) nil3)) nil3)))) nil3)) (gn3 1) (seq3 (asg3 (cb3 S_law_left (cons3 (v3 0) (cons3 (v3 1) nil3))) (gn3 2)) (seq3 (par3 3 4 (cons3 (cb3 S_law_pick (cons3 (v3 2) (cons3 (c3 (.int 17)) nil3))) (cons3 (o3 cat3 (c3 (.int 1)) (cb3 S_law_pick (cons3 (v3 2) (cons3 (c3 (.int 16)) nil3)))) nil3))) (seq3 (asg3 (cb3 S_law_walks (cons3 (v3 2) nil3)) (gn3 5)) (seq3 (par3 6 7 (cons3 (cb3 S_law_least_due (cons3 (v3 5) (cons3 (v3 3) nil3))) (cons3 (cb3 (show3 true) (cons3 (v3 5) nil3)) nil3))) (seq3 (for3 (irng3 (cons3 (c3 (.int 2)) nil3)) (gn3 8) (seq3 (asg3 (cb3 S_least_skew (cons3 (v3 5) (cons3 (v3 3) nil3))) (gn3 9)) (seq3 (ifS3 (or3 (not3 (tb3 (cb3 S_law_same (cons3 (v3 9) (cons3 (v3 6) nil3))))) (tb3 (o3 (eqA3 true) (cb3 (show3 true) (cons3 (v3 5) nil3)) (v3 7)))) (ret3 (c3 (.bl false))) next3) (ifS3 (tb3 (o3 (isN3 true) (v3 9) (c3 .non))) (seq3 (asg3 (lc3 (iseq3 (o3 ix3 (v3 9) (c3 (.int 3)))) (gn3 0) tt3 (o3 cat3 (cb3 len3 (cons3 (v3 0) nil3)) (c3 (.int 1))) [none]) (gn3 10)) (seq3 (for3 (iseq3 (o3 ix3 (v3 9) (c3 (.int 3)))) (gn3 11) (drop3 (bm3 app3 (v3 11) (cons3 (tup3 (cons3 (c3 (.int 9)) (cons3 (c3 (.int 9)) (cons3 (c3 (.int 9)) nil3)))) nil3)))) (seq3 (ifS3 (tb3 (o3 (eqA3 true) (lc3 (iseq3 (o3 ix3 (v3 9) (c3 (.int 3)))) (gn3 0) tt3 (cb3 len3 (cons3 (v3 0) nil3)) [none]) (v3 10))) (ret3 (c3 (.bl false))) next3) (drop3 (bm3 app3 (o3 ix3 (v3 9) (c3 (.int 3))) (cons3 (lst3 nil3) nil3)))))) next3)))) (ifS3 (not3 (tb3 (cb3 S_law_known (cons3 (v3 4) nil3)))) (ret3 (c3 (.bl false))) next3))))))) (ret3 (c3 (.bl true))))
theorem ok_law {P : Program} {w : World} {K : PySem.W.Frag} {mg : Str → Option Value} {base : Heap} {f : Addr} {fd : FuncData} {k : Nat} {sp : Sp3} {S_law_left : Sp3} {S_law_pick : Sp3} {S_law_walks : Sp3} {S_law_least_due : Sp3} {S_least_skew : Sp3} {S_law_same : Sp3} {S_law_known : Sp3} (F : Fun K "law" "law" st_law f fd) (F_law_left : Fn3 P w K mg base k "_law_left" S_law_left) (F_law_pick : Fn3 P w K mg base k "_law_pick" S_law_pick) (F_law_walks : Fn3 P w K mg base k "_law_walks" S_law_walks) (F_law_least_due : Fn3 P w K mg base k "_law_least_due" S_law_least_due) (F_least_skew : Fn3 P w K mg base k "least_skew" S_least_skew) (F_law_same : Fn3 P w K mg base k "_law_same" S_law_same) (F_law_known : Fn3 P w K mg base k "_law_known" S_law_known) (m_len : mg "len" = none) (m_min : mg "min" = none) (m_range : mg "range" = none) (m_str : mg "str" = none)
    (read : ∀ ts G q, sp ts G q → ts.length = 1 ∧ (t_law S_law_left S_law_pick S_law_walks S_law_least_due S_least_skew S_law_same S_law_known) { nx := fun _ G' => q .non G', rt := q } (start3 ["_law_script", "_law_k", "_law_left_here", "_law_most", "_law_many_here", "_law_walks_here", "_law_due", "_law_kept", "_law_turn", "_law_found", "_law_sizes", "_law_one"] ts) G) : FnOk P w K mg base CX0 (k + 1) f fd ["_law_script"] (lSp K sp) :=
  jfnok_of (t3 := (t_law S_law_left S_law_pick S_law_walks S_law_least_due S_least_skew S_law_same S_law_known)) F sc_law (fun cdv A outer s H E hr => (jb_cons (js_for PassesOwn.never rfl (ji_range1 rfl m_range (ja_cons (je_plus je_int (je_callB (call_min2 rfl) ref_min rfl m_min PyProof.Rows.boot_min (ja_cons je_int (ja_cons (je_callB call_len ref_len rfl m_len PySem.boot_len (ja_cons (je_var 0) ja_nil)) ja_nil)))) ja_nil) (h1 := by intro _ _ _ h; simpa [cons3, nil3] using h)) (jg_name (i := 1) (sc_law.nd)) (jb_cons (js_set 2 sc_law.nd (je_call F_law_left hr rfl (ja_cons (je_var 0) (ja_cons (je_var 1) ja_nil)))) (jb_cons (js_par (i := 3) (j := 4) rfl sc_law.nd rfl rfl (by decide) rfl rfl (ja_cons (je_call F_law_pick hr rfl (ja_cons (je_var 2) (ja_cons je_int ja_nil))) (ja_cons (je_plus je_int (je_call F_law_pick hr rfl (ja_cons (je_var 2) (ja_cons je_int ja_nil)))) ja_nil))) (jb_cons (js_set 5 sc_law.nd (je_call F_law_walks hr rfl (ja_cons (je_var 2) ja_nil))) (jb_cons (js_par (i := 6) (j := 7) rfl sc_law.nd rfl rfl (by decide) rfl rfl (ja_cons (je_call F_law_least_due hr rfl (ja_cons (je_var 5) (ja_cons (je_var 3) ja_nil))) (ja_cons (je_callTy (call_strAny hr.gd hr.units) ref_show rfl m_str PyProof.Rows.boot_str (ja_cons (je_var 5) ja_nil)) ja_nil))) (jb_cons (js_for PassesOwn.never rfl (ji_range1 rfl m_range (ja_cons je_int ja_nil) (h1 := by intro _ _ _ h; simpa [cons3, nil3] using h)) (jg_name (i := 8) (sc_law.nd)) (jb_cons (js_set 9 sc_law.nd (je_call F_least_skew hr rfl (ja_cons (je_var 5) (ja_cons (je_var 3) ja_nil)))) (jb_cons (js_if (jpt (jt_or (jt_not (jt_val (je_call F_law_same hr rfl (ja_cons (je_var 9) (ja_cons (je_var 6) ja_nil))))) (jt_or1 (jt_cmp (op_neA hr.units) ref_neA (je_callTy (call_strAny hr.gd hr.units) ref_show rfl m_str PyProof.Rows.boot_str (ja_cons (je_var 5) ja_nil)) (je_var 7) (nomark _))))) (jb_one (js_ret je_bl)) jb_nil) (jb_one (js_if (jt_cmp op_notN ref_notN (je_var 9) je_non (nomark _)) (jb_cons (js_lcset 10 ["_law_one"] [none] rfl sc_law.nd (ji_seq (je_ix (je_var 9) je_int)) (fun _ _ _ => (jg_name (i := 0) (show (["_law_one"] : List Str).Nodup by decide +kernel))) (fun _ _ _ => jf_nil) (fun _ _ _ => (je_plus (je_callB call_len ref_len rfl m_len PySem.boot_len (ja_cons (je_var 0) ja_nil)) je_int)) (show scOk (defScope st_law) _ = true by decide +kernel) (show capOk ["_law_script", "_law_k", "_law_left_here", "_law_most", "_law_many_here", "_law_walks_here", "_law_due", "_law_kept", "_law_turn", "_law_found", "_law_sizes", "_law_one"] ["_law_one"] _ [none] = true by decide +kernel) rfl rfl) (jb_cons (js_for PassesOwn.never rfl (ji_seq (je_ix (je_var 9) je_int)) (jg_name (i := 11) (sc_law.nd)) (jb_one (js_expr (je_append (je_var 11) (ja_cons (je_tup (ja_cons je_int (ja_cons je_int (ja_cons je_int ja_nil)))) ja_nil))))) (jb_cons (js_if (jt_cmp (op_neA hr.units) ref_neA (je_lc ["_law_one"] [none] rfl (ji_seq (je_ix (je_var 9) je_int)) (fun _ _ _ => (jg_name (i := 0) (show (["_law_one"] : List Str).Nodup by decide +kernel))) (fun _ _ _ => jf_nil) (fun _ _ _ => (je_callB call_len ref_len rfl m_len PySem.boot_len (ja_cons (je_var 0) ja_nil))) (show scOk (defScope st_law) _ = true by decide +kernel) (show capOk ["_law_script", "_law_k", "_law_left_here", "_law_most", "_law_many_here", "_law_walks_here", "_law_due", "_law_kept", "_law_turn", "_law_found", "_law_sizes", "_law_one"] ["_law_one"] _ [none] = true by decide +kernel)) (je_var 10) (nomark _)) (jb_one (js_ret je_bl)) jb_nil) (jb_one (js_expr (je_append (je_ix (je_var 9) je_int) (ja_cons (je_lst ja_nil) ja_nil))))))) jb_nil))))) (jb_one (js_if (jt_not (jt_val (je_call F_law_known hr rfl (ja_cons (je_var 4) ja_nil)))) (jb_one (js_ret je_bl)) jb_nil)))))))) (jb_one (js_ret je_bl)))) read
end K36
set_option Elab.async false
set_option linter.all false
set_option maxRecDepth 100000
set_option maxHeartbeats 4000000
namespace K36
open PySem L2 L3 Bk
noncomputable def lsO (ws : List Wk) (M : Nat) : Option (Nat × Nat) := (List.range M).findSome? fun i => (skO (i + 1) ws).map fun n => (i + 1, n)
theorem ls_at {ws : List Wk} {M i n : Nat} (hi : i < M) (h : skO (i + 1) ws = some n) (hb : ∀ j, j < i → skO (j + 1) ws = none) : lsO ws M = some (i + 1, n) := by
  refine find_at (i := i) (x := i) (by simp [hi]) (by simp [h]) fun j y hj hy => ?_
  have : y = j := by
    rw [List.getElem?_range (by omega)] at hy
    exact (Option.some.inj hy).symm
  subst this
  simp [hb _ hj]
theorem ls_end {ws : List Wk} {M : Nat} (hb : ∀ j, j < M → skO (j + 1) ws = none) : lsO ws M = none := by
  refine find_end fun j y hj hy => ?_
  rw [List.length_range] at hj
  rw [List.getElem?_range hj] at hy
  cases hy
  simp [hb _ hj]
structure Brs (ws : List Wk) (G G' : Gp) (pl : Addr) (rs : List Addr) : Prop where
  nf : G pl = none
  gl : G' pl = some (.lst (rs.map T.ref))
  nl : pl ∉ rs
  nd : rs.Nodup
  at' : ∀ (i : Nat) (r : Addr), rs[i]? = some r → G r = none ∧ G' r = some (.lst (barsT (i + 1) ws ((i + 1) * (i + 1))))
structure LsR (ws : List Wk) (M : Nat) (G G' : Gp) (x : T) : Prop where
  ex : Ex G G'
  un : ∀ B n, lsO ws M = some (B, n) → 1 ≤ B ∧ B ≤ M ∧ ∃ pl rs, x = .tup [.int B, .int ((n / B : Nat) : Int), .int ((n % B : Nat) : Int), .ref pl] ∧ rs.length = B - 1 ∧ Brs ws G G' pl rs
  no : lsO ws M = none → x = .non
def sp_least_skew : Sp3 := fun ts G q => ∃ (M : Nat) (ws : List Wk) (p : Addr), ts = [.ref p, .int M] ∧ M ≤ 17 ∧ getL G p = some (ws.map Wk.t) ∧ WsOk ws ∧ ∀ x G', LsR ws M G G' x → q x G'
abbrev sp_law_least_due : Sp3 := sp_least_skew
theorem rd_least_skew : ∀ ts G q, sp_least_skew ts G q → ts.length = 2 ∧ t_least_skew sp_skew_for (ends q) (start3 ["walks", "most", "bars", "banks", "told"] ts) G := by
  rintro ts G q ⟨M, ws, p, rfl, hM, hp, ok, h⟩
  refine ⟨rfl, ?_⟩
  unfold t_least_skew
  refine seq_i fun nx0 q0 => ?_
  simp [seq3, asg3, gn3, ret3, retN3, ifS3, drop3, nev3, next3, v3, c3, o3, u3, neg3, L3.ixT, L3.ixR, cat3, iI, iC, iB, eqA3, scalT, isN3, tb3, and3, or3, not3, andV3, orV3, notV3, if3, ch3, cb3, cons3, nil3, isi3, tyT, subT, tup3, lst3, tsl3, np3, sp3, gtup3, gcons3, gnil3, gsub3, set3, par3, start3, bm3, app3, ext3, len3, abs3, min3, max3, int3, tuple3, list3, all3, any3, aug3, cut3, HT.sIx, in3, flatT, eqF, sizeLine_eq, List.getElem?_cons_zero, List.getElem?_cons_succ]
  intro pl hpl
  rw [q0]
  clear q0
  have E0 : Ex G (gu G pl (.lst [])) := ex_new hpl
  refine seq_i fun nx1 q1 => ?_
  simp only [for3, irng3, cons3, nil3, c3, o3, cat3, v3, List.getElem?_cons_zero, List.getElem?_cons_succ]
  refine ⟨⟨by omega, by omega⟩, ?_⟩
  rw [show ((M : Int) + 1 - 1).toNat = M by omega]
  refine forGo_inv _ (fun i τ G' => Ex G G' ∧ (∃ rs, rs.length = i ∧ Brs ws G G' pl rs) ∧ (∀ j, j < i → skO (j + 1) ws = none) ∧ ∃ x3 x4, τ = [some (.ref p), some (.int M), some (.ref pl), x3, x4])
    ⟨E0, ⟨[], rfl, hpl, gu_same, by simp, List.nodup_nil, fun i r hr => by simp at hr⟩, fun n hn => by omega, none, none, rfl⟩ (fun _ _ _ _ _ => True.intro) ?_ ?_
  · rintro i z τ G' nx hz ⟨E, ⟨rs, rl, br⟩, hs, x3, x4, rfl⟩ hnx
    obtain ⟨hi, rfl⟩ := rng_get hz
    simp only [gn3, List.set_cons_succ, List.set_cons_zero]
    refine seq_i fun nx2 q2 => ?_
    simp only [asg3, cb3, cons3, nil3, v3, gn3, List.getElem?_cons_zero, List.getElem?_cons_succ, List.set_cons_succ, List.set_cons_zero]
    have e1 : (1 : Int) + (i : Int) = ((i + 1 : Nat) : Int) := by omega
    rw [e1]
    refine ⟨i + 1, ws, p, rfl, by omega, by omega, E.getL hp, ok, fun x G2 sx => ?_⟩
    rw [q2]
    clear q2
    refine seq_i fun nx3 q3 => ?_
    have E2 := sx.ex
    cases e : skO (i + 1) ws with
    | some n =>
      rw [sx.un n e]
      simp only [ifS3, tb3, o3, v3, c3, L3.ixT, atI_0, atI_1, atI_2, eqA3, scalT, ret3, tup3, cons3, nil3, List.getElem?_cons_zero, List.getElem?_cons_succ]
      simp
      refine ⟨by simp [sizeLine_eq], h _ _ ⟨E.trans E2, fun B m em => ?_, fun em => ?_⟩⟩
      · rw [ls_at hi e hs] at em
        cases em
        exact ⟨by omega, by omega, pl, rs, rfl, by omega, br.nf, E2 _ _ br.gl, br.nl, br.nd, fun i r hr => ⟨(br.at' i r hr).1, E2 _ _ (br.at' i r hr).2⟩⟩
      · rw [ls_at hi e hs] at em; cases em
    | none =>
      obtain ⟨pb, rfl, fb, gb⟩ := sx.no e
      have gl2 := E2 _ _ br.gl
      simp only [ifS3, tb3, o3, v3, c3, L3.ixT, atI_0, atI_1, eqA3, scalT, List.getElem?_cons_zero, List.getElem?_cons_succ]
      simp [show ¬ Str.ofString "none" = Str.ofString "skew" by decide, next3]
      rw [q3]
      simp only [drop3, bm3, o3, v3, c3, L3.ixT, atI_1, cons3, nil3, app3, List.getElem?_cons_zero, List.getElem?_cons_succ, gl2]
      refine ⟨by rw [getL_lst gl2]; rfl, by rw [List.length_map, rl, sizeLine_eq]; omega, ?_⟩
      have npl : pl ≠ pb := by rintro rfl; rw [br.gl] at fb; cases fb
      have hG : ∀ b, G b = none → b ≠ pl → gu G2 pl (.lst (rs.map T.ref ++ [.ref pb])) b = G2 b := fun b _ hb => gu_ne hb
      refine hnx _ _ ⟨fun b o hb => ?_, ⟨rs ++ [pb], by simp [rl], br.nf, ?_, ?_, ?_, fun k r hk => ?_⟩, fun j hj => ?_, _, _, rfl⟩
      · rw [gu_ne (by rintro rfl; rw [hpl] at hb; cases hb)]
        exact E2 _ _ (E _ _ hb)
      · rw [gu_same]; simp
      · simp [br.nl, npl]
      · rw [List.nodup_append]
        refine ⟨br.nd, by simp, ?_⟩
        intro r hr s hs' ers
        simp at hs'
        subst hs' ers
        obtain ⟨k, hk⟩ := List.mem_iff_getElem?.mp hr
        have := (br.at' k r hk).2
        rw [fb] at this; cases this
      · rcases Nat.lt_or_ge k rs.length with z | z
        · rw [List.getElem?_append_left z] at hk
          have b1 := br.at' k r hk
          refine ⟨b1.1, ?_⟩
          rw [gu_ne (by rintro rfl; exact br.nl (List.mem_of_getElem? hk))]
          exact E2 _ _ b1.2
        · rw [List.getElem?_append_right z] at hk
          obtain ⟨hk1, hk2⟩ := List.getElem?_eq_some_iff.mp hk
          simp at hk1 hk2
          subst hk2
          have : k = i := by omega
          subst this
          refine ⟨?_, by rw [gu_ne (Ne.symm npl)]; exact gb⟩
          cases e' : G pb with
          | none => rfl
          | some o => rw [E _ _ e'] at fb; cases fb
      · rcases Nat.lt_or_ge j i with z | z
        · exact hs j z
        · have : j = i := by omega
          subst this; exact e
  · rintro τ G' ⟨E, ⟨rs, rl, br⟩, hs, x3, x4, rfl⟩
    rw [rng_len] at hs
    show nx1 _ _
    rw [q1]
    simp [seq3, asg3, gn3, ret3, retN3, ifS3, drop3, nev3, next3, v3, c3, o3, u3, neg3, L3.ixT, L3.ixR, cat3, iI, iC, iB, eqA3, scalT, isN3, tb3, and3, or3, not3, andV3, orV3, notV3, if3, ch3, cb3, cons3, nil3, isi3, tyT, subT, tup3, lst3, tsl3, np3, sp3, gtup3, gcons3, gnil3, gsub3, set3, par3, start3, bm3, app3, ext3, len3, abs3, min3, max3, int3, tuple3, list3, all3, any3, aug3, cut3, HT.sIx, in3, flatT, eqF, sizeLine_eq, List.getElem?_cons_zero, List.getElem?_cons_succ]
    have sk := ls_end hs
    refine h _ _ ⟨E, fun B n en => ?_, fun _ => rfl⟩
    rw [sk] at en; cases en
theorem rd_law_least_due : ∀ ts G q, sp_law_least_due ts G q → ts.length = 2 ∧ t_least_skew sp_law_skew_due (ends q) (start3 ["_law_walks_here", "_law_most", "_law_lesser", "_law_banks", "_law_found"] ts) G := rd_least_skew
noncomputable def lsD (ws : List Wk) (M : Nat) : PyData := match lsO ws M with
  | none => .none
  | some (B, n) => .tuple [.int B, .int ((n / B : Nat) : Int), .int ((n % B : Nat) : Int), .list ((List.range (B - 1)).map fun i => .list (barsD (i + 1) ws ((i + 1) * (i + 1))))]
theorem dps_of {G : Gp} : ∀ {xs : List T} {ds : List PyData}, xs.length = ds.length → (∀ (i : Nat) (x : T) (d : PyData), xs[i]? = some x → ds[i]? = some d → Dp G x d) → Dps G xs ds
  | [], [], _, _ => .nil
  | [], _ :: _, h, _ => by simp at h
  | _ :: _, [], h, _ => by simp at h
  | x :: xs, d :: ds, h, hh => .cons (hh 0 x d rfl rfl) (dps_of (by simpa using h) fun i y e hy he => hh (i + 1) y e (by simpa using hy) (by simpa using he))
theorem LsR.dp {ws : List Wk} {M : Nat} {G G' : Gp} {x : T} (h : LsR ws M G G' x) : Dp G' x (lsD ws M) := by
  unfold lsD
  cases e : lsO ws M with
  | none => rw [h.no e]; exact .non
  | some r =>
    obtain ⟨B, n⟩ := r
    obtain ⟨_, _, pl, rs, rfl, rl, br⟩ := h.un B n e
    refine .tup (.cons (.int _) (.cons (.int _) (.cons (.int _) (.cons (.lst (getL_lst br.gl) (dps_of (by simp [rl]) fun i x d hx hd => ?_)) .nil))))
    rw [List.getElem?_map] at hx hd
    cases e1 : rs[i]? with
    | none => rw [e1] at hx; cases hx
    | some r =>
      rw [e1] at hx
      have hi : i < B - 1 := by rw [← rl]; exact (List.getElem?_eq_some_iff.mp e1).1
      rw [List.getElem?_range hi] at hd
      simp at hx hd
      subst hx hd
      exact .lst (getL_lst (br.at' i r e1).2) (bars_dp _ _ _ _)
theorem lsD_dep (ws : List Wk) (M : Nat) (hM : ∀ B n, lsO ws M = some (B, n) → B ≤ 32) : DepLe 4 (lsD ws M) := by
  unfold lsD
  split
  · simp [DepLe]
  · rename_i B n e
    have hB := hM B n e
    refine ⟨by simp, fun d hd => ?_⟩
    simp only [List.mem_cons, List.not_mem_nil, or_false] at hd
    rcases hd with rfl | rfl | rfl | rfl
    · simp [DepLe]
    · simp [DepLe]
    · simp [DepLe]
    · refine ⟨by simp; omega, fun d hd => ?_⟩
      obtain ⟨i, hi, rfl⟩ := List.mem_map.mp hd
      have : i + 1 ≤ 32 := by simp at hi; omega
      exact barsD_dep _ _ _ (Nat.mul_le_mul this this)
end K36
set_option Elab.async false
set_option linter.all false
set_option maxRecDepth 100000
set_option maxHeartbeats 4000000
namespace K36
open PySem L2 L3 Bk
def lineR (B s : Int) (m : Nat) : List Int := (List.range m).map fun (t : Nat) => ((t : Int) * s) % B
theorem lineR_len (B s : Int) (m : Nat) : (lineR B s m).length = m := by simp [lineR]
theorem lineR_get {B s : Int} {m t : Nat} (h : t < m) : (lineR B s m)[t]? = some (((t : Int) * s) % B) := by simp [lineR, h]
theorem rL_line (B a c : Int) (k m : Nat) : rL B a c (Wk.line k m).pc = lineR B (a * lnD k + c * lnA k) m := by
  simp only [Wk.pc, rL, along, lineR, List.map_map]
  apply List.map_congr_left
  intro t _
  simp only [Function.comp]
  rw [Int.mul_add, Int.mul_left_comm a, Int.mul_left_comm c]
theorem two_alike {ns : List Int} {i j : Nat} (hij : i < j) (hj : j < ns.length) (e : ns[i]? = ns[j]?) : ∃ ij, faO ns = some ij := by
  obtain ⟨a, b, F⟩ := ex_fst (ns := ns) fun un => un i j (by omega) hij hj e
  exact ⟨_, faO_some F⟩
theorem fa_big {B : Nat} {s : Int} {m : Nat} (h1 : 1 ≤ B) (h : B < m) : ∃ ij, faO (lineR B s m) = some ij := by
  refine two_alike (i := 0) (j := B) (by omega) (by rw [lineR_len]; exact h) ?_
  rw [lineR_get (by omega), lineR_get h]
  simp
theorem fa_zero {B : Int} {m : Nat} (h : 2 ≤ m) : ∃ ij, faO (lineR B 0 m) = some ij := by
  refine two_alike (i := 0) (j := 1) (by omega) (by rw [lineR_len]; omega) ?_
  rw [lineR_get (by omega), lineR_get (by omega)]
  simp
theorem fa_one {B m : Nat} (h : m ≤ B) : faO (lineR B 1 m) = none := by
  refine faO_none fun a b ha hab hb e => ?_
  rw [lineR_len] at ha hb
  rw [lineR_get ha, lineR_get hb] at e
  have e := Option.some.inj e
  rw [Int.mul_one, Int.mul_one, Int.emod_eq_of_lt (by omega) (by omega), Int.emod_eq_of_lt (by omega) (by omega)] at e
  omega
theorem fa_single (B s : Int) : faO (lineR B s 1) = none := by
  refine faO_none fun a b ha hab hb e => ?_
  rw [lineR_len] at hb
  omega
theorem bar1 {b a c : Int} {w : Wk} (h : faO (rL b a c w.pc) = none) : barO b a c 0 [w] = none := by simp [barO, h]
theorem bar1' {b a c : Int} {w : Wk} {ws : List Wk} (h : ∃ ij, faO (rL b a c w.pc) = some ij) : (barO b a c 0 (w :: ws)).isSome = true := by
  obtain ⟨ij, h⟩ := h
  simp [barO, h]
theorem bar2 {b a c : Int} {w v : Wk} (h : faO (rL b a c w.pc) = none) (h2 : faO (rL b a c v.pc) = none) : barO b a c 0 [w, v] = none := by simp [barO, h, h2]
theorem bar2' {b a c : Int} {w v : Wk} (h2 : ∃ ij, faO (rL b a c v.pc) = some ij) : (barO b a c 0 [w, v]).isSome = true := by
  obtain ⟨ij, h2⟩ := h2
  cases e : faO (rL b a c w.pc) with
  | none => simp [barO, e, h2]
  | some r => simp [barO, e]
theorem sk_small {B m k : Nat} {ws : List Wk} (h1 : 1 ≤ B) (h : B < m) : skO B (.line k m :: ws) = none := by
  refine sk_end fun n hn => bar1' ?_
  rw [rL_line]
  exact fa_big h1 h
theorem ls_line {m k n M : Nat} {ws : List Wk} (h1 : 1 ≤ m) (hM : m ≤ M) (h : skO m (.line k m :: ws) = some n) : lsO (.line k m :: ws) M = some (m, n) := by
  have e : m = m - 1 + 1 := by omega
  have := ls_at (ws := .line k m :: ws) (M := M) (i := m - 1) (n := n) (by omega) (by rw [← e]; exact h) fun j hj => sk_small (by omega) (by omega)
  rw [← e] at this
  exact this
theorem ls_both {m k : Nat} {ws : List Wk} (h1 : 1 ≤ m) : lsO (.line k m :: ws) (m - 1) = none := ls_end fun j hj => sk_small (by omega) (by omega)
theorem lt_sq {m : Nat} (h : 2 ≤ m) : m + 1 < m * m := by
  have : 2 * m ≤ m * m := Nat.mul_le_mul_right m h
  rcases Nat.lt_or_ge 2 m with z | z
  · omega
  · have : m = 2 := by omega
    subst this; decide
theorem sk_row {m : Nat} (h1 : 1 ≤ m) : skO m [.line 0 m] = some (if 1 < m then 1 else 0) := by
  by_cases h : 1 < m
  · rw [if_pos h]
    have sq := lt_sq (m := m) (by omega)
    refine sk_at (by omega) ?_ fun n hn => ?_
    · unfold fbar
      rw [Nat.div_eq_of_lt h, Nat.mod_eq_of_lt h]
      refine bar1 ?_
      rw [rL_line]
      exact fa_one (Nat.le_refl _)
    · have : n = 0 := by omega
      subst this
      unfold fbar
      rw [Nat.zero_div, Nat.zero_mod]
      refine bar1' ?_
      rw [rL_line]
      exact fa_zero (by omega)
  · have : m = 1 := by omega
    subst this
    refine sk_at (by decide) (bar1 ?_) fun n hn => by simp at hn
    rw [rL_line]
    exact fa_single _ _
theorem sk_col {m : Nat} (h1 : 1 ≤ m) : skO m [.line 1 m] = some (if 1 < m then m else 0) := by
  by_cases h : 1 < m
  · rw [if_pos h]
    have sq := lt_sq (m := m) (by omega)
    refine sk_at (by omega) ?_ fun n hn => ?_
    · unfold fbar
      rw [Nat.div_self (by omega), Nat.mod_self]
      refine bar1 ?_
      rw [rL_line]
      exact fa_one (Nat.le_refl _)
    · unfold fbar
      rw [Nat.div_eq_of_lt hn]
      refine bar1' ?_
      rw [rL_line]
      simp only [lnD, lnA]
      rw [show (((0 : Nat) : Int) * 1 + ((n % m : Nat) : Int) * 0) = 0 by omega]
      exact fa_zero (by omega)
  · have : m = 1 := by omega
    subst this
    refine sk_at (by decide) (bar1 ?_) fun n hn => by simp at hn
    rw [rL_line]
    exact fa_single _ _
theorem sk_both {m : Nat} (h1 : 1 ≤ m) : skO m [.line 1 m, .line 0 m] = some (if 1 < m then m + 1 else 0) := by
  by_cases h : 1 < m
  · rw [if_pos h]
    have sq := lt_sq (m := m) (by omega)
    refine sk_at (by omega) ?_ fun n hn => ?_
    · unfold fbar
      rw [show (m + 1) / m = 1 by rw [Nat.add_div_left _ (by omega), Nat.div_eq_of_lt h], show (m + 1) % m = 1 by rw [Nat.add_mod_left, Nat.mod_eq_of_lt h]]
      refine bar2 ?_ ?_
      · rw [rL_line]
        exact fa_one (Nat.le_refl _)
      · rw [rL_line]
        exact fa_one (Nat.le_refl _)
    · rcases Nat.lt_or_ge n m with z | z
      · unfold fbar
        rw [Nat.div_eq_of_lt z]
        refine bar1' ?_
        rw [rL_line]
        simp only [lnD, lnA]
        rw [show (((0 : Nat) : Int) * 1 + ((n % m : Nat) : Int) * 0) = 0 by omega]
        exact fa_zero (by omega)
      · have : n = m := by omega
        subst this
        unfold fbar
        rw [Nat.mod_self]
        refine bar2' ?_
        rw [rL_line]
        simp only [lnD, lnA]
        rw [show (((n / n : Nat) : Int) * 0 + ((0 : Nat) : Int) * 1) = 0 by omega]
        exact fa_zero (by omega)
  · have : m = 1 := by omega
    subst this
    refine sk_at (by decide) (bar2 ?_ ?_) fun n hn => by simp at hn
    · rw [rL_line]
      exact fa_single _ _
    · rw [rL_line]
      exact fa_single _ _
end K36
set_option Elab.async false
set_option linter.all false
set_option maxRecDepth 100000
set_option maxHeartbeats 4000000
namespace K36
open PySem L2 L3 Bk
def sp_law_known : Sp3 := fun ts G q => ∃ m : Nat, ts = [.int m] ∧ 1 ≤ m ∧ m ≤ 16 ∧ ∀ G', Ex G G' → q (.bl true) G'
def hd3 (a b c : Int) : T := .tup [.int a, .int b, .int c]
theorem eq_hd {a b c : Int} {ne : Bool} {G : Gp} {q : Q3} (h : q (.bl (if ne then false else true)) G) : eqA3 ne (hd3 a b c) (hd3 a b c) G q := by
  refine ⟨.tuple [.int a, .int b, .int c], .tuple [.int a, .int b, .int c], true, .tup (.cons (.int _) (.cons (.int _) (.cons (.int _) .nil))), .tup (.cons (.int _) (.cons (.int _) (.cons (.int _) .nil))), by simp [pyEq, pyEqs], by simp [dpt, dpts], by simp [dpt, dpts], ?_⟩
  cases ne <;> exact h
theorem sl_hd {a b c : Int} {p : Addr} {G : Gp} {q : Q3} : sl3 (.tup [.int a, .int b, .int c, .ref p]) none (some 3) G q = q (hd3 a b c) G := by
  simp [sl3, HT.sIx, L3.cut3, hd3]
theorem known_one {k m : Nat} {x y : Int} {n : Nat} {G : Gp} {q : Q3} {p : Addr} (hk : k < 4) (h1 : 1 ≤ m) (h2 : m ≤ 16) (gp : getL G p = some [(Wk.line k m).t]) (sk : skO m [.line k m] = some n) (hx : ((n / m : Nat) : Int) = x) (hy : ((n % m : Nat) : Int) = y)
    (h : ∀ pl G', Ex G G' → q (.tup [.int m, .int x, .int y, .ref pl]) G') : sp_least_skew [.ref p, .int 16] G q := by
  refine ⟨16, [.line k m], p, rfl, by omega, gp, ⟨by simp, fun w hw => by simp at hw; subst hw; exact ⟨hk, h1, h2⟩⟩, fun x' G' r => ?_⟩
  obtain ⟨_, _, pl, rs, rfl, _, _⟩ := r.un m n (ls_line h1 (by omega) sk)
  rw [hx, hy]
  exact h pl G' r.ex
theorem known_step {k m n : Nat} {px py : Int} {G : Gp} {p : Addr} {d : Ends3} (hk : k < 4) (h1 : 1 ≤ m) (h2 : m ≤ 16) (gp : getL G p = some [(Wk.line k m).t]) (sk : skO m [.line k m] = some n) (hx : ((n / m : Nat) : Int) = if 1 < m then px else 0) (hy : ((n % m : Nat) : Int) = if 1 < m then py else 0)
    (h : ∀ G', Ex G G' → d.nx [some (.int m), some (.ref p), some (.tup [.int px, .int py]), none, none] G') :
    (ifS3 (tb3 (o3 (eqA3 true) (tsl3 (cb3 sp_least_skew (cons3 (v3 1) (cons3 (c3 (.int 16)) nil3))) np3 (sp3 (c3 (.int 3)))) (o3 cat3 (tup3 (cons3 (v3 0) nil3)) (if3 (tb3 (o3 (iB fun i j => decide (j < i)) (v3 0) (c3 (.int 1)))) (v3 2) (tup3 (cons3 (c3 (.int 0)) (cons3 (c3 (.int 0)) nil3))))))) (ret3 (c3 (.bl false))) next3) d [some (.int m), some (.ref p), some (.tup [.int px, .int py]), none, none] G := by
  simp only [ifS3, tb3, o3, tsl3, cb3, cons3, nil3, v3, c3, np3, sp3, tup3, if3, iB, cat3, List.getElem?_cons_zero, List.getElem?_cons_succ]
  refine known_one hk h1 h2 gp sk hx hy fun pl G' E => ?_
  rw [sl_hd]
  refine ⟨by simp [sizeLine_eq], ?_⟩
  by_cases hm : 1 < m
  · have hm' : (1 : Int) < (m : Int) := by omega
    simp only [hm, if_true, hm', decide_true]
    refine ⟨by simp, by simp [sizeLine_eq], ?_⟩
    refine eq_hd ?_
    simp [next3]
    exact h G' E
  · have hm' : ¬ (1 : Int) < (m : Int) := by omega
    simp only [hm, if_false, hm', decide_false]
    refine ⟨by simp [sizeLine_eq], by simp, by simp [sizeLine_eq], ?_⟩
    refine eq_hd ?_
    simp [next3]
    exact h G' E
theorem rd_law_known : ∀ ts G q, sp_law_known ts G q → ts.length = 1 ∧ t_law_known sp_least_skew (ends q) (start3 ["_law_many_here", "_law_walks_here", "_law_pair", "_law_both", "_law_found"] ts) G := by
  rintro ts G q ⟨m, rfl, h1, h2, h⟩
  refine ⟨rfl, ?_⟩
  unfold t_law_known
  refine seq_i fun nx0 q0 => ?_
  simp only [for3, iseq3, tup3, lst3, cons3, nil3, c3, v3, start3, List.map, List.length, List.cons_append, List.getElem?_cons_zero, List.getElem?_cons_succ]
  refine ⟨by simp [sizeLine_eq], by simp [sizeLine_eq], fun p1 hp1 => ?_⟩
  refine ⟨by simp [sizeLine_eq], by simp [sizeLine_eq], by simp [sizeLine_eq], by simp [sizeLine_eq], fun p2 hp2 => ?_⟩
  refine ⟨by simp [sizeLine_eq], by simp [sizeLine_eq], by simp [sizeLine_eq], ?_⟩
  have hp2' : G p2 = none := by
    cases e : G p2 with
    | none => rfl
    | some o => rw [ex_new hp1 _ _ e] at hp2; cases hp2
  have E1 := ex_new hp1 (o := .lst [.tup [.str "row", .int m]])
  have E2 := ex_new hp2 (o := .lst [.tup [.str "column", .int m]])
  have g1 : getL (gu (gu G p1 (.lst [.tup [.str "row", .int m]])) p2 (.lst [.tup [.str "column", .int m]])) p1 = some [.tup [.str "row", .int m]] := getL_lst (E2 _ _ gu_same)
  have g2 : getL (gu (gu G p1 (.lst [.tup [.str "row", .int m]])) p2 (.lst [.tup [.str "column", .int m]])) p2 = some [.tup [.str "column", .int m]] := getL_lst gu_same
  have E12 := E1.trans E2
  generalize gu (gu G p1 (.lst [.tup [.str "row", .int m]])) p2 (.lst [.tup [.str "column", .int m]]) = G2 at E12 g1 g2
  refine forGo_inv _ (fun i τ G' => Ex G2 G' ∧ ∃ x1 x2, τ = [some (.int m), x1, x2, none, none]) ⟨Ex.refl, none, none, rfl⟩ (fun _ _ _ _ _ => True.intro) ?_ ?_
  · rintro i z τ G' nx hz ⟨E, x1, x2, rfl⟩ hn
    rcases i with _ | _ | i
    · simp at hz
      subst hz
      simp [gtup3, gcons3, gnil3, gn3]
      refine known_step (k := 0) (by omega) h1 h2 (E.getL g1) (sk_row h1) ?_ ?_ fun G3 E3 => hn _ _ ⟨E.trans E3, _, _, rfl⟩
      · split
        · rename_i lt; rw [Nat.div_eq_of_lt lt]; rfl
        · simp
      · split
        · rename_i lt; rw [Nat.mod_eq_of_lt lt]; rfl
        · simp
    · simp at hz
      subst hz
      simp [gtup3, gcons3, gnil3, gn3]
      refine known_step (k := 1) (by omega) h1 h2 (E.getL g2) (sk_col h1) ?_ ?_ fun G3 E3 => hn _ _ ⟨E.trans E3, _, _, rfl⟩
      · split
        · rename_i lt; rw [Nat.div_self (by omega)]; rfl
        · simp
      · split
        · rw [Nat.mod_self]; rfl
        · simp
    · simp at hz
  · rintro τ G' ⟨E, x1, x2, rfl⟩
    show nx0 _ _
    rw [q0]
    clear q0
    refine seq_i fun nx1 q1 => ?_
    simp only [asg3, lst3, tup3, cons3, nil3, v3, c3, List.getElem?_cons_zero, List.getElem?_cons_succ]
    refine ⟨by simp [sizeLine_eq], by simp [sizeLine_eq], by simp [sizeLine_eq], fun p3 hp3 => ?_⟩
    simp only [gn3, List.set_cons_succ, List.set_cons_zero]
    rw [q1]
    clear q1
    have wok : WsOk [Wk.line 1 m, Wk.line 0 m] := ⟨by simp, fun w hw => by
      simp at hw
      rcases hw with rfl | rfl
      · exact ⟨by omega, h1, h2⟩
      · exact ⟨by omega, h1, h2⟩⟩
    have E3 := ex_new hp3 (o := .lst [.tup [.str "column", .int m], .tup [.str "row", .int m]])
    have g3 : getL (gu G' p3 (.lst [.tup [.str "column", .int m], .tup [.str "row", .int m]])) p3 = some [.tup [.str "column", .int m], .tup [.str "row", .int m]] := getL_lst gu_same
    generalize gu G' p3 (.lst [.tup [.str "column", .int m], .tup [.str "row", .int m]]) = G3 at E3 g3
    refine seq_i fun nx2 q2 => ?_
    simp only [asg3, cb3, cons3, nil3, v3, List.getElem?_cons_zero, List.getElem?_cons_succ]
    refine ⟨m, [.line 1 m, .line 0 m], p3, rfl, by omega, g3, wok, fun x G4 r => ?_⟩
    simp only [gn3, List.set_cons_succ, List.set_cons_zero]
    rw [q2]
    obtain ⟨_, _, pl, rs, rfl, _, _⟩ := r.un m _ (ls_line h1 (Nat.le_refl _) (sk_both h1))
    have ex : (((if 1 < m then m + 1 else 0) / m : Nat) : Int) = if (1 : Int) < (m : Int) then 1 else 0 := by
      by_cases hm : 1 < m
      · rw [if_pos hm, if_pos (by omega), Nat.add_div_left _ (by omega), Nat.div_eq_of_lt hm]; rfl
      · rw [if_neg hm, if_neg (by omega), Nat.zero_div]; rfl
    have ey : (((if 1 < m then m + 1 else 0) % m : Nat) : Int) = if (1 : Int) < (m : Int) then 1 else 0 := by
      by_cases hm : 1 < m
      · rw [if_pos hm, if_pos (by omega), Nat.add_mod_left, Nat.mod_eq_of_lt hm]; rfl
      · rw [if_neg hm, if_neg (by omega), Nat.zero_mod]; rfl
    rw [ex, ey]
    simp only [ret3, andV3, o3, tsl3, cb3, cons3, nil3, v3, c3, np3, sp3, tup3, int3, iB, List.getElem?_cons_zero, List.getElem?_cons_succ, sl_hd]
    refine ⟨by simp [sizeLine_eq], ?_⟩
    have er : (if decide ((1 : Int) < (m : Int)) = true then (1 : Int) else 0) = if (1 : Int) < (m : Int) then 1 else 0 := by
      by_cases hm : (1 : Int) < (m : Int) <;> simp [hm]
    rw [er]
    refine eq_hd ?_
    simp only [if_true, Bool.false_eq_true, if_false, iI]
    rw [show (m : Int) - 1 = ((m - 1 : Nat) : Int) by omega]
    refine ⟨m - 1, [.line 1 m, .line 0 m], p3, rfl, by omega, r.ex.getL g3, wok, fun x G5 r5 => ?_⟩
    rw [r5.no (ls_both h1)]
    simp [isN3]
    exact h _ ((E12.trans E).trans (E3.trans (r.ex.trans r5.ex)))
theorem lc_lens {ys : List Addr} {zs : List (List T)} {k : Int} {p : Addr} {G : Gp} {q : Q3} {te : TE3} (hk : ∀ r xs τ (q : Q3), getL G r = some xs → τ = [some (T.ref r)] → q (.int (xs.length + k)) G → te τ G q) (hl : ys.length ≤ 1000) (gp : getL G p = some (ys.map T.ref)) (hz : zs.length = ys.length) (hy : ∀ (i : Nat) (r : Addr) (xs : List T), ys[i]? = some r → zs[i]? = some xs → getL G r = some xs)
    (h : ∀ p2, G p2 = none → q (.ref p2) (gu G p2 (.lst (zs.map fun xs => T.int (xs.length + k))))) :
    lcGo (fun G => getL G p = some (ys.map T.ref)) (gn3 0) tt3 te q (ys.map T.ref) [] [none] G := by
  refine lcGo_inv _ (fun i us τ G' => G' = G ∧ us = (zs.take i).map (fun xs => T.int (xs.length + k)) ∧ ∃ x0, τ = [x0]) ⟨rfl, rfl, none, rfl⟩ (fun _ _ _ _ _ hP => by rw [hP.1]; exact gp) ?_ ?_
  · rintro i z us τ G' R hx ⟨rfl, rfl, x0, rfl⟩ hR
    rw [List.getElem?_map] at hx
    cases e : ys[i]? with
    | none => rw [e] at hx; cases hx
    | some r =>
      rw [e] at hx
      have : z = .ref r := by simpa using hx.symm
      subst this
      have hi : i < zs.length := by rw [hz]; exact (List.getElem?_eq_some_iff.mp e).1
      simp only [gn3, List.set_cons_zero, tt3, if_true]
      refine hk r zs[i] _ _ (hy i r _ e (List.getElem?_eq_getElem hi)) rfl ⟨by rw [List.length_map, List.length_take, sizeLine_eq]; omega, hR _ _ _ ⟨rfl, ?_, _, rfl⟩⟩
      rw [List.take_succ_eq_append_getElem hi, List.map_append]
      rfl
  · rintro us τ G' ⟨rfl, rfl, x0, rfl⟩ p2 hp2
    rw [List.length_map, ← hz, List.take_length]
    exact h p2 hp2
end K36
set_option Elab.async false
set_option linter.all false
set_option maxRecDepth 100000
set_option maxHeartbeats 4000000
namespace K36
open PySem L2 L3 Bk
def t9 : T := .tup [.int 9, .int 9, .int 9]
structure Lng (G G' : Gp) (rs : List Addr) (zs : List (List T)) (j : Nat) : Prop where
  ot : ∀ b, b ∉ rs → G' b = G b
  lt : ∀ (i : Nat) (r : Addr) (xs : List T), rs[i]? = some r → zs[i]? = some xs → G' r = some (.lst (if i < j then xs ++ [t9] else xs))
theorem nodup_get {rs : List Addr} (nd : rs.Nodup) {i j : Nat} {r : Addr} (hi : rs[i]? = some r) (hj : rs[j]? = some r) : i = j := by
  obtain ⟨a, ea⟩ := List.getElem?_eq_some_iff.mp hi
  obtain ⟨b, eb⟩ := List.getElem?_eq_some_iff.mp hj
  exact (List.getElem_inj nd).mp (ea.trans eb.symm)
theorem for_app {rs : List Addr} {zs : List (List T)} {pl : Addr} {τ0 : List (Option T)} {x10 : Option T} {G : Gp} {d : Ends3} (hτ : τ0.length = 11) (hz : zs.length = rs.length) (hzl : ∀ xs ∈ zs, xs.length ≤ 2000) (nd : rs.Nodup) (nl : pl ∉ rs) (gl : getL G pl = some (rs.map T.ref)) (h0 : ∀ (i : Nat) (r : Addr) (xs : List T), rs[i]? = some r → zs[i]? = some xs → G r = some (.lst xs))
    (h : ∀ x11 G', Lng G G' rs zs rs.length → d.nx (τ0 ++ [x11]) G') :
    forGo (fun G => getL G pl = some (rs.map T.ref)) (gn3 11) (drop3 (bm3 app3 (v3 11) (cons3 (tup3 (cons3 (c3 (.int 9)) (cons3 (c3 (.int 9)) (cons3 (c3 (.int 9)) nil3)))) nil3))) d (rs.map T.ref) (τ0 ++ [x10]) G := by
  have gp' : ∀ G' j, Lng G G' rs zs j → getL G' pl = some (rs.map T.ref) := fun G' j L => by unfold getL at gl ⊢; rw [L.ot pl nl]; exact gl
  refine forGo_inv _ (fun j τ G' => Lng G G' rs zs j ∧ ∃ x11, τ = τ0 ++ [x11]) ⟨⟨fun _ _ => rfl, fun i r xs a b => by rw [if_neg (by omega)]; exact h0 i r xs a b⟩, _, rfl⟩ (fun _ _ _ _ hP => gp' _ _ hP.1) ?_ ?_
  · rintro j z τ G' nx hx ⟨L, x11, rfl⟩ hn
    rw [List.getElem?_map] at hx
    cases e : rs[j]? with
    | none => rw [e] at hx; cases hx
    | some r =>
      rw [e] at hx
      have : z = .ref r := by simpa using hx.symm
      subst this
      have hj : j < zs.length := by rw [hz]; exact (List.getElem?_eq_some_iff.mp e).1
      have ez := List.getElem?_eq_getElem hj
      have gr := L.lt j r zs[j] e ez
      rw [if_neg (by omega)] at gr
      have s11 : (τ0 ++ [x11]).set 11 (some (T.ref r)) = τ0 ++ [some (T.ref r)] := by
        rw [List.set_append_right _ _ (by omega), hτ]; rfl
      have g11 : (τ0 ++ [some (T.ref r)])[11]? = some (some (T.ref r)) := by
        rw [List.getElem?_append_right (by omega), hτ]; rfl
      simp only [gn3, s11, drop3, bm3, v3, g11, cons3, nil3, tup3, c3, app3, gr]
      have zl := hzl zs[j] (List.getElem_mem hj)
      refine ⟨by rw [getL_lst gr]; rfl, by simp [sizeLine_eq], by rw [sizeLine_eq]; omega, hn _ _ ⟨⟨fun b hb => ?_, fun i s xs a b => ?_⟩, _, rfl⟩⟩
      · rw [gu_ne (by rintro rfl; exact hb (List.mem_of_getElem? e))]
        exact L.ot b hb
      · by_cases eij : i = j
        · subst eij
          rw [e] at a
          cases a
          rw [ez] at b
          cases b
          rw [gu_same, if_pos (by omega)]
          rfl
        · rw [gu_ne (by rintro rfl; exact eij (nodup_get nd a e)), L.lt i s xs a b]
          by_cases c1 : i < j
          · rw [if_pos c1, if_pos (by omega)]
          · rw [if_neg c1, if_neg (by omega)]
  · rintro τ G' ⟨L, x11, rfl⟩
    rw [List.length_map] at L
    exact h _ _ L
theorem rd_law : ∀ ts G q, sp_top ts G q → ts.length = 1 ∧ t_law sp_law_left sp_law_pick sp_law_walks sp_law_least_due sp_least_skew (sp_law_same 5) sp_law_known (ends q) (start3 ["_law_script", "_law_k", "_law_left_here", "_law_most", "_law_many_here", "_law_walks_here", "_law_due", "_law_kept", "_law_turn", "_law_found", "_law_sizes", "_law_one"] ts) G := by
  rintro ts G q ⟨a, ns, rfl, hG, hl, h⟩
  refine ⟨rfl, ?_⟩
  unfold t_law
  refine seq_i fun nx0 q0 => ?_
  simp only [for3, irng3, cons3, nil3, o3, c3, cb3, v3, len3, min3, cat3, start3, List.map, List.length, List.getElem?_cons_zero]
  simp [hG, getL]
  refine ⟨⟨by split <;> omega, by split <;> omega⟩, ?_⟩
  refine forGo_inv _ (fun _ τ G' => G' a = some (.frz (ns.map T.int)) ∧ ∃ x1 x2 x3 x4 x5 x6 x7 x8 x9 x10 x11, τ = [some (.ref a), x1, x2, x3, x4, x5, x6, x7, x8, x9, x10, x11]) ⟨hG, none, none, none, none, none, none, none, none, none, none, none, rfl⟩ (fun _ _ _ _ _ => True.intro) ?_ ?_
  · rintro n z τ G' nx hz ⟨gA, x1, x2, x3, x4, x5, x6, x7, x8, x9, x10, x11, rfl⟩ hn
    obtain ⟨hi, rfl⟩ := rng_get hz
    have hn8 : n < 8 := by split at hi <;> omega
    simp only [gn3, List.set_cons_succ, List.set_cons_zero]
    refine seq_i fun nx1 q1 => ?_
    simp [seq3, asg3, gn3, ret3, retN3, ifS3, drop3, nev3, next3, v3, c3, o3, u3, neg3, L3.ixT, L3.ixR, cat3, iI, iC, iB, eqA3, scalT, isN3, tb3, and3, or3, not3, andV3, orV3, notV3, if3, ch3, cb3, cons3, nil3, isi3, tyT, subT, tup3, lst3, tsl3, np3, sp3, gtup3, gcons3, gnil3, gsub3, set3, par3, start3, bm3, app3, ext3, len3, abs3, min3, max3, int3, tuple3, list3, all3, any3, aug3, cut3, HT.sIx, in3, flatT, eqF, sizeLine_eq, List.getElem?_cons_zero, List.getElem?_cons_succ]
    refine ⟨a, n, ns, rfl, gA, hl, by omega, by omega, fun p o c hp ho => ?_⟩
    have pa : a ≠ p := by rintro rfl; rw [gA] at hp; cases hp
    have M0 : Lf (gu G' p (.lst [.int o, .int c, .int 0])) p 0 := ⟨o, c, 0, gu_same, ho, by omega, by omega⟩
    have g0 : (gu G' p (.lst [.int o, .int c, .int 0])) a = some (.frz (ns.map T.int)) := by rw [gu_ne pa]; exact gA
    generalize gu G' p (.lst [.int o, .int c, .int 0]) = G0 at M0 g0
    rw [q1]
    clear q1
    refine seq_i fun nx2 q2 => ?_
    simp [seq3, asg3, gn3, ret3, retN3, ifS3, drop3, nev3, next3, v3, c3, o3, u3, neg3, L3.ixT, L3.ixR, cat3, iI, iC, iB, eqA3, scalT, isN3, tb3, and3, or3, not3, andV3, orV3, notV3, if3, ch3, cb3, cons3, nil3, isi3, tyT, subT, tup3, lst3, tsl3, np3, sp3, gtup3, gcons3, gnil3, gsub3, set3, par3, start3, bm3, app3, ext3, len3, abs3, min3, max3, int3, tuple3, list3, all3, any3, aug3, cut3, HT.sIx, in3, flatT, eqF, sizeLine_eq, List.getElem?_cons_zero, List.getElem?_cons_succ]
    refine pick_i M0 (by omega) (by omega) (by omega) fun mo G1 mo0 mo1 M1 E1 => ?_
    try simp
    refine pick_i M1 (by omega) (by omega) (by omega) fun my G2 my0 my1 M2 E2 => ?_
    try simp
    obtain ⟨M, rfl⟩ := Int.eq_ofNat_of_zero_le mo0
    obtain ⟨my', rfl⟩ := Int.eq_ofNat_of_zero_le my0
    have eB : (1 : Int) + (my' : Int) = ((my' + 1 : Nat) : Int) := by omega
    rw [eB, q2]
    clear q2
    have mh1 : 1 ≤ my' + 1 := by omega
    have mh2 : my' + 1 ≤ 16 := by omega
    generalize my' + 1 = mh at mh1 mh2
    refine seq_i fun nx3 q3 => ?_
    simp only [asg3, cb3, cons3, nil3, v3, List.getElem?_cons_zero, List.getElem?_cons_succ]
    refine ⟨p, _, rfl, M2, by omega, fun ws pw G3 wok M3 E3 hpw gw npw => ?_⟩
    simp only [gn3, List.set_cons_succ, List.set_cons_zero]
    rw [q3]
    clear q3
    have g3 : G3 a = some (.frz (ns.map T.int)) := E3 _ _ pa (E2 _ _ pa (E1 _ _ pa g0))
    obtain ⟨x, hx⟩ := wks_text wok (getL_lst gw)
    refine seq_i fun nx4 q4 => ?_
    simp only [par3, cb3, cons3, nil3, v3, show3, List.getElem?_cons_zero, List.getElem?_cons_succ]
    refine ⟨M, ws, pw, rfl, by omega, getL_lst gw, wok, fun y G4 ry => ?_⟩
    refine hx _ ry.ex _ ?_
    simp only [List.set_cons_succ, List.set_cons_zero]
    rw [q4]
    clear q4
    refine seq_i fun nx5 q5 => ?_
    simp only [for3, irng3, cons3, nil3, c3]
    refine ⟨⟨by omega, by omega⟩, ?_⟩
    refine forGo_inv _ (fun _ τ G' => Ex G4 G' ∧ ∃ x8 x9 x10 x11, τ = [some (.ref a), some (.int (n : Int)), some (.ref p), some (.int (M : Int)), some (.int (mh : Int)), some (.ref pw), some y, some (.str x), x8, x9, x10, x11]) ⟨Ex.refl, _, _, _, _, rfl⟩ (fun _ _ _ _ _ => True.intro) ?_ ?_
    · rintro m z τ G5 nx6 hz ⟨E5, y8, y9, y10, y11, rfl⟩ hn6
      obtain ⟨_, rfl⟩ := rng_get hz
      simp only [gn3, List.set_cons_succ, List.set_cons_zero]
      refine seq_i fun nx7 q7 => ?_
      simp only [asg3, cb3, cons3, nil3, v3, List.getElem?_cons_zero, List.getElem?_cons_succ]
      have E45 := ry.ex.trans E5
      refine ⟨M, ws, pw, rfl, by omega, E45.getL (getL_lst gw), wok, fun f G6 rf => ?_⟩
      simp only [gn3, List.set_cons_succ, List.set_cons_zero]
      rw [q7]
      clear q7
      refine seq_i fun nx8 q8 => ?_
      simp only [ifS3, or3, not3, tb3, cb3, cons3, nil3, o3, v3, show3, List.getElem?_cons_zero, List.getElem?_cons_succ]
      refine ⟨f, y, lsD ws M, rfl, rf.dp, (ry.dp.up E5).up rf.ex, lsD_dep ws M (fun B n e => by have := (rf.un B n e).2.1; omega), fun G7 E7 => ?_⟩
      simp
      have E57 := rf.ex.trans E7
      refine hx _ (E45.trans E57) _ ?_
      simp [eqA3, scalT, next3]
      rw [q8]
      clear q8
      cases e : lsO ws M with
      | none =>
        rw [rf.no e]
        simp [seq3, asg3, gn3, ret3, retN3, ifS3, drop3, nev3, next3, v3, c3, o3, u3, neg3, L3.ixT, L3.ixR, cat3, iI, iC, iB, eqA3, scalT, isN3, tb3, and3, or3, not3, andV3, orV3, notV3, if3, ch3, cb3, cons3, nil3, isi3, tyT, subT, tup3, lst3, tsl3, np3, sp3, gtup3, gcons3, gnil3, gsub3, set3, par3, start3, bm3, app3, ext3, len3, abs3, min3, max3, int3, tuple3, list3, all3, any3, aug3, cut3, HT.sIx, in3, flatT, eqF, sizeLine_eq, List.getElem?_cons_zero, List.getElem?_cons_succ]
        exact hn6 _ _ ⟨E5.trans E57, _, _, _, _, rfl⟩
      | some r =>
        obtain ⟨B, k⟩ := r
        obtain ⟨B1, B2, pl, rs, rfl, rl, br⟩ := rf.un B k e
        obtain ⟨zs, hzs⟩ : ∃ zs : List (List T), zs = (List.range (B - 1)).map fun i => barsT (i + 1) ws ((i + 1) * (i + 1)) := ⟨_, rfl⟩
        have zl : zs.length = rs.length := by rw [hzs]; simp [rl]
        have zlt : ∀ (i : Nat) (r : Addr) (xs : List T), rs[i]? = some r → zs[i]? = some xs → G7 r = some (.lst xs) := by
          intro i r xs hr hxs
          have hi : i < B - 1 := by rw [← rl]; exact (List.getElem?_eq_some_iff.mp hr).1
          rw [hzs, List.getElem?_map, List.getElem?_range hi] at hxs
          cases hxs
          exact E7 _ _ (br.at' i r hr).2
        have zln : ∀ xs ∈ zs, xs.length ≤ 2000 := by
          intro xs hxs
          rw [hzs] at hxs
          obtain ⟨i, hi, rfl⟩ := List.mem_map.mp hxs
          have : i + 1 ≤ 32 := by simp at hi; omega
          have := Nat.mul_le_mul this this
          rw [barsT_len]; omega
        have gl7 := E7 _ _ br.gl
        have a3 : L2.atI [T.int (B : Int), .int ((k / B : Nat) : Int), .int ((k % B : Nat) : Int), .ref pl] 3 = some (.ref pl) := rfl
        simp only [ifS3, tb3, o3, isN3, v3, c3, List.getElem?_cons_zero, List.getElem?_cons_succ]
        simp only [Bool.not_false, if_true]
        refine seq_i fun nx9 q9 => ?_
        simp only [asg3, lc3, iseq3, o3, v3, c3, L3.ixT, a3, List.getElem?_cons_zero, List.getElem?_cons_succ, getL_lst gl7, cap]
        refine lc_lens (zs := zs) (k := 1) (fun r xs τ q hr ht hq => ?_) (by omega) (getL_lst gl7) zl (fun i r xs hr hxs => getL_lst (zlt i r xs hr hxs)) fun p10 hp10 => ?_
        · subst ht
          have hs : seqOf G7 (.ref r) = some xs := hr
          simp only [o3, cb3, cons3, nil3, v3, c3, cat3, List.getElem?_cons_zero, len_seq hs]
          exact hq
        simp only [gn3, List.set_cons_succ, List.set_cons_zero]
        rw [q9]
        clear q9
        have np : ∀ b o, G7 b = some o → b ≠ p10 := fun b o hb => by rintro rfl; rw [hp10] at hb; cases hb
        have E8 := ex_new hp10 (o := .lst (zs.map fun xs => T.int (xs.length + 1)))
        have g10 : gu G7 p10 (.lst (zs.map fun xs => T.int (xs.length + 1))) p10 = some (.lst (zs.map fun xs => T.int (xs.length + 1))) := gu_same
        have n10 : p10 ∉ rs := fun hm => by
          obtain ⟨i, hi⟩ := List.mem_iff_getElem?.mp hm
          exact np _ _ (E7 _ _ (br.at' i p10 hi).2) rfl
        generalize gu G7 p10 (.lst (zs.map fun xs => T.int (xs.length + 1))) = G8 at E8 g10
        have gl8 := E8 _ _ gl7
        refine seq_i fun nx10 q10 => ?_
        simp only [for3, iseq3, o3, v3, c3, L3.ixT, a3, List.getElem?_cons_zero, List.getElem?_cons_succ, getL_lst gl8]
        refine for_app (τ0 := [some (.ref a), some (.int (n : Int)), some (.ref p), some (.int (M : Int)), some (.int (mh : Int)), some (.ref pw), some y, some (.str x), some (.int (m : Int)), some (.tup [.int (B : Int), .int ((k / B : Nat) : Int), .int ((k % B : Nat) : Int), .ref pl]), some (.ref p10)]) rfl zl zln br.nd br.nl (getL_lst gl8) (fun i r xs hr hxs => E8 _ _ (zlt i r xs hr hxs)) fun x11' G9 L9 => ?_
        show nx10 _ _
        rw [q10]
        clear q10
        simp only [List.cons_append, List.nil_append]
        have gl9 : G9 pl = some (.lst (rs.map T.ref)) := by rw [L9.ot pl br.nl]; exact gl8
        have g109 : G9 p10 = some (.lst (zs.map fun xs => T.int (xs.length + 1))) := by rw [L9.ot p10 n10]; exact g10
        refine seq_i fun nx11 q11 => ?_
        simp only [ifS3, tb3, lc3, iseq3, o3, v3, c3, L3.ixT, a3, List.getElem?_cons_zero, List.getElem?_cons_succ, getL_lst gl9, cap]
        refine lc_lens (zs := zs.map fun xs => xs ++ [t9]) (k := 0) (fun r xs τ q hr ht hq => ?_) (by omega) (getL_lst gl9) (by rw [List.length_map]; exact zl) (fun i r xs hr hxs => ?_) fun p12 hp12 => ?_
        · subst ht
          have hs : seqOf G9 (.ref r) = some xs := hr
          simp only [cb3, cons3, nil3, v3, List.getElem?_cons_zero, len_seq hs]
          rw [Int.add_zero] at hq
          exact hq
        · rw [List.getElem?_map] at hxs
          cases ez : zs[i]? with
          | none => rw [ez] at hxs; cases hxs
          | some us =>
            rw [ez] at hxs
            cases hxs
            have := L9.lt i r us hr ez
            rw [if_pos (List.getElem?_eq_some_iff.mp hr).1] at this
            exact getL_lst this
        have ei : ((zs.map fun xs => xs ++ [t9]).map fun xs => T.int ((xs.length : Int) + 0)) = (zs.map fun xs => ((xs.length : Int) + 1)).map T.int := by
          simp [List.map_map, Function.comp_def]
        have ej : (zs.map fun xs => T.int ((xs.length : Int) + 1)) = (zs.map fun xs => ((xs.length : Int) + 1)).map T.int := by
          simp [List.map_map, Function.comp_def]
        rw [ei]
        rw [ej] at g109
        generalize (zs.map fun xs => ((xs.length : Int) + 1)) = ls at g109
        have E12 := ex_new hp12 (o := .lst (ls.map T.int))
        have g12 : gu G9 p12 (.lst (ls.map T.int)) p12 = some (.lst (ls.map T.int)) := gu_same
        generalize gu G9 p12 (.lst (ls.map T.int)) = G12 at E12 g12
        refine ⟨.list (ls.map PyData.int), .list (ls.map PyData.int), true, .lst (getL_lst g12) (Dps.ints _), .lst (getL_lst (E12 _ _ g109)) (Dps.ints _), by simp only [pyEq, pyEqs_ints]; simp, by simp [dpt, dpts_ints], by simp [dpt], ?_⟩
        simp [next3]
        rw [q11]
        clear q11
        have gl12 := E12 _ _ gl9
        simp only [drop3, bm3, o3, v3, c3, L3.ixT, a3, cons3, nil3, lst3, List.getElem?_cons_zero, List.getElem?_cons_succ]
        refine ⟨by show (getL G12 pl).isSome = true; rw [getL_lst gl12]; rfl, by simp [sizeLine_eq], fun p13 hp13 => ?_⟩
        have n13 : pl ≠ p13 := by rintro rfl; rw [gl12] at hp13; cases hp13
        simp only [app3, gu_ne n13, gl12]
        refine ⟨by rw [List.length_map, rl, sizeLine_eq]; omega, hn6 _ _ ⟨fun b o hb => ?_, _, _, _, _, rfl⟩⟩
        have hb5 := E5 _ _ hb
        have b1 : b ≠ pl := by rintro rfl; rw [br.nf] at hb5; cases hb5
        have b2 : b ∉ rs := fun hm => by
          obtain ⟨i, hi⟩ := List.mem_iff_getElem?.mp hm
          rw [(br.at' i b hi).1] at hb5; cases hb5
        have hb9 : G9 b = some o := by rw [L9.ot b b2]; exact E8 _ _ (E57 _ _ hb5)
        have hb12 := E12 _ _ hb9
        have b3 : b ≠ p13 := by rintro rfl; rw [hb12] at hp13; cases hp13
        rw [gu_ne b1, gu_ne b3]
        exact hb12
    · rintro τ G5 ⟨E5, y8, y9, y10, y11, rfl⟩
      show nx5 _ _
      rw [q5]
      simp only [ifS3, not3, tb3, cb3, cons3, nil3, v3, List.getElem?_cons_zero, List.getElem?_cons_succ]
      refine ⟨mh, rfl, mh1, mh2, fun G6 E6 => ?_⟩
      simp [next3]
      exact hn _ _ ⟨E6 _ _ (E5 _ _ (ry.ex _ _ g3)), _, _, _, _, _, _, _, _, _, _, _, rfl⟩
  · rintro τ G' ⟨gA, x1, x2, x3, x4, x5, x6, x7, x8, x9, x10, x11, rfl⟩
    show nx0 _ _
    rw [q0]
    simp [seq3, asg3, gn3, ret3, retN3, ifS3, drop3, nev3, next3, v3, c3, o3, u3, neg3, L3.ixT, L3.ixR, cat3, iI, iC, iB, eqA3, scalT, isN3, tb3, and3, or3, not3, andV3, orV3, notV3, if3, ch3, cb3, cons3, nil3, isi3, tyT, subT, tup3, lst3, tsl3, np3, sp3, gtup3, gcons3, gnil3, gsub3, set3, par3, start3, bm3, app3, ext3, len3, abs3, min3, max3, int3, tuple3, list3, all3, any3, aug3, cut3, HT.sIx, getL, in3, flatT, eqF, gu, sizeLine_eq, List.getElem?_cons_zero, List.getElem?_cons_succ]
    exact h _
end K36
set_option Elab.async false
set_option linter.all false
set_option maxRecDepth 100000
set_option maxHeartbeats 4000000
namespace K36
open PySem L2 L3 Bk
theorem all_mk {l : PySem.W.OpenLaw} {w : World} {K : PySem.W.Frag} {h : Heap} {mg : Str → Option Value} {fa : Addr} (X : K.In h) (G : h.Ns mainGlobals mg) (hfa : mg "law" = some (.ref fa))
    {f0 : Addr} {od0 an0 : Option Addr} {sl0 : Array (Option Value)} {oc0 kV0 dc0 pm0 cd0 ct0 : Value}
    {f1 : Addr} {od1 an1 : Option Addr} {sl1 : Array (Option Value)} {oc1 kV1 dc1 pm1 cd1 ct1 : Value}
    {f2 : Addr} {od2 an2 : Option Addr} {sl2 : Array (Option Value)} {oc2 kV2 dc2 pm2 cd2 ct2 : Value}
    {f3 : Addr} {od3 an3 : Option Addr} {sl3 : Array (Option Value)} {oc3 kV3 dc3 pm3 cd3 ct3 : Value}
    {f4 : Addr} {od4 an4 : Option Addr} {sl4 : Array (Option Value)} {oc4 kV4 dc4 pm4 cd4 ct4 : Value}
    {f5 : Addr} {od5 an5 : Option Addr} {sl5 : Array (Option Value)} {oc5 kV5 dc5 pm5 cd5 ct5 : Value}
    {f6 : Addr} {od6 an6 : Option Addr} {sl6 : Array (Option Value)} {oc6 kV6 dc6 pm6 cd6 ct6 : Value}
    {f7 : Addr} {od7 an7 : Option Addr} {sl7 : Array (Option Value)} {oc7 kV7 dc7 pm7 cd7 ct7 : Value}
    {f8 : Addr} {od8 an8 : Option Addr} {sl8 : Array (Option Value)} {oc8 kV8 dc8 pm8 cd8 ct8 : Value}
    {f9 : Addr} {od9 an9 : Option Addr} {sl9 : Array (Option Value)} {oc9 kV9 dc9 pm9 cd9 ct9 : Value}
    {f10 : Addr} {od10 an10 : Option Addr} {sl10 : Array (Option Value)} {oc10 kV10 dc10 pm10 cd10 ct10 : Value}
    {f11 : Addr} {od11 an11 : Option Addr} {sl11 : Array (Option Value)} {oc11 kV11 dc11 pm11 cd11 ct11 : Value}
    {f12 : Addr} {od12 an12 : Option Addr} {sl12 : Array (Option Value)} {oc12 kV12 dc12 pm12 cd12 ct12 : Value}
    {f13 : Addr} {od13 an13 : Option Addr} {sl13 : Array (Option Value)} {oc13 kV13 dc13 pm13 cd13 ct13 : Value}
    {f14 : Addr} {od14 an14 : Option Addr} {sl14 : Array (Option Value)} {oc14 kV14 dc14 pm14 cd14 ct14 : Value}
    {f15 : Addr} {od15 an15 : Option Addr} {sl15 : Array (Option Value)} {oc15 kV15 dc15 pm15 cd15 ct15 : Value}
    {f16 : Addr} {od16 an16 : Option Addr} {sl16 : Array (Option Value)} {oc16 kV16 dc16 pm16 cd16 ct16 : Value}
    {f17 : Addr} {od17 an17 : Option Addr} {sl17 : Array (Option Value)} {oc17 kV17 dc17 pm17 cd17 ct17 : Value}
    {f18 : Addr} {od18 an18 : Option Addr} {sl18 : Array (Option Value)} {oc18 kV18 dc18 pm18 cd18 ct18 : Value}
    {f19 : Addr} {od19 an19 : Option Addr} {sl19 : Array (Option Value)} {oc19 kV19 dc19 pm19 cd19 ct19 : Value}
    {f20 : Addr} {od20 an20 : Option Addr} {sl20 : Array (Option Value)} {oc20 kV20 dc20 pm20 cd20 ct20 : Value}
    {f21 : Addr} {od21 an21 : Option Addr} {sl21 : Array (Option Value)} {oc21 kV21 dc21 pm21 cd21 ct21 : Value}
    {f22 : Addr} {od22 an22 : Option Addr} {sl22 : Array (Option Value)} {oc22 kV22 dc22 pm22 cd22 ct22 : Value}
    {tD_STRIDES : Addr} {tE_STRIDES : Nat} {tk_STRIDES0 : Tok} {tq_STRIDES0 : Addr} {to_STRIDES0 : Option Addr} {tn_STRIDES0 : Nat} {ts_STRIDES0 : Array (Option Value)} {ti_STRIDES0_0 : Tok} {ti_STRIDES0_1 : Tok} {tk_STRIDES1 : Tok} {tq_STRIDES1 : Addr} {to_STRIDES1 : Option Addr} {tn_STRIDES1 : Nat} {ts_STRIDES1 : Array (Option Value)} {ti_STRIDES1_0 : Tok} {ti_STRIDES1_1 : Tok} {tk_STRIDES2 : Tok} {tq_STRIDES2 : Addr} {to_STRIDES2 : Option Addr} {tn_STRIDES2 : Nat} {ts_STRIDES2 : Array (Option Value)} {ti_STRIDES2_0 : Tok} {ti_STRIDES2_1 : Tok} {tk_STRIDES3 : Tok} {tq_STRIDES3 : Addr} {to_STRIDES3 : Option Addr} {tn_STRIDES3 : Nat} {ts_STRIDES3 : Array (Option Value)} {ti_STRIDES3_0 : Tok} {ti_STRIDES3_1 : Tok}
    (a0 : PySem.W.nsIn K mainGlobals "first_alike" = some (some (.ref f0))) (l0 : K.lookup f0 = some ⟨oc0, od0, .func (PySem.W.fnOf "first_alike" "first_alike" (defArgs st_first_alike) (defBody st_first_alike) (defScope st_first_alike) .none kV0 dc0 pm0 an0 cd0 ct0), sl0⟩) (c0 : PySem.W.codeIn K cd0 "first_alike" = true) (k0 : PySem.W.keepIn K (.ref f0) = true)
    (a1 : PySem.W.nsIn K mainGlobals "strung" = some (some (.ref f1))) (l1 : K.lookup f1 = some ⟨oc1, od1, .func (PySem.W.fnOf "strung" "strung" (defArgs st_strung) (defBody st_strung) (defScope st_strung) .none kV1 dc1 pm1 an1 cd1 ct1), sl1⟩) (c1 : PySem.W.codeIn K cd1 "strung" = true) (k1 : PySem.W.keepIn K (.ref f1) = true)
    (a2 : PySem.W.nsIn K mainGlobals "cells_of" = some (some (.ref f2))) (l2 : K.lookup f2 = some ⟨oc2, od2, .func (PySem.W.fnOf "cells_of" "cells_of" (defArgs st_cells_of) (defBody st_cells_of) (defScope st_cells_of) .none kV2 dc2 pm2 an2 cd2 ct2), sl2⟩) (c2 : PySem.W.codeIn K cd2 "cells_of" = true) (k2 : PySem.W.keepIn K (.ref f2) = true)
    (a3 : PySem.W.nsIn K mainGlobals "rests_by" = some (some (.ref f3))) (l3 : K.lookup f3 = some ⟨oc3, od3, .func (PySem.W.fnOf "rests_by" "rests_by" (defArgs st_rests_by) (defBody st_rests_by) (defScope st_rests_by) .none kV3 dc3 pm3 an3 cd3 ct3), sl3⟩) (c3 : PySem.W.codeIn K cd3 "rests_by" = true) (k3 : PySem.W.keepIn K (.ref f3) = true)
    (a4 : PySem.W.nsIn K mainGlobals "all_factors" = some (some (.ref f4))) (l4 : K.lookup f4 = some ⟨oc4, od4, .func (PySem.W.fnOf "all_factors" "all_factors" (defArgs st_all_factors) (defBody st_all_factors) (defScope st_all_factors) .none kV4 dc4 pm4 an4 cd4 ct4), sl4⟩) (c4 : PySem.W.codeIn K cd4 "all_factors" = true) (k4 : PySem.W.keepIn K (.ref f4) = true)
    (a5 : PySem.W.nsIn K mainGlobals "first_bar" = some (some (.ref f5))) (l5 : K.lookup f5 = some ⟨oc5, od5, .func (PySem.W.fnOf "first_bar" "first_bar" (defArgs st_first_bar) (defBody st_first_bar) (defScope st_first_bar) .none kV5 dc5 pm5 an5 cd5 ct5), sl5⟩) (c5 : PySem.W.codeIn K cd5 "first_bar" = true) (k5 : PySem.W.keepIn K (.ref f5) = true)
    (a6 : PySem.W.nsIn K mainGlobals "skew_for" = some (some (.ref f6))) (l6 : K.lookup f6 = some ⟨oc6, od6, .func (PySem.W.fnOf "skew_for" "skew_for" (defArgs st_skew_for) (defBody st_skew_for) (defScope st_skew_for) .none kV6 dc6 pm6 an6 cd6 ct6), sl6⟩) (c6 : PySem.W.codeIn K cd6 "skew_for" = true) (k6 : PySem.W.keepIn K (.ref f6) = true)
    (a7 : PySem.W.nsIn K mainGlobals "least_skew" = some (some (.ref f7))) (l7 : K.lookup f7 = some ⟨oc7, od7, .func (PySem.W.fnOf "least_skew" "least_skew" (defArgs st_least_skew) (defBody st_least_skew) (defScope st_least_skew) .none kV7 dc7 pm7 an7 cd7 ct7), sl7⟩) (c7 : PySem.W.codeIn K cd7 "least_skew" = true) (k7 : PySem.W.keepIn K (.ref f7) = true)
    (a8 : PySem.W.nsIn K mainGlobals "_law_mix" = some (some (.ref f8))) (l8 : K.lookup f8 = some ⟨oc8, od8, .func (PySem.W.fnOf "_law_mix" "_law_mix" (defArgs st_law_mix) (defBody st_law_mix) (defScope st_law_mix) .none kV8 dc8 pm8 an8 cd8 ct8), sl8⟩) (c8 : PySem.W.codeIn K cd8 "_law_mix" = true) (k8 : PySem.W.keepIn K (.ref f8) = true)
    (a9 : PySem.W.nsIn K mainGlobals "_law_left" = some (some (.ref f9))) (l9 : K.lookup f9 = some ⟨oc9, od9, .func (PySem.W.fnOf "_law_left" "_law_left" (defArgs st_law_left) (defBody st_law_left) (defScope st_law_left) .none kV9 dc9 pm9 an9 cd9 ct9), sl9⟩) (c9 : PySem.W.codeIn K cd9 "_law_left" = true) (k9 : PySem.W.keepIn K (.ref f9) = true)
    (a10 : PySem.W.nsIn K mainGlobals "_law_pick" = some (some (.ref f10))) (l10 : K.lookup f10 = some ⟨oc10, od10, .func (PySem.W.fnOf "_law_pick" "_law_pick" (defArgs st_law_pick) (defBody st_law_pick) (defScope st_law_pick) .none kV10 dc10 pm10 an10 cd10 ct10), sl10⟩) (c10 : PySem.W.codeIn K cd10 "_law_pick" = true) (k10 : PySem.W.keepIn K (.ref f10) = true)
    (a11 : PySem.W.nsIn K mainGlobals "_law_many" = some (some (.ref f11))) (l11 : K.lookup f11 = some ⟨oc11, od11, .func (PySem.W.fnOf "_law_many" "_law_many" (defArgs st_law_many) (defBody st_law_many) (defScope st_law_many) .none kV11 dc11 pm11 an11 cd11 ct11), sl11⟩) (c11 : PySem.W.codeIn K cd11 "_law_many" = true) (k11 : PySem.W.keepIn K (.ref f11) = true)
    (a12 : PySem.W.nsIn K mainGlobals "_law_walk" = some (some (.ref f12))) (l12 : K.lookup f12 = some ⟨oc12, od12, .func (PySem.W.fnOf "_law_walk" "_law_walk" (defArgs st_law_walk) (defBody st_law_walk) (defScope st_law_walk) .none kV12 dc12 pm12 an12 cd12 ct12), sl12⟩) (c12 : PySem.W.codeIn K cd12 "_law_walk" = true) (k12 : PySem.W.keepIn K (.ref f12) = true)
    (a13 : PySem.W.nsIn K mainGlobals "_law_cells" = some (some (.ref f13))) (l13 : K.lookup f13 = some ⟨oc13, od13, .func (PySem.W.fnOf "_law_cells" "_law_cells" (defArgs st_law_cells) (defBody st_law_cells) (defScope st_law_cells) .none kV13 dc13 pm13 an13 cd13 ct13), sl13⟩) (c13 : PySem.W.codeIn K cd13 "_law_cells" = true) (k13 : PySem.W.keepIn K (.ref f13) = true)
    (a14 : PySem.W.nsIn K mainGlobals "_law_same" = some (some (.ref f14))) (l14 : K.lookup f14 = some ⟨oc14, od14, .func (PySem.W.fnOf "_law_same" "_law_same" (defArgs st_law_same) (defBody st_law_same) (defScope st_law_same) .none kV14 dc14 pm14 an14 cd14 ct14), sl14⟩) (c14 : PySem.W.codeIn K cd14 "_law_same" = true) (k14 : PySem.W.keepIn K (.ref f14) = true)
    (a15 : PySem.W.nsIn K mainGlobals "_law_rests_at" = some (some (.ref f15))) (l15 : K.lookup f15 = some ⟨oc15, od15, .func (PySem.W.fnOf "_law_rests_at" "_law_rests_at" (defArgs st_law_rests_at) (defBody st_law_rests_at) (defScope st_law_rests_at) .none kV15 dc15 pm15 an15 cd15 ct15), sl15⟩) (c15 : PySem.W.codeIn K cd15 "_law_rests_at" = true) (k15 : PySem.W.keepIn K (.ref f15) = true)
    (a16 : PySem.W.nsIn K mainGlobals "_law_alike" = some (some (.ref f16))) (l16 : K.lookup f16 = some ⟨oc16, od16, .func (PySem.W.fnOf "_law_alike" "_law_alike" (defArgs st_law_alike) (defBody st_law_alike) (defScope st_law_alike) .none kV16 dc16 pm16 an16 cd16 ct16), sl16⟩) (c16 : PySem.W.codeIn K cd16 "_law_alike" = true) (k16 : PySem.W.keepIn K (.ref f16) = true)
    (a17 : PySem.W.nsIn K mainGlobals "_law_barred" = some (some (.ref f17))) (l17 : K.lookup f17 = some ⟨oc17, od17, .func (PySem.W.fnOf "_law_barred" "_law_barred" (defArgs st_law_barred) (defBody st_law_barred) (defScope st_law_barred) .none kV17 dc17 pm17 an17 cd17 ct17), sl17⟩) (c17 : PySem.W.codeIn K cd17 "_law_barred" = true) (k17 : PySem.W.keepIn K (.ref f17) = true)
    (a18 : PySem.W.nsIn K mainGlobals "_law_skew_due" = some (some (.ref f18))) (l18 : K.lookup f18 = some ⟨oc18, od18, .func (PySem.W.fnOf "_law_skew_due" "_law_skew_due" (defArgs st_law_skew_due) (defBody st_law_skew_due) (defScope st_law_skew_due) .none kV18 dc18 pm18 an18 cd18 ct18), sl18⟩) (c18 : PySem.W.codeIn K cd18 "_law_skew_due" = true) (k18 : PySem.W.keepIn K (.ref f18) = true)
    (a19 : PySem.W.nsIn K mainGlobals "_law_walks" = some (some (.ref f19))) (l19 : K.lookup f19 = some ⟨oc19, od19, .func (PySem.W.fnOf "_law_walks" "_law_walks" (defArgs st_law_walks) (defBody st_law_walks) (defScope st_law_walks) .none kV19 dc19 pm19 an19 cd19 ct19), sl19⟩) (c19 : PySem.W.codeIn K cd19 "_law_walks" = true) (k19 : PySem.W.keepIn K (.ref f19) = true)
    (a20 : PySem.W.nsIn K mainGlobals "_law_least_due" = some (some (.ref f20))) (l20 : K.lookup f20 = some ⟨oc20, od20, .func (PySem.W.fnOf "_law_least_due" "_law_least_due" (defArgs st_law_least_due) (defBody st_law_least_due) (defScope st_law_least_due) .none kV20 dc20 pm20 an20 cd20 ct20), sl20⟩) (c20 : PySem.W.codeIn K cd20 "_law_least_due" = true) (k20 : PySem.W.keepIn K (.ref f20) = true)
    (a21 : PySem.W.nsIn K mainGlobals "_law_known" = some (some (.ref f21))) (l21 : K.lookup f21 = some ⟨oc21, od21, .func (PySem.W.fnOf "_law_known" "_law_known" (defArgs st_law_known) (defBody st_law_known) (defScope st_law_known) .none kV21 dc21 pm21 an21 cd21 ct21), sl21⟩) (c21 : PySem.W.codeIn K cd21 "_law_known" = true) (k21 : PySem.W.keepIn K (.ref f21) = true)
    (a22 : PySem.W.nsIn K mainGlobals "law" = some (some (.ref f22))) (l22 : K.lookup f22 = some ⟨oc22, od22, .func (PySem.W.fnOf "law" "law" (defArgs st_law) (defBody st_law) (defScope st_law) .none kV22 dc22 pm22 an22 cd22 ct22), sl22⟩) (c22 : PySem.W.codeIn K cd22 "law" = true) (k22 : PySem.W.keepIn K (.ref f22) = true)
    (tA_STRIDES : PySem.W.nsIn K mainGlobals "STRIDES" = some (some (.ref tD_STRIDES))) (tL_STRIDES : K.lookup tD_STRIDES = some ⟨.type "dict", none, .dict #[⟨PyData.keyHash w.params "row", .str "row" tk_STRIDES0, .ref tq_STRIDES0⟩, ⟨PyData.keyHash w.params "column", .str "column" tk_STRIDES1, .ref tq_STRIDES1⟩, ⟨PyData.keyHash w.params "slant", .str "slant" tk_STRIDES2, .ref tq_STRIDES2⟩, ⟨PyData.keyHash w.params "back", .str "back" tk_STRIDES3, .ref tq_STRIDES3⟩] tE_STRIDES, #[]⟩) (tN_STRIDES : (tD_STRIDES == sysModules) = false) (tT_STRIDES0 : K.lookup tq_STRIDES0 = some ⟨.type "tuple", to_STRIDES0, .seq #[.int (0) ti_STRIDES0_0, .int (1) ti_STRIDES0_1] tn_STRIDES0, ts_STRIDES0⟩) (tT_STRIDES1 : K.lookup tq_STRIDES1 = some ⟨.type "tuple", to_STRIDES1, .seq #[.int (1) ti_STRIDES1_0, .int (0) ti_STRIDES1_1] tn_STRIDES1, ts_STRIDES1⟩) (tT_STRIDES2 : K.lookup tq_STRIDES2 = some ⟨.type "tuple", to_STRIDES2, .seq #[.int (1) ti_STRIDES2_0, .int (1) ti_STRIDES2_1] tn_STRIDES2, ts_STRIDES2⟩) (tT_STRIDES3 : K.lookup tq_STRIDES3 = some ⟨.type "tuple", to_STRIDES3, .seq #[.int (1) ti_STRIDES3_0, .int (-1) ti_STRIDES3_1] tn_STRIDES3, ts_STRIDES3⟩)
    (z0 : PySem.W.nsIn K mainGlobals "len" = some none)
    (z1 : PySem.W.nsIn K mainGlobals "range" = some none)
    (z2 : PySem.W.nsIn K mainGlobals "list" = some none)
    (z4 : PySem.W.nsIn K mainGlobals "tuple" = some none)
    (z5 : PySem.W.nsIn K mainGlobals "enumerate" = some none)
    (z6 : PySem.W.nsIn K mainGlobals "abs" = some none)
    (z7 : PySem.W.nsIn K mainGlobals "int" = some none)
    (z8 : PySem.W.nsIn K mainGlobals "isinstance" = some none)
    (z9 : PySem.W.nsIn K mainGlobals "zip" = some none)
    (z10 : PySem.W.nsIn K mainGlobals "all" = some none)
    (z11 : PySem.W.nsIn K mainGlobals "str" = some none)
    (z12 : PySem.W.nsIn K mainGlobals "bool" = some none)
    (z13 : PySem.W.nsIn K mainGlobals "set" = some none)
    (z14 : PySem.W.nsIn K mainGlobals "min" = some none) :
    ∃ fd : FuncData, (∀ (s : Shared) (v : Value), BindsTo s fd ⟨[v], []⟩ [("_law_script", v)]) ∧ ∀ base : Heap, K.In base → base.Ns mainGlobals mg → FnOk l.prog w K mg base CX0 8 fa fd ["_law_script"] (lSp K sp_top) := by
  have e := hfa.symm.trans (PySem.W.mg_of X G a22)
  cases e
  have F0 := fun_mk (st := st_first_alike) l0 c0 k0
  have b0 := F0.binds (ps := ["things"]) fun _ _ _ _ _ _ us hl => match us, hl with | [_], _ => rfl
  have m0 := PySem.W.mg_of X G a0
  have F1 := fun_mk (st := st_strung) l1 c1 k1
  have b1 := F1.binds (ps := ["down", "along", "many"]) fun _ _ _ _ _ _ us hl => match us, hl with | [_, _, _], _ => rfl
  have m1 := PySem.W.mg_of X G a1
  have F2 := fun_mk (st := st_cells_of) l2 c2 k2
  have b2 := F2.binds (ps := ["walk"]) fun _ _ _ _ _ _ us hl => match us, hl with | [_], _ => rfl
  have m2 := PySem.W.mg_of X G a2
  have F3 := fun_mk (st := st_rests_by) l3 c3 k3
  have b3 := F3.binds (ps := ["banks", "factors", "walk"]) fun _ _ _ _ _ _ us hl => match us, hl with | [_, _, _], _ => rfl
  have m3 := PySem.W.mg_of X G a3
  have F4 := fun_mk (st := st_all_factors) l4 c4 k4
  have b4 := F4.binds (ps := ["banks"]) fun _ _ _ _ _ _ us hl => match us, hl with | [_], _ => rfl
  have m4 := PySem.W.mg_of X G a4
  have F5 := fun_mk (st := st_first_bar) l5 c5 k5
  have b5 := F5.binds (ps := ["banks", "factors", "walks"]) fun _ _ _ _ _ _ us hl => match us, hl with | [_, _, _], _ => rfl
  have m5 := PySem.W.mg_of X G a5
  have F6 := fun_mk (st := st_skew_for) l6 c6 k6
  have b6 := F6.binds (ps := ["banks", "walks"]) fun _ _ _ _ _ _ us hl => match us, hl with | [_, _], _ => rfl
  have m6 := PySem.W.mg_of X G a6
  have F7 := fun_mk (st := st_least_skew) l7 c7 k7
  have b7 := F7.binds (ps := ["walks", "most"]) fun _ _ _ _ _ _ us hl => match us, hl with | [_, _], _ => rfl
  have m7 := PySem.W.mg_of X G a7
  have F8 := fun_mk (st := st_law_mix) l8 c8 k8
  have b8 := F8.binds (ps := ["_law_cell", "_law_k"]) fun _ _ _ _ _ _ us hl => match us, hl with | [_, _], _ => rfl
  have m8 := PySem.W.mg_of X G a8
  have F9 := fun_mk (st := st_law_left) l9 c9 k9
  have b9 := F9.binds (ps := ["_law_script", "_law_k"]) fun _ _ _ _ _ _ us hl => match us, hl with | [_, _], _ => rfl
  have m9 := PySem.W.mg_of X G a9
  have F10 := fun_mk (st := st_law_pick) l10 c10 k10
  have b10 := F10.binds (ps := ["_law_left_here", "_law_many_here"]) fun _ _ _ _ _ _ us hl => match us, hl with | [_, _], _ => rfl
  have m10 := PySem.W.mg_of X G a10
  have F11 := fun_mk (st := st_law_many) l11 c11 k11
  have b11 := F11.binds (ps := ["_law_left_here"]) fun _ _ _ _ _ _ us hl => match us, hl with | [_], _ => rfl
  have m11 := PySem.W.mg_of X G a11
  have F12 := fun_mk (st := st_law_walk) l12 c12 k12
  have b12 := F12.binds (ps := ["_law_left_here"]) fun _ _ _ _ _ _ us hl => match us, hl with | [_], _ => rfl
  have m12 := PySem.W.mg_of X G a12
  have F13 := fun_mk (st := st_law_cells) l13 c13 k13
  have b13 := F13.binds (ps := ["_law_walk_here"]) fun _ _ _ _ _ _ us hl => match us, hl with | [_], _ => rfl
  have m13 := PySem.W.mg_of X G a13
  have F14 := fun_mk (st := st_law_same) l14 c14 k14
  have b14 := F14.binds (ps := ["_law_found", "_law_due"]) fun _ _ _ _ _ _ us hl => match us, hl with | [_, _], _ => rfl
  have m14 := PySem.W.mg_of X G a14
  have F15 := fun_mk (st := st_law_rests_at) l15 c15 k15
  have b15 := F15.binds (ps := ["_law_cells_here", "_law_banks", "_law_a", "_law_b"]) fun _ _ _ _ _ _ us hl => match us, hl with | [_, _, _, _], _ => rfl
  have m15 := PySem.W.mg_of X G a15
  have F16 := fun_mk (st := st_law_alike) l16 c16 k16
  have b16 := F16.binds (ps := ["_law_cells_here", "_law_banks", "_law_a", "_law_b"]) fun _ _ _ _ _ _ us hl => match us, hl with | [_, _, _, _], _ => rfl
  have m16 := PySem.W.mg_of X G a16
  have F17 := fun_mk (st := st_law_barred) l17 c17 k17
  have b17 := F17.binds (ps := ["_law_rows", "_law_banks", "_law_a", "_law_b"]) fun _ _ _ _ _ _ us hl => match us, hl with | [_, _, _, _], _ => rfl
  have m17 := PySem.W.mg_of X G a17
  have F18 := fun_mk (st := st_law_skew_due) l18 c18 k18
  have b18 := F18.binds (ps := ["_law_banks", "_law_walks_here"]) fun _ _ _ _ _ _ us hl => match us, hl with | [_, _], _ => rfl
  have m18 := PySem.W.mg_of X G a18
  have F19 := fun_mk (st := st_law_walks) l19 c19 k19
  have b19 := F19.binds (ps := ["_law_left_here"]) fun _ _ _ _ _ _ us hl => match us, hl with | [_], _ => rfl
  have m19 := PySem.W.mg_of X G a19
  have F20 := fun_mk (st := st_law_least_due) l20 c20 k20
  have b20 := F20.binds (ps := ["_law_walks_here", "_law_most"]) fun _ _ _ _ _ _ us hl => match us, hl with | [_, _], _ => rfl
  have m20 := PySem.W.mg_of X G a20
  have F21 := fun_mk (st := st_law_known) l21 c21 k21
  have b21 := F21.binds (ps := ["_law_many_here"]) fun _ _ _ _ _ _ us hl => match us, hl with | [_], _ => rfl
  have m21 := PySem.W.mg_of X G a21
  have F22 := fun_mk (st := st_law) l22 c22 k22
  have m22 := PySem.W.mg_of X G a22
  have g_len := PySem.W.mg_none_of X G z0
  have g_range := PySem.W.mg_none_of X G z1
  have g_list := PySem.W.mg_none_of X G z2
  have g_STRIDES : Tb K mg w "STRIDES" stridesT := ⟨tD_STRIDES, _, tE_STRIDES, PySem.W.mg_of X G tA_STRIDES, tL_STRIDES, tN_STRIDES, (.cons (v := .ref tq_STRIDES0) rfl (tup2_K tT_STRIDES0) (.cons (v := .ref tq_STRIDES1) rfl (tup2_K tT_STRIDES1) (.cons (v := .ref tq_STRIDES2) rfl (tup2_K tT_STRIDES2) (.cons (v := .ref tq_STRIDES3) rfl (tup2_K tT_STRIDES3) .nil))))⟩
  have g_tuple := PySem.W.mg_none_of X G z4
  have g_enumerate := PySem.W.mg_none_of X G z5
  have g_abs := PySem.W.mg_none_of X G z6
  have g_int := PySem.W.mg_none_of X G z7
  have g_isinstance := PySem.W.mg_none_of X G z8
  have g_zip := PySem.W.mg_none_of X G z9
  have g_all := PySem.W.mg_none_of X G z10
  have g_str := PySem.W.mg_none_of X G z11
  have g_bool := PySem.W.mg_none_of X G z12
  have g_set := PySem.W.mg_none_of X G z13
  have g_min := PySem.W.mg_none_of X G z14
  refine ⟨PySem.W.fnOf "law" "law" (defArgs st_law) (defBody st_law) (defScope st_law) .none kV22 dc22 pm22 an22 cd22 ct22, fun s v => .of_eq rfl, fun base _ _ => ?_⟩
  have O_first_alike := ok_first_alike (P := l.prog) (w := w) (base := base) (k := 0) F0 b0 m0  g_len g_range rd_first_alike
  have O_strung := ok_strung (P := l.prog) (w := w) (base := base) (k := 0) F1 b1 m1  g_range rd_strung
  have O_cells_of := ok_cells_of (P := l.prog) (w := w) (base := base) (k := 1) F2 b2 m2 O_strung g_list g_range g_STRIDES rd_cells_of
  have O_rests_by := ok_rests_by (P := l.prog) (w := w) (base := base) (k := 2) F3 b3 m3 O_cells_of g_tuple rd_rests_by
  have O_all_factors := ok_all_factors (P := l.prog) (w := w) (base := base) (k := 0) F4 b4 m4  g_range rd_all_factors
  have O_first_bar := ok_first_bar (P := l.prog) (w := w) (base := base) (k := 3) F5 b5 m5 O_rests_by (O_first_alike.mono (by decide)) g_enumerate rd_first_bar
  have O_skew_for := ok_skew_for (P := l.prog) (w := w) (base := base) (k := 4) F6 b6 m6 (O_all_factors.mono (by decide)) O_first_bar  rd_skew_for
  have O_least_skew := ok_least_skew (P := l.prog) (w := w) (base := base) (k := 5) F7 b7 m7 O_skew_for g_range rd_least_skew
  have O_law_mix := ok_law_mix (P := l.prog) (w := w) (base := base) (k := 0) F8 b8 m8   rd_law_mix
  have O_law_left := ok_law_left (P := l.prog) (w := w) (base := base) (k := 0) F9 b9 m9  g_len g_abs rd_law_left
  have O_law_pick := ok_law_pick (P := l.prog) (w := w) (base := base) (k := 1) F10 b10 m10 O_law_mix  rd_law_pick
  have O_law_many := ok_law_many (P := l.prog) (w := w) (base := base) (k := 2) F11 b11 m11 O_law_pick  rd_law_many
  have O_law_walk := ok_law_walk (P := l.prog) (w := w) (base := base) (k := 3) F12 b12 m12 (O_law_pick.mono (by decide)) O_law_many g_int g_range g_tuple rd_law_walk
  have O_law_cells := ok_law_cells (P := l.prog) (w := w) (base := base) (k := 0) F13 b13 m13  g_list g_range rd_law_cells
  have O_law_rests_at := ok_law_rests_at (P := l.prog) (w := w) (base := base) (k := 0) F15 b15 m15   rd_law_rests_at
  have O_law_alike := ok_law_alike (P := l.prog) (w := w) (base := base) (k := 1) F16 b16 m16 O_law_rests_at g_len g_set g_range rd_law_alike
  have O_law_barred := ok_law_barred (P := l.prog) (w := w) (base := base) (k := 2) F17 b17 m17 O_law_alike g_enumerate rd_law_barred
  have O_law_skew_due := ok_law_skew_due (P := l.prog) (w := w) (base := base) (k := 3) F18 b18 m18 (O_law_cells.mono (by decide)) O_law_barred g_range rd_law_skew_due
  have O_law_walks := ok_law_walks (P := l.prog) (w := w) (base := base) (k := 4) F19 b19 m19 (O_law_pick.mono (by decide)) O_law_walk g_range rd_law_walks
  have O_law_least_due := ok_law_least_due (P := l.prog) (w := w) (base := base) (k := 4) F20 b20 m20 O_law_skew_due g_range rd_law_least_due
  have O_law_known := ok_law_known (P := l.prog) (w := w) (base := base) (k := 6) F21 b21 m21 O_least_skew g_int rd_law_known
  have O_law_same_0 := fn3_none (P := l.prog) (w := w) (base := base) F14 b14 m14
  have O_law_same_1 := ok_law_same (P := l.prog) (w := w) (base := base) (k := 0) F14 b14 m14 O_law_same_0 g_isinstance g_list g_tuple g_zip g_all g_len g_str g_bool g_int (rd_law_same 0)
  have O_law_same_2 := ok_law_same (P := l.prog) (w := w) (base := base) (k := 1) F14 b14 m14 O_law_same_1 g_isinstance g_list g_tuple g_zip g_all g_len g_str g_bool g_int (rd_law_same 1)
  have O_law_same_3 := ok_law_same (P := l.prog) (w := w) (base := base) (k := 2) F14 b14 m14 O_law_same_2 g_isinstance g_list g_tuple g_zip g_all g_len g_str g_bool g_int (rd_law_same 2)
  have O_law_same_4 := ok_law_same (P := l.prog) (w := w) (base := base) (k := 3) F14 b14 m14 O_law_same_3 g_isinstance g_list g_tuple g_zip g_all g_len g_str g_bool g_int (rd_law_same 3)
  have O_law_same_5 := ok_law_same (P := l.prog) (w := w) (base := base) (k := 4) F14 b14 m14 O_law_same_4 g_isinstance g_list g_tuple g_zip g_all g_len g_str g_bool g_int (rd_law_same 4)
  exact ok_law (k := 7) F22 (O_law_left.mono (by decide)) (O_law_pick.mono (by decide)) (O_law_walks.mono (by decide)) (O_law_least_due.mono (by decide)) (O_least_skew.mono (by decide)) (O_law_same_5.mono (by decide)) O_law_known g_len g_min g_range g_str rd_law
end K36
open PySem PySem.W PyProof.Rows
set_option maxRecDepth 100000 in
set_option maxHeartbeats 0 in
theorem PySem.Challenge.cw_bankwalk_k36_least_skews_holds : PySem.Challenge.rw_bankwalk_k36_least_skews.Holds := by
  w_on; o_law; k_head; (case hw => w_witness2)
  k_fill
  refine L3.walk3 (l := PySem.Challenge.rw_bankwalk_k36_least_skews) (k := 8) (x := "_law_script") rfl rfl ⟨rfl, by decide, by decide, rfl⟩ (fun w h Y => PySem.W.kIn_of Y) ?nol ?F
  case nol => exact fun w => rfl
  case F =>
    intro w mg fa h KX G hmg
    refine' K36.all_mk KX G hmg ?a0 ?l0 ?c0 ?k0 ?a1 ?l1 ?c1 ?k1 ?a2 ?l2 ?c2 ?k2 ?a3 ?l3 ?c3 ?k3 ?a4 ?l4 ?c4 ?k4 ?a5 ?l5 ?c5 ?k5 ?a6 ?l6 ?c6 ?k6 ?a7 ?l7 ?c7 ?k7 ?a8 ?l8 ?c8 ?k8 ?a9 ?l9 ?c9 ?k9 ?a10 ?l10 ?c10 ?k10 ?a11 ?l11 ?c11 ?k11 ?a12 ?l12 ?c12 ?k12 ?a13 ?l13 ?c13 ?k13 ?a14 ?l14 ?c14 ?k14 ?a15 ?l15 ?c15 ?k15 ?a16 ?l16 ?c16 ?k16 ?a17 ?l17 ?c17 ?k17 ?a18 ?l18 ?c18 ?k18 ?a19 ?l19 ?c19 ?k19 ?a20 ?l20 ?c20 ?k20 ?a21 ?l21 ?c21 ?k21 ?a22 ?l22 ?c22 ?k22 ?tA_STRIDES ?tL_STRIDES ?tN_STRIDES ?tT_STRIDES0 ?tT_STRIDES1 ?tT_STRIDES2 ?tT_STRIDES3 ?z0 ?z1 ?z2 ?z4 ?z5 ?z6 ?z7 ?z8 ?z9 ?z10 ?z11 ?z12 ?z13 ?z14
    (case a0 => k_is)
    (case l0 => k_is)
    (case c0 => k_is)
    (case k0 => k_is)
    (case a1 => k_is)
    (case l1 => k_is)
    (case c1 => k_is)
    (case k1 => k_is)
    (case a2 => k_is)
    (case l2 => k_is)
    (case c2 => k_is)
    (case k2 => k_is)
    (case a3 => k_is)
    (case l3 => k_is)
    (case c3 => k_is)
    (case k3 => k_is)
    (case a4 => k_is)
    (case l4 => k_is)
    (case c4 => k_is)
    (case k4 => k_is)
    (case a5 => k_is)
    (case l5 => k_is)
    (case c5 => k_is)
    (case k5 => k_is)
    (case a6 => k_is)
    (case l6 => k_is)
    (case c6 => k_is)
    (case k6 => k_is)
    (case a7 => k_is)
    (case l7 => k_is)
    (case c7 => k_is)
    (case k7 => k_is)
    (case a8 => k_is)
    (case l8 => k_is)
    (case c8 => k_is)
    (case k8 => k_is)
    (case a9 => k_is)
    (case l9 => k_is)
    (case c9 => k_is)
    (case k9 => k_is)
    (case a10 => k_is)
    (case l10 => k_is)
    (case c10 => k_is)
    (case k10 => k_is)
    (case a11 => k_is)
    (case l11 => k_is)
    (case c11 => k_is)
    (case k11 => k_is)
    (case a12 => k_is)
    (case l12 => k_is)
    (case c12 => k_is)
    (case k12 => k_is)
    (case a13 => k_is)
    (case l13 => k_is)
    (case c13 => k_is)
    (case k13 => k_is)
    (case a14 => k_is)
    (case l14 => k_is)
    (case c14 => k_is)
    (case k14 => k_is)
    (case a15 => k_is)
    (case l15 => k_is)
    (case c15 => k_is)
    (case k15 => k_is)
    (case a16 => k_is)
    (case l16 => k_is)
    (case c16 => k_is)
    (case k16 => k_is)
    (case a17 => k_is)
    (case l17 => k_is)
    (case c17 => k_is)
    (case k17 => k_is)
    (case a18 => k_is)
    (case l18 => k_is)
    (case c18 => k_is)
    (case k18 => k_is)
    (case a19 => k_is)
    (case l19 => k_is)
    (case c19 => k_is)
    (case k19 => k_is)
    (case a20 => k_is)
    (case l20 => k_is)
    (case c20 => k_is)
    (case k20 => k_is)
    (case a21 => k_is)
    (case l21 => k_is)
    (case c21 => k_is)
    (case k21 => k_is)
    (case a22 => k_is)
    (case l22 => k_is)
    (case c22 => k_is)
    (case k22 => k_is)
    (case tA_STRIDES => k_is)
    (case tL_STRIDES => k_is)
    (case tN_STRIDES => rfl)
    (case tT_STRIDES0 => k_is)
    (case tT_STRIDES1 => k_is)
    (case tT_STRIDES2 => k_is)
    (case tT_STRIDES3 => k_is)
    (case z0 => k_is)
    (case z1 => k_is)
    (case z2 => k_is)
    (case z4 => k_is)
    (case z5 => k_is)
    (case z6 => k_is)
    (case z7 => k_is)
    (case z8 => k_is)
    (case z9 => k_is)
    (case z10 => k_is)
    (case z11 => k_is)
    (case z12 => k_is)
    (case z13 => k_is)
    (case z14 => k_is)
