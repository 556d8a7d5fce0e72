import PyProof.Rows.All
import Wide.All
import OpenK.AllK
import Wide.FinOn
import Lean
import PyProof.EqAt
import PyProof.EqKinds
import PyProof.TupleCall
import PyProof.NeKinds
import PySem.Challenge.RW_bankwalk_k55_what_nets_are
-- CHANGE: your row's module here, as the last of these rows
set_option Elab.async false
set_option linter.all false
set_option maxRecDepth 100000
namespace L2
open PySem PySem.Spec PyProof.Rows
abbrev Key := Sum Int Str
def keyIs : Key → Value → Bool
  | .inl k, v => Value.isInt k v
  | .inr x, v => Value.isStrOf x v
def keyH (w : World) : Key → Int
  | .inl k => hashInt k
  | .inr x => hashStr w x
theorem keyIs_shape : ∀ {k : Key} {v : Value}, keyIs k v = true → (∃ i t, k = Sum.inl i ∧ v = Value.int i t) ∨ (∃ x t, k = Sum.inr x ∧ v = Value.str x t)
  | .inl i, v, h => by
    obtain ⟨t, e⟩ := Value.isInt_shape (k := i) (v := v) h
    exact .inl ⟨i, t, rfl, e⟩
  | .inr x, v, h => by
    obtain ⟨t, e⟩ := Value.isStrOf_shape (x := x) (v := v) h
    exact .inr ⟨x, t, rfl, e⟩
theorem key_ll (a b : Int) : decide ((Sum.inl a : Key) = Sum.inl b) = (a == b) := by
  by_cases e : a = b
  · subst e; simp
  · have h : ¬ (Sum.inl a : Key) = Sum.inl b := fun q => e (Sum.inl.inj q)
    rw [decide_eq_false h]
    exact (beq_eq_false_iff_ne.mpr e).symm
theorem key_rr (a b : Str) : decide ((Sum.inr a : Key) = Sum.inr b) = decide (a = b) := by
  by_cases e : a = b
  · subst e; simp
  · have h : ¬ (Sum.inr a : Key) = Sum.inr b := fun q => e (Sum.inr.inj q)
    rw [decide_eq_false h, decide_eq_false e]
theorem key_lr (a : Int) (b : Str) : decide ((Sum.inl a : Key) = Sum.inr b) = false := decide_eq_false (fun q => nomatch q)
theorem key_rl (a : Str) (b : Int) : decide ((Sum.inr a : Key) = Sum.inl b) = false := decide_eq_false (fun q => nomatch q)
def mixKind (prog : Program) (w : World) : PySem.KeyKind prog w Key where
  is := keyIs
  hash := keyH w
  inj := fun v a b ha hb => by
    rcases keyIs_shape ha with ⟨i, t, rfl, rfl⟩ | ⟨x, t, rfl, rfl⟩
    · rcases keyIs_shape hb with ⟨j, u, rfl, e⟩ | ⟨y, u, rfl, e⟩
      · injection e with e1 _; rw [e1]
      · exact nomatch e
    · rcases keyIs_shape hb with ⟨j, u, rfl, e⟩ | ⟨y, u, rfl, e⟩
      · exact nomatch e
      · injection e with e1 _; rw [e1]
  byValue := fun k v h => by
    rcases keyIs_shape h with ⟨i, t, rfl, rfl⟩ | ⟨x, t, rfl, rfl⟩ <;> rfl
  pyHash := fun hv h => by
    rcases keyIs_shape hv with ⟨i, t, rfl, rfl⟩ | ⟨x, t, rfl, rfl⟩
    · exact wpAny_pyHash_int h
    · exact wpAny_pyHash_str h
  eqBool := fun hu hv h => by
    rcases keyIs_shape hu with ⟨i, t, rfl, rfl⟩ | ⟨x, t, rfl, rfl⟩
    · rcases keyIs_shape hv with ⟨j, u, rfl, rfl⟩ | ⟨y, u, rfl, rfl⟩
      · rw [key_ll] at h; exact wpAny_eqBool_int h
      · rw [key_lr] at h; exact SeqAt.EqAt.int_str i t y u _ _ _ _ h
    · rcases keyIs_shape hv with ⟨j, u, rfl, rfl⟩ | ⟨y, u, rfl, rfl⟩
      · rw [key_rl] at h; exact SeqAt.EqAt.str_int x t j u _ _ _ _ h
      · rw [key_rr] at h; exact wpAny_eqBool_str h
  «strs» := fun k x t v h => by
    rcases keyIs_shape h with ⟨i, u, rfl, e⟩ | ⟨y, u, rfl, e⟩
    · exact nomatch e
    · injection e with e1 _
      subst e1
      cases v <;> rfl
end L2
namespace L2
open PySem PySem.Spec PyProof.Rows
inductive V where
  | non | bl (b : Bool) | int (i : Int) | str (x : Str) | byt (b : Array UInt8) | flt (b : UInt64) | ref (a : Addr) | ty (n : String)
  deriving DecidableEq
def RelV : V → Value → Prop
  | .non, u => u = Value.none
  | .bl b, u => u = Value.bool b
  | .int i, u => ∃ t, u = Value.int i t
  | .str x, u => ∃ t, u = Value.str x t
  | .byt b, u => ∃ t, u = Value.bytes b t
  | .flt b, u => ∃ t, u = Value.float b t
  | .ref a, u => u = Value.ref a
  | .ty n, u => u = Value.type n
abbrev Vals : List V → List Value → Prop := Paired RelV
theorem Vals.length {xs : List V} {us : List Value} (r : Vals xs us) : xs.length = us.length := Paired.length r
theorem Vals.get : ∀ {xs : List V} {us : List Value} {i : Nat} {x : V}, Vals xs us → xs[i]? = some x → ∃ u, us[i]? = some u ∧ RelV x u
  | _, _, _, _, .nil, e => by simp at e
  | _, _, 0, _, .cons r _, e => by simp at e; subst e; exact ⟨_, rfl, r⟩
  | _, _, i + 1, x, .cons _ t, e => by
    obtain ⟨u, h1, h2⟩ := Vals.get (i := i) (x := x) t (by simpa using e)
    exact ⟨u, by simpa using h1, h2⟩
theorem Vals.set {x : V} {u : Value} (r : RelV x u) : ∀ {xs : List V} {us : List Value} (i : Nat), Vals xs us → Vals (xs.set i x) (us.set i u)
  | _, _, _, .nil => .nil
  | _, _, 0, .cons _ t => .cons r t
  | _, _, i + 1, .cons q t => .cons q (Vals.set r i t)
theorem Vals.append : ∀ {xs ys : List V} {us ws : List Value}, Vals xs us → Vals ys ws → Vals (xs ++ ys) (us ++ ws)
  | _, _, _, _, .nil, s => s
  | _, _, _, _, .cons r t, s => .cons r (Vals.append t s)
theorem Vals.take : ∀ {xs : List V} {us : List Value} (n : Nat), Vals xs us → Vals (xs.take n) (us.take n)
  | _, _, 0, _ => .nil
  | _, _, _ + 1, .nil => .nil
  | _, _, n + 1, .cons r t => .cons r (Vals.take n t)
theorem Vals.drop : ∀ {xs : List V} {us : List Value} (n : Nat), Vals xs us → Vals (xs.drop n) (us.drop n)
  | _, _, 0, r => r
  | _, _, _ + 1, .nil => .nil
  | _, _, n + 1, .cons _ t => Vals.drop n t
def RelO : Option V → Option Value → Prop
  | some v, some u => RelV v u
  | none, none => True
  | _, _ => False
def KV {κ : Type} : List (κ × V) → List (κ × Value) → Prop := Paired fun (p : κ × V) (q : κ × Value) => p.1 = q.1 ∧ RelV p.2 q.2
def kV : Key → V
  | .inl i => .int i
  | .inr x => .str x
inductive HO where
  /-- a list -/
  | lst (xs : List V)
  /-- a tuple (never changes) -/
  | tup (xs : List V)
  /-- a dict whose keys are ints and texts; one whose keys are tuples of ints and texts (the empty one is both) -/
  | dK (kvs : List (Key × V)) | dT (kvs : List (List Key × V))
  /-- a set of ints: its members, its size -/
  | set (S : Int → Bool) (n : Nat)
  /-- an instance of the class at C, its dict at dx, its attributes -/
  | ins (C dx : Addr) (fs : List (Str × V))
  /-- the dict of the instance at x -/
  | own (x : Addr)
  /-- the dict of an exception -/
  | xd (fs : List (Str × V))
  /-- a bound method, f of x -/
  | met (f x : Addr)
  /-- a range object lo, lo + 1, .. below hi -/
  | rng (lo hi : Int)
  /-- a thing that is known to the object (the script; a dict while a loop walks it): read, never written while it is so -/
  | frz (o : Obj) (u : HO)
  /-- a code object's table -/
  | tbl (ps : Array Value)
  /-- any other thing, by what is true of its one object (a def of one's own: SetO a S n := HO.ext fun h => ..) -/
  | ext (φ : Heap → Prop)
abbrev Hp := Addr → Option HO
def upd (H : Hp) (a : Addr) (o : HO) : Hp := fun b => if b = a then some o else H b
theorem upd_same {H : Hp} {a : Addr} {o : HO} : upd H a o a = some o := by unfold upd; rw [if_pos rfl]
theorem upd_ne {H : Hp} {a b : Addr} {o : HO} (h : b ≠ a) : upd H a o b = H b := by unfold upd; rw [if_neg h]
theorem ne_of_none {H : Hp} {a b : Addr} {o : HO} (h : H a = some o) (h' : H b = none) : a ≠ b := by
  intro e; subst e; rw [h] at h'; cases h'
section
variable (P : Program) (w : World)
def ObjOk (H : Hp) (h : Heap) (a : Addr) : HO → Prop
  | .lst xs => xs.length ≤ sizeLine ∧ ∃ (its : List Value) (n : Nat), Vals xs its ∧ h.get? a = some { cls := .type "list", data := .seq its.toArray n }
  | .tup xs => xs.length ≤ sizeLine ∧ ∃ its : List Value, Vals xs its ∧ IsTup h a its.toArray
  | .dK kvs => kvs.length ≤ sizeLine ∧ (a == sysModules) = false ∧ ∃ vs, KV kvs vs ∧ h.DictOf (mixKind P w) a vs
  | .dT kvs => kvs.length ≤ sizeLine ∧ (a == sysModules) = false ∧ ∃ xs : List (List Key × Addr × Value),
      Paired (fun (p : List Key × V) (q : List Key × Addr × Value) => p.1 = q.1 ∧ H q.2.1 = some (.tup (p.1.map kV)) ∧ RelV p.2 q.2.2) kvs xs ∧
      ∃ o es ep, h.get? a = some o ∧ o.ExactDict ∧ o.data = .dict es ep ∧ es.toList = xs.map (entryOfKey (tupleKind (mixKind P w))) ∧ (xs.map (·.1)).Nodup
  | .set S n => h.SetOf (intKind P w) a S n
  | .ins C dx fs => H dx = some (.own a) ∧ fs.length ≤ 1000 ∧ dx ≠ a ∧ h.get? a = some (PySem.W.instObj C dx) ∧
      ∃ mA, h.Ns1 dx mA ∧ (∀ f, RelO (fs.lookup f) (mA f)) ∧ PySem.Within mA (fs.map (·.1))
  | .own _ => ∃ o, h.get? a = some o
  | .xd fs => ∃ mA, h.Ns1 a mA ∧ ∀ f, RelO (fs.lookup f) (mA f)
  | .rng lo hi => ∃ t u v, h.get? a = some { cls := .type "range", data := .fields #[.int lo t, .int hi u, .int 1 v] }
  | .frz o u => h.get? a = some o ∧ ObjOk H h a u
  | .tbl ps => h.get? a = some { cls := .none, data := .fields ps }
  | .met f x => h.get? a = some (PySem.W.methodObj (.ref f) (.ref x))
  | .ext φ => φ h ∧ (∃ o, h.get? a = some o) ∧ ∀ h1 h2 : Heap, φ h1 → (∀ o, h1.get? a = some o → h2.get? a = some o) → φ h2
def HOk (H : Hp) (h : Heap) : Prop := ∀ a o, H a = some o → ObjOk P w H h a o
end
section
variable {P : Program} {w : World} {H H' : Hp} {h h' : Heap} {a : Addr} {o : HO}
theorem ObjOk.lt (x : ObjOk P w H h a o) : a < h.objs.size := by
  cases o with
  | lst xs => obtain ⟨_, _, _, _, e⟩ := x; exact Heap.lt_size e
  | tup xs => obtain ⟨_, _, _, p⟩ := x; exact p.lt
  | dK kvs => obtain ⟨_, _, _, _, o, _, _, e, _⟩ := x; exact Heap.lt_size e
  | dT kvs => obtain ⟨_, _, _, _, o, _, _, e, _⟩ := x; exact Heap.lt_size e
  | set S n => obtain ⟨o, _, _, _, e, _⟩ := x; exact Heap.lt_size e
  | ins C dx fs => obtain ⟨_, _, _, e, _⟩ := x; exact Heap.lt_size e
  | own y => obtain ⟨_, e⟩ := x; exact Heap.lt_size e
  | xd fs => obtain ⟨_, ⟨_, _, _, e, _⟩, _⟩ := x; exact Heap.lt_size e
  | rng lo hi => obtain ⟨_, _, _, e⟩ := x; exact Heap.lt_size e
  | frz ob u => obtain ⟨e, _⟩ := x; exact Heap.lt_size e
  | tbl ps => exact Heap.lt_size (show h.get? a = some _ from x)
  | met f y => exact Heap.lt_size (show h.get? a = some _ from x)
  | ext φ => obtain ⟨_, ⟨_, e⟩, _⟩ := x; exact Heap.lt_size e
theorem Paired.mapP {α β : Type} {F G : α → β → Prop} : ∀ {l₁ : List α} {l₂ : List β}, Paired F l₁ l₂ → (∀ a b, F a b → G a b) → Paired G l₁ l₂
  | _, _, .nil, _ => .nil
  | _, _, .cons r t, f => .cons (f _ _ r) (Paired.mapP t f)
theorem ObjOk.stay (x : ObjOk P w H h a o) (k : ∀ b u, (b = a ∨ H b = some (.own a)) → h.get? b = some u → h'.get? b = some u)
    (ho : ∀ b, H b = some (.own a) → H' b = some (.own a)) (ht : ∀ b xs, H b = some (.tup xs) → H' b = some (.tup xs)) : ObjOk P w H' h' a o := by
  induction o with
  | lst xs => obtain ⟨z, its, n, r, e⟩ := x; exact ⟨z, its, n, r, k _ _ (.inl rfl) e⟩
  | tup xs => obtain ⟨z, its, r, ob, e, c⟩ := x; exact ⟨z, its, r, ob, k _ _ (.inl rfl) e, c⟩
  | dK kvs => obtain ⟨z, y, vs, r, ob, es, ep, e, c⟩ := x; exact ⟨z, y, vs, r, ob, es, ep, k _ _ (.inl rfl) e, c⟩
  | dT kvs =>
    obtain ⟨z, y, xs, r, ob, es, ep, e, c⟩ := x
    exact ⟨z, y, xs, Paired.mapP r fun p q z => ⟨z.1, ht _ _ z.2.1, z.2.2⟩, ob, es, ep, k _ _ (.inl rfl) e, c⟩
  | set S n => obtain ⟨ob, es, ep, t, e, c⟩ := x; exact ⟨ob, es, ep, t, k _ _ (.inl rfl) e, c⟩
  | ins C dx fs =>
    obtain ⟨d, z, ne, e, mA, ⟨od, es, ep, e2, c⟩, r⟩ := x
    exact ⟨ho _ d, z, ne, k _ _ (.inl rfl) e, mA, ⟨od, es, ep, k _ _ (.inr d) e2, c⟩, r⟩
  | own y => obtain ⟨ob, e⟩ := x; exact ⟨ob, k _ _ (.inl rfl) e⟩
  | xd fs => obtain ⟨mA, ⟨od, es, ep, e, c⟩, r⟩ := x; exact ⟨mA, ⟨od, es, ep, k _ _ (.inl rfl) e, c⟩, r⟩
  | rng lo hi => obtain ⟨t, u, v, e⟩ := x; exact ⟨t, u, v, k _ _ (.inl rfl) e⟩
  | frz ob u ih => obtain ⟨e, q⟩ := x; exact ⟨k _ _ (.inl rfl) e, ih q⟩
  | tbl ps =>
    have e : h.get? a = some { cls := .none, data := .fields ps } := x
    show h'.get? a = some { cls := .none, data := .fields ps }
    exact k a _ (.inl rfl) e
  | met f y =>
    have e : h.get? a = some (PySem.W.methodObj (.ref f) (.ref y)) := x
    show h'.get? a = some (PySem.W.methodObj (.ref f) (.ref y))
    exact k a _ (.inl rfl) e
  | ext φ => obtain ⟨p, ⟨o, e⟩, st⟩ := x; exact ⟨st _ _ p fun o q => k _ _ (.inl rfl) q, ⟨o, k _ _ (.inl rfl) e⟩, st⟩
theorem HOk.lt (x : HOk P w H h) (e : H a = some o) : a < h.objs.size := (x a o e).lt
theorem HOk.fresh (x : HOk P w H h) (e : h.objs.size ≤ a) : H a = none := by
  cases q : H a with
  | none => rfl
  | some u => exact absurd (Nat.lt_of_lt_of_le (x.lt q) e) (Nat.lt_irrefl _)
theorem HOk.kept (x : HOk P w H h) (k : ∀ b u, h.get? b = some u → h'.get? b = some u) : HOk P w H h' := fun a o e =>
  (x a o e).stay (fun b u _ q => k b u q) (fun _ q => q) fun _ _ q => q
theorem HOk.laid (x : HOk P w H h) (k : ∀ b u, h.get? b = some u → h'.get? b = some u) (hp : h.objs.size ≤ a) (new : ObjOk P w (upd H a o) h' a o) : HOk P w (upd H a o) h' := fun b u e => by
  have hn := x.fresh hp
  by_cases hb : b = a
  · subst hb; rw [upd_same] at e; cases e; exact new
  · rw [upd_ne hb] at e
    exact (x b u e).stay (fun c v _ q => k c v q) (fun c q => by rw [upd_ne (ne_of_none q hn)]; exact q) fun c xs q => by rw [upd_ne (ne_of_none q hn)]; exact q
end
def Rd (H : Hp) (a : Addr) (u : HO) : Prop := H a = some u ∨ ∃ o, H a = some (.frz o u)
theorem Rd.of {H : Hp} {a : Addr} {u : HO} (h : H a = some u) : Rd H a u := .inl h
theorem Rd.ok {P : Program} {w : World} {H : Hp} {h : Heap} {a : Addr} {u : HO} (r : Rd H a u) (x : HOk P w H h) : ObjOk P w H h a u := by
  rcases r with r | ⟨o, r⟩
  · exact x a u r
  · obtain ⟨_, q⟩ := x a _ r
    exact q
def Mut : Option HO → Prop
  | some (.lst _) => True
  | some (.dK _) => True
  | some (.dT _) => True
  | some (.set _ _) => True
  | some (.ins _ _ _) => True
  | some (.ext _) => True
  | _ => False
section
variable {P : Program} {w : World} {H : Hp} {h h' : Heap} {x e : Addr} {o' : HO}
theorem HOk.write (ok : HOk P w H h) (mu : Mut (H x)) (he : e = x ∨ H e = some (.own x)) (k : ∀ b u, b ≠ e → h.get? b = some u → h'.get? b = some u) (heo : ∃ u, h'.get? e = some u)
    (new : ObjOk P w (upd H x o') h' x o') : HOk P w (upd H x o') h' := fun b u q => by
  have nown : ∀ c y, H c = some (.own y) → c ≠ x := fun c y r z => by subst z; rw [r] at mu; exact mu
  have ntup : ∀ c xs, H c = some (.tup xs) → c ≠ x := fun c xs r z => by subst z; rw [r] at mu; exact mu
  by_cases hb : b = x
  · subst hb; rw [upd_same] at q; cases q; exact new
  · rw [upd_ne hb] at q
    by_cases hbe : b = e
    · have q' : H b = some (.own x) := by
        rcases he with z | z
        · exact absurd (hbe.trans z) hb
        · rw [hbe]; exact z
      rw [q] at q'; cases q'
      obtain ⟨v, hv⟩ := heo
      exact ⟨v, by rw [hbe]; exact hv⟩
    · refine (ok b u q).stay (fun c v hc r => k c v ?_ r) (fun c r => by rw [upd_ne (nown c b r)]; exact r) fun c xs r => by rw [upd_ne (ntup c xs r)]; exact r
      rcases hc with rfl | hc
      · exact hbe
      · rintro rfl
        rcases he with z | z
        · exact nown c b hc z
        · rw [hc] at z; cases z; exact hb rfl
end
structure Un (fs ex : List Addr) (H H' : Hp) (h h' : Heap) : Prop where
  keep : ∀ b o, h.get? b = some o → H b = none → b ∉ fs → b ∉ ex → h'.get? b = some o
  slot : ∀ b o, h.get? b = some o → H b = none → b ∈ fs → b ∉ ex → ∃ sl, h'.get? b = some { o with slots := sl }
  free : ∀ b o, h.get? b = some o → H b = none → b ∉ ex → H' b = none
  there : ∀ b o, h.get? b = some o → b ∉ ex → ∃ o', h'.get? b = some o'
  tups : ∀ b xs, H b = some (.tup xs) → H' b = some (.tup xs)
  frzs : ∀ b o u, H b = some (.frz o u) → H' b = some (.frz o u)
  tbls : ∀ b ps, H b = some (.tbl ps) → ∃ more, H' b = some (.tbl (ps ++ more))
section
variable {fs fs' ex ex' : List Addr} {H H1 H2 : Hp} {h h1 h2 h' : Heap} {a x e : Addr} {o : HO}
theorem Un.any (u : Un fs ex H H1 h h1) {b : Addr} {ob : Obj} (q : h.get? b = some ob) (n : H b = none) (hx : b ∉ ex) : ∃ sl, h1.get? b = some { ob with slots := sl } := by
  by_cases hb : b ∈ fs
  · exact u.slot b ob q n hb hx
  · exact ⟨ob.slots, u.keep b ob q n hb hx⟩
theorem Un.trans (a : Un fs ex H H1 h h1) (b : Un fs ex H1 H2 h1 h2) : Un fs ex H H2 h h2 where
  keep := fun c ob q n hc hx => b.keep c ob (a.keep c ob q n hc hx) (a.free c ob q n hx) hc hx
  slot := fun c ob q n hc hx => by
    obtain ⟨sl, e1⟩ := a.slot c ob q n hc hx
    obtain ⟨sl', e2⟩ := b.slot c _ e1 (a.free c ob q n hx) hc hx
    exact ⟨sl', e2⟩
  free := fun c ob q n hx => by
    obtain ⟨o', e1⟩ := a.there c ob q hx
    exact b.free c o' e1 (a.free c ob q n hx) hx
  there := fun c ob q hx => by
    obtain ⟨o', e1⟩ := a.there c ob q hx
    exact b.there c o' e1 hx
  tups := fun c xs q => b.tups c xs (a.tups c xs q)
  frzs := fun c ob xs q => b.frzs c ob xs (a.frzs c ob xs q)
  tbls := fun c ps q => by
    obtain ⟨m1, e1⟩ := a.tbls c ps q
    obtain ⟨m2, e2⟩ := b.tbls c _ e1
    exact ⟨m1 ++ m2, by rw [e2, Array.append_assoc]⟩
theorem Un.kept (k : ∀ b u, h.get? b = some u → h'.get? b = some u) : Un fs ex H H h h' :=
  ⟨fun b ob q _ _ _ => k b ob q, fun b ob q _ _ _ => ⟨ob.slots, k b ob q⟩, fun _ _ _ n _ => n, fun b ob q _ => ⟨ob, k b ob q⟩, fun _ _ q => q, fun _ _ _ q => q, fun _ ps q => ⟨#[], by rw [q]; simp⟩⟩
theorem Un.refl : Un fs ex H H h h := Un.kept fun _ _ q => q
theorem Un.laid (k : ∀ b u, h.get? b = some u → h'.get? b = some u) (hp : h.objs.size ≤ a) (hn : H a = none) : Un fs ex H (upd H a o) h h' where
  keep := fun b u q _ _ _ => k b u q
  slot := fun b u q _ _ _ => ⟨u.slots, k b u q⟩
  free := fun b u q n _ => by rw [upd_ne (Nat.ne_of_lt (Nat.lt_of_lt_of_le (Heap.lt_size q) hp))]; exact n
  there := fun b u q _ => ⟨u, k b u q⟩
  tups := fun b xs q => by rw [upd_ne (ne_of_none q hn)]; exact q
  frzs := fun b u xs q => by rw [upd_ne (ne_of_none q hn)]; exact q
  tbls := fun b ps q => ⟨#[], by rw [upd_ne (ne_of_none q hn), q]; simp⟩
theorem Un.write (mu : Mut (H x)) (he : e = x ∨ H e = some (.own x)) (k : ∀ b u, b ≠ e → h.get? b = some u → h'.get? b = some u) (heo : ∃ u, h'.get? e = some u) : Un fs ex H (upd H x o) h h' := by
  have hx : ∀ b, H b = none → b ≠ x := fun b n z => by subst z; rw [n] at mu; exact mu
  have hb : ∀ b, H b = none → b ≠ e := fun b n z => by
    subst z
    rcases he with r | r
    · exact hx b n r
    · rw [n] at r; cases r
  have hm : ∀ b u, H b = some u → ¬ Mut (some u) → b ≠ x := fun b u q nm z => by subst z; rw [q] at mu; exact nm mu
  refine ⟨fun b u q n _ _ => k b u (hb b n) q, fun b u q n _ _ => ⟨u.slots, k b u (hb b n) q⟩, fun b u q n _ => by rw [upd_ne (hx b n)]; exact n, fun b u q _ => ?_,
    fun b xs q => by rw [upd_ne (hm b _ q fun z => z)]; exact q, fun b u xs q => by rw [upd_ne (hm b _ q fun z => z)]; exact q, fun b ps q => ⟨#[], by rw [upd_ne (hm b _ q fun z => z), q]; simp⟩⟩
  by_cases hbe : b = e
  · subst hbe; exact heo
  · exact ⟨u, k b u hbe q⟩
theorem Un.mono (u : Un fs ex H H1 h h1) (hs : ∀ b ∈ fs, b ∈ fs') (hx : ∀ b ∈ ex, b ∈ ex') : Un fs' ex' H H1 h h1 :=
  ⟨fun b ob q n hb he => u.keep b ob q n (fun z => hb (hs b z)) fun z => he (hx b z), fun _ _ q n _ he => u.any q n fun z => he (hx _ z), fun b ob q n he => u.free b ob q n fun z => he (hx b z), fun b ob q he => u.there b ob q fun z => he (hx b z), u.tups, u.frzs, u.tbls⟩
end
def trk (h : Heap) (H : Hp) : List Addr := (List.range h.objs.size).filter fun a => (H a).isSome
def hidT (h : Heap) (H : Hp) : Heap := PySem.W.hideAll h (trk h H)
theorem hidT_size (h : Heap) (H : Hp) : (hidT h H).objs.size = h.objs.size := PySem.W.hideAll_size _ _
theorem hidT_get {h : Heap} {H : Hp} {b : Addr} {o : Obj} (e : h.get? b = some o) (n : H b = none) : (hidT h H).get? b = some o :=
  PySem.W.hideAll_get _ e fun hm => by
    have q : (H b).isSome = true := (List.mem_filter.mp hm).2
    rw [n] at q; simp at q
theorem of_hidT {h : Heap} {H : Hp} {b : Addr} {o : Obj} (e : (hidT h H).get? b = some o) : h.get? b = some o ∧ H b = none := by
  have e' : h.get? b = some o := PySem.W.of_hideAll (trk h H) e
  refine ⟨e', ?_⟩
  cases q : H b with
  | none => rfl
  | some x =>
    have hm : b ∈ trk h H := List.mem_filter.mpr ⟨List.mem_range.mpr (Heap.lt_size e'), by simp [q]⟩
    have z : (hidT h H).get? b = none := PySem.W.hideAll_none (trk h H) hm
    rw [z] at e; cases e
def allNews (g h : Heap) (L : Addr) : List (Addr × Obj) := (List.range h.objs.size).filterMap fun a => if a = L ∨ (g.get? a).isSome = true then none else (h.get? a).map fun o => (a, o)
def rest (g h : Heap) (L d : Addr) : List (Addr × Obj) := (allNews g h L).filter fun p => decide (p.1 ≠ d)
end L2
namespace L2
open PySem PySem.Spec PyProof.Rows
structure Mod (K : PySem.W.Frag) (mg : Str → Option Value) (base : Heap) : Prop where
  kin : K.In base
  glob : base.Ns mainGlobals mg
  blt : ∃ mb, base.Ns builtinsNs mb ∧ ∀ x : Str, x ≠ "__name__" → mb x = bootBuiltins x
  nolimit : base.NoLimit
structure Cx where
  prog : Program
  w : World
  K : PySem.W.Frag
  mg : Str → Option Value
  base : Heap
  A : Around
  N : List Str
  s₀ : Shared
  H₀ : Hp
  env : Env
  outer : List Env
  stack : List Env
  ex : List Addr
  fn : Str → Bool
  calm : Bool
  pn : List (Addr × Obj)
  xe : Value → Shared → Prop
def frs (l : List Env) : List Addr := l.filterMap (·.frame)
abbrev Cx.fs (X : Cx) : List Addr := frs X.outer
def Vis (sc : Scope) (x : Str) : Prop := sc.names.lookup x = some .local ∨ sc.names.lookup x = some .cell ∨ sc.names.lookup x = some .free
def Loc (sc : Scope) (x : Str) : Prop := sc.names.lookup x = some .local ∨ sc.names.lookup x = some .cell
def Look (env : Env) (h : Heap) (m : Str → Option Value) (x : Str) (u : Value) : Prop :=
  (env.kindOf x = some .local ∧ m x = some u) ∨ ((env.kindOf x = some .cell ∨ env.kindOf x = some .free) ∧ ∃ c, env.cells.lookup x = some c ∧ h.IsCell c (some u))
structure Cx.Ok (X : Cx) : Prop where
  mod : Mod X.K X.mg X.base
  kind : X.env.scope.kind = .function
  glob : X.env.globals = mainGlobals
  blt : X.env.builtins = builtinsNs
  above : X.s₀.heap.objs.size ≤ X.env.locals
  inj : ∀ x y c, X.env.cells.lookup x = some c → X.env.cells.lookup y = some c → x = y
  has : ∀ x, (X.env.kindOf x = some .cell ∨ X.env.kindOf x = some .free) → ∃ c, X.env.cells.lookup x = some c
  cab : ∀ x c, X.fn x = true → X.env.cells.lookup x = some c → X.s₀.heap.objs.size ≤ c
  hd : X.calm = true → X.A.handled = none
  frames : X.A.frames = some X.stack
  stk : X.stack = X.outer ∨ (X.stack = X.env :: X.outer ∧ X.env.frame = some X.env.locals)
  exf : ∀ b ∈ X.ex, b ≠ X.env.locals ∧ ∀ x c, X.env.cells.lookup x = some c → c ≠ b
  bs : ∀ b o, X.base.get? b = some o → X.s₀.heap.get? b = some o ∧ X.H₀ b = none
  bsz : X.base.objs.size ≤ X.s₀.heap.objs.size
  noex : ∀ b o, X.base.get? b = some o → b ∉ X.ex
  exfs : ∀ b ∈ X.ex, b ∉ X.fs
  funs : X.s₀.heap.FunFrames X.base X.outer
  frf : ∀ b ∈ X.fs, X.H₀ b = none
structure Inv (X : Cx) (pins : List (Addr × Obj)) (σ : List (Option V)) (H : Hp) (s : Shared) : Prop where
  ok : X.Ok
  os : s.os = X.s₀.os
  bare : AllBare s.gens
  base : Un X.fs X.ex X.H₀ H X.s₀.heap s.heap
  loc : ∃ m, s.heap.Ns X.env.locals m ∧ ∀ (i : Nat) (x : Str) (v : V), X.N[i]? = some x → σ[i]? = some (some v) → Vis X.env.scope x → ∃ u, RelV v u ∧ Look X.env s.heap m x u
  cell : ∀ x c, X.env.cells.lookup x = some c → ∃ v, s.heap.IsCell c v
  free : H X.env.locals = none
  freeC : ∀ x c, X.env.cells.lookup x = some c → H c = none
  pin : ∀ p ∈ X.pn ++ pins, s.heap.get? p.1 = some p.2 ∧ H p.1 = none ∧ p.1 ≠ X.env.locals ∧ p.1 ∉ X.fs ∧ ∀ v, p.2.data ≠ .cell v
  hok : HOk X.prog X.w H s.heap
  len : σ.length = X.N.length
section
variable {X : Cx} {pins : List (Addr × Obj)} {σ : List (Option V)} {H H' : Hp} {s : Shared} {h' : Heap}
theorem Cx.Ok.nofr (ok : X.Ok) {b : Addr} {o : Obj} (e : X.base.get? b = some o) : b ∉ X.fs := fun hb => by
  have := (ok.funs.mem hb).1
  rw [e] at this; cases this
theorem Inv.bs (I : Inv X pins σ H s) : ∀ b o, X.base.get? b = some o → s.heap.get? b = some o ∧ H b = none := fun b o e =>
  ⟨I.base.keep b o (I.ok.bs b o e).1 (I.ok.bs b o e).2 (I.ok.nofr e) (I.ok.noex b o e), I.base.free b o (I.ok.bs b o e).1 (I.ok.bs b o e).2 (I.ok.noex b o e)⟩
theorem Inv.bk (I : Inv X pins σ H s) : ∀ b o, X.base.get? b = some o → s.heap.get? b = some o := fun b o e => (I.bs b o e).1
theorem Inv.mod (I : Inv X pins σ H s) : Mod X.K X.mg X.base := I.ok.mod
theorem Inv.kIn (I : Inv X pins σ H s) : X.K.In s.heap := I.ok.mod.kin.keeps I.bk
theorem Inv.nolimit (I : Inv X pins σ H s) : s.heap.NoLimit := I.ok.mod.nolimit.keeps I.bk
theorem Inv.lt (I : Inv X pins σ H s) : X.env.locals < s.heap.objs.size := let ⟨_, hn, _⟩ := I.loc; hn.lt
theorem Inv.sz (I : Inv X pins σ H s) : X.s₀.heap.objs.size ≤ s.heap.objs.size := Nat.le_trans I.ok.above (Nat.le_of_lt I.lt)
theorem Inv.nofs (I : Inv X pins σ H s) {a : Addr} (h : s.heap.objs.size ≤ a) : a ∉ X.fs := fun hb => by
  obtain ⟨_, o, ho, _⟩ := I.ok.funs.mem hb
  exact absurd (Nat.lt_of_lt_of_le (Heap.lt_size ho) (Nat.le_trans I.sz h)) (Nat.lt_irrefl _)
theorem Inv.cne (I : Inv X pins σ H s) : ∀ x c, X.env.cells.lookup x = some c → c ≠ X.env.locals := fun x c e z => by
  obtain ⟨v, o, ho, hd⟩ := I.cell x c e
  obtain ⟨m, ⟨o', es, ep, ho', hd', _⟩, _⟩ := I.loc
  rw [z, ho'] at ho; cases ho; rw [hd'] at hd; cases hd
theorem Inv.funs (I : Inv X pins σ H s) : s.heap.FunFrames X.base X.outer := by
  have all : ∀ (l : List Env), (∀ b ∈ frs l, b ∈ X.fs) → X.s₀.heap.FunFrames X.base l → s.heap.FunFrames X.base l := by
    intro l
    induction l with
    | nil => intro _ _; trivial
    | cons env r ih =>
      intro hs hl
      obtain ⟨hk, ⟨L, o, hf, hn, ho, hd⟩, hr⟩ := hl
      have hL : L ∈ X.fs := hs L (by unfold frs; rw [List.filterMap_cons, hf]; exact List.mem_cons_self)
      obtain ⟨sl, e⟩ := I.base.slot L o ho (I.ok.frf L hL) hL fun z => I.ok.exfs L z hL
      exact ⟨hk, ⟨L, _, hf, hn, e, hd⟩, ih (fun b hb => hs b (by unfold frs; rw [List.filterMap_cons, hf]; exact List.mem_cons_of_mem _ hb)) hr⟩
  exact all X.outer (fun _ hb => hb) I.ok.funs
theorem Inv.stack (I : Inv X pins σ H s) : s.heap.FunFrames X.base X.stack := by
  rcases I.ok.stk with e | ⟨e, hf⟩
  · rw [e]; exact I.funs
  · rw [e]
    obtain ⟨m, hn, _⟩ := I.loc
    refine .cons (by rw [I.ok.kind]; decide) hf hn ?_ I.funs
    exact Heap.get?_none_of_le (Nat.le_trans I.ok.bsz I.ok.above)
theorem Inv.stkSub (I : Inv X pins σ H s) : ∀ b ∈ frs X.stack, b ∈ X.env.locals :: X.fs := fun b hb => by
  rcases I.ok.stk with e | ⟨e, hf⟩
  · rw [e] at hb; exact List.mem_cons_of_mem _ hb
  · rw [e] at hb
    unfold frs at hb
    rw [List.filterMap_cons, hf] at hb
    exact hb
theorem Inv.stkFree (I : Inv X pins σ H s) : ∀ b ∈ frs X.stack, H b = none := fun b hb => by
  rcases List.mem_cons.mp (I.stkSub b hb) with e | hb
  · rw [e]; exact I.free
  · obtain ⟨_, o, ho, _⟩ := I.ok.funs.mem hb
    exact I.base.free b o ho (I.ok.frf b hb) fun z => I.ok.exfs b z hb
theorem Inv.step {g' : Array GenState} {t' : Nat} {d' : Drawn} {ch : List Addr} (I : Inv X pins σ H s)
    (hch : ∀ b ∈ ch, (b ∈ X.ex ∨ X.s₀.heap.objs.size ≤ b) ∧ b ≠ X.env.locals ∧ (∀ x c, X.env.cells.lookup x = some c → c ≠ b) ∧ ∀ p ∈ X.pn ++ pins, p.1 ≠ b)
    (keep : ∀ b o, b ≠ X.env.locals → b ∉ X.fs → b ∉ ch → s.heap.get? b = some o → H b = none → h'.get? b = some o)
    (slot : ∀ b o, b ≠ X.env.locals → b ∈ X.fs → b ∉ ch → s.heap.get? b = some o → H b = none → ∃ sl, h'.get? b = some { o with slots := sl }) (free : ∀ b o, b ∉ ch → s.heap.get? b = some o → H b = none → H' b = none)
    (there : ∀ b o, b ∉ ch → s.heap.get? b = some o → ∃ o', h'.get? b = some o')
    (tups : ∀ b xs, H b = some (.tup xs) → H' b = some (.tup xs)) (frzs : ∀ b o u, H b = some (.frz o u) → H' b = some (.frz o u)) (tbls : ∀ b ps, H b = some (.tbl ps) → ∃ more, H' b = some (.tbl (ps ++ more)))
    (ns : ∀ m, s.heap.Ns X.env.locals m → h'.Ns X.env.locals m) (hok : HOk X.prog X.w H' h') (hg : AllBare g') :
    Inv X pins σ H' { s with heap := h', gens := g', drawn := d', toks := t' } := by
  have neL : ∀ b o, X.s₀.heap.get? b = some o → b ≠ X.env.locals := fun b o e => Nat.ne_of_lt (Nat.lt_of_lt_of_le (Heap.lt_size e) I.ok.above)
  have neC : ∀ b o, X.s₀.heap.get? b = some o → b ∉ X.ex → b ∉ ch := fun b o e hx hb => by
    rcases (hch b hb).1 with z | z
    · exact hx z
    · exact absurd (Nat.lt_of_lt_of_le (Heap.lt_size e) z) (Nat.lt_irrefl _)
  have cellK : ∀ x c, X.env.cells.lookup x = some c → ∀ v, s.heap.IsCell c v → h'.IsCell c v := fun x c e v ⟨o, ho, hd⟩ => by
    have nch : c ∉ ch := fun z => (hch c z).2.2.1 x c e rfl
    by_cases hc : c ∈ X.fs
    · obtain ⟨sl, q⟩ := slot c o (I.cne x c e) hc nch ho (I.freeC x c e)
      exact ⟨_, q, hd⟩
    · exact ⟨o, keep c o (I.cne x c e) hc nch ho (I.freeC x c e), hd⟩
  refine ⟨I.ok, I.os, hg, ⟨fun b o e n hb hx => ?_, fun b o e n hb hx => ?_, fun b o e n hx => ?_, fun b o e hx => ?_, fun b xs e => tups b xs (I.base.tups b xs e), fun b o xs e => frzs b o xs (I.base.frzs b o xs e), fun b ps e => ?_⟩, ?_, fun x c e => ?_, ?_, fun x c e => ?_, fun p hp => ?_, hok, I.len⟩
  · exact keep b o (neL b o e) hb (neC b o e hx) (I.base.keep b o e n hb hx) (I.base.free b o e n hx)
  · obtain ⟨sl, e1⟩ := I.base.slot b o e n hb hx
    obtain ⟨sl', e2⟩ := slot b _ (neL b o e) hb (neC b o e hx) e1 (I.base.free b o e n hx)
    exact ⟨sl', e2⟩
  · obtain ⟨o', e1⟩ := I.base.there b o e hx
    exact free b o' (neC b o e hx) e1 (I.base.free b o e n hx)
  · obtain ⟨o', e1⟩ := I.base.there b o e hx
    exact there b o' (neC b o e hx) e1
  · obtain ⟨m1, e1⟩ := I.base.tbls b ps e
    obtain ⟨m2, e2⟩ := tbls b _ e1
    exact ⟨m1 ++ m2, by rw [e2, Array.append_assoc]⟩
  · obtain ⟨m, hn, hl⟩ := I.loc
    refine ⟨m, ns m hn, fun i x v e1 e2 e3 => ?_⟩
    obtain ⟨u, r, l⟩ := hl i x v e1 e2 e3
    refine ⟨u, r, ?_⟩
    rcases l with l | ⟨k, c, e, z⟩
    · exact .inl l
    · exact .inr ⟨k, c, e, cellK x c e _ z⟩
  · obtain ⟨v, z⟩ := I.cell x c e
    exact ⟨v, cellK x c e v z⟩
  · obtain ⟨m, ⟨o, _, _, ho, _⟩, _⟩ := I.loc
    exact free _ o (fun z => (hch _ z).2.1 rfl) ho I.free
  · obtain ⟨v, o, ho, hd⟩ := I.cell x c e
    exact free c o (fun z => (hch c z).2.2.1 x c e rfl) ho (I.freeC x c e)
  · obtain ⟨e, n, ne, nf, d⟩ := I.pin p hp
    have nch : p.1 ∉ ch := fun z => (hch p.1 z).2.2.2 p hp rfl
    exact ⟨keep p.1 p.2 ne nf nch e n, free p.1 p.2 nch e n, ne, nf, d⟩
theorem Inv.un {t' : Nat} (I : Inv X pins σ H s) (u : Un X.fs [] H H' s.heap h') (hok : HOk X.prog X.w H' h') : Inv X pins σ H' { s with heap := h', toks := t' } := by
  obtain ⟨m, ⟨o, es, ep, ho, r⟩, _⟩ := id I.loc
  obtain ⟨sl, hL⟩ := u.any ho I.free (by simp)
  exact I.step (g' := s.gens) (d' := s.drawn) (ch := []) (fun _ z => nomatch z) (fun b o _ hb _ e n => u.keep b o e n hb (by simp)) (fun b o _ hb _ e n => u.slot b o e n hb (by simp)) (fun b o _ e n => u.free b o e n (by simp)) (fun b o _ e => u.there b o e (by simp)) u.tups u.frzs u.tbls (fun m' hm => by
    obtain ⟨o', es', ep', ho', r'⟩ := hm
    rw [ho] at ho'; cases ho'
    exact ⟨_, es', ep', hL, r'⟩) hok I.bare
theorem Inv.call {g' : Array GenState} {t' : Nat} {d' : Drawn} {ch : List Addr} (I : Inv X pins σ H s) (u : Un (frs X.stack) ch H H' s.heap h') (hok : HOk X.prog X.w H' h') (hg : AllBare g')
    (hch : ∀ b ∈ ch, (b ∈ X.ex ∨ X.s₀.heap.objs.size ≤ b) ∧ b ≠ X.env.locals ∧ (∀ x c, X.env.cells.lookup x = some c → c ≠ b) ∧ ∀ p ∈ X.pn ++ pins, p.1 ≠ b) :
    Inv X pins σ H' { s with heap := h', gens := g', drawn := d', toks := t' } := by
  obtain ⟨m, ⟨o, es, ep, ho, r⟩, _⟩ := id I.loc
  obtain ⟨sl, hL⟩ := u.any ho I.free fun z => (hch _ z).2.1 rfl
  exact I.step (ch := ch) hch (fun b o hL hb hc e n => u.keep b o e n (fun z => (List.mem_cons.mp (I.stkSub b z)).elim hL hb) hc) (fun b o _ _ hc e n => u.any e n hc) (fun b o hc e n => u.free b o e n hc) (fun b o hc e => u.there b o e hc) u.tups u.frzs u.tbls (fun m' hm => by
    obtain ⟨o', es', ep', ho', r'⟩ := hm
    rw [ho] at ho'; cases ho'
    exact ⟨_, es', ep', hL, r'⟩) hok hg
theorem Inv.turned {t' : Nat} {it : Addr} (I : Inv X pins σ H s) (k : ∀ b o, b ≠ it → s.heap.get? b = some o → h'.get? b = some o) (hn : H it = none) (hL : it ≠ X.env.locals)
    (h1 : it ∈ X.ex ∨ X.s₀.heap.objs.size ≤ it) (h2 : ∀ x c, X.env.cells.lookup x = some c → c ≠ it) (h3 : ∀ p ∈ X.pn ++ pins, p.1 ≠ it) : Inv X pins σ H { s with heap := h', toks := t' } := by
  have nit : ∀ b u, H b = some u → b ≠ it := fun b u e z => by rw [z, hn] at e; cases e
  refine I.step (g' := s.gens) (d' := s.drawn) (ch := [it]) (fun b hb => ?_) (fun b o _ _ hc e _ => k b o (fun z => hc (by simp [z])) e) (fun b o _ _ hc e _ => ⟨o.slots, k b o (fun z => hc (by simp [z])) e⟩) (fun _ _ _ _ n => n)
    (fun b o hc e => ⟨o, k b o (fun z => hc (by simp [z])) e⟩) (fun _ _ e => e) (fun _ _ _ e => e) (fun b ps e => ⟨#[], by rw [e]; simp⟩) (fun m hm => ?_) (fun b u e => ?_) I.bare
  · have e : b = it := by simpa using hb
    subst e
    exact ⟨h1, hL, h2, h3⟩
  · obtain ⟨o, es, ep, ho, r⟩ := hm
    exact ⟨o, es, ep, k _ o (Ne.symm hL) ho, r⟩
  · refine (I.hok b u e).stay (fun c v hc q => k c v ?_ q) (fun _ q => q) fun _ _ q => q
    rcases hc with z | z
    · rw [z]; exact nit b u e
    · exact nit c _ z
theorem Inv.tok (I : Inv X pins σ H s) (t : Nat) : Inv X pins σ H { s with toks := t } := I.un (h' := s.heap) (t' := t) Un.refl I.hok
theorem Inv.kept {t' : Nat} (I : Inv X pins σ H s) (k : ∀ b u, s.heap.get? b = some u → h'.get? b = some u) : Inv X pins σ H { s with heap := h', toks := t' } := I.un (Un.kept k) (I.hok.kept k)
theorem Inv.laid {a : Addr} {o : HO} {t' : Nat} (I : Inv X pins σ H s) (k : ∀ b u, s.heap.get? b = some u → h'.get? b = some u) (hp : s.heap.objs.size ≤ a) (new : ObjOk X.prog X.w (upd H a o) h' a o) :
    Inv X pins σ (upd H a o) { s with heap := h', toks := t' } := I.un (Un.laid k hp (I.hok.fresh hp)) (I.hok.laid k hp new)
theorem Inv.write {x e : Addr} {o : HO} {t' : Nat} (I : Inv X pins σ H s) (mu : Mut (H x)) (he : e = x ∨ H e = some (.own x)) (k : ∀ b u, b ≠ e → s.heap.get? b = some u → h'.get? b = some u) (heo : ∃ u, h'.get? e = some u)
    (new : ObjOk X.prog X.w (upd H x o) h' x o) : Inv X pins σ (upd H x o) { s with heap := h', toks := t' } := I.un (Un.write mu he k heo) (I.hok.write mu he k heo new)
theorem Inv.pins_of {pins' : List (Addr × Obj)} (I : Inv X pins σ H s) (h : ∀ p ∈ pins', s.heap.get? p.1 = some p.2 ∧ H p.1 = none ∧ p.1 ≠ X.env.locals ∧ p.1 ∉ X.fs ∧ ∀ v, p.2.data ≠ .cell v) : Inv X pins' σ H s :=
  ⟨I.ok, I.os, I.bare, I.base, I.loc, I.cell, I.free, I.freeC, fun p hp => (List.mem_append.mp hp).elim (fun z => I.pin p (List.mem_append_left _ z)) (h p), I.hok, I.len⟩
theorem nodup_ix {N : List Str} (hN : N.Nodup) {i j : Nat} {x : Str} (a : N[i]? = some x) (b : N[j]? = some x) : i = j := by
  obtain ⟨h1, e1⟩ := List.getElem?_eq_some_iff.mp a
  obtain ⟨h2, e2⟩ := List.getElem?_eq_some_iff.mp b
  exact (List.getElem_inj hN).mp (e1.trans e2.symm)
theorem store_ok2 {M : Model} {A : Around} {E : Value → Shared → Prop} {i : Nat} {x : Str} {v : V} {u : Value} {Q : Unit → Shared → Prop} (I : Inv X pins σ H s) (hN : X.N.Nodup) (hi : X.N[i]? = some x) (hx : Loc X.env.scope x) (r : RelV v u)
    (h : ∀ s', Inv X pins (σ.set i (some v)) H s' → (∃ a, Heap.SameBut a s.heap s'.heap ∧ (a = X.env.locals ∨ X.env.cells.lookup x = some a)) → Q () s') (hf : X.fn x = true ∨ X.env.scope.names.lookup x = some .local := by first | exact .inl rfl | exact .inr rfl | assumption) : wpAny M A (storeName X.env x u) Q E s := by
  obtain ⟨m, hn, hl⟩ := id I.loc
  have hcls : (X.env.scope.kind == .class || (X.env.scope.kind == .module && X.env.locals != X.env.globals)) = false := by rw [I.ok.kind]; rfl
  have hiσ : i < σ.length := by rw [I.len]; exact (List.getElem?_eq_some_iff.mp hi).1
  have cne := I.cne
  have tracked : ∀ {a : Addr} {h' : Heap}, (∃ o, s.heap.get? a = some o ∧ H a = none) → Heap.SameBut a s.heap h' → HOk X.prog X.w H h' := fun {a h'} ha hs b ob e => by
    obtain ⟨_, _, hfree⟩ := ha
    refine (I.hok b ob e).stay (fun c w' hc q => (hs.2 c ?_).trans q) (fun _ q => q) fun _ _ q => q
    rintro rfl
    rcases hc with rfl | hc
    · rw [hfree] at e; cases e
    · rw [hfree] at hc; cases hc
  rcases hx with hk | hk
  · refine wpAny_storeName_local hk hn (fun h' hn' hs => ?_) hcls
    obtain ⟨oL, _, _, hoL, _⟩ := id hn
    refine h _ ⟨I.ok, I.os, I.bare, ⟨fun b o e n hb hx => ?_, fun b o e n hb hx => ?_, I.base.free, fun b o e hx => ?_, I.base.tups, I.base.frzs, I.base.tbls⟩, ⟨_, hn', fun j y v' e1 e2 e3 => ?_⟩, fun y c e => ?_, I.free, I.freeC, fun p hp => ?_, tracked ⟨oL, hoL, I.free⟩ hs, by simpa using I.len⟩ ⟨_, hs, .inl rfl⟩
    · exact (hs.2 b (Nat.ne_of_lt (Nat.lt_of_lt_of_le (Heap.lt_size e) I.ok.above))).trans (I.base.keep b o e n hb hx)
    · obtain ⟨sl, e1⟩ := I.base.slot b o e n hb hx
      exact ⟨sl, (hs.2 b (Nat.ne_of_lt (Nat.lt_of_lt_of_le (Heap.lt_size e) I.ok.above))).trans e1⟩
    · obtain ⟨o', e1⟩ := I.base.there b o e hx
      exact ⟨o', (hs.2 b (Nat.ne_of_lt (Nat.lt_of_lt_of_le (Heap.lt_size e) I.ok.above))).trans e1⟩
    · by_cases hj : j = i
      · subst hj
        rw [hi] at e1; cases e1
        rw [List.getElem?_set_self hiσ] at e2
        cases e2
        exact ⟨u, r, .inl ⟨hk, by simp⟩⟩
      · rw [List.getElem?_set_ne (Ne.symm hj)] at e2
        obtain ⟨u', r', q⟩ := hl j y v' e1 e2 e3
        refine ⟨u', r', ?_⟩
        rcases q with ⟨k, e⟩ | ⟨k, c, e, z⟩
        · refine .inl ⟨k, ?_⟩
          have : y ≠ x := fun e => hj (nodup_ix hN e1 (e ▸ hi))
          simp [this, e]
        · exact .inr ⟨k, c, e, z.sameBut hs (cne y c e)⟩
    · obtain ⟨w', z⟩ := I.cell y c e
      exact ⟨w', z.sameBut hs (cne y c e)⟩
    · obtain ⟨e, n, ne, nf, d⟩ := I.pin p hp
      exact ⟨(hs.2 p.1 ne).trans e, n, ne, nf, d⟩
  · have hfn : X.fn x = true := by
      rcases hf with z | z
      · exact z
      · rw [z] at hk; cases hk
    obtain ⟨c, hc⟩ := I.ok.has x (.inl hk)
    obtain ⟨w', z⟩ := I.cell x c hc
    refine wpAny_storeName_cell I.ok.kind hk hc z (fun h' hc' hs => ?_)
    obtain ⟨oc, hoc, hocd⟩ := id z
    refine h { s with heap := h' } ⟨I.ok, I.os, I.bare, ⟨fun b o e n hb hx => ?_, fun b o e n hb hx => ?_, I.base.free, fun b o e hx => ?_, I.base.tups, I.base.frzs, I.base.tbls⟩, ⟨m, hn.sameBut hs (Ne.symm (cne x c hc)), fun j y v' e1 e2 e3 => ?_⟩, fun y c' e => ?_, I.free, I.freeC, fun p hp => ?_, tracked ⟨oc, hoc, I.freeC x c hc⟩ hs, by simpa using I.len⟩ ⟨c, hs, .inr hc⟩
    · exact (hs.2 b (Nat.ne_of_lt (Nat.lt_of_lt_of_le (Heap.lt_size e) (I.ok.cab x c hfn hc)))).trans (I.base.keep b o e n hb hx)
    · obtain ⟨sl, e1⟩ := I.base.slot b o e n hb hx
      exact ⟨sl, (hs.2 b (Nat.ne_of_lt (Nat.lt_of_lt_of_le (Heap.lt_size e) (I.ok.cab x c hfn hc)))).trans e1⟩
    · obtain ⟨o', e1⟩ := I.base.there b o e hx
      exact ⟨o', (hs.2 b (Nat.ne_of_lt (Nat.lt_of_lt_of_le (Heap.lt_size e) (I.ok.cab x c hfn hc)))).trans e1⟩
    · by_cases hj : j = i
      · subst hj
        rw [hi] at e1; cases e1
        rw [List.getElem?_set_self hiσ] at e2
        cases e2
        exact ⟨u, r, .inr ⟨.inl hk, c, hc, hc'⟩⟩
      · rw [List.getElem?_set_ne (Ne.symm hj)] at e2
        obtain ⟨u', r', q⟩ := hl j y v' e1 e2 e3
        refine ⟨u', r', ?_⟩
        rcases q with q | ⟨k, c', e, z'⟩
        · exact .inl q
        · refine .inr ⟨k, c', e, z'.sameBut hs ?_⟩
          rintro rfl
          exact hj (nodup_ix hN e1 (I.ok.inj _ _ _ e hc ▸ hi))
    · by_cases hcc : c' = c
      · subst hcc; exact ⟨_, hc'⟩
      · obtain ⟨w2, z2⟩ := I.cell y c' e
        exact ⟨w2, z2.sameBut hs hcc⟩
    · obtain ⟨e, n, ne, nf, d⟩ := I.pin p hp
      refine ⟨(hs.2 p.1 ?_).trans e, n, ne, nf, d⟩
      intro q
      rw [q, hoc] at e
      have q' : oc = p.2 := Option.some.inj e
      exact d w' (by rw [← q']; exact hocd)
theorem store_ok {M : Model} {A : Around} {E : Value → Shared → Prop} {i : Nat} {x : Str} {v : V} {u : Value} {Q : Unit → Shared → Prop} (I : Inv X pins σ H s) (hN : X.N.Nodup) (hi : X.N[i]? = some x) (hx : Loc X.env.scope x) (r : RelV v u)
    (h : ∀ s', Inv X pins (σ.set i (some v)) H s' → Q () s') (hf : X.fn x = true ∨ X.env.scope.names.lookup x = some .local := by first | exact .inl rfl | exact .inr rfl | assumption) : wpAny M A (storeName X.env x u) Q E s :=
  store_ok2 I hN hi hx r (fun s' I' _ => h s' I') hf
theorem Inv.call' {s' : Shared} {ch : List Addr} (I : Inv X pins σ H s) (ho : s'.os = s.os) (u : Un (frs X.stack) ch H H' s.heap s'.heap) (hok : HOk X.prog X.w H' s'.heap) (hg : AllBare s'.gens)
    (hch : ∀ b ∈ ch, (b ∈ X.ex ∨ X.s₀.heap.objs.size ≤ b) ∧ b ≠ X.env.locals ∧ (∀ x c, X.env.cells.lookup x = some c → c ≠ b) ∧ ∀ p ∈ X.pn ++ pins, p.1 ≠ b) : Inv X pins σ H' s' := by
  obtain ⟨h', g', d', t', o'⟩ := s'
  have e : o' = s.os := ho
  subst e
  exact I.call (g' := g') (t' := t') (d' := d') u hok hg hch
end
abbrev XK := Value → Option Addr → Hp → Prop
abbrev St := List (Option V)
abbrev VK := V → Hp → Prop
abbrev TE := St → Hp → VK → Prop
abbrev TT := St → Hp → (Bool → Hp → Prop) → Prop
abbrev TA := St → Hp → (List V → Hp → Prop) → Prop
structure Ends where
  nx : St → Hp → Prop
  rt : VK
  bk : St → Hp → Prop := fun _ _ => False
  ct : St → Hp → Prop := fun _ _ => False
abbrev TS := Ends → St → Hp → Prop
def EP (X : Cx) (pins : List (Addr × Obj)) (σ : St) (Q : VK) (u : Value) (s' : Shared) : Prop := ∃ v H', Inv X pins σ H' s' ∧ RelV v u ∧ Q v H'
def TP (X : Cx) (pins : List (Addr × Obj)) (σ : St) (Q : Bool → Hp → Prop) (b : Bool) (s' : Shared) : Prop := ∃ H', Inv X pins σ H' s' ∧ Q b H'
def AP (X : Cx) (pins : List (Addr × Obj)) (σ : St) (Q : List V → Hp → Prop) (us : List Value) (s' : Shared) : Prop := ∃ vs H', Inv X pins σ H' s' ∧ Vals vs us ∧ Q vs H'
def SP (X : Cx) (pins : List (Addr × Obj)) (D : Ends) (f : Flow) (s' : Shared) : Prop :=
  match f with
  | .next => ∃ σ' H', Inv X pins σ' H' s' ∧ D.nx σ' H'
  | .brk => ∃ σ' H', Inv X pins σ' H' s' ∧ D.bk σ' H'
  | .cont => ∃ σ' H', Inv X pins σ' H' s' ∧ D.ct σ' H'
  | .ret u => ∃ v σ' H', Inv X pins σ' H' s' ∧ RelV v u ∧ D.rt v H'
def PE (X : Cx) (e : Expr) (t : TE) : Prop :=
  ∀ (pins : List (Addr × Obj)) (s : Shared) (σ : St) (H : Hp) (Q : VK), Inv X pins σ H s → t σ H Q → wpAny (model X.prog X.w) X.A (eval e X.env) (EP X pins σ Q) X.xe s
def PT (X : Cx) (e : Expr) (t : TT) : Prop :=
  ∀ (pins : List (Addr × Obj)) (s : Shared) (σ : St) (H : Hp) (Q : Bool → Hp → Prop), Inv X pins σ H s → t σ H Q → wpAny (model X.prog X.w) X.A (isTrue e X.env (eval e X.env)) (TP X pins σ Q) X.xe s
def PW (X : Cx) (e : Expr) (t : TT) : Prop :=
  ∀ (whole : Sem Value) (pins : List (Addr × Obj)) (s : Shared) (σ : St) (H : Hp) (Q : Bool → Hp → Prop), Inv X pins σ H s → t σ H Q → wpAny (model X.prog X.w) X.A (isTrue e X.env whole) (TP X pins σ Q) X.xe s
theorem PW.pt {X : Cx} {e : Expr} {t : TT} (h : PW X e t) : PT X e t := h _
def PA (X : Cx) (es : List Expr) (t : TA) : Prop :=
  ∀ (pos : Pos) (pins : List (Addr × Obj)) (s : Shared) (σ : St) (H : Hp) (Q : List V → Hp → Prop), Inv X pins σ H s → t σ H Q → wpAny (model X.prog X.w) X.A (spliced (backTo pos (starEach es X.env))) (AP X pins σ Q) X.xe s
def PS (X : Cx) (st : Stmt) (t : TS) : Prop :=
  ∀ (pins : List (Addr × Obj)) (s : Shared) (σ : St) (H : Hp) (D : Ends), Inv X pins σ H s → t D σ H → wpAny (model X.prog X.w) X.A (exec st X.env) (SP X pins D) X.xe s
def PSs (X : Cx) (st : List Stmt) (t : TS) : Prop :=
  ∀ (pins : List (Addr × Obj)) (s : Shared) (σ : St) (H : Hp) (D : Ends), Inv X pins σ H s → t D σ H → wpAny (model X.prog X.w) X.A (execs st X.env) (SP X pins D) X.xe s
theorem thn {α : Type} {t : Sem α} {Q Q' : α → Shared → Prop} {M : Model} {A : Around} {E : Value → Shared → Prop} {s : Shared} (h : wpAny M A t Q E s) (hQ : ∀ a s, Q a s → Q' a s) : wpAny M A t Q' E s := wpAny_mono h hQ fun _ _ x => x
end L2
namespace L2
open PySem PySem.Spec PyProof.Rows
section
variable {X : Cx}
def tVar (i : Nat) : TE := fun σ H Q => ∃ v, σ[i]? = some (some v) ∧ Q v H
def tC (v : V) : TE := fun _ H Q => Q v H
theorem pe_var {i : Nat} {x : Str} {pos : Pos} (hN : X.N[i]? = some x) (hv : Vis X.env.scope x) (hd : (x == ("__debug__" : Str)) = false := by decide) (hcd : (x == ("__classdict__" : Str)) = false := by decide) : PE X (.Name x pos) (tVar i) := by
  intro pins s σ H Q I h
  obtain ⟨v, e, h⟩ := h
  obtain ⟨m, hn, hl⟩ := I.loc
  obtain ⟨u, r, l⟩ := hl i x v hN e hv
  have fin : EP X pins σ Q u s := ⟨v, H, I, r, h⟩
  rcases l with ⟨hk, hm⟩ | ⟨hk, c, hc, hcell⟩
  · exact wpAny_Name (wpAny_loadName_local I.ok.kind hk hn hm fin) hd
  · rcases hk with hk | hk
    · exact wpAny_Name (wpAny_loadName_cell I.ok.kind hk hc hcell fin) hd
    · exact wpAny_Name (wpAny_loadName_free I.ok.kind hk hc hcell fin hcd) hd
theorem pe_int {i j pos} : PE X (.Constant (.int i) j pos) (tC (.int i)) := fun _ _ _ H _ I h => wpAny_Constant_int ⟨.int i, H, I.tok _, ⟨_, rfl⟩, h⟩
theorem pe_bl {b j pos} : PE X (.Constant (.bool b) j pos) (tC (.bl b)) := fun _ _ _ H _ I h => Constant_bool ⟨.bl b, H, I, rfl, h⟩
theorem pe_non {j pos} : PE X (.Constant .none j pos) (tC .non) := fun _ _ _ H _ I h => Constant_none ⟨.non, H, I, rfl, h⟩
theorem pe_str {x j pos} : PE X (.Constant (.str x) j pos) (tC (.str x)) := fun _ _ _ H _ I h => Calls.Constant_str ⟨.str x, H, I.tok _, ⟨_, rfl⟩, h⟩
def Gl (X : Cx) (x : Str) : Prop := X.env.kindOf x = some .globalImplicit
theorem ld_glob {E : Value → Shared → Prop} {pins : List (Addr × Obj)} {s : Shared} {σ : St} {H : Hp} {x : Str} {u : Value} {pos : Pos} {Q : Value → Shared → Prop} (I : Inv X pins σ H s) (hg : Gl X x) (hm : X.mg x = some u) (h : Q u s)
    (hd : (x == ("__debug__" : Str)) = false := by decide) : wpAny (model X.prog X.w) X.A (eval (.Name x pos) X.env) Q E s :=
  Calls.Name_function_global I.ok.kind hg (Calls.loadGlobal_global (by rw [I.ok.glob]; exact I.mod.glob.keeps I.bk) hm h) hd
theorem ld_blt {E : Value → Shared → Prop} {pins : List (Addr × Obj)} {s : Shared} {σ : St} {H : Hp} {x : Str} {u : Value} {pos : Pos} {Q : Value → Shared → Prop} (I : Inv X pins σ H s) (hg : Gl X x) (hm : X.mg x = none) (hv : bootBuiltins x = some u) (h : Q u s)
    (hn : x ≠ "__name__" := by decide) (hd : (x == ("__debug__" : Str)) = false := by decide) : wpAny (model X.prog X.w) X.A (eval (.Name x pos) X.env) Q E s := by
  obtain ⟨mb, h1, h2⟩ := I.mod.blt
  exact Calls.Name_function_global I.ok.kind hg (Calls.loadGlobal_builtin (by rw [I.ok.glob]; exact I.mod.glob.keeps I.bk) hm (by rw [I.ok.blt]; exact h1.keeps I.bk) ((h2 x hn).trans hv) h) hd
theorem pe_bltn {x : Str} {v : V} {u : Value} {pos : Pos} (hg : Gl X x) (hm : X.mg x = none) (hv : bootBuiltins x = some u) (r : RelV v u) (hn : x ≠ "__name__" := by decide) (hd : (x == ("__debug__" : Str)) = false := by decide) : PE X (.Name x pos) (tC v) :=
  fun _ _ _ H _ I h => ld_blt I hg hm hv ⟨v, H, I, r, h⟩ hn hd
variable {a b : Expr} {ta tb : TE} {pos : Pos}
def tB (t : TE) : TT := fun σ H Q => t σ H fun x H1 => ∃ c, x = .bl c ∧ Q c H1
theorem pt_val {e : Expr} {t : TE} (h : PE X e t) (he : ∀ whole, isTrue e X.env whole = (do let v ← whole; standAt e.pos; holding [v] (truthy v)) := by intro _; rfl) : PT X e (tB t) := by
  intro pins s σ H Q I hw
  refine isTrue_plain (thn (h pins s σ H _ I hw) fun v s1 ⟨x, H1, I1, r1, q1⟩ => ?_) (he _)
  obtain ⟨d, rfl, q⟩ := q1
  cases r1
  exact wpAny_truthy_bool ⟨H1, I1, q⟩
variable {tA tB' : TT} {rest : List Expr}
def tOr (t u : TT) : TT := fun σ H Q => t σ H fun c H1 => if c = true then Q true H1 else u σ H1 Q
def tNot (t : TT) : TT := fun σ H Q => t σ H fun c H1 => Q (!c) H1
theorem pw_or1 (ha : PT X a tA) : PW X (.BoolOp .Or [a] pos) tA := by
  intro wh pins s σ H Q I h
  refine isTrue_or (thn (ha pins s σ H Q I h) fun c s1 e => ?_)
  cases c with
  | false => exact isTrue_or_nil e
  | true => exact e
theorem pw_or (ha : PT X a tA) (hb : PW X (.BoolOp .Or (b :: rest) pos) tB') : PW X (.BoolOp .Or (a :: b :: rest) pos) (tOr tA tB') := by
  intro wh pins s σ H Q I h
  refine isTrue_or (thn (ha pins s σ H _ I h) fun c s1 ⟨H1, I1, q1⟩ => ?_)
  cases c with
  | true => exact ⟨H1, I1, q1⟩
  | false => exact hb wh pins s1 σ H1 Q I1 q1
theorem pt_not (ha : PT X a tA) : PT X (.UnaryOp .Not a pos) (tNot tA) := by
  intro pins s σ H Q I h
  exact isTrue_not (ha pins s σ H (fun c H1 => Q (!c) H1) I h)
def tAndV (ta tb : TE) : TE := fun σ H Q => ta σ H fun x H1 => ∃ c, x = .bl c ∧ if c = true then tb σ H1 Q else Q (.bl false) H1
def tNotV (ta : TE) : TE := fun σ H Q => ta σ H fun x H1 => ∃ c, x = .bl c ∧ Q (.bl (!c)) H1
theorem pe_one {op} {t : TE} (h : PE X a t) : PE X (.BoolOp op [a] pos) t := fun pins s σ H Q I hw => BoolOp_one (h pins s σ H Q I hw)
theorem pe_and (ha : PE X a ta) (hb : PE X (.BoolOp .And (b :: rest) pos) tb) : PE X (.BoolOp .And (a :: b :: rest) pos) (tAndV ta tb) := by
  intro pins s σ H Q I h
  refine BoolOp_and (thn (ha pins s σ H _ I h) fun v s1 ⟨x, H1, I1, r1, q1⟩ => ?_)
  obtain ⟨c, rfl, q1⟩ := q1
  cases r1
  refine wpAny_truthy_bool ?_
  cases c with
  | true => exact hb pins s1 σ H1 Q I1 q1
  | false => exact ⟨.bl false, H1, I1, rfl, q1⟩
theorem pe_not (ha : PE X a ta) : PE X (.UnaryOp .Not a pos) (tNotV ta) := by
  intro pins s σ H Q I h
  refine UnaryOp_ (thn (ha pins s σ H _ I h) fun v s1 ⟨x, H1, I1, r1, q1⟩ => ?_)
  obtain ⟨c, rfl, q1⟩ := q1
  cases r1
  exact not_of (wpAny_truthy_bool ⟨.bl (!c), H1, I1, rfl, q1⟩)
def tIf (t : TT) (ta tb : TE) : TE := fun σ H Q => t σ H fun c H1 => if c = true then ta σ H1 Q else tb σ H1 Q
theorem pe_ifExp {c : Expr} (hc : PT X c tA) (ha : PE X a ta) (hb : PE X b tb) : PE X (.IfExp c a b pos) (tIf tA ta tb) := by
  intro pins s σ H Q I h
  refine wpAny_IfExp (thn (hc pins s σ H _ I h) fun d s1 ⟨H1, I1, q1⟩ => ?_)
  cases d with
  | true => exact ha pins s1 σ H1 Q I1 q1
  | false => exact hb pins s1 σ H1 Q I1 q1
end
end L2
namespace L2
open PySem PySem.Spec PyProof.Rows
def SqL (K : PySem.W.Frag) (H : Hp) (a : Addr) (xs : List V) : Prop :=
  Rd H a (.lst xs) ∨
    ∃ (o : Obj) (its : Array Value) (n : Nat), K.lookup a = some o ∧ o.cls = .type "list" ∧ o.dict = none ∧ o.data = .seq its n ∧ its.size ≤ sizeLine ∧ Vals xs its.toList
def SqT (K : PySem.W.Frag) (H : Hp) (a : Addr) (xs : List V) : Prop :=
  Rd H a (.tup xs) ∨
    ∃ (o : Obj) (its : Array Value) (n : Nat), K.lookup a = some o ∧ o.cls = .type "tuple" ∧ o.data = .seq its n ∧ its.size ≤ sizeLine ∧ Vals xs its.toList
def absV : Value → Option V
  | .none => some .non
  | .bool b => some (.bl b)
  | .int i _ => some (.int i)
  | .str x _ => some (.str x)
  | .bytes b _ => some (.byt b)
  | .float b _ => some (.flt b)
  | .ref a => some (.ref a)
  | .type n => some (.ty n)
  | _ => none
theorem RelV.abs {x : V} {u : Value} (r : RelV x u) : absV u = some x := by
  cases x with
  | non => cases r; rfl
  | bl _ => cases r; rfl
  | int _ => obtain ⟨t, rfl⟩ := r; rfl
  | str _ => obtain ⟨t, rfl⟩ := r; rfl
  | byt _ => obtain ⟨t, rfl⟩ := r; rfl
  | flt _ => obtain ⟨t, rfl⟩ := r; rfl
  | ref _ => cases r; rfl
  | ty _ => cases r; rfl
theorem RelV.inj {x y : V} {u : Value} (r : RelV x u) (q : RelV y u) : x = y := Option.some.inj (r.abs.symm.trans q.abs)
theorem Vals.inj : ∀ {xs ys : List V} {us : List Value}, Vals xs us → Vals ys us → xs = ys
  | _, _, _, .nil, .nil => rfl
  | _, _, _, .cons r t, .cons r' t' => by rw [r.inj r', Vals.inj t t']
section
variable {X : Cx} {pins : List (Addr × Obj)} {σ : St} {H : Hp} {s : Shared} {a : Addr} {xs ys : List V}
theorem SqL.of {K : PySem.W.Frag} (h : H a = some (.lst xs)) : SqL K H a xs := .inl (.inl h)
theorem SqT.of {K : PySem.W.Frag} (h : H a = some (.tup xs)) : SqT K H a xs := .inl (.inl h)
theorem Inv.list (I : Inv X pins σ H s) (h : SqL X.K H a xs) : ∃ its : List Value, Vals xs its ∧ PlainL s.heap a its.toArray ∧ xs.length ≤ sizeLine := by
  rcases h with h | ⟨o, its, n, hk, hc, hd, hs, hz, r⟩
  · obtain ⟨z, its, n, r, e⟩ := h.ok I.hok
    exact ⟨its, r, ⟨_, n, e, rfl, rfl, rfl⟩, z⟩
  · refine ⟨its.toList, r, ⟨o, n, I.kIn a o hk, hc, hd, by simpa using hs⟩, ?_⟩
    have e := r.length
    simp only [Array.length_toList] at e
    omega
theorem Inv.tuple (I : Inv X pins σ H s) (h : SqT X.K H a xs) : ∃ its : List Value, Vals xs its ∧ IsTup s.heap a its.toArray ∧ xs.length ≤ sizeLine := by
  rcases h with h | ⟨o, its, n, hk, hc, hs, hz, r⟩
  · obtain ⟨z, its, r, p⟩ := h.ok I.hok
    exact ⟨its, r, p, z⟩
  · refine ⟨its.toList, r, ⟨o, I.kIn a o hk, hc, n, by simpa using hs⟩, ?_⟩
    have e := r.length
    simp only [Array.length_toList] at e
    omega
theorem Inv.list_inj (I : Inv X pins σ H s) (h : SqL X.K H a xs) (h' : SqL X.K H a ys) : xs = ys := by
  obtain ⟨its, r, ⟨o, n, e, _, _, d⟩, _⟩ := I.list h
  obtain ⟨its', r', ⟨o', n', e', _, _, d'⟩, _⟩ := I.list h'
  rw [e] at e'; cases e'
  rw [d] at d'
  injection d' with d1 _
  have : its = its' := by simpa using congrArg Array.toList d1
  subst this
  exact r.inj r'
theorem Inv.tuple_inj (I : Inv X pins σ H s) (h : SqT X.K H a xs) (h' : SqT X.K H a ys) : xs = ys := by
  obtain ⟨its, r, ⟨o, e, _, n, d⟩, _⟩ := I.tuple h
  obtain ⟨its', r', ⟨o', e', _, n', d'⟩, _⟩ := I.tuple h'
  rw [e] at e'; cases e'
  rw [d] at d'
  injection d' with d1 _
  have : its = its' := by simpa using congrArg Array.toList d1
  subst this
  exact r.inj r'
end
abbrev Cx.wish (X : Cx) (E : Value → Shared → Prop) : Cx := { X with xe := E }
abbrev Cx.nox (X : Cx) : Cx := X.wish fun _ _ => False
theorem Cx.Ok.wish {X : Cx} (ok : X.Ok) (E : Value → Shared → Prop) : (X.wish E).Ok :=
  ⟨ok.mod, ok.kind, ok.glob, ok.blt, ok.above, ok.inj, ok.has, ok.cab, ok.hd, ok.frames, ok.stk, ok.exf, ok.bs, ok.bsz, ok.noex, ok.exfs, ok.funs, ok.frf⟩
theorem Cx.Ok.unwish {X : Cx} {E : Value → Shared → Prop} (ok : (X.wish E).Ok) : X.Ok :=
  ⟨ok.mod, ok.kind, ok.glob, ok.blt, ok.above, ok.inj, ok.has, ok.cab, ok.hd, ok.frames, ok.stk, ok.exf, ok.bs, ok.bsz, ok.noex, ok.exfs, ok.funs, ok.frf⟩
section
variable {X : Cx} {pins : List (Addr × Obj)} {σ : St} {H : Hp} {s : Shared} {E : Value → Shared → Prop}
theorem Inv.wish (I : Inv X pins σ H s) (E : Value → Shared → Prop) : Inv (X.wish E) pins σ H s := ⟨I.ok.wish E, I.os, I.bare, I.base, I.loc, I.cell, I.free, I.freeC, I.pin, I.hok, I.len⟩
theorem Inv.unwish (I : Inv (X.wish E) pins σ H s) : Inv X pins σ H s := ⟨I.ok.unwish, I.os, I.bare, I.base, I.loc, I.cell, I.free, I.freeC, I.pin, I.hok, I.len⟩
theorem SP.unwish {D : Ends} {f : Flow} {s' : Shared} (h : SP (X.wish E) pins D f s') : SP X pins D f s' := by
  cases f with
  | next => obtain ⟨σ', H', I, q⟩ := h; exact ⟨σ', H', I.unwish, q⟩
  | brk => obtain ⟨σ', H', I, q⟩ := h; exact ⟨σ', H', I.unwish, q⟩
  | cont => obtain ⟨σ', H', I, q⟩ := h; exact ⟨σ', H', I.unwish, q⟩
  | ret u => obtain ⟨v, σ', H', I, r, q⟩ := h; exact ⟨v, σ', H', I.unwish, r, q⟩
theorem PE.nox {e : Expr} {t : TE} (h : PE X.nox e t) : PE X e t := fun pins s σ H Q I hw =>
  wpAny_mono (h pins s σ H Q (I.wish _) hw) (fun _ _ ⟨v, H', I', r, q⟩ => ⟨v, H', I'.unwish, r, q⟩) fun _ _ z => False.elim z
theorem PT.nox {e : Expr} {t : TT} (h : PT X.nox e t) : PT X e t := fun pins s σ H Q I hw =>
  wpAny_mono (h pins s σ H Q (I.wish _) hw) (fun _ _ ⟨H', I', q⟩ => ⟨H', I'.unwish, q⟩) fun _ _ z => False.elim z
theorem PSs.nox {st : List Stmt} {t : TS} (h : PSs X.nox st t) : PSs X st t := fun pins s σ H D I hw =>
  wpAny_mono (h pins s σ H D (I.wish _) hw) (fun _ _ q => q.unwish) fun _ _ z => False.elim z
end
section
variable {X : Cx} {st : Stmt} {rest : List Stmt} {t u : TS} {e : Expr} {te : TE} {pos : Pos}
def tNext : TS := fun D σ H => D.nx σ H
def tSeq (t u : TS) : TS := fun D σ H => t { D with nx := u D } σ H
theorem pss_nil : PSs X [] tNext := fun _ _ σ H _ I h => wpAny_execs_nil ⟨σ, H, I, h⟩
theorem pss_cons (h1 : PS X st t) (h2 : PSs X rest u) : PSs X (st :: rest) (tSeq t u) := by
  intro pins s σ H D I h
  refine wpAny_execs_cons (thn (h1 pins s σ H { D with nx := u D } I h) fun f s1 q => ?_)
  cases f with
  | next =>
    obtain ⟨σ', H', I', q⟩ := q
    exact h2 pins s1 σ' H' D I' q
  | ret v => exact q
  | brk => exact q
  | cont => exact q
theorem pss_one (h1 : PS X st t) : PSs X [st] t := by
  intro pins s σ H D I h
  refine wpAny_execs_cons (thn (h1 pins s σ H D I h) fun f s1 q => ?_)
  cases f with
  | next => exact wpAny_execs_nil q
  | ret v => exact q
  | brk => exact q
  | cont => exact q
def tRet (te : TE) : TS := fun D σ H => te σ H D.rt
theorem ps_ret (he : PE X e te) : PS X (.Return (some e) pos) (tRet te) := by
  intro pins s σ H D I h
  exact wpAny_Return_some (thn (he pins s σ H _ I h) fun v s1 ⟨x, H1, I1, r1, q1⟩ => ⟨x, σ, H1, I1, r1, q1⟩)
def tIfS (c : TT) (t u : TS) : TS := fun D σ H => c σ H fun b H1 => if b = true then t D σ H1 else u D σ H1
theorem ps_if {c : Expr} {a b : List Stmt} {tc : TT} (hc : PT X c tc) (ha : PSs X a t) (hb : PSs X b u) : PS X (.If c a b pos) (tIfS tc t u) := by
  intro pins s σ H D I h
  refine wpAny_If (thn (hc pins s σ H _ I h) fun d s1 ⟨H1, I1, q1⟩ => ?_)
  cases d with
  | true => exact ha pins s1 σ H1 D I1 q1
  | false => exact hb pins s1 σ H1 D I1 q1
end
abbrev TG := V → St → Hp → (St → Hp → Prop) → Prop
abbrev TGs := List V → St → Hp → (St → Hp → Prop) → Prop
def PG (X : Cx) (target : Expr) (t : TG) : Prop :=
  ∀ (pins : List (Addr × Obj)) (s : Shared) (σ : St) (H : Hp) (v : V) (u : Value) (Q : St → Hp → Prop), Inv X pins σ H s → RelV v u → t v σ H Q →
    wpAny (model X.prog X.w) X.A (assign target X.env u) (fun _ s' => ∃ σ' H', Inv X pins σ' H' s' ∧ Q σ' H') X.xe s
def PGs (X : Cx) (ts : List Expr) (t : TGs) : Prop :=
  ∀ (pins : List (Addr × Obj)) (s : Shared) (σ : St) (H : Hp) (vs : List V) (us : List Value) (Q : St → Hp → Prop), Inv X pins σ H s → Vals vs us → t vs σ H Q →
    wpAny (model X.prog X.w) X.A (assignInOrder ((assignEach ts X.env).map (·.2)) us) (fun _ s' => ∃ σ' H', Inv X pins σ' H' s' ∧ Q σ' H') X.xe s
abbrev TSet := V → V → V → Hp → (Hp → Prop) → Prop
def PSet (X : Cx) (t : TSet) : Prop :=
  ∀ (pins : List (Addr × Obj)) (s : Shared) (σ : St) (H : Hp) (o i v : V) (ov iv u : Value) (Q : Hp → Prop), Inv X pins σ H s → RelV o ov → RelV i iv → RelV v u → t o i v H Q →
    wpAny (model X.prog X.w) X.A (setItem ov iv u) (fun _ s' => ∃ H', Inv X pins σ H' s' ∧ Q H') X.xe s
section
variable {X : Cx} {pos : Pos}
def gName (i : Nat) : TG := fun v σ H Q => Q (σ.set i (some v)) H
theorem pg_name {i : Nat} {x : Str} (hN : X.N.Nodup) (hi : X.N[i]? = some x) (hx : Loc X.env.scope x) (hf : X.fn x = true ∨ X.env.scope.names.lookup x = some .local := by first | exact .inl rfl | exact .inr rfl | assumption) : PG X (.Name x pos) (gName i) := by
  intro pins s σ H v u Q I r h
  exact wpAny_assign_Name (store_ok I hN hi hx r (fun s' I' => ⟨_, H, I', h⟩) hf)
def gNil : TGs := fun vs σ H Q => vs = [] ∧ Q σ H
def gCons (t : TG) (u : TGs) : TGs := fun vs σ H Q => ∃ v r, vs = v :: r ∧ t v σ H fun σ' H' => u r σ' H' Q
theorem pgs_nil : PGs X [] gNil := by
  intro pins s σ H vs us Q I r h
  obtain ⟨e, h⟩ := h
  subst e
  cases r
  exact assignInOrder_nil ⟨σ, H, I, h⟩
theorem pgs_cons {e : Expr} {es : List Expr} {t : TG} {u : TGs} (h1 : PG X e t) (h2 : PGs X es u)
    (hs : (assignEach (e :: es) X.env).map (·.2) = assign e X.env :: (assignEach es X.env).map (·.2) := by rfl) : PGs X (e :: es) (gCons t u) := by
  intro pins s σ H vs us Q I r h
  obtain ⟨v, vr, e1, h⟩ := h
  subst e1
  cases r with
  | cons r rr =>
    rw [hs]
    refine assignInOrder_cons (thn (h1 pins s σ H _ _ _ I r h) fun _ s1 ⟨σ1, H1, I1, q1⟩ => ?_)
    exact h2 pins s1 σ1 H1 _ _ Q I1 rr q1
def gTup (K : PySem.W.Frag) (n : Nat) (t : TGs) : TG := fun v σ H Q => ∃ a xs, v = .ref a ∧ SqT K H a xs ∧ xs.length = n ∧ t xs σ H Q
theorem pg_tup {es : List Expr} {k : Nat} {t : TGs} {n : Nat} (hc : X.calm = true) (h : PGs X es t)
    (hn : (assignEach es X.env).length = n := by rfl) (hst : (assignEach es X.env).findIdx? (·.1) = none := by rfl) : PG X (.Tuple es k pos) (gTup X.K n t) := by
  intro pins s σ H v u Q I r hw
  obtain ⟨a, xs, e1, hq, hl, hw⟩ := hw
  subst e1
  cases r
  obtain ⟨its, rv, ht, hz⟩ := I.tuple hq
  refine assign_Tuple_tuple (I.ok.hd hc) ht (by simp [hn, ← hl, rv.length]) hst fun h' hx => ?_
  have I1 : Inv X pins σ H { s with heap := h' } := I.kept (t' := s.toks) fun b o e => hx b o (Nat.ne_of_lt (Heap.lt_size e)) e
  exact h pins _ σ H xs _ Q I1 (by simpa using rv) hw
def gSub (to ti : TE) (t : TSet) : TG := fun v σ H Q => to σ H fun o H1 => ti σ H1 fun i H2 => t o i v H2 fun H3 => Q σ H3
theorem pg_sub {o i : Expr} {to ti : TE} {t : TSet} (ho : PE X o to) (hi : PE X i ti) (hs : PSet X t)
    (ha : ∀ v, assign (.Subscript o i pos) X.env v = (do
      let ov ← holding [v] (eval o X.env)
      let iv ← holding [v, ov] (eval i X.env)
      standAt pos
      holding [v, ov, iv] (setItem ov iv v)
      release [v, ov, iv] []) := by intro _; rfl) : PG X (.Subscript o i pos) (gSub to ti t) := by
  intro pins s σ H v u Q I r h
  rw [ha]
  refine wpAny_bind (wpAny_holding (thn (ho pins s σ H _ I h) fun ov s1 ⟨x, H1, I1, r1, q1⟩ => ?_))
  refine wpAny_bind (wpAny_holding (thn (hi pins s1 σ H1 _ I1 q1) fun iv s2 ⟨y, H2, I2, r2, q2⟩ => ?_))
  refine wpAny_bind (wpAny_standAt (wpAny_bind (wpAny_holding (thn (hs pins s2 σ H2 x y v ov iv u _ I2 r1 r2 r q2) fun _ s3 ⟨H3, I3, q3⟩ => ?_))))
  exact wpAny_release ⟨σ, H3, I3, q3⟩
def tAsg (te : TE) (g : TG) : TS := fun D σ H => te σ H fun x H1 => g x σ H1 D.nx
theorem ps_asg {tg e : Expr} {te : TE} {g : TG} (he : PE X e te) (hg : PG X tg g) (hs : swapsWithSole [tg] e pos.line X.env = pure false := by rfl) (hw : swappedStores [tg] e X.env = pure none := by rfl)
    (h1 : (assignEach [tg] X.env).map (·.2) = [assign tg X.env] := by rfl) : PS X (.Assign [tg] e pos) (tAsg te g) := by
  intro pins s σ H D I h
  refine wpAny_Assign_stores (thn (he pins s σ H _ I h) fun v s1 ⟨x, H1, I1, r1, q1⟩ => ?_) hs hw
  rw [h1]
  exact thn (hg pins s1 σ H1 x v _ I1 r1 q1) fun _ s2 q => q
theorem ps_set {i : Nat} {x : Str} {e : Expr} {te : TE} {pos' : Pos} (hN : X.N.Nodup) (hi : X.N[i]? = some x) (hx : Loc X.env.scope x) (he : PE X e te) (hs : swapsWith e (some (.Name x pos')) pos.line X.env = pure false := by rfl) (hf : X.fn x = true ∨ X.env.scope.names.lookup x = some .local := by first | exact .inl rfl | exact .inr rfl | assumption) :
    PS X (.Assign [.Name x pos'] e pos) (tAsg te (gName i)) := by
  intro pins s σ H D I h
  refine wpAny_Assign_Name (thn (he pins s σ H _ I h) fun v s1 ⟨y, H1, I1, r1, q1⟩ => ?_) hs
  exact store_ok I1 hN hi hx r1 (fun s2 I2 => ⟨_, H1, I2, q1⟩) hf
def tPar (i j : Nat) (ta : TA) : TS := fun D σ H => ta σ H fun vs H1 => ∃ v w, vs = [v, w] ∧ D.nx ((σ.set i (some v)).set j (some w)) H1
theorem ps_par {i j : Nat} {x y : Str} {a b : Expr} {ta : TA} {px py pt : Pos} {kt k2 pt2} (hc : X.calm = true) (hN : X.N.Nodup) (hi : X.N[i]? = some x) (hj : X.N[j]? = some y) (hij : i ≠ j)
    (hx : X.env.scope.names.lookup x = some .local) (hy : X.env.scope.names.lookup y = some .local) (ha : PA X [a, b] ta)
    (hw : swappedStores [.Tuple [.Name x px, .Name y py] kt pt] (.Tuple [a, b] k2 pt2) X.env = pure (some [x, y]))
    (hs : swapsWithSole [.Tuple [.Name x px, .Name y py] kt pt] (.Tuple [a, b] k2 pt2) pos.line X.env = pure false := by rfl) :
    PS X (.Assign [.Tuple [.Name x px, .Name y py] kt pt] (.Tuple [a, b] k2 pt2) pos) (tPar i j ta) := by
  intro pins s σ H D I h
  rw [exec_Assign_arm]
  refine wpAny_bind (wpAny_standAt ?_)
  rw [hs]
  refine wpAny_bind (wpAny_pure ?_)
  rw [if_neg (by decide)]
  refine wpAny_bind (Tuple_ (thn (ha _ pins s σ H _ I h) fun us s1 ⟨vs, H1, I1, r1, q1⟩ => ?_))
  obtain ⟨v, w, e1, q1⟩ := q1
  subst e1
  obtain ⟨u1, u2, rfl, rv, rw'⟩ : ∃ u1 u2, us = [u1, u2] ∧ RelV v u1 ∧ RelV w u2 := by
    cases r1 with
    | cons p q =>
      cases q with
      | cons p' q' =>
        cases q'
        exact ⟨_, _, rfl, p, p'⟩
  refine wpAny_newObj_type ?_ (by show 2 ≤ sizeLine; decide)
  have I2 : Inv X pins σ H1 { s1 with heap := s1.heap.push { cls := .type "tuple", data := .seq [u1, u2].toArray } } := I1.kept (t' := s1.toks) fun b o e => Heap.get?_push_of_some _ e
  rw [hw]
  refine wpAny_bind (wpAny_pure ?_)
  show wpAny (model X.prog X.w) X.A (do rule "assign.swapped-stores"; let items ← unpackItems (.ref s1.heap.objs.size) 2 none; assignInOrder [fun v => bindName X.env y v, fun v => bindName X.env x v] items.reverse; pure Flow.next) _ _ _
  refine wpAny_bind (wpAny_rule (wpAny_bind (unpackItems_tuple (items := #[u1, u2]) (I.ok.hd hc) (IsTup.new s1.heap _) fun h' hx' => ?_)))
  have I3 := I2.kept (h' := h') (t' := s1.toks) fun b o e => hx' b o (Nat.ne_of_lt (Heap.lt_size e)) e
  show wpAny _ _ (assignInOrder [fun v => bindName X.env y v, fun v => bindName X.env x v] [u2, u1] >>= fun _ => pure Flow.next) _ _ _
  refine wpAny_bind (assignInOrder_cons (wpAny_bindName (store_ok I3 hN hj (.inl hy) rw' (fun s2 I4 => ?_) (.inr hy))))
  refine assignInOrder_cons (wpAny_bindName (store_ok I4 hN hi (.inl hx) rv (fun s3 I5 => assignInOrder_nil (wpAny_pure ?_)) (.inr hx)))
  rw [List.set_comm _ _ (Ne.symm hij)] at I5
  exact ⟨_, H1, I5, q1⟩
end
section
variable {X : Cx} {pos : Pos}
end
structure It where
  go : Nat → Hp → Prop
  yld : Nat → Hp → V → Hp → Prop
  stop : Nat → Hp → Prop
def FpOk (X : Cx) (pins : List (Addr × Obj)) (H : Hp) (b : Addr) : Prop :=
  H b = none ∧ b ≠ X.env.locals ∧ b ∉ X.fs ∧ (b ∈ X.ex ∨ X.s₀.heap.objs.size ≤ b) ∧ (∀ x c, X.env.cells.lookup x = some c → c ≠ b) ∧ ∀ p ∈ X.pn ++ pins, p.1 ≠ b
theorem Inv.fpOk {X : Cx} {pins : List (Addr × Obj)} {σ : St} {H H' : Hp} {s : Shared} {b : Addr} (I : Inv X pins σ H s) (hb : s.heap.objs.size ≤ b) (hn : H' b = none) : FpOk X pins H' b := by
  refine ⟨hn, Nat.ne_of_gt (Nat.lt_of_lt_of_le I.lt hb), I.nofs hb, .inr (Nat.le_trans I.sz hb), fun x c e z => ?_, fun p hp z => ?_⟩
  · obtain ⟨v, q⟩ := I.cell x c e
    exact absurd (Nat.lt_of_lt_of_le q.lt (by rw [z]; exact hb)) (Nat.lt_irrefl _)
  · exact absurd (Nat.lt_of_lt_of_le (Heap.lt_size (I.pin p hp).1) (by rw [z]; exact hb)) (Nat.lt_irrefl _)
structure Turn (P : Program) (w : World) (K : PySem.W.Frag) (tg : Expr) (J : It) (fp : List Addr) (it : Addr) (tn : Nat → Heap → Prop) : Prop where
  mem : it ∈ fp
  obj : ∀ i h, tn i h → ∀ b ∈ fp, ∃ o, h.get? b = some o ∧ ∀ v, o.data ≠ .cell v
  keep : ∀ i h h', tn i h → (∀ b ∈ fp, ∀ o, h.get? b = some o → h'.get? b = some o) → tn i h'
  item : ∀ (X : Cx), X.prog = P → X.w = w → X.K = K → X.calm = true → ∀ (i : Nat) (pins : List (Addr × Obj)) (s : Shared) (σ : St) (H : Hp) (E : Value → Shared → Prop), Inv X pins σ H s → (∀ b ∈ fp, FpOk X pins H b) → tn i s.heap → J.go i H →
    wpAny (model P w) X.A (pyNext (.ref it)) (fun r s1 => ∃ u, r = some u ∧
      wpAny (model P w) X.A (letOwnedTupleGo tg (.ref it) u) (fun _ s2 => ∃ x H', Inv X pins σ H' s2 ∧ RelV x u ∧ J.yld i H x H' ∧ tn (i + 1) s2.heap ∧ ∀ b ∈ fp, H' b = none) E s1) E s
  done : ∀ (X : Cx), X.prog = P → X.w = w → X.K = K → X.calm = true → ∀ (i : Nat) (pins : List (Addr × Obj)) (s : Shared) (σ : St) (H : Hp) (E : Value → Shared → Prop), Inv X pins σ H s → (∀ b ∈ fp, FpOk X pins H b) → tn i s.heap → J.stop i H →
    wpAny (model P w) X.A (pyNext (.ref it)) (fun r s1 => r = none ∧ Inv X pins σ H s1) E s
  self : ∀ (A : Around) (i : Nat) (s : Shared) (Q : Value → Shared → Prop) (E : Value → Shared → Prop), tn i s.heap → Q (.ref it) s → wpAny (model P w) A (pyIter (.ref it)) Q E s
abbrev TI := St → Hp → (It → Hp → Prop) → Prop
def PIE (X : Cx) (pins : List (Addr × Obj)) (σ : St) (tg : Expr) (R : It → Hp → Prop) (itv : Value) (s2 : Shared) : Prop :=
  ∃ (it : Addr) (fp : List Addr) (tn : Nat → Heap → Prop) (J : It) (H' : Hp), itv = .ref it ∧ Inv X pins σ H' s2 ∧ Turn X.prog X.w X.K tg J fp it tn ∧ tn 0 s2.heap ∧ (∀ b ∈ fp, FpOk X pins H' b) ∧ R J H'
def PI (X : Cx) (tg iter : Expr) (wi : TI) : Prop :=
  ∀ (pins : List (Addr × Obj)) (s : Shared) (σ : St) (H : Hp) (R : It → Hp → Prop), Inv X pins σ H s → wi σ H R →
    wpAny (model X.prog X.w) X.A (eval iter X.env) (fun v s1 => wpAny (model X.prog X.w) X.A (pyIter v) (PIE X pins σ tg R) X.xe s1) X.xe s
theorem go_of {M : Model} {A : Around} {E : Value → Shared → Prop} {s : Shared} {tg : Expr} {it : Addr} {u : Value} {o : Obj} {n : String} {vs : Array Value} {Q : Unit → Shared → Prop} (ho : s.heap.get? it = some o) (hc : o.cls = .type n) (hd : o.data = .fields vs)
    (hn : ["enumerate", "zip", "dict_itemiterator", "dict_reverseitemiterator", "odict_iterator", "itertools.zip_longest", "itertools.pairwise"].contains n = false) (hQ : Q () s) : wpAny M A (letOwnedTupleGo tg (.ref it) u) Q E s := by
  unfold letOwnedTupleGo
  cases tg <;> first
    | exact wpAny_pure hQ
    | (cases u <;> first
        | exact wpAny_pure hQ
        | (refine wpAny_bind (wpAny_load ho ?_)
           rw [hc, hd]
           show wpAny M A (if (["enumerate", "zip", "dict_itemiterator", "dict_reverseitemiterator", "odict_iterator", "itertools.zip_longest", "itertools.pairwise"].contains n && vs[0]? == some (rawInt _)) = true then _ else _) Q E s
           rw [if_neg (by intro h; rw [hn, Bool.false_and] at h; cases h)]
           exact wpAny_pure hQ))
def Itl (K : PySem.W.Frag) (a : Addr) : It :=
  ⟨fun i H => ∃ xs x, SqL K H a xs ∧ xs[i]? = some x, fun i H x H' => H' = H ∧ ∀ xs, SqL K H a xs → xs[i]? = some x, fun i H => ∃ xs, SqL K H a xs ∧ xs.length ≤ i⟩
def Itt (K : PySem.W.Frag) (a : Addr) : It :=
  ⟨fun i H => ∃ xs x, SqT K H a xs ∧ xs[i]? = some x, fun i H x H' => H' = H ∧ ∀ xs, SqT K H a xs → xs[i]? = some x, fun i H => ∃ xs, SqT K H a xs ∧ xs.length ≤ i⟩
def Itr (lo : Int) (n : Nat) : It := ⟨fun i _ => i < n, fun i H x H' => H' = H ∧ x = .int (lo + i), fun i _ => n ≤ i⟩
theorem turn_list {P : Program} {w : World} {K : PySem.W.Frag} {tg : Expr} (a it : Addr) : Turn P w K tg (Itl K a) [it] it (fun i h => h.IsListIter it a i) where
  mem := by simp
  obj := fun i h st b hb => by
    have e : b = it := by simpa using hb
    subst e
    obtain ⟨o, e, c, d⟩ := st
    exact ⟨o, e, fun v z => by rw [d] at z; cases z⟩
  keep := fun i h h' st k => st.at fun o e => k it (by simp) o e
  item := by
    intro X hP hw hK hc i pins s σ H E I hf st hg
    subst hP hw hK
    obtain ⟨xs, x, hq, hx⟩ := hg
    obtain ⟨its, rv, p, hz⟩ := I.list hq
    obtain ⟨u, hu, ru⟩ := rv.get hx
    obtain ⟨f0, f1, f2, f3, f4, f5⟩ := hf it (by simp)
    refine wpAny_pyNext_list_item st p.isList (x := u) (by simpa using hu) fun h' st' sb => ?_
    have I1 : Inv X pins σ H { s with heap := h' } := I.turned (t' := s.toks) (fun b o hb e => (sb.2 b hb).trans e) f0 f1 f3 f4 f5
    obtain ⟨o, e, c, d⟩ := id st'
    exact ⟨u, rfl, go_of (s := { s with heap := h' }) e c d (by decide) ⟨x, H, I1, ru, ⟨rfl, fun ys hy => by rw [I.list_inj hy hq]; exact hx⟩, st', fun b hb => (hf b hb).1⟩⟩
  done := by
    intro X hP hw hK hc i pins s σ H E I hf st hg
    subst hP hw hK
    obtain ⟨xs, hq, hx⟩ := hg
    obtain ⟨its, rv, p, hz⟩ := I.list hq
    obtain ⟨f0, f1, f2, f3, f4, f5⟩ := hf it (by simp)
    have hl := rv.length
    exact wpAny_pyNext_list_end (I.ok.hd hc) st p.isList (by simp; omega) fun h' eb => ⟨rfl, I.turned (t' := s.toks) (fun b o hb e => eb b o hb e) f0 f1 f3 f4 f5⟩
  self := fun _ _ _ _ _ st h => wpAny_pyIter_listiter st h
theorem turn_tuple {P : Program} {w : World} {K : PySem.W.Frag} {tg : Expr} (a it : Addr) : Turn P w K tg (Itt K a) [it] it (fun i h => h.IsTupleIter it a i) where
  mem := by simp
  obj := fun i h st b hb => by
    have e : b = it := by simpa using hb
    subst e
    obtain ⟨o, e, c, d⟩ := st
    exact ⟨o, e, fun v z => by rw [d] at z; cases z⟩
  keep := fun i h h' st k => st.at fun o e => k it (by simp) o e
  item := by
    intro X hP hw hK hc i pins s σ H E I hf st hg
    subst hP hw hK
    obtain ⟨xs, x, hq, hx⟩ := hg
    obtain ⟨its, rv, p, hz⟩ := I.tuple hq
    obtain ⟨u, hu, ru⟩ := rv.get hx
    obtain ⟨f0, f1, f2, f3, f4, f5⟩ := hf it (by simp)
    refine wpAny_pyNext_tuple_item st (show s.heap.IsTuple a its.toArray from p) (x := u) (by simpa using hu) fun h' st' sb => ?_
    have I1 : Inv X pins σ H { s with heap := h' } := I.turned (t' := s.toks) (fun b o hb e => (sb.2 b hb).trans e) f0 f1 f3 f4 f5
    obtain ⟨o, e, c, d⟩ := id st'
    exact ⟨u, rfl, go_of (s := { s with heap := h' }) e c d (by decide) ⟨x, H, I1, ru, ⟨rfl, fun ys hy => by rw [I.tuple_inj hy hq]; exact hx⟩, st', fun b hb => (hf b hb).1⟩⟩
  done := by
    intro X hP hw hK hc i pins s σ H E I hf st hg
    subst hP hw hK
    obtain ⟨xs, hq, hx⟩ := hg
    obtain ⟨its, rv, p, hz⟩ := I.tuple hq
    obtain ⟨f0, f1, f2, f3, f4, f5⟩ := hf it (by simp)
    have hl := rv.length
    exact wpAny_pyNext_tuple_end (I.ok.hd hc) st (show s.heap.IsTuple a its.toArray from p) (by simp; omega) fun h' eb => ⟨rfl, I.turned (t' := s.toks) (fun b o hb e => eb b o hb e) f0 f1 f3 f4 f5⟩
  self := fun _ _ _ _ _ st h => wpAny_pyIter_tupleiter st h
theorem turn_range {P : Program} {w : World} {K : PySem.W.Frag} {tg : Expr} (it : Addr) (lo : Int) (n : Nat) : Turn P w K tg (Itr lo n) [it] it (fun i h => IsRangeIter h it (lo + (i : Nat) * 1) ((n : Int) - (i : Nat)) 1) where
  mem := by simp
  obj := fun i h st b hb => by
    have e : b = it := by simpa using hb
    subst e
    exact ⟨_, st, fun v z => by
      have z' : Data.fields _ = Data.cell v := z
      cases z'⟩
  keep := fun i h h' st k => k it (by simp) _ st
  item := by
    intro X hP hw hK hc i pins s σ H E I hf st hg
    subst hP hw hK
    obtain ⟨f0, f1, f2, f3, f4, f5⟩ := hf it (by simp)
    have W := Walks.range (prog := X.prog) (w := X.w) (I.ok.hd hc) it lo 1 n
    refine W.item i s _ _ hg st fun v h' tk hv st' kk => ?_
    obtain ⟨t, rfl⟩ := hv
    have I1 : Inv X pins σ H { s with heap := h', toks := tk } := I.turned (fun b o hb e => kk b o (by simpa using hb) e) f0 f1 f3 f4 f5
    refine ⟨_, rfl, go_of (s := { s with heap := h', toks := tk }) (n := "range_iterator") st' rfl rfl (by decide) ⟨.int (lo + i), H, I1, ⟨t, ?_⟩, ⟨rfl, rfl⟩, st', fun b hb => (hf b hb).1⟩⟩
    rw [Int.mul_one]
  done := by
    intro X hP hw hK hc i pins s σ H E I hf st hg
    subst hP hw hK
    obtain ⟨f0, f1, f2, f3, f4, f5⟩ := hf it (by simp)
    exact wpAny_pyNext_range_end (I.ok.hd hc) st (by have : n ≤ i := hg; omega) fun h' eb => ⟨rfl, I.turned (t' := s.toks) (fun b o hb e => eb b o hb e) f0 f1 f3 f4 f5⟩
  self := fun _ _ _ _ _ st h => wpAny_pyIter_rangeiter st h
end L2
namespace L2
open PySem PySem.Spec PyProof.Rows
section
variable {X : Cx} {tg : Expr}
theorem range_it {pins : List (Addr × Obj)} {σ : St} {H : Hp} {s : Shared} {R : It → Hp → Prop} {E : Value → Shared → Prop} {lo hi : Int} {t u v : Tok} {tk : Nat} (I : Inv X pins σ H s) (h1 : -(2 ^ 62) ≤ lo) (h2 : lo < 2 ^ 62) (h3 : -(2 ^ 62) ≤ hi) (h4 : hi < 2 ^ 62)
    (q : R (Itr lo (hi - lo).toNat) H) : wpAny (model X.prog X.w) X.A (pyIter (.ref s.heap.objs.size)) (PIE X pins σ tg R) E { s with heap := s.heap.push { cls := .type "range", data := .fields #[.int lo t, .int hi u, .int 1 v] }, toks := tk } := by
  refine wpAny_pyIter_range (IsRange.new ..) (small_one h1 h2 h3 h4) ?_
  have I1 : Inv X pins σ H { s with heap := s.heap.push { cls := .type "range", data := .fields #[.int lo t, .int hi u, .int 1 v] }, toks := tk } := I.kept fun b o e => Heap.get?_push_of_some _ e
  refine ⟨(s.heap.push { cls := .type "range", data := .fields #[.int lo t, .int hi u, .int 1 v] }).objs.size, [(s.heap.push { cls := .type "range", data := .fields #[.int lo t, .int hi u, .int 1 v] }).objs.size], _, _, H, rfl,
    I1.kept (t' := tk) fun b o e => Heap.get?_push_of_some _ e, turn_range _ lo (hi - lo).toNat, ?_, fun b hb => ?_, q⟩
  · have e1 : lo + ((0 : Nat) : Int) * 1 = lo := by simp
    have e2 : (((hi - lo).toNat : Nat) : Int) - ((0 : Nat) : Int) = Builtin.Range.rangeSize lo hi 1 := by rw [rangeSize_one]; split <;> omega
    show IsRangeIter _ _ (lo + ((0 : Nat) : Int) * 1) ((((hi - lo).toNat : Nat) : Int) - ((0 : Nat) : Int)) 1
    rw [e1, e2]
    exact Heap.get?_push_size _ rfl
  · have e : b = (s.heap.push { cls := .type "range", data := .fields #[.int lo t, .int hi u, .int 1 v] }).objs.size := by simpa using hb
    subst e
    exact I1.fpOk (Nat.le_refl _) (I1.hok.fresh (Nat.le_refl _))
def iRng1 (ta : TA) : TI := fun σ H R => ta σ H fun vs H1 => ∃ j : Int, vs = [.int j] ∧ -(2 ^ 62) ≤ j ∧ j < 2 ^ 62 ∧ R (Itr 0 j.toNat) H1
theorem pi_range1 {a : Expr} {ta : TA} {p pos : Pos} (hg : Gl X "range") (hm : X.mg "range" = none) (ha : PA X [a] ta) (hs : starEach [a] X.env = [(false, eval a X.env)] := by rfl) : PI X tg (.Call (.Name "range" p) [a] [] pos) (iRng1 ta) := by
  intro pins s σ H R I h
  refine Call_ (ld_blt I hg hm boot_range (PyProof.Rows.callWith_type1 (thn (ha pos pins s σ H _ I h) fun us s1 ⟨vs, H1, I1, r1, q1⟩ => ?_) hs rfl))
  obtain ⟨j, e, q1, q2, q⟩ := q1
  subst e
  cases r1 with
  | cons r rr =>
    cases rr
    obtain ⟨t, rfl⟩ := r
    exact call_range_1 (range_it I1 (by omega) (by omega) q1 q2 (by simpa using q))
def tFor (wi : TI) (g : TG) (tb : TS) : TS := fun D σ H => wi σ H fun J H1 => ∃ W : Nat → Nat → St → Hp → Prop, (∃ m, W 0 m σ H1) ∧ ∀ i m σ H, W i m σ H →
  (J.stop i H ∧ D.nx σ H) ∨ (J.go i H ∧ ∃ N : St → Hp → Prop, (∀ σ' H', N σ' H' → ∃ m', m' < m ∧ W (i + 1) m' σ' H') ∧ ∀ x H', J.yld i H x H' → g x σ H' fun σ2 H2 => tb { D with nx := N, ct := N, bk := D.nx } σ2 H2)
def pinsAt (fp : List Addr) (h : Heap) : List (Addr × Obj) := fp.filterMap fun b => (h.get? b).map fun o => (b, o)
theorem mem_pinsAt {fp : List Addr} {h : Heap} {b : Addr} {o : Obj} (hb : b ∈ fp) (e : h.get? b = some o) : (b, o) ∈ pinsAt fp h := List.mem_filterMap.mpr ⟨b, hb, by rw [e]; rfl⟩
theorem of_pinsAt {fp : List Addr} {h : Heap} {p : Addr × Obj} (hp : p ∈ pinsAt fp h) : p.1 ∈ fp ∧ h.get? p.1 = some p.2 := by
  obtain ⟨b, hb, e⟩ := List.mem_filterMap.mp hp
  cases q : h.get? b with
  | none => rw [q] at e; cases e
  | some o =>
    rw [q] at e
    have e' : (b, o) = p := Option.some.inj e
    subst e'
    exact ⟨hb, q⟩
theorem Inv.pinned {pins : List (Addr × Obj)} {σ : St} {H : Hp} {s : Shared} {fp : List Addr} (I : Inv X pins σ H s) (hf : ∀ b ∈ fp, FpOk X pins H b) (ho : ∀ b ∈ fp, ∃ o, s.heap.get? b = some o ∧ ∀ v, o.data ≠ .cell v) : Inv X (pins ++ pinsAt fp s.heap) σ H s :=
  I.pins_of fun p hp => (List.mem_append.mp hp).elim (fun z => I.pin p (List.mem_append_right _ z)) fun z => by
    obtain ⟨hb, e⟩ := of_pinsAt z
    obtain ⟨f0, f1, f2, _⟩ := hf p.1 hb
    obtain ⟨o, e', d⟩ := ho p.1 hb
    rw [e] at e'; cases e'
    exact ⟨e, f0, f1, f2, d⟩
theorem Inv.unpinned {pins pl : List (Addr × Obj)} {σ : St} {H : Hp} {s : Shared} (I : Inv X (pins ++ pl) σ H s) : Inv X pins σ H s := I.pins_of fun p hp => I.pin p (List.mem_append_right _ (List.mem_append_left _ hp))
theorem ps_for {iter : Expr} {body : List Stmt} {wi : TI} {g : TG} {tb : TS} {pos : Pos} (hp : PassesOwn (model X.prog X.w) X.A X.env X.xe) (hc : X.calm = true) (hi : PI X tg iter wi) (hg : PG X tg g) (hb : PSs X body tb)
    (hs : ∀ x, foldedSetIterable iter X.env x = pure x := by intro _; rfl) : PS X (.For tg iter body [] pos) (tFor wi g tb) := by
  intro pins s σ H D I h
  refine wpAny_For (thn (hi pins s σ H _ I h) fun v s1 h1 => thn h1 fun itv s2 h2 => ?_) hs
  obtain ⟨it, fp, tn, J, H2, e, I2, T, st2, f2, W, ⟨m0, w0⟩, turn⟩ := h2
  subst e
  -- what stays true of the iterator's objects through the loop
  have stat : ∀ {H' : Hp}, (∀ b ∈ fp, H' b = none) → ∀ b ∈ fp, FpOk X pins H' b := fun hn b hb => ⟨hn b hb, (f2 b hb).2⟩
  refine codeAny_forLoop_any (fun n s' => ∃ i σ' H', Inv X pins σ' H' s' ∧ tn i s'.heap ∧ (∀ b ∈ fp, H' b = none) ∧ W i n σ' H') ?_ m0 ⟨0, σ, H2, I2, st2, fun b hb => (f2 b hb).1, w0⟩
  rintro n s3 ⟨i, σ3, H3, I3, st3, fr3, w3⟩
  rcases turn i n σ3 H3 w3 with ⟨stop, qn⟩ | ⟨go, N, hN, step⟩
  · refine wpAny_passesOwn hp (thn (T.done X rfl rfl rfl hc i pins s3 σ3 H3 X.xe I3 (stat fr3) st3 stop) fun r s4 ⟨hr, I4⟩ => ?_)
    subst hr
    exact wpAny_execs_nil ⟨σ3, H3, I4, qn⟩
  · refine wpAny_passesOwn hp (thn (T.item X rfl rfl rfl hc i pins s3 σ3 H3 X.xe I3 (stat fr3) st3 go) fun r s4 ⟨u, hr, h4⟩ => ?_)
    subst hr
    refine wpAny_passesOwn hp (thn h4 fun _ s5 ⟨x, H5, I5, r5, y5, st5, fr5⟩ => ?_)
    have I5' := I5.pinned (stat fr5) (T.obj _ _ st5)
    refine wpAny_passesOwn hp (thn (hg _ s5 σ3 H5 x u _ I5' r5 (step x H5 y5)) fun _ s6 ⟨σ6, H6, I6, q6⟩ => ?_)
    refine wpAny_passesOwn hp (thn (hb _ s6 σ6 H6 _ I6 q6) fun f s7 q7 => ?_)
    have again : ∀ {σ7 : St} {H7 : Hp}, Inv X (pins ++ pinsAt fp s5.heap) σ7 H7 s7 → N σ7 H7 → ∃ m, m < n ∧ ∃ i σ' H', Inv X pins σ' H' s7 ∧ tn i s7.heap ∧ (∀ b ∈ fp, H' b = none) ∧ W i m σ' H' := fun {σ7 H7} I7 n7 => by
      obtain ⟨m', hm, w7⟩ := hN σ7 H7 n7
      refine ⟨m', hm, i + 1, σ7, H7, I7.unpinned, T.keep _ _ _ st5 fun b hb o e => (I7.pin (b, o) (List.mem_append_right _ (List.mem_append_right _ (mem_pinsAt hb e)))).1, fun b hb => ?_, w7⟩
      obtain ⟨o, e, d⟩ := T.obj _ _ st5 b hb
      exact (I7.pin (b, o) (List.mem_append_right _ (List.mem_append_right _ (mem_pinsAt hb e)))).2.1
    cases f with
    | next => obtain ⟨σ7, H7, I7, n7⟩ := q7; exact again I7 n7
    | cont => obtain ⟨σ7, H7, I7, n7⟩ := q7; exact again I7 n7
    | brk => obtain ⟨σ7, H7, I7, q7⟩ := q7; exact ⟨σ7, H7, I7.unpinned, q7⟩
    | ret v => obtain ⟨x7, σ7, H7, I7, r7, q7⟩ := q7; exact ⟨x7, σ7, H7, I7.unpinned, r7, q7⟩
end
end L2
namespace L2
open PySem PySem.Spec PyProof.Rows
abbrev R2 := V → V → Hp → VK → Prop
def OpR (X : Cx) (f : Value → Value → Sem Value) (r : R2) : Prop :=
  ∀ (pins : List (Addr × Obj)) (s : Shared) (σ : St) (H : Hp) (x y : V) (v u : Value) (Q : VK), Inv X pins σ H s → RelV x v → RelV y u → r x y H Q →
    wpAny (model X.prog X.w) X.A (f v u) (EP X pins σ Q) X.xe s
def UnR (X : Cx) (f : Value → Sem Value) (r : V → Hp → VK → Prop) : Prop :=
  ∀ (pins : List (Addr × Obj)) (s : Shared) (σ : St) (H : Hp) (x : V) (v : Value) (Q : VK), Inv X pins σ H s → RelV x v → r x H Q →
    wpAny (model X.prog X.w) X.A (f v) (EP X pins σ Q) X.xe s
def CallR (X : Cx) (f : Value) (r : List V → Hp → VK → Prop) : Prop :=
  ∀ (pins : List (Addr × Obj)) (s : Shared) (σ : St) (H : Hp) (xs : List V) (us : List Value) (Q : VK), Inv X pins σ H s → Vals xs us → r xs H Q →
    wpAny (model X.prog X.w) X.A (call f us) (EP X pins σ Q) X.xe s
def tOp (r : R2) (ta tb : TE) : TE := fun σ H Q => ta σ H fun x H1 => tb σ H1 fun y H2 => r x y H2 Q
def tUn (r : V → Hp → VK → Prop) (ta : TE) : TE := fun σ H Q => ta σ H fun x H1 => r x H1 Q
def rI (C : Int → Int → Prop) (g : Int → Int → V) : R2 := fun x y H Q => ∃ i j, x = .int i ∧ y = .int j ∧ C i j ∧ Q (g i j) H
def rI0 (g : Int → Int → V) : R2 := fun x y H Q => ∃ i j, x = .int i ∧ y = .int j ∧ Q (g i j) H
def rU (g : Int → V) : V → Hp → VK → Prop := fun x H Q => ∃ i, x = .int i ∧ Q (g i) H
section
variable {X : Cx} {a b c : Expr} {ta tb tc : TE} {pos : Pos}
theorem binT (ha : PE X a ta) (hb : PE X b tb) {pins : List (Addr × Obj)} {s : Shared} {σ : St} {H : Hp} {R : V → V → Hp → Prop} (I : Inv X pins σ H s)
    (h : ta σ H fun x H1 => tb σ H1 fun y H2 => R x y H2) {Q : Value → Shared → Prop} {f : Value → Value → Sem Value}
    (hf : ∀ v u s2 x y H2, Inv X pins σ H2 s2 → RelV x v → RelV y u → R x y H2 → wpAny (model X.prog X.w) X.A (f v u) Q X.xe s2) :
    wpAny (model X.prog X.w) X.A (eval a X.env) (fun v s₁ => wpAny (model X.prog X.w) X.A (eval b X.env) (fun u s₂ => wpAny (model X.prog X.w) X.A (f v u) Q X.xe s₂) X.xe s₁) X.xe s := by
  refine thn (ha pins s σ H _ I h) fun v s1 ⟨x, H1, I1, r1, q1⟩ => ?_
  refine thn (hb pins s1 σ H1 _ I1 q1) fun u s2 ⟨y, H2, I2, r2, q2⟩ => ?_
  exact hf v u s2 x y H2 I2 r1 r2 q2
theorem pe_op {op : Operator} {r : R2} (ho : OpR X (binaryOp op) r) (ha : PE X a ta) (hb : PE X b tb) : PE X (.BinOp a op b pos) (tOp r ta tb) := by
  intro pins s σ H Q I h
  exact wpAny_BinOp (binT ha hb I h fun v u s2 x y H2 I2 rx ry q => ho pins s2 σ H2 x y v u Q I2 rx ry q)
theorem pe_un {op : UnaryOp} {r : V → Hp → VK → Prop} (ho : UnR X (unaryOp op) r) (ha : PE X a ta) : PE X (.UnaryOp op a pos) (tUn r ta) := by
  intro pins s σ H Q I h
  exact UnaryOp_ (thn (ha pins s σ H _ I h) fun v s1 ⟨x, H1, I1, r1, q1⟩ => ho pins s1 σ H1 x v Q I1 r1 q1)
theorem opI {f : Value → Value → Sem Value} {C : Int → Int → Prop} {g : Int → Int → Int}
    (rule : ∀ (i j : Int) (t u : Tok) (s : Shared) (Q : Value → Shared → Prop) (E : Value → Shared → Prop), C i j → Q (.int (g i j) s.toks) { s with toks := s.toks + 1 } → wpAny (model X.prog X.w) X.A (f (.int i t) (.int j u)) Q E s) :
    OpR X f (rI C fun i j => .int (g i j)) := by
  intro pins s σ H x y v u Q I rx ry h
  obtain ⟨i, j, rfl, rfl, hc, q⟩ := h
  obtain ⟨t, rfl⟩ := rx
  obtain ⟨t', rfl⟩ := ry
  exact rule i j t t' s _ _ hc ⟨.int (g i j), H, I.tok _, ⟨_, rfl⟩, q⟩
theorem opI0 {f : Value → Value → Sem Value} {g : Int → Int → Int}
    (rule : ∀ (i j : Int) (t u : Tok) (s : Shared) (Q : Value → Shared → Prop) (E : Value → Shared → Prop), Q (.int (g i j) s.toks) { s with toks := s.toks + 1 } → wpAny (model X.prog X.w) X.A (f (.int i t) (.int j u)) Q E s) :
    OpR X f (rI0 fun i j => .int (g i j)) := by
  intro pins s σ H x y v u Q I rx ry h
  obtain ⟨i, j, rfl, rfl, q⟩ := h
  obtain ⟨t, rfl⟩ := rx
  obtain ⟨t', rfl⟩ := ry
  exact rule i j t t' s _ _ ⟨.int (g i j), H, I.tok _, ⟨_, rfl⟩, q⟩
theorem opB0 {f : Value → Value → Sem Value} {g : Int → Int → Bool}
    (rule : ∀ (i j : Int) (t u : Tok) (s : Shared) (Q : Value → Shared → Prop) (E : Value → Shared → Prop), Q (.bool (g i j)) s → wpAny (model X.prog X.w) X.A (f (.int i t) (.int j u)) Q E s) :
    OpR X f (rI0 fun i j => .bl (g i j)) := by
  intro pins s σ H x y v u Q I rx ry h
  obtain ⟨i, j, rfl, rfl, q⟩ := h
  obtain ⟨t, rfl⟩ := rx
  obtain ⟨t', rfl⟩ := ry
  exact rule i j t t' s _ _ ⟨.bl (g i j), H, I, rfl, q⟩
def CDiv (i j : Int) : Prop := 0 < j ∧ j < 1073741824
def CPow (i j : Int) : Prop := 0 ≤ j ∧ j ≤ 1000000 ∧ i.natAbs < 2 ^ 64
def CMul (i j : Int) : Prop := (-(2 ^ 64) < i ∧ i < 2 ^ 64) ∨ (-(2 ^ 64) < j ∧ j < 2 ^ 64)
theorem CMul.ok {i j : Int} (h : CMul i j) : IntMulOk i j := by
  rcases h with ⟨h1, h2⟩ | ⟨h1, h2⟩
  · exact .of_left (intBits_le_64 h1 h2)
  · exact .of_right (intBits_le_64 h1 h2)
theorem op_add : OpR X (binaryOp .Add) (rI0 fun i j => .int (i + j)) := opI0 fun _ _ _ _ _ _ _ q => add_int q
theorem op_mul : OpR X (binaryOp .Mult) (rI CMul fun i j => .int (i * j)) := opI fun _ _ _ _ _ _ _ hc q => mul_int q hc.ok
theorem op_fdiv : OpR X (binaryOp .FloorDiv) (rI CDiv fun i j => .int (i / j)) := opI fun i j _ _ _ _ _ hc q => by
  have h1 : (0 : Int) < j := hc.1
  have h2 : j < 1073741824 := hc.2
  exact floordiv_int (by omega) (by rw [Int.fdiv_eq_ediv_of_nonneg i (by omega)]; exact q) (.inl (PyProof.noPylong_small (by omega)))
theorem op_mod : OpR X (binaryOp .Mod) (rI (fun _ j => 0 < j) fun i j => .int (i % j)) := opI fun i j _ _ _ _ _ hc q => by
  have h1 : (0 : Int) < j := hc
  exact mod_int' (by omega) (by rw [Int.fmod_eq_emod_of_nonneg i (by omega)]; exact q)
theorem op_pow : OpR X (binaryOp .Pow) (rI CPow fun i j => .int (i ^ j.toNat)) := opI fun _ _ _ _ _ _ _ hc q => pow_int_small hc.1 hc.2.1 hc.2.2 q
theorem unI {f : Value → Sem Value} {g : Int → Int}
    (rule : ∀ (i : Int) (t : Tok) (s : Shared) (Q : Value → Shared → Prop) (E : Value → Shared → Prop), Q (.int (g i) s.toks) { s with toks := s.toks + 1 } → wpAny (model X.prog X.w) X.A (f (.int i t)) Q E s) :
    UnR X f (rU fun i => .int (g i)) := by
  intro pins s σ H x v Q I rx h
  obtain ⟨i, rfl, q⟩ := h
  obtain ⟨t, rfl⟩ := rx
  exact rule i t s _ _ ⟨.int (g i), H, I.tok _, ⟨_, rfl⟩, q⟩
theorem un_neg : UnR X (unaryOp .USub) (rU fun i => .int (-i)) := unI fun _ _ _ _ _ q => neg_int q
end
def scal : V → V → Bool
  | .non, .non => true | .non, .int _ => true | .int _, .non => true | .non, .bl _ => true | .bl _, .non => true | .non, .str _ => true | .str _, .non => true
  | .int _, .int _ => true | .bl _, .bl _ => true | .str _, .str _ => true | .byt _, .byt _ => true
  | .int _, .str _ => true | .str _, .int _ => true | .bl _, .str _ => true | .str _, .bl _ => true
  | _, _ => false
def rEq : R2 := fun x y H Q => scal x y = true ∧ Q (.bl (decide (x = y))) H
def rNe : R2 := fun x y H Q => scal x y = true ∧ Q (.bl (!decide (x = y))) H
theorem dec_int {i j : Int} : decide (V.int i = V.int j) = (i == j) := by
  rw [Bool.eq_iff_iff]
  simp
theorem dec_bl {i j : Bool} : decide (V.bl i = V.bl j) = (i == j) := by
  rw [Bool.eq_iff_iff]
  simp
theorem dec_str {i j : Str} : decide (V.str i = V.str j) = (i == j) := by
  rw [Bool.eq_iff_iff]
  simp
theorem dec_byt {i j : Array UInt8} : decide (V.byt i = V.byt j) = (i.toList == j.toList) := by
  rw [Bool.eq_iff_iff]
  cases i
  cases j
  simp
section
variable {X : Cx} {a b c : Expr} {ta tb tc : TE} {pos : Pos}
theorem fin_bl {pins : List (Addr × Obj)} {σ : St} {H : Hp} {s : Shared} {Q : VK} {k k' : Bool} (I : Inv X pins σ H s) (q : Q (.bl k) H) (e : k = k') : EP X pins σ Q (.bool k') s := by
  subst e
  exact ⟨.bl k, H, I, rfl, q⟩
theorem op_eq : OpR X (compareOp .Eq) rEq := by
  intro pins s σ H x y v u Q I rx ry h
  obtain ⟨hs, q⟩ := h
  cases x with
  | non =>
    cases rx
    cases y with
    | non => cases ry; exact PySem.EqNone.eq_none_none (fin_bl I q (by simp))
    | bl j => cases ry; exact PySem.EqNone.eq_none_bool (fin_bl I q (by simp))
    | int j => obtain ⟨t', rfl⟩ := ry; exact PySem.EqNone.eq_none_int (fin_bl I q (by simp))
    | str j => obtain ⟨t', rfl⟩ := ry; exact PySem.EqNone.eq_none_str (fin_bl I q (by simp))
    | _ => exact absurd (show false = true from hs) Bool.false_ne_true
  | bl i =>
    cases rx
    cases y with
    | non => cases ry; exact PySem.EqNone.eq_bool_none (fin_bl I q (by simp))
    | bl j => cases ry; exact eq_bool (fin_bl I q dec_bl)
    | str j => obtain ⟨t', rfl⟩ := ry; exact PySem.EqMixed.eq_bool_str (fin_bl I q (by simp))
    | _ => exact absurd (show false = true from hs) Bool.false_ne_true
  | int i =>
    obtain ⟨t, rfl⟩ := rx
    cases y with
    | non => cases ry; exact PySem.EqNone.eq_int_none (fin_bl I q (by simp))
    | int j => obtain ⟨t', rfl⟩ := ry; exact eq_int (fin_bl I q dec_int)
    | str j => obtain ⟨t', rfl⟩ := ry; exact PySem.EqMixed.eq_int_str (fin_bl I q (by simp))
    | _ => exact absurd (show false = true from hs) Bool.false_ne_true
  | str i =>
    obtain ⟨t, rfl⟩ := rx
    cases y with
    | non => cases ry; exact PySem.EqNone.eq_str_none (fin_bl I q (by simp))
    | bl j => cases ry; exact PySem.EqMixed.eq_str_bool (fin_bl I q (by simp))
    | int j => obtain ⟨t', rfl⟩ := ry; exact PySem.EqMixed.eq_str_int (fin_bl I q (by simp))
    | str j => obtain ⟨t', rfl⟩ := ry; exact eq_str (fin_bl I q dec_str)
    | _ => exact absurd (show false = true from hs) Bool.false_ne_true
  | byt i =>
    obtain ⟨t, rfl⟩ := rx
    cases y with
    | byt j => obtain ⟨t', rfl⟩ := ry; exact PySem.W.eq_bytes (fin_bl I q dec_byt)
    | _ => exact absurd (show false = true from hs) Bool.false_ne_true
  | _ => cases y <;> exact absurd (show false = true from hs) Bool.false_ne_true
theorem op_ne : OpR X (compareOp .NotEq) rNe := by
  intro pins s σ H x y v u Q I rx ry h
  obtain ⟨hs, q⟩ := h
  cases x with
  | non =>
    cases rx
    cases y with
    | non => cases ry; exact PySem.EqNone.ne_none_none (fin_bl I q (by simp))
    | bl j => cases ry; exact PySem.EqNone.ne_none_bool (fin_bl I q (by simp))
    | int j => obtain ⟨t', rfl⟩ := ry; exact PySem.EqNone.ne_none_int (fin_bl I q (by simp))
    | str j => obtain ⟨t', rfl⟩ := ry; exact PySem.EqNone.ne_none_str (fin_bl I q (by simp))
    | _ => exact absurd (show false = true from hs) Bool.false_ne_true
  | bl i =>
    cases rx
    cases y with
    | non => cases ry; exact PySem.EqNone.ne_bool_none (fin_bl I q (by simp))
    | bl j => cases ry; exact ne_bool (fin_bl I q (congrArg not dec_bl))
    | str j => obtain ⟨t', rfl⟩ := ry; exact PySem.EqMixed.ne_bool_str (fin_bl I q (by simp))
    | _ => exact absurd (show false = true from hs) Bool.false_ne_true
  | int i =>
    obtain ⟨t, rfl⟩ := rx
    cases y with
    | non => cases ry; exact PySem.EqNone.ne_int_none (fin_bl I q (by simp))
    | int j => obtain ⟨t', rfl⟩ := ry; exact ne_int (fin_bl I q (congrArg not dec_int))
    | str j => obtain ⟨t', rfl⟩ := ry; exact PySem.EqMixed.ne_int_str (fin_bl I q (by simp))
    | _ => exact absurd (show false = true from hs) Bool.false_ne_true
  | str i =>
    obtain ⟨t, rfl⟩ := rx
    cases y with
    | non => cases ry; exact PySem.EqNone.ne_str_none (fin_bl I q (by simp))
    | bl j => cases ry; exact PySem.EqMixed.ne_str_bool (fin_bl I q (by simp))
    | int j => obtain ⟨t', rfl⟩ := ry; exact PySem.EqMixed.ne_str_int (fin_bl I q (by simp))
    | str j => obtain ⟨t', rfl⟩ := ry; exact ne_str (fin_bl I q (congrArg not dec_str))
    | _ => exact absurd (show false = true from hs) Bool.false_ne_true
  | byt i =>
    obtain ⟨t, rfl⟩ := rx
    cases y with
    | byt j => obtain ⟨t', rfl⟩ := ry; exact PySem.W.ne_bytes (fin_bl I q (congrArg not dec_byt))
    | _ => exact absurd (show false = true from hs) Bool.false_ne_true
  | _ => cases y <;> exact absurd (show false = true from hs) Bool.false_ne_true
theorem op_lt : OpR X (compareOp .Lt) (rI0 fun i j => .bl (decide (i < j))) := opB0 fun _ _ _ _ _ _ _ q => lt_int q
theorem op_le : OpR X (compareOp .LtE) (rI0 fun i j => .bl (decide (i ≤ j))) := opB0 fun _ _ _ _ _ _ _ q => le_int q
theorem op_gt : OpR X (compareOp .Gt) (rI0 fun i j => .bl (decide (j < i))) := opB0 fun _ _ _ _ _ _ _ q => gt_int q
theorem op_ge : OpR X (compareOp .GtE) (rI0 fun i j => .bl (decide (j ≤ i))) := opB0 fun _ _ _ _ _ _ _ q => ge_int q
theorem OpR.or {f : Value → Value → Sem Value} {r r' : R2} (h : OpR X f r) (h' : OpR X f r') : OpR X f (fun x y H Q => r x y H Q ∨ r' x y H Q) := by
  intro pins s σ H x y v u Q I rx ry q
  rcases q with q | q
  · exact h pins s σ H x y v u Q I rx ry q
  · exact h' pins s σ H x y v u Q I rx ry q
theorem nomark (b : Expr) {op : CmpOp} (h : op ≠ .In := by decide) (h2 : op ≠ .NotIn := by decide) : behindInMarks op b = false := by
  have e1 : (op == CmpOp.In) = false := by cases op <;> first | rfl | exact absurd rfl h
  have e2 : (op == CmpOp.NotIn) = false := by cases op <;> first | rfl | exact absurd rfl h2
  cases b <;> simp [behindInMarks, e1, e2]
theorem pe_cmpR {op : CmpOp} {r : R2} (ho : OpR X (compareOp op) r) (ha : PE X a ta) (hb : PE X b tb) (hm : behindInMarks op b = false) : PE X (.Compare a [op] [b] pos) (tOp r ta tb) := by
  intro pins s σ H Q I h
  exact wpAny_Compare1 (binT ha hb I h fun v u s2 x y H2 I2 rx ry q => ho pins s2 σ H2 x y v u Q I2 rx ry q) hm
def tTest (t : TE) : TT := fun σ H Q => t σ H fun x H' => ∃ k, x = .bl k ∧ Q k H'
theorem pt_cmpR {op : CmpOp} {r : R2} (ho : OpR X (compareOp op) r) (ha : PE X a ta) (hb : PE X b tb) (hm : behindInMarks op b = false) : PT X (.Compare a [op] [b] pos) (tTest (tOp r ta tb)) := by
  intro pins s σ H Q I h
  refine wpAny_isTrue_Compare1 (thn (ha pins s σ H _ I h) fun v s1 ⟨x, H1, I1, r1, q1⟩ => thn (hb pins s1 σ H1 _ I1 q1) fun u s2 ⟨y, H2, I2, r2, q2⟩ =>
    thn (ho pins s2 σ H2 x y v u _ I2 r1 r2 q2) fun c s3 ⟨z, H3, I3, r3, k, e, q3⟩ => ?_) hm
  subst e
  cases r3
  exact wpAny_truthy_bool ⟨H3, I3, q3⟩
def tChain (r r' : R2) (ta tb tc : TE) : TE := fun σ H Q => ta σ H fun x H1 => tb σ H1 fun y H2 => r x y H2 fun z H3 => ∃ k, z = .bl k ∧
  (if k = true then tc σ H3 fun w' H4 => r' y w' H4 Q else Q (.bl false) H3)
theorem pe_chain {op op' : CmpOp} {r r' : R2} (ho : OpR X (compareOp op) r) (ho' : OpR X (compareOp op') r') (ha : PE X a ta) (hb : PE X b tb) (hc : PE X c tc)
    (hm : lastMarks [op, op'] [b, c] = false := by with_unfolding_all rfl) : PE X (.Compare a [op, op'] [b, c] pos) (tChain r r' ta tb tc) := by
  intro pins s σ H Q I h
  refine Compare_chain (thn (ha pins s σ H _ I h) fun v s1 ⟨x, H1, I1, r1, q1⟩ => chain_link (thn (hb pins s1 σ H1 _ I1 q1) fun u s2 ⟨y, H2, I2, r2, q2⟩ =>
    thn (ho pins s2 σ H2 x y v u _ I2 r1 r2 q2) fun d s3 ⟨z, H3, I3, r3, k, e, q3⟩ => ?_)) hm
  subst e
  cases r3
  refine wpAny_truthy_bool ?_
  cases k with
  | false => exact ite_ff ⟨.bl false, H3, I3, rfl, q3⟩
  | true => exact ite_tt (chain_last (thn (hc pins s3 σ H3 _ I3 q3) fun w' s4 ⟨z', H4, I4, r4, q4⟩ => ho' pins s4 σ H4 y z' u w' Q I4 r2 r4 q4))
theorem line63 : (sizeLine : Nat) < 2 ^ 63 := by rw [sizeLine_eq]; decide
theorem vals1 {x : V} {us : List Value} (r : Vals [x] us) : ∃ u, us = [u] ∧ RelV x u := by
  cases r with
  | cons r1 r2 => cases r2; exact ⟨_, rfl, r1⟩
theorem vals2 {x y : V} {us : List Value} (r : Vals [x, y] us) : ∃ u w', us = [u, w'] ∧ RelV x u ∧ RelV y w' := by
  cases r with
  | cons r1 r2 =>
    cases r2 with
    | cons r3 r4 => cases r4; exact ⟨_, _, rfl, r1, r3⟩
theorem call_abs : CallR X (.builtin "abs") (fun xs H Q => ∃ i, xs = [.int i] ∧ Q (.int (if i < 0 then -i else i)) H) := by
  intro pins s σ H xs us Q I r h
  obtain ⟨i, rfl, q⟩ := h
  obtain ⟨u, rfl, t, rfl⟩ := vals1 r
  exact call_abs_int fun u tk => ⟨.int (if i < 0 then -i else i), H, I.tok _, ⟨_, rfl⟩, q⟩
theorem call_min2 (hc : X.calm = true) : CallR X (.builtin "min") (fun xs H Q => ∃ i j, xs = [.int i, .int j] ∧ Q (.int (if j < i then j else i)) H) := by
  intro pins s σ H xs us Q I r h
  obtain ⟨i, j, rfl, q⟩ := h
  obtain ⟨u, w', rfl, ⟨t, rfl⟩, ⟨t', rfl⟩⟩ := vals2 r
  refine min_two_ints (I.ok.hd hc) fun h' tk k => ⟨_, H, I.kept k, ?_, q⟩
  by_cases hj : j < i
  · rw [if_pos hj, if_pos hj]; exact ⟨_, rfl⟩
  · rw [if_neg hj, if_neg hj]; exact ⟨_, rfl⟩
def LenV (K : PySem.W.Frag) (x : V) (H : Hp) (n : Nat) : Prop :=
  match x with
  | .str y => y.length ≤ sizeLine ∧ n = y.length
  | .byt y => y.size ≤ sizeLine ∧ n = y.size
  | .ref p => (∃ xs, SqL K H p xs ∧ n = xs.length) ∨ ∃ xs, SqT K H p xs ∧ n = xs.length
  | _ => False
theorem call_len : CallR X (.builtin "len") (fun xs H Q => ∃ x n, xs = [x] ∧ LenV X.K x H n ∧ Q (.int n) H) := by
  intro pins s σ H xs us Q I r h
  obtain ⟨x, n, rfl, e, q⟩ := h
  obtain ⟨u, rfl, rx⟩ := vals1 r
  have hl := line63
  have hs : sizeLine = 16777216 := sizeLine_eq
  cases x with
  | str y =>
    obtain ⟨t, rfl⟩ := rx
    obtain ⟨hy, e'⟩ : y.length ≤ sizeLine ∧ n = y.length := e
    subst e'
    exact len_str (by omega) ⟨.int _, H, I.tok _, ⟨_, rfl⟩, q⟩
  | byt y =>
    obtain ⟨t, rfl⟩ := rx
    obtain ⟨hy, e'⟩ : y.size ≤ sizeLine ∧ n = y.size := e
    subst e'
    exact PySem.W.len_bytes (by omega) ⟨.int _, H, I.tok _, ⟨_, rfl⟩, q⟩
  | ref p =>
    cases rx
    have e' : (∃ xs, SqL X.K H p xs ∧ n = xs.length) ∨ ∃ xs, SqT X.K H p xs ∧ n = xs.length := e
    rcases e' with ⟨xs, hx, e'⟩ | ⟨xs, hx, e'⟩
    · subst e'
      obtain ⟨its, r', pl, hz⟩ := I.list hx
      have hlen := r'.length
      exact Calls.call_len_list pl.isList (by simp only [List.size_toArray]; omega) ⟨.int xs.length, H, I.tok _, ⟨_, by simp only [List.size_toArray]; rw [hlen]⟩, q⟩
    · subst e'
      obtain ⟨its, r', pl, hz⟩ := I.tuple hx
      have hlen := r'.length
      exact len_tuple pl (by simp only [List.size_toArray]; omega) ⟨.int xs.length, H, I.tok _, ⟨_, by simp only [List.size_toArray]; rw [hlen]⟩, q⟩
  | _ => exact (show False from e).elim
end
end L2
namespace L2
open PySem PySem.Spec PyProof.Rows
section
variable {prog : Program} {w : World} {A : Around} {E : Value → Shared → Prop} {s : Shared} {K : PySem.W.Frag} {x dx C f : Addr} {mA : Str → Option Value} {name : Str} {v : Value}
end
section
variable {P : Program} {w : World} {H H' : Hp} {h h' : Heap} {a C dx : Addr} {fs fs' : List (Str × V)}
end
structure Cls (K : PySem.W.Frag) (C : Addr) : Prop where
  pg : PySem.W.plainGet K C Str.empty = true
  hd : PySem.W.hasDictIn K C = true
  po : PySem.W.plainOver K C = true
  sa : PySem.W.findIn K (.ref C) "__setattr__" = some (some (.builtin "object.__setattr__"))
theorem Cls.get {K : PySem.W.Frag} {C : Addr} (c : Cls K C) (f : Str) : PySem.W.plainGet K C f = true := c.pg
section
variable {X : Cx} {pins : List (Addr × Obj)} {σ : St} {H : Hp} {s : Shared} {a C dx : Addr} {fs : List (Str × V)} {f : Str} {v : V} {A : Around} {E : Value → Shared → Prop}
end
section
variable {X : Cx} {o e value : Expr} {f : Str} {pos pos' tpos : Pos} {ta tv : TE}
end
section
variable {X : Cx} {pins : List (Addr × Obj)} {σ : St} {H : Hp} {s : Shared} {A : Around} {E : Value → Shared → Prop} {Q : Value → Shared → Prop} {c : Value} {b : Bool}
end
end L2
namespace L2
open PySem PySem.Spec PyProof.Rows
structure Room (k : Nat) (A : Around) : Prop where
  hd : A.handled = none
  dp : A.depth + 3 * k + 5 < recursionLimit
  un : A.units + 16 * k + 200 < cLine
  gd : A.guards = some []
theorem Room.mono {j k : Nat} {A : Around} (r : Room k A) (h : j ≤ k) : Room j A := ⟨r.hd, by have := r.dp; omega, by have := r.un; omega, r.gd⟩
theorem Room.deeper {k : Nat} {A : Around} (r : Room (k + 1) A) (env : Env) : Room k (A.deeper env) :=
  ⟨r.hd, by have := r.dp; show A.depth + 1 + 3 * k + 5 < _; omega, by have := r.un; show A.units + 3 + 16 * k + 200 < _; omega, r.gd⟩
theorem Room.in1 {k : Nat} {A : Around} (r : Room (k + 1) A) : Room k A.in1 :=
  ⟨r.hd, by have := r.dp; show A.depth + 3 * k + 5 < _; omega, by have := r.un; show A.units + 1 + 16 * k + 200 < _; omega, r.gd⟩
theorem Room.depth {k : Nat} {A : Around} (r : Room k A) : A.depth < recursionLimit := by have := r.dp; omega
theorem Room.units {k : Nat} {A : Around} (r : Room k A) : A.units + 64 < cLine := by have := r.un; omega
def tNil : TA := fun _ H Q => Q [] H
def tCons (ta : TE) (tr : TA) : TA := fun σ H Q => ta σ H fun x H1 => tr σ H1 fun xs H2 => Q (x :: xs) H2
section
variable {X : Cx} {e : Expr} {es : List Expr} {te : TE} {t : TA} {pos : Pos}
theorem pa_nil : PA X [] tNil := fun _ _ _ _ H Q I h => Calls.spliced_nil ⟨[], H, I, .nil, h⟩
theorem pa_cons (ha : PE X e te) (hr : PA X es t) (hs : starEach (e :: es) X.env = (false, eval e X.env) :: starEach es X.env := by rfl) : PA X (e :: es) (tCons te t) := by
  intro pos pins s σ H Q I h
  rw [hs]
  show wpAny _ _ (spliced ((false, eval e X.env) :: backTo pos (starEach es X.env))) _ _ s
  refine Calls.spliced_cons (thn (ha pins s σ H _ I h) fun u s1 ⟨x, H1, I1, r1, q1⟩ => ?_)
  exact thn (hr pos pins s1 σ H1 _ I1 q1) fun us s2 ⟨xs, H2, I2, r2, q2⟩ => ⟨x :: xs, H2, I2, .cons r1 r2, q2⟩
def tTup (t : TA) : TE := fun σ H Q => t σ H fun xs H1 => xs.length ≤ sizeLine ∧ ∀ p, H1 p = none → Q (.ref p) (upd H1 p (.tup xs))
def tLst (t : TA) : TE := fun σ H Q => t σ H fun xs H1 => xs.length ≤ sizeLine ∧ ∀ p, H1 p = none → Q (.ref p) (upd H1 p (.lst xs))
theorem pe_tup {x1} (h : PA X es t) : PE X (.Tuple es x1 pos) (tTup t) := by
  intro pins s σ H Q I hq
  refine wpAny_Tuple_spliced (thn (h pos pins s σ H _ I hq) fun us s1 ⟨xs, H1, I1, r, z, q⟩ => ⟨by rw [← r.length]; exact z, ?_⟩)
  have hf : H1 s1.heap.objs.size = none := I1.hok.fresh (Nat.le_refl _)
  refine ⟨.ref s1.heap.objs.size, upd H1 s1.heap.objs.size (.tup xs), I1.laid (t' := s1.toks) (fun b u e => Heap.get?_push_of_some _ e) (Nat.le_refl _) ?_, rfl, q _ hf⟩
  exact ⟨z, us, r, ⟨_, Heap.get?_push_size _ rfl, rfl, _, rfl⟩⟩
theorem pe_lst (h : PA X es t) : PE X (.List es pos) (tLst t) := by
  intro pins s σ H Q I hq
  refine wpAny_List_spliced (thn (h pos pins s σ H _ I hq) fun us s1 ⟨xs, H1, I1, r, z, q⟩ => ⟨by rw [← r.length]; exact z, ?_⟩)
  have hf : H1 s1.heap.objs.size = none := I1.hok.fresh (Nat.le_refl _)
  refine ⟨.ref s1.heap.objs.size, upd H1 s1.heap.objs.size (.lst xs), I1.laid (t' := s1.toks) (fun b u e => Heap.get?_push_of_some _ e) (Nat.le_refl _) ?_, rfl, q _ hf⟩
  exact ⟨z, us, 0, r, Heap.get?_push_size _ rfl⟩
end
abbrev Sp := List V → Hp → VK → XK → Prop
abbrev CXT := List Env → Hp → Shared → XK → Value → Shared → Prop
structure Env0 (P : Program) (w : World) (K : PySem.W.Frag) (mg : Str → Option Value) (base : Heap) (A : Around) (outer : List Env) (s : Shared) (H : Hp) : Prop where
  frames : A.frames = some outer
  mod : Mod K mg base
  bs : ∀ b o, base.get? b = some o → s.heap.get? b = some o ∧ H b = none
  bsz : base.objs.size ≤ s.heap.objs.size
  funs : s.heap.FunFrames base outer
  frf : ∀ b ∈ frs outer, H b = none
  hok : HOk P w H s.heap
  bare : AllBare s.gens
def CE (outer : List Env) (P : Program) (w : World) (H : Hp) (s : Shared) (Q : VK) (u : Value) (s' : Shared) : Prop :=
  ∃ v H', s'.os = s.os ∧ AllBare s'.gens ∧ Un (frs outer) [] H H' s.heap s'.heap ∧ HOk P w H' s'.heap ∧ RelV v u ∧ Q v H'
def CR (CX : CXT) (outer : List Env) (P : Program) (w : World) (H : Hp) (s : Shared) (Q : VK) (E : XK) (r : Result) (s' : Shared) : Prop :=
  match r with
  | .ok (.ret u) => CE outer P w H s Q u s'
  | .ok _ => False
  | .error e => CX outer H s E e s'
structure FnOk (P : Program) (w : World) (K : PySem.W.Frag) (mg : Str → Option Value) (base : Heap) (CX : CXT) (k : Nat) (f : Addr) (fd : FuncData) (ps : List Str) (sp : Sp) : Prop where
  len : ∀ vs H Q E, sp vs H Q E → vs.length = ps.length
  run : ∀ (A : Around) (outer : List Env) (s : Shared) (H : Hp) (args : Args) (us : List Value) (vs : List V) (Q : VK) (E : XK), Room k A → Env0 P w K mg base A outer s H → BindsTo s fd args (ps.zip us) → Vals vs us → sp vs H Q E →
    codeAny (model P w) A (.call (.ref f) args) (CR CX outer P w H s Q E) s
theorem FnOk.mono {P : Program} {w : World} {K : PySem.W.Frag} {mg : Str → Option Value} {base : Heap} {CX : CXT} {j k : Nat} {f : Addr} {fd : FuncData} {ps : List Str} {sp : Sp} (F : FnOk P w K mg base CX j f fd ps sp) (h : j ≤ k) :
    FnOk P w K mg base CX k f fd ps sp := ⟨F.len, fun A outer s H args us vs Q E hr => F.run A outer s H args us vs Q E (hr.mono h)⟩
theorem Env0.in1 {P : Program} {w : World} {K : PySem.W.Frag} {mg : Str → Option Value} {base : Heap} {A : Around} {outer : List Env} {s : Shared} {H : Hp} (e : Env0 P w K mg base A outer s H) :
    Env0 P w K mg base A.in1 outer s H := ⟨e.frames, e.mod, e.bs, e.bsz, e.funs, e.frf, e.hok, e.bare⟩
section
variable {X : Cx} {pins : List (Addr × Obj)} {σ : St} {H : Hp} {s s' : Shared}
theorem Inv.env0 (I : Inv X pins σ H s) : Env0 X.prog X.w X.K X.mg X.base X.A X.stack s H :=
  ⟨I.ok.frames, I.ok.mod, I.bs, Nat.le_trans I.ok.bsz I.sz, I.stack, I.stkFree, I.hok, I.bare⟩
theorem Inv.after {Q : VK} {u : Value} (I : Inv X pins σ H s) (h : CE X.stack X.prog X.w H s Q u s') : EP X pins σ Q u s' := by
  obtain ⟨v, H', os, bare, un, hok, r, q⟩ := h
  obtain ⟨hh, g, d, t, os'⟩ := s'
  obtain rfl : os' = s.os := os
  exact ⟨v, H', I.call (h' := hh) (g' := g) (d' := d) (t' := t) (ch := []) un hok bare (fun b z => absurd z (by simp)), r, q⟩
end
def tCall (sp : Sp) (dvs : List V) (E : XK) (t : TA) : TE := fun σ H Q => t σ H fun vs H1 => sp (vs ++ dvs) H1 Q E
def Binds (K : PySem.W.Frag) (fd : FuncData) (ps : List Str) (ds : List Value) : Prop :=
  ∀ (s : Shared) (us : List Value), K.In s.heap → (us ++ ds).length = ps.length → BindsTo s fd ⟨us, []⟩ (ps.zip (us ++ ds))
theorem Binds.all {K : PySem.W.Frag} {fd : FuncData} {ps : List Str} (h : ∀ us : List Value, us.length = ps.length → bindArgs fd ⟨us, []⟩ = pure (ps.zip us)) : Binds K fd ps [] := fun s us _ hl => by
  rw [List.append_nil] at hl ⊢
  exact .of_eq (h us hl)
def Passes (CX : CXT) (X : Cx) (E : XK) : Prop := ∀ (pins : List (Addr × Obj)) (σ : St) (H : Hp) (s : Shared) (e : Value) (s' : Shared), Inv X pins σ H s → CX X.stack H s E e s' → X.xe e s'
section
variable {X : Cx} {CX : CXT} {k : Nat} {f C : Addr} {fd : FuncData} {ps : List Str} {sp : Sp} {dvs : List V} {ds : List Value} {E : XK} {x m : Str} {p pos apos : Pos} {e o : Expr} {es : List Expr} {ta : TE} {t : TA}
theorem run_fn {pins : List (Addr × Obj)} {σ : St} {H : Hp} {s : Shared} {Q : VK} {us : List Value} {vs : List V} (F : FnOk X.prog X.w X.K X.mg X.base CX k f fd ps sp) (hr : Room k X.A) (hb : Binds X.K fd ps ds) (hd : Vals dvs ds) (hx : Passes CX X E)
    (I : Inv X pins σ H s) (r : Vals vs us) (h : sp (vs ++ dvs) H Q E) : wpAny (model X.prog X.w) X.A (call (.ref f) us) (EP X pins σ Q) X.xe s := by
  have r2 : Vals (vs ++ dvs) (us ++ ds) := r.append hd
  have hl : (us ++ ds).length = ps.length := by rw [← r2.length]; exact F.len _ _ _ _ h
  refine wpAny_call (codeAny_mono (F.run X.A X.stack s H ⟨us, []⟩ (us ++ ds) (vs ++ dvs) Q E hr I.env0 (hb s us I.kIn hl) r2 h) fun r s' hq => ?_)
  cases r with
  | error e => exact hx pins σ H s e s' I hq
  | ok fl =>
    cases fl with
    | ret u => exact I.after hq
    | next => exact False.elim hq
    | brk => exact False.elim hq
    | cont => exact False.elim hq
theorem pe_call (F : FnOk X.prog X.w X.K X.mg X.base CX k f fd ps sp) (hr : Room k X.A) (hg : Gl X x) (hm : X.mg x = some (.ref f)) (hk : PySem.W.keepIn X.K (.ref f) = true) (hb : Binds X.K fd ps ds) (hd : Vals dvs ds) (hx : Passes CX X E)
    (ha : PA X (e :: es) t) (hdb : (x == ("__debug__" : Str)) = false := by decide) (he : starEach (e :: es) X.env = (false, eval e X.env) :: starEach es X.env := by rfl) (hpl : (backTo pos (starEach es X.env)).any (·.1) = false := by rfl) :
    PE X (.Call (.Name x p) (e :: es) [] pos) (tCall sp dvs E t) := by
  intro pins s σ H Q I h
  refine wpAny_Call_Name_kw (ld_glob I hg hm ?_ hdb)
  refine PySem.W.callWith_K (h₀ := X.base) I.ok.mod.kin hk (thn (ha pos pins s σ H _ I h) fun us s1 ⟨vs, H1, I1, r, q⟩ => ⟨I1.kIn, ?_⟩) he hpl
  exact run_fn F hr hb hd hx I1 r q
end
section
variable {X : Cx} {CX : CXT} {k : Nat} {f C : Addr} {fd : FuncData} {ps ks : List Str} {sp : Sp} {E : XK} {x m : Str} {p pos apos kpos : Pos} {e o : Expr} {es : List Expr} {kws : List Keyword} {te ta : TE} {t tk : TA} {nm : Option Str}
variable {g : List Value → List Value → List Value} {gV : List V → List V → List V}
end
structure FnScope (N P : List Str) (sc : Scope) : Prop where
  kind : sc.kind = .function
  co : sc.isCoroutine = false
  gen : sc.isGenerator = false
  nd : N.Nodup
  pre : N.take P.length = P
  par : ∀ x ∈ P, sc.names.lookup x = some .local ∨ sc.names.lookup x = some .cell
  nofree : ∀ y ∈ sc.names, y.2 ≠ .free
theorem bindL_out {kindOf : Str → Option NameKind} {x : Str} : ∀ {binds : List (Str × Value)} {m : Str → Option Value}, (∀ v, (x, v) ∉ binds) → bindL kindOf binds m x = m x
  | [], _, _ => rfl
  | (n, v) :: r, m, h => by
    unfold bindL
    rw [bindL_out fun w hw => h w (List.mem_cons_of_mem _ hw)]
    split
    · have : x ≠ n := by rintro rfl; exact h v List.mem_cons_self
      simp [this]
    · rfl
theorem bindC_out {kindOf : Str → Option NameKind} {x : Str} : ∀ {binds : List (Str × Value)} {m : Str → Option Value}, (∀ v, (x, v) ∉ binds) → bindC kindOf binds m x = m x
  | [], _, _ => rfl
  | (n, v) :: r, m, h => by
    unfold bindC
    rw [bindC_out fun w hw => h w (List.mem_cons_of_mem _ hw)]
    split
    · rfl
    · have : x ≠ n := by rintro rfl; exact h v List.mem_cons_self
      simp [this]
theorem bindL_get {kindOf : Str → Option NameKind} {x : Str} {v : Value} : ∀ {P : List Str} {vs : List Value} {i : Nat} {m : Str → Option Value}, P.Nodup → P[i]? = some x → vs[i]? = some v → kindOf x = some .local →
    bindL kindOf (P.zip vs) m x = some v
  | [], _, _, _, _, h, _, _ => by simp at h
  | _ :: _, [], _, _, _, _, h, _ => by simp at h
  | p :: P, w :: vs, 0, m, nd, h1, h2, hk => by
    simp at h1 h2; subst h1; subst h2
    show bindL kindOf ((p, w) :: P.zip vs) m p = _
    unfold bindL
    rw [bindL_out fun v hv => (List.nodup_cons.mp nd).1 (List.of_mem_zip hv).1, if_pos hk]
    simp
  | p :: P, w :: vs, i + 1, m, nd, h1, h2, hk => by
    show bindL kindOf ((p, w) :: P.zip vs) m x = _
    unfold bindL
    exact bindL_get (i := i) (List.nodup_cons.mp nd).2 (by simpa using h1) (by simpa using h2) hk
theorem bindC_get {kindOf : Str → Option NameKind} {x : Str} {v : Value} : ∀ {P : List Str} {vs : List Value} {i : Nat} {m : Str → Option Value}, P.Nodup → P[i]? = some x → vs[i]? = some v → kindOf x ≠ some .local →
    bindC kindOf (P.zip vs) m x = some v
  | [], _, _, _, _, h, _, _ => by simp at h
  | _ :: _, [], _, _, _, _, h, _ => by simp at h
  | p :: P, w :: vs, 0, m, nd, h1, h2, hk => by
    simp at h1 h2; subst h1; subst h2
    show bindC kindOf ((p, w) :: P.zip vs) m p = _
    unfold bindC
    rw [bindC_out fun v hv => (List.nodup_cons.mp nd).1 (List.of_mem_zip hv).1, if_neg hk]
    simp
  | p :: P, w :: vs, i + 1, m, nd, h1, h2, hk => by
    show bindC kindOf ((p, w) :: P.zip vs) m x = _
    unfold bindC
    exact bindC_get (i := i) (List.nodup_cons.mp nd).2 (by simpa using h1) (by simpa using h2) hk
def start (N : List Str) (vs : List V) : St := vs.map some ++ List.replicate (N.length - vs.length) none
def cxOf (CX : CXT) (P : Program) (w : World) (K : PySem.W.Frag) (mg : Str → Option Value) (base : Heap) (N : List Str) (qual : Str) (scope : Scope) (f : Addr) (cd : Value) (A : Around) (outer : List Env) (s : Shared) (H : Hp) (E : XK) : Cx where
  prog := P
  w := w
  K := K
  mg := mg
  base := base
  A := A.deeper (envOfC qual scope s.heap.objs.size f cd)
  N := N
  s₀ := s
  H₀ := H
  env := envOfC qual scope s.heap.objs.size f cd
  outer := outer
  stack := envOfC qual scope s.heap.objs.size f cd :: outer
  ex := []
  calm := true
  fn := fun _ => true
  pn := []
  xe := fun e s' => wpAny (model P w) (A.deeper (envOfC qual scope s.heap.objs.size f cd)) (leaving (envOfC qual scope s.heap.objs.size f cd) e) (fun _ s'' => CX outer H s E e s'') (fun e' s'' => CX outer H s E e' s'') s'
theorem cell_has {sc : Scope} {n : Nat} {x : Str} (h : sc.names.lookup x = some .cell) : ∃ c, (cellsFrom n sc.names []).lookup x = some c := by
  have q := PySem.W.cellsFrom_some sc.names n [] (.inl h)
  exact Option.isSome_iff_exists.mp q
theorem inv_start {CX : CXT} {P : Program} {w : World} {K : PySem.W.Frag} {mg : Str → Option Value} {base : Heap} {N ps : List Str} {qual : Str} {scope : Scope} {f : Addr} {cd : Value} {A : Around} {outer : List Env} {s s1 : Shared} {H : Hp} {E : XK} {us : List Value} {vs : List V}
    (S : FnScope N ps scope) (hd : A.handled = none) (e0 : Env0 P w K mg base A outer s H) (hl : vs.length = ps.length) (r : Vals vs us)
    (x : InCallC s s.heap.objs.size (bindL (envOfC qual scope s.heap.objs.size f cd).kindOf (ps.zip us) fun _ => none) (cellsFrom (s.heap.objs.size + 1) scope.names []) (bindC (envOfC qual scope s.heap.objs.size f cd).kindOf (ps.zip us) fun _ => none) s1) :
    Inv (cxOf CX P w K mg base N qual scope f cd A outer s H E) [] (start N vs) H s1 := by
  have hpl : ps.length ≤ N.length := by have := congrArg List.length S.pre; rw [List.length_take] at this; omega
  obtain ⟨h1, tk, rfl, hk⟩ := x.done
  have noA : ∀ b : Addr, b ∉ (cxOf CX P w K mg base N qual scope f cd A outer s H E).ex := fun b z => absurd (show b ∈ ([] : List Addr) from z) (by simp)
  refine ⟨⟨e0.mod, S.kind, rfl, rfl, Nat.le_refl _, fun y z c h1 h2 => ?_, fun y hy => ?_, fun y c _ h => ?_, fun _ => hd, Around.frames_deeper e0.frames, .inr ⟨rfl, rfl⟩, fun b z => absurd z (noA b), e0.bs, e0.bsz, fun b _ _ => noA b, fun b z => absurd z (noA b), e0.funs, e0.frf⟩,
    rfl, e0.bare, Un.kept hk, ⟨_, x.toInCall.ns, fun i y v h1 h2 h3 => ?_⟩, fun y c h => ⟨_, x.cell y c h⟩, e0.hok.fresh (Nat.le_refl _), fun y c h => ?_, fun p hp => absurd (show p ∈ ([] : List (Addr × Obj)) from hp) (by simp), e0.hok.kept hk, ?_⟩
  · exact name_of_addr x.apart (PySem.mem_of_lookup h1) (PySem.mem_of_lookup h2)
  · have hy : scope.names.lookup y = some .cell ∨ scope.names.lookup y = some .free := hy
    rcases hy with hy | hy
    · exact cell_has hy
    · exact absurd rfl (S.nofree _ (PySem.mem_of_lookup hy))
  · exact Nat.le_of_lt (x.above y c (PySem.mem_of_lookup h))
  · have hi : i < vs.length := by
      unfold start at h2
      by_cases hi : i < vs.length
      · exact hi
      · rw [List.getElem?_append_right (by simpa using hi)] at h2
        rw [List.getElem?_replicate] at h2
        split at h2 <;> cases h2
    have ha : vs[i]? = some v := by
      unfold start at h2
      rw [List.getElem?_append_left (by simpa using hi), List.getElem?_map] at h2
      cases e : vs[i]? with
      | none => rw [e] at h2; cases h2
      | some a => rw [e] at h2; cases h2; rfl
    obtain ⟨u, hu, rv⟩ := r.get ha
    have hp : ps[i]? = some y := by
      rw [← S.pre, List.getElem?_take_of_lt (by omega)]; exact h1
    have ndP : ps.Nodup := by rw [← S.pre]; exact S.nd.sublist (List.take_sublist _ _)
    refine ⟨u, rv, ?_⟩
    rcases S.par y (List.mem_of_getElem? hp) with k | k
    · exact .inl ⟨k, bindL_get ndP hp hu k⟩
    · obtain ⟨c, e⟩ := cell_has (n := s.heap.objs.size + 1) k
      refine .inr ⟨.inl k, c, e, ?_⟩
      have q := x.cell y c e
      rw [bindC_get ndP hp hu (by show scope.names.lookup y ≠ _; rw [k]; decide)] at q
      exact q
  · exact e0.hok.fresh (Nat.le_of_lt (x.above y c (PySem.mem_of_lookup h)))
  · unfold start
    show _ = N.length
    rw [List.length_append, List.length_map, List.length_replicate]
    omega
theorem fn_of {CX : CXT} {P : Program} {w : World} {K : PySem.W.Frag} {mg : Str → Option Value} {base : Heap} {k : Nat} {f : Addr} {name qual : Str} {params : Arguments} {body : List Stmt} {scope : Scope} {dV kV doc pm cdv ct oc : Value} {an od : Option Addr}
    {osl : Array (Option Value)} {N ps : List Str} {sp : Sp} (lk : K.lookup f = some ⟨oc, od, .func (PySem.W.fnOf name qual params body scope dV kV doc pm an cdv ct), osl⟩) (hcd : PySem.W.codeIn K cdv qual = true) (S : FnScope N ps scope)
    (len : ∀ vs H Q E, sp vs H Q E → vs.length = ps.length)
    (hbody : ∀ (A : Around) (outer : List Env) (s : Shared) (H : Hp) (vs : List V) (Q : VK) (E : XK), Room k (A.deeper (envOfC qual scope s.heap.objs.size f cdv)) → sp vs H Q E →
      ∃ t, PSs (cxOf CX P w K mg base N qual scope f cdv A outer s H E) body t ∧ t { nx := fun _ H' => Q .non H', rt := Q } (start N vs) H) :
    FnOk P w K mg base CX (k + 1) f (PySem.W.fnOf name qual params body scope dV kV doc pm an cdv ct) ps sp := by
  refine ⟨len, fun A outer s H args us vs Q E hr e0 hb r hsp => ?_⟩
  have hl := len _ _ _ _ hsp
  have KX : K.In s.heap := e0.mod.kin.keeps fun b o e => (e0.bs b o e).1
  have lim : s.heap.NoLimit := e0.mod.nolimit.keeps fun b o e => (e0.bs b o e).1
  have hkind : ∀ y ∈ ps.zip us, scope.names.lookup y.1 = some .local ∨ (scope.names.lookup y.1 = some .cell ∧ ((cellsFrom (s.heap.objs.size + 1) scope.names []).lookup y.1).isSome = true) := fun ⟨n, v⟩ hy => by
    rcases S.par n (List.of_mem_zip hy).1 with q | q
    · exact .inl q
    · exact .inr ⟨q, PySem.W.cellsFrom_some _ _ _ (.inl q)⟩
  refine codeAny_call_function hr.depth (KX _ _ lk) rfl S.co S.gen rfl (PySem.W.codeRec_of KX hcd) (hb _ _ _ _ ?_)
  refine wpAny_newFunctionEnv_cells S.kind hkind fun env he s1 x => ?_
  subst he
  refine ⟨lim.keeps x.toInCall.keep, codeAny_func ?_⟩
  obtain ⟨t, ht, hq⟩ := hbody A outer s H vs Q E (hr.deeper _) hsp
  have I : Inv (cxOf CX P w K mg base N qual scope f cdv A outer s H E) [] (start N vs) H s1 := inv_start S hr.hd e0 hl r x
  refine wpAny_mono (ht [] s1 (start N vs) H _ I hq) (fun fl s' hs => ?_) fun e s' hs => hs
  have fin : ∀ {σ' : St} {H' : Hp} {v : V} {u : Value}, Inv (cxOf CX P w K mg base N qual scope f cdv A outer s H E) [] σ' H' s' → RelV v u → Q v H' → CE outer P w H s Q u s' :=
    fun {σ' H' v u} J rv q => ⟨v, H', J.os, J.bare, J.base, J.hok, rv, q⟩
  cases fl with
  | ret u =>
    obtain ⟨v, σ', H', J, rv, q⟩ := hs
    exact fin J rv q
  | next =>
    obtain ⟨σ', H', J, q⟩ := hs
    exact fin (v := V.non) (u := Value.none) J rfl q
  | brk =>
    obtain ⟨_, _, _, q⟩ := hs
    exact False.elim q
  | cont =>
    obtain ⟨_, _, _, q⟩ := hs
    exact False.elim q
end L2
namespace L2
open PySem PySem.Spec PyProof.Rows
section
variable {X : Cx} {x : Str} {p pos : Pos} {e : Expr} {es : List Expr} {t : TA} {id T : String} {r : List V → Hp → VK → Prop}
def tCB (r : List V → Hp → VK → Prop) (t : TA) : TE := fun σ H Q => t σ H fun vs H1 => r vs H1 Q
theorem pe_callB (hc : CallR X (.builtin id) r) (hg : Gl X x) (hm : X.mg x = none) (hv : bootBuiltins x = some (.builtin id)) (ha : PA X (e :: es) t) (hn : x ≠ "__name__" := by decide) (hdb : (x == ("__debug__" : Str)) = false := by decide)
    (he : starEach (e :: es) X.env = (false, eval e X.env) :: starEach es X.env := by rfl) (hpl : (backTo pos (starEach es X.env)).any (·.1) = false := by rfl) : PE X (.Call (.Name x p) (e :: es) [] pos) (tCB r t) := by
  intro pins s σ H Q I h
  refine wpAny_Call_Name_kw (ld_blt I hg hm hv ?_ hn hdb)
  exact PyProof.Rows.callWith_builtin1 (thn (ha pos pins s σ H _ I h) fun us s1 ⟨vs, H1, I1, r1, q1⟩ => hc pins s1 σ H1 vs us Q I1 r1 q1) he hpl
theorem pe_callTy (hc : CallR X (.type T) r) (hg : Gl X x) (hm : X.mg x = none) (hv : bootBuiltins x = some (.type T)) (ha : PA X (e :: es) t) (hn : x ≠ "__name__" := by decide) (hdb : (x == ("__debug__" : Str)) = false := by decide)
    (he : starEach (e :: es) X.env = (false, eval e X.env) :: starEach es X.env := by rfl) (hpl : (backTo pos (starEach es X.env)).any (·.1) = false := by rfl) : PE X (.Call (.Name x p) (e :: es) [] pos) (tCB r t) := by
  intro pins s σ H Q I h
  refine wpAny_Call_Name_kw (ld_blt I hg hm hv ?_ hn hdb)
  exact PyProof.Rows.callWith_type1 (thn (ha pos pins s σ H _ I h) fun us s1 ⟨vs, H1, I1, r1, q1⟩ => hc pins s1 σ H1 vs us Q I1 r1 q1) he hpl
end
end L2
namespace HT
open PySem PyProof.Rows
section
open PySem.SeqAt
open PySem.AutoSeq1 (wpAny_loadPart')
open PySem.MeetsSeq PySem.MeetsSeq2 PySem.MeetsSeq3
end
section
variable {prog : Program} {w : World} {A : Around} {E : Value → Shared → Prop} {s : Shared}
theorem cat_tup {t b : Addr} {vs ws : List Value} {Q : Value → Shared → Prop} (ht : IsTup s.heap t vs.toArray) (hb : IsTup s.heap b ws.toArray) (hv : vs ≠ [])
    (h1 : ws = [] → Q (.ref t) s) (h2 : ws ≠ [] → Q (.ref s.heap.objs.size) { s with heap := s.heap.push { cls := .type "tuple", data := .seq (vs ++ ws).toArray } })
    (hsz : vs.length + ws.length ≤ sizeLine) : wpAny (model prog w) A (binaryOp .Add (.ref t) (.ref b)) Q E s := by
  obtain ⟨⟨cls, dd, data, sl⟩, ho, hc, n, hd⟩ := id ht
  obtain ⟨⟨cls2, dd2, data2, sl2⟩, ho2, hc2, n2, hd2⟩ := id hb
  simp only at hc hd hc2 hd2
  subst hc hd hc2 hd2
  have e : vs.toArray ++ ws.toArray = (vs ++ ws).toArray := by simp
  by_cases hw : ws = []
  · exact concat_meets ⟨_, ho, rfl⟩ ⟨_, ho2, rfl⟩ noFill_tuple_add seq_tuple_add PySem.F.slot_tuple_add PySem.F.entry_tuple_add (PySem.F.args_tuple_add_2 _ _)
      (tuple_addW1 t b vs.toArray ws.toArray n n2 dd dd2 sl sl2 (by simpa using hv) (by simp [hw])) ⟨ho, ho2, h1 hw⟩
  · refine concat_meets ⟨_, ho, rfl⟩ ⟨_, ho2, rfl⟩ noFill_tuple_add seq_tuple_add PySem.F.slot_tuple_add PySem.F.entry_tuple_add (PySem.F.args_tuple_add_2 _ _)
      (tuple_addW2 t b vs.toArray ws.toArray n n2 dd dd2 sl sl2 (by simpa using hv) (by simpa using hw) (by rw [List.size_toArray, List.size_toArray]; exact hsz)) ⟨ho, ho2, ?_⟩
    rw [e]
    exact h2 hw
def sIx (n d : Nat) : Option Int → Nat
  | none => d
  | some v => if v < 0 then (v + (n : Int)).toNat else min v.toNat n
theorem sIx_le (n d : Nat) (hd : d ≤ n) (o : Option Int) : sIx n d o ≤ n := by
  cases o with
  | none => exact hd
  | some v =>
    show (if v < 0 then (v + (n : Int)).toNat else min v.toNat n) ≤ n
    by_cases hv : v < 0
    · rw [if_pos hv]; omega
    · rw [if_neg hv]; exact Nat.min_le_right _ _
theorem clip_eq (v : Int) (n d : Nat) : (if v < 0 then max (v + (n : Int)) 0 else min v (n : Int)) = ((sIx n d (some v) : Nat) : Int) := by
  show (if v < 0 then max (v + (n : Int)) 0 else min v (n : Int)) = (((if v < 0 then (v + (n : Int)).toNat else min v.toNat n) : Nat) : Int)
  by_cases hv : v < 0
  · simp only [if_pos hv]; omega
  · simp only [if_neg hv]; omega
theorem adjust_gen (lo hi : Option Int) (n : Nat) : Builtin.Slice.sliceAdjust lo hi 1 (n : Int) = (((sIx n 0 lo : Nat) : Int), ((sIx n n hi : Nat) : Int)) := by
  have h1 : ¬ ((1 : Int) < 0) := by omega
  unfold Builtin.Slice.sliceAdjust
  simp only [h1, if_false]
  refine Prod.ext ?_ ?_
  · cases lo with
    | none => rfl
    | some v => exact clip_eq v n 0
  · cases hi with
    | none => rfl
    | some v => exact clip_eq v n n
theorem places_gen (i j : Nat) : Builtin.Slice.slicePlaces (i : Int) (j : Int) 1 = j - i := by
  unfold Builtin.Slice.slicePlaces
  have h1 : (1 : Int) > 0 := by omega
  simp only [h1, if_true, Int.ediv_one]
  split <;> omega
theorem slicePart_ {v : Value} {o : Option Int} {Q : Option Int → Shared → Prop} (p : IsPart v o) (h : Q o s) : wpAny (model prog w) A (Builtin.Slice.slicePartIndex v) Q E s := by
  cases p with
  | none => exact slicePart_none h
  | int i t => exact slicePart_int h
theorem sliceApplied_gen {sl : Addr} {vl vu : Value} {lo hi : Option Int} {n : Nat} {Q : Int × Int × Nat → Shared → Prop} (hs : s.heap.IsSliceOf sl vl vu .none) (pl : IsPart vl lo) (pu : IsPart vu hi)
    (h : Q (((sIx n 0 lo : Nat) : Int), 1, sIx n n hi - sIx n 0 lo) s) : wpAny (model prog w) A (Builtin.Slice.sliceApplied (.ref sl) (pure (n : Int))) Q E s := by
  obtain ⟨os, hos, hcs, hds⟩ := id hs
  unfold Builtin.Slice.sliceApplied Builtin.Slice.sliceFields
  refine wpAny_bind (wpAny_bind (wpAny_field hos hds (x := vl) rfl (wpAny_bind (wpAny_field hos hds (x := vu) rfl (wpAny_bind (wpAny_field hos hds (x := .none) rfl (wpAny_pure ?_)))))))
  refine wpAny_bind (slicePart_none ?_)
  show wpAny _ _ (if ((1 : Int) == 0) = true then _ else _) _ _ s
  rw [if_neg (by decide)]
  refine wpAny_bind (slicePart_ pl (wpAny_bind (slicePart_ pu (wpAny_bind (wpAny_pure ?_)))))
  show wpAny _ _ (match Builtin.Slice.sliceAdjust lo hi 1 (n : Int) with | (lo, hi) => pure (lo, (1 : Int), Builtin.Slice.slicePlaces lo hi 1)) _ _ s
  rw [adjust_gen lo hi n]
  show wpAny _ _ (pure (((sIx n 0 lo : Nat) : Int), (1 : Int), Builtin.Slice.slicePlaces ((sIx n 0 lo : Nat) : Int) ((sIx n n hi : Nat) : Int) 1)) _ _ s
  rw [places_gen]
  exact wpAny_pure h
theorem pick_gen (xs : Array Value) (i k : Nat) : ((List.range k).filterMap fun (m : Nat) => xs[((i : Int) + (m : Int) * 1).toNat]?).toArray = ((xs.toList.drop i).take k).toArray := by
  have e : (fun (m : Nat) => xs[((i : Int) + (m : Int) * 1).toNat]?) = fun m => xs[i + m]? := by
    funext m
    have : ((i : Int) + (m : Int) * 1).toNat = i + m := by omega
    rw [this]
  rw [e]
  have := pick_run xs i k
  rw [List.filterMap_map] at this
  have e2 : ((fun x => xs[x]?) ∘ fun x => i + x) = fun m => xs[i + m]? := rfl
  rw [e2] at this
  rw [this]
theorem getItem_tuple_cut {t sl : Addr} {items : Array Value} {vl vu : Value} {lo hi : Option Int} {Q : Value → Shared → Prop} (ht : IsTup s.heap t items) (hs : s.heap.IsSliceOf sl vl vu .none) (pl : IsPart vl lo) (pu : IsPart vu hi)
    (hw : ¬ (sIx items.size 0 lo = 0 ∧ sIx items.size items.size hi = items.size))
    (h : Q (.ref s.heap.objs.size) { s with heap := s.heap.push { cls := .type "tuple", data := .seq ((items.toList.drop (sIx items.size 0 lo)).take (sIx items.size items.size hi - sIx items.size 0 lo)).toArray } })
    (hsz : items.size ≤ sizeLine) : wpAny (model prog w) A (getItem (.ref t) (.ref sl)) Q E s := by
  have htake : sizeOk (.seq ((items.toList.drop (sIx items.size 0 lo)).take (sIx items.size items.size hi - sIx items.size 0 lo)).toArray) := by
    show ((items.toList.drop (sIx items.size 0 lo)).take (sIx items.size items.size hi - sIx items.size 0 lo)).toArray.size ≤ sizeLine
    rw [List.size_toArray, List.length_take, List.length_drop, Array.length_toList]
    omega
  have hj : sIx items.size items.size hi ≤ items.size := sIx_le _ _ (Nat.le_refl _) hi
  obtain ⟨os, hos, hcs, hds⟩ := id hs
  have hTs : s.TypeIs (.ref sl) "slice" := ⟨os, hos, hcs⟩
  unfold getItem
  try with_reducible refine wpAny_holding ?_
  first | refine wpAny_bind (wpAny_pure ?_) | skip
  refine wpAny_bind (wpAny_sequenceKey ht.typeIs (by decide) ?_)
  refine wpAny_bind (wpAny_callSpecial?_slot (name := Str.ofString "__getitem__") ht.typeIs PyProof.Rows.slot_tuple_getitem
    (wpAny_call_entry PyProof.Rows.slot_tuple_getitem ht.typeIs entry_tuple_getitem ?_ (args_tuple_getitem _ _)))
  show wpAny _ _ (Builtin.Tuple.tupleItemsOf (.ref t) >>= _) _ _ s
  refine wpAny_bind (tupleItemsOf_ ht ?_)
  refine wpAny_bind (wpAny_typeOf hTs ?_)
  rw [if_pos (by decide)]
  refine wpAny_bind (sliceApplied_gen hs pl pu ?_)
  have hno : ¬ ((((sIx items.size 0 lo : Nat) : Int) == 0 && (1 : Int) == 1 && (sIx items.size items.size hi - sIx items.size 0 lo) == items.size) = true) := by
    intro q
    rw [Bool.and_eq_true, Bool.and_eq_true] at q
    have q1 : ((sIx items.size 0 lo : Nat) : Int) = 0 := eq_of_beq q.1.1
    have q2 : sIx items.size items.size hi - sIx items.size 0 lo = items.size := eq_of_beq q.2
    exact hw ⟨by omega, by omega⟩
  show wpAny _ _ (if (((sIx items.size 0 lo : Nat) : Int) == 0 && (1 : Int) == 1 && (sIx items.size items.size hi - sIx items.size 0 lo) == items.size) = true then _ else _) _ _ s
  rw [if_neg hno, pick_gen]
  first
    | exact wpAny_bind (m := Builtin.Tuple.tupleExact _) (wpAny_newObj_type (wpAny_pure ⟨_, rfl, wpAny_pure h⟩) htake)
    | exact wpAny_bind (m := Builtin.Tuple.tupleExact _) (wpAny_newObj_type (wpAny_bind (wpAny_pure (wpAny_pure ⟨_, rfl, wpAny_pure h⟩))) htake)
    | exact wpAny_bind (wpAny_bind (m := Builtin.Tuple.tupleExact _) (wpAny_newObj_type (wpAny_pure (wpAny_pure ⟨_, rfl, wpAny_pure h⟩)) htake))
    | exact wpAny_bind (wpAny_bind (m := Builtin.Tuple.tupleExact _) (wpAny_newObj_type (wpAny_pure ⟨_, rfl, wpAny_pure h⟩) htake))
end
end HT
namespace L2
open PySem PySem.Spec PyProof.Rows
abbrev TO := St → Hp → (Option Int → Hp → Prop) → Prop
def PO (X : Cx) (e : Option Expr) (t : TO) : Prop :=
  ∀ (pins : List (Addr × Obj)) (s : Shared) (σ : St) (H : Hp) (Q : Option Int → Hp → Prop), Inv X pins σ H s → t σ H Q →
    wpAny (model X.prog X.w) X.A (evalPart e X.env) (fun u s' => ∃ o H', Inv X pins σ H' s' ∧ IsPart u o ∧ Q o H') X.xe s
def tNoPart : TO := fun _ H Q => Q none H
def tPart (t : TE) : TO := fun σ H Q => t σ H fun x H1 => ∃ i, x = .int i ∧ Q (some i) H1
section
variable {X : Cx} {e : Expr} {te : TE} {lo hi : Option Expr} {tl th : TO} {pos p2 : Pos}
theorem po_none : PO X none tNoPart := by
  intro pins s σ H Q I h
  rw [evalPart_none]
  exact wpAny_pure ⟨none, H, I, .none, h⟩
theorem po_some (h : PE X e te) : PO X (some e) (tPart te) := by
  intro pins s σ H Q I hw
  rw [evalPart_some]
  refine thn (h pins s σ H _ I hw) fun u s1 ⟨x, H1, I1, r1, q1⟩ => ?_
  obtain ⟨i, rfl, q⟩ := q1
  obtain ⟨t, rfl⟩ := r1
  exact ⟨some i, H1, I1, .int i t, q⟩
def SlR (X : Cx) (r : V → Option Int → Option Int → Hp → VK → Prop) : Prop :=
  ∀ (pins : List (Addr × Obj)) (s : Shared) (σ : St) (H : Hp) (x : V) (v vl vu : Value) (lo hi : Option Int) (sl : Addr) (Q : VK), Inv X pins σ H s → RelV x v → s.heap.IsSliceOf sl vl vu .none → IsPart vl lo → IsPart vu hi → r x lo hi H Q →
    ∃ T id, typeLookup (.type T) "__getitem__" = pure (some (.builtin id)) ∧ s.TypeIs v T ∧ wpAny (model X.prog X.w) X.A (getItem v (.ref sl)) (EP X pins σ Q) X.xe s
theorem SlR.or {r r' : V → Option Int → Option Int → Hp → VK → Prop} (h : SlR X r) (h' : SlR X r') : SlR X (fun x lo hi H Q => r x lo hi H Q ∨ r' x lo hi H Q) := by
  intro pins s σ H x v vl vu lo hi sl Q I rx hs pl pu q
  rcases q with q | q
  · exact h pins s σ H x v vl vu lo hi sl Q I rx hs pl pu q
  · exact h' pins s σ H x v vl vu lo hi sl Q I rx hs pl pu q
def tSl (r : V → Option Int → Option Int → Hp → VK → Prop) (te : TE) (tl th : TO) : TE := fun σ H Q => te σ H fun x H1 => tl σ H1 fun l H2 => th σ H2 fun u H3 => r x l u H3 Q
theorem pe_slice {r : V → Option Int → Option Int → Hp → VK → Prop} (hr : SlR X r) (he : PE X e te) (hl : PO X lo tl) (hu : PO X hi th) : PE X (.Subscript e (.Slice lo hi none p2) pos) (tSl r te tl th) := by
  intro pins s σ H Q I h
  refine Subscript_ (thn (he pins s σ H _ I h) fun v s1 ⟨x, H1, I1, r1, q1⟩ => ?_)
  refine wpAny_Slice (thn (hl pins s1 σ H1 _ I1 q1) fun vl s2 ⟨l, H2, I2, pl, q2⟩ => thn (hu pins s2 σ H2 _ I2 q2) fun vu s3 ⟨u, H3, I3, pu, q3⟩ => ?_)
  rw [evalPart_none]
  refine wpAny_pure ?_
  have I4 : Inv X pins σ H3 { s3 with heap := s3.heap.push { cls := .type "slice", data := .fields #[vl, vu, .none] } } := I3.kept (t' := s3.toks) fun b ob q => Heap.get?_push_of_some _ q
  obtain ⟨T, id, hT, ht, hg⟩ := hr pins { s3 with heap := s3.heap.push { cls := .type "slice", data := .fields #[vl, vu, .none] } } σ H3 x v vl vu l u s3.heap.objs.size Q I4 r1 (Heap.IsSliceOf.new ..) pl pu q3
  show wpAny (model X.prog X.w) X.A (subscriptTail e (.Slice lo hi none p2) v (.ref s3.heap.objs.size)) (EP X pins σ Q) X.xe { s3 with heap := s3.heap.push { cls := .type "slice", data := .fields #[vl, vu, .none] } }
  exact tail_any (ops := [.ref s3.heap.objs.size, v]) ht hT hg (by with_unfolding_all rfl)
def cutV (xs : List V) (lo hi : Option Int) : List V := (xs.drop (HT.sIx xs.length 0 lo)).take (HT.sIx xs.length xs.length hi - HT.sIx xs.length 0 lo)
theorem cutV_length (xs : List V) (lo hi : Option Int) : (cutV xs lo hi).length ≤ xs.length := by
  unfold cutV
  rw [List.length_take, List.length_drop]
  omega
def rSlT (K : PySem.W.Frag) : V → Option Int → Option Int → Hp → VK → Prop := fun x lo hi H Q => ∃ a xs, x = .ref a ∧ SqT K H a xs ∧
  ¬ (HT.sIx xs.length 0 lo = 0 ∧ HT.sIx xs.length xs.length hi = xs.length) ∧ ∀ p, H p = none → Q (.ref p) (upd H p (.tup (cutV xs lo hi)))
theorem sl_tup : SlR X (rSlT X.K) := by
  intro pins s σ H x v vl vu lo hi sl Q I rx hs pl pu h
  obtain ⟨a, xs, rfl, hx, hw, q⟩ := h
  cases rx
  obtain ⟨its, r, ht, hz⟩ := I.tuple hx
  have hlen : its.toArray.size = xs.length := by rw [List.size_toArray]; exact r.length.symm
  refine ⟨"tuple", _, PyProof.Rows.slot_tuple_getitem.lookup, ht.typeIs, ?_⟩
  refine HT.getItem_tuple_cut ht hs pl pu (by rw [hlen]; exact hw) ?_ (by rw [hlen]; exact hz)
  rw [hlen]
  refine ⟨.ref s.heap.objs.size, _, I.laid (t' := s.toks) (o := .tup (cutV xs lo hi)) (fun b ob q => Heap.get?_push_of_some _ q) (Nat.le_refl _) ?_, rfl, q _ (I.hok.fresh (Nat.le_refl _))⟩
  exact ⟨Nat.le_trans (cutV_length xs lo hi) hz, _, (r.drop (HT.sIx xs.length 0 lo)).take (HT.sIx xs.length xs.length hi - HT.sIx xs.length 0 lo), IsTup.new _ _⟩
def rCatT (K : PySem.W.Frag) : R2 := fun x y H Q => ∃ a b xs ys, x = .ref a ∧ y = .ref b ∧ SqT K H a xs ∧ SqT K H b ys ∧ xs ≠ [] ∧ xs.length + ys.length ≤ sizeLine ∧
  (ys = [] → Q (.ref a) H) ∧ (ys ≠ [] → ∀ p, H p = none → Q (.ref p) (upd H p (.tup (xs ++ ys))))
theorem Vals.nil_iff {xs : List V} {us : List Value} (r : Vals xs us) : us = [] ↔ xs = [] := by
  cases r with
  | nil => simp
  | cons _ _ => simp
theorem op_catT : OpR X (binaryOp .Add) (rCatT X.K) := by
  intro pins s σ H x y v u Q I rx ry h
  obtain ⟨a, b, xs, ys, rfl, rfl, ha, hb, hx, hz, q1, q2⟩ := h
  cases rx
  cases ry
  obtain ⟨its, r1, p1, _⟩ := I.tuple ha
  obtain ⟨its2, r2, p2, _⟩ := I.tuple hb
  refine HT.cat_tup p1 p2 (fun z => hx (r1.nil_iff.mp z)) (fun z => ⟨.ref a, H, I, rfl, q1 (r2.nil_iff.mp z)⟩) (fun z => ?_) (by rw [← r1.length, ← r2.length]; exact hz)
  refine ⟨.ref s.heap.objs.size, _, I.laid (t' := s.toks) (o := .tup (xs ++ ys)) (fun b ob q => Heap.get?_push_of_some _ q) (Nat.le_refl _) ?_, rfl, q2 (fun w => z (r2.nil_iff.mpr w)) _ (I.hok.fresh (Nat.le_refl _))⟩
  exact ⟨by rw [List.length_append]; exact hz, _, r1.append r2, IsTup.new _ _⟩
end
end L2
namespace L2
open PySem PySem.Spec PyProof.Rows
def ixN (n : Nat) (i : Int) : Option Nat := if 0 ≤ i then (if i < n then some i.toNat else none) else if -(n : Int) ≤ i then some (i + n).toNat else none
def atI {α : Type} (xs : List α) (i : Int) : Option α := (ixN xs.length i).bind fun j => xs[j]?
theorem ixN_seq {n : Nat} {i : Int} {j : Nat} (h : ixN n i = some j) : seqIndex? i n = some j ∧ j < n ∧ -(n : Int) ≤ i ∧ i < n := by
  unfold ixN at h
  by_cases h0 : 0 ≤ i
  · rw [if_pos h0] at h
    by_cases h1 : i < n
    · rw [if_pos h1] at h
      have e : i.toNat = j := Option.some.inj h
      exact ⟨by rw [seqIndex_of h0 h1, e], by omega, by omega, h1⟩
    · rw [if_neg h1] at h; cases h
  · rw [if_neg h0] at h
    by_cases h1 : -(n : Int) ≤ i
    · rw [if_pos h1] at h
      have e : (i + n).toNat = j := Option.some.inj h
      exact ⟨by rw [seqIndex_neg (by omega) h1, e], by omega, h1, by omega⟩
    · rw [if_neg h1] at h; cases h
theorem atI_get {α : Type} {xs : List α} {i : Int} {v : α} (h : atI xs i = some v) : ∃ j, seqIndex? i xs.length = some j ∧ xs[j]? = some v ∧ j < xs.length ∧ -(xs.length : Int) ≤ i ∧ i < xs.length := by
  unfold atI at h
  cases e : ixN xs.length i with
  | none => rw [e] at h; cases h
  | some j =>
    rw [e] at h
    obtain ⟨h1, h2, h3, h4⟩ := ixN_seq e
    exact ⟨j, h1, h, h2, h3, h4⟩
def PlainIx (b : Expr) : Prop := ∀ o i, subscripted b false o i = operate [o, i] (getItem o i)
def IxR (X : Cx) (r : R2) : Prop :=
  ∀ (value slice : Expr) (pins : List (Addr × Obj)) (s : Shared) (σ : St) (H : Hp) (x y : V) (v u : Value) (Q : VK), Inv X pins σ H s → RelV x v → RelV y u → r x y H Q →
    subscripted slice false v u = operate [v, u] (getItem v u) → wpAny (model X.prog X.w) X.A (subscriptTail value slice v u) (EP X pins σ Q) X.xe s
def MtR (X : Cx) (id : String) (r : V → List V → Hp → VK → Prop) : Prop :=
  ∀ (pins : List (Addr × Obj)) (s : Shared) (σ : St) (H : Hp) (x : V) (xs : List V) (v : Value) (us : List Value) (Q : VK), Inv X pins σ H s → RelV x v → Vals xs us → r x xs H Q →
    wpAny (model X.prog X.w) X.A (call (.builtin id) (v :: us)) (EP X pins σ Q) X.xe s
section
variable {X : Cx} {a b : Expr} {ta tb : TE} {pos : Pos}
theorem IxR.or {r r' : R2} (h : IxR X r) (h' : IxR X r') : IxR X (fun x y H Q => r x y H Q ∨ r' x y H Q) := by
  intro value slice pins s σ H x y v u Q I rx ry q hs
  rcases q with q | q
  · exact h value slice pins s σ H x y v u Q I rx ry q hs
  · exact h' value slice pins s σ H x y v u Q I rx ry q hs
theorem MtR.or {id : String} {r r' : V → List V → Hp → VK → Prop} (h : MtR X id r) (h' : MtR X id r') : MtR X id (fun x xs H Q => r x xs H Q ∨ r' x xs H Q) := by
  intro pins s σ H x xs v us Q I rx rs q
  rcases q with q | q
  · exact h pins s σ H x xs v us Q I rx rs q
  · exact h' pins s σ H x xs v us Q I rx rs q
theorem pe_ix {r : R2} (hr : IxR X r) (ha : PE X a ta) (hb : PE X b tb) (hs : PlainIx b) : PE X (.Subscript a b pos) (tOp r ta tb) := by
  intro pins s σ H Q I h
  exact Subscript_ (binT ha hb I h fun v u s2 x y H2 I2 rx ry q => hr a b pins s2 σ H2 x y v u Q I2 rx ry q (hs _ _))
def rIxL (K : PySem.W.Frag) : R2 := fun x y H Q => ∃ p xs i v, x = .ref p ∧ y = .int i ∧ SqL K H p xs ∧ atI xs i = some v ∧ Q v H
def rIxT (K : PySem.W.Frag) : R2 := fun x y H Q => ∃ p xs i v, x = .ref p ∧ y = .int i ∧ SqT K H p xs ∧ atI xs i = some v ∧ Q v H
def rIxS : R2 := fun x y H Q => ∃ z i c, x = .str z ∧ y = .int i ∧ z.length ≤ sizeLine ∧ atI z.cps.toList i = some c ∧ Q (.str ⟨#[c]⟩) H
theorem ix_list : IxR X (rIxL X.K) := by
  intro value slice pins s σ H x y v u Q I rx ry h hs
  obtain ⟨p, xs, i, z, rfl, rfl, hq, he, q⟩ := h
  cases rx
  obtain ⟨t, rfl⟩ := ry
  obtain ⟨its, r, pl, hz⟩ := I.list hq
  obtain ⟨j, h1, h2, h3, h4, h5⟩ := atI_get he
  obtain ⟨w, ew, rw'⟩ := r.get h2
  have hl := r.length
  have hn := line63
  have fin : EP X pins σ Q w s := ⟨z, H, I, rw', q⟩
  by_cases h0 : 0 ≤ i
  · have hj : i.toNat = j := by
      rw [seqIndex_of h0 h5] at h1
      exact Option.some.inj h1
    exact item_listR pl.isList h0 (by omega) (by rw [hj]; simpa using ew) fin hs
  · have hj : (i + (its.toArray.size : Int)).toNat = j := by
      rw [seqIndex_neg (by omega) h4] at h1
      rw [List.size_toArray, ← hl]
      exact Option.some.inj h1
    exact subscriptTail_builtinR (x := w) pl.isList.typeIs slot_list_getitem.lookup
      (wpAny_getItem_list_neg (Q := fun r s' => r = w ∧ EP X pins σ Q r s') pl.isList (by omega) (by rw [List.size_toArray] <;> omega) (by omega) (by rw [hj]; simpa using ew) ⟨rfl, fin⟩) hs
theorem ix_tup : IxR X (rIxT X.K) := by
  intro value slice pins s σ H x y v u Q I rx ry h hs
  obtain ⟨p, xs, i, z, rfl, rfl, hq, he, q⟩ := h
  cases rx
  obtain ⟨t, rfl⟩ := ry
  obtain ⟨its, r, pl, hz⟩ := I.tuple hq
  obtain ⟨j, h1, h2, h3, h4, h5⟩ := atI_get he
  obtain ⟨w, ew, rw'⟩ := r.get h2
  have hl := r.length
  have hn := line63
  have fin : EP X pins σ Q w s := ⟨z, H, I, rw', q⟩
  exact subscriptTail_builtinR (x := w) pl.typeIs slot_tuple_getitem.lookup
    (getItem_tuple (j := j) (Q := fun r s' => r = w ∧ EP X pins σ Q r s') pl (by omega) (by omega) (by rw [List.size_toArray, ← hl]; exact h1) (by simpa using ew) ⟨rfl, fin⟩) hs
theorem ix_str : IxR X rIxS := by
  intro value slice pins s σ H x y v u Q I rx ry h hs
  obtain ⟨z, i, c, rfl, rfl, hz, he, q⟩ := h
  obtain ⟨t, rfl⟩ := rx
  obtain ⟨t', rfl⟩ := ry
  obtain ⟨j, h1, h2, h3, h4, h5⟩ := atI_get he
  have hl : z.cps.toList.length = z.length := by simp [Str.length]
  rw [hl] at h1 h4 h5
  have hn := line63
  exact tail_any (typeIs_str s z t) slot_str_getitem.lookup (getItem_str (c := c) (by
    have e1 : decide (i < -(2 ^ 63 : Int)) = false := decide_eq_false (by omega)
    have e2 : decide (i ≥ 2 ^ 63) = false := decide_eq_false (by omega)
    rw [e1, e2, Bool.or_false]) (by rw [h1]; simpa using h2) ⟨.str ⟨#[c]⟩, H, I.tok _, ⟨_, rfl⟩, q⟩) hs
def rIx (K : PySem.W.Frag) : R2 := fun x y H Q => rIxL K x y H Q ∨ rIxT K x y H Q ∨ rIxS x y H Q
theorem ix_seq : IxR X (rIx X.K) := ix_list.or (ix_tup.or ix_str)
theorem mapSeq_set (its : List Value) (n j : Nat) (u : Value) : Obj.mapSeq (·.setIfInBounds j u) { cls := .type "list", data := .seq its.toArray n } = { cls := .type "list", data := .seq (its.set j u).toArray n } := by
  simp [Obj.mapSeq]
theorem Inv.lst {pins : List (Addr × Obj)} {σ : St} {H : Hp} {s : Shared} {p : Addr} {xs : List V} (I : Inv X pins σ H s) (h : H p = some (.lst xs)) :
    ∃ (its : List Value) (n : Nat), Vals xs its ∧ s.heap.get? p = some { cls := .type "list", data := .seq its.toArray n } ∧ xs.length ≤ sizeLine := by
  obtain ⟨z, its, n, r, e⟩ := I.hok p _ h
  exact ⟨its, n, r, e, z⟩
theorem Inv.lstUpd {pins : List (Addr × Obj)} {σ : St} {H : Hp} {s : Shared} {p : Addr} {xs ys : List V} {its its' : List Value} {n n' : Nat} {f : Obj → Obj} (I : Inv X pins σ H s) (h : H p = some (.lst xs))
    (ho : s.heap.get? p = some { cls := .type "list", data := .seq its.toArray n }) (hf : f { cls := .type "list", data := .seq its.toArray n } = { cls := .type "list", data := .seq its'.toArray n' }) (r : Vals ys its') (hz : ys.length ≤ sizeLine) (t : Nat) :
    Inv X pins σ (upd H p (.lst ys)) { s with heap := s.heap.update p f, toks := t } := by
  have e : (s.heap.update p f).get? p = some { cls := .type "list", data := .seq its'.toArray n' } := by
    rw [Heap.get?_update_self f ho (by rw [hf] <;> rfl), hf]
  refine I.write (x := p) (e := p) (by rw [h]; trivial) (.inl rfl) (fun b u hb q => (Heap.get?_update_other _ _ (Ne.symm hb)).trans q) ⟨_, e⟩ ?_
  exact ⟨hz, its', n', r, e⟩
def rSetL : V → V → V → Hp → (Hp → Prop) → Prop := fun o i v H Q => ∃ p xs k j, o = .ref p ∧ i = .int k ∧ H p = some (.lst xs) ∧ ixN xs.length k = some j ∧ Q (upd H p (.lst (xs.set j v)))
theorem set_list : PSet X rSetL := by
  intro pins s σ H o i v ov iv u Q I ro ri rv h
  obtain ⟨p, xs, k, j, rfl, rfl, hp, hj, q⟩ := h
  cases ro
  obtain ⟨t, rfl⟩ := ri
  obtain ⟨its, n, r, ho, hz⟩ := I.lst hp
  obtain ⟨h1, h2, h3, h4⟩ := ixN_seq hj
  have hl := r.length
  have hn := line63
  have I' : Inv X pins σ (upd H p (.lst (xs.set j v))) { s with heap := s.heap.update p (Obj.mapSeq (·.setIfInBounds j u)) } :=
    I.lstUpd hp ho (mapSeq_set its n j u) (r.set rv j) (by rw [List.length_set]; exact hz) s.toks
  by_cases h0 : 0 ≤ k
  · have hk : k.toNat = j := by
      rw [seqIndex_of h0 h4] at h1
      exact Option.some.inj h1
    exact PySem.W.ki_setAt ho h0 (by omega) (by rw [List.size_toArray, ← hl]; exact h4) (by rw [hk]; exact ⟨_, I', q⟩)
  · have hk : (k + (its.toArray.size : Int)).toNat = j := by
      rw [seqIndex_neg (by omega) h3] at h1
      rw [List.size_toArray, ← hl]
      exact Option.some.inj h1
    exact PySem.W.ki_setBack ho (by omega) (by rw [List.size_toArray, ← hl]; exact h3) (by omega) (by rw [hk]; exact ⟨_, I', q⟩)
theorem slice_bounds (lo hi : Option Int) (n : Nat) : (sliceBounds lo hi none n).1 = ((HT.sIx n 0 lo : Nat) : Int) ∧ (sliceBounds lo hi none n).2.1 = ((HT.sIx n n hi : Nat) : Int) ∧ (sliceBounds lo hi none n).2.2 = 1 := by
  refine ⟨?_, ?_, rfl⟩
  · cases lo with
    | none => simp [sliceBounds, HT.sIx]
    | some i =>
      simp only [sliceBounds, HT.sIx, Option.getD_none, show (1 : Int) > 0 by decide, if_true]
      by_cases h : i < 0
      · simp only [h, if_true] <;> omega
      · simp only [h, if_false] <;> omega
  · cases hi with
    | none => simp [sliceBounds, HT.sIx]
    | some i =>
      simp only [sliceBounds, HT.sIx, Option.getD_none, show (1 : Int) > 0 by decide, if_true]
      by_cases h : i < 0
      · simp only [h, if_true] <;> omega
      · simp only [h, if_false] <;> omega
theorem slicePick_cut (its : List Value) (lo hi : Option Int) : slicePick its.toArray lo hi none = ((its.drop (HT.sIx its.length 0 lo)).take (HT.sIx its.length its.length hi - HT.sIx its.length 0 lo)).toArray := by
  obtain ⟨h1, h2, h3⟩ := slice_bounds lo hi its.toArray.size
  unfold slicePick
  rw [h1, h2, h3]
  simp only [sliceRange_one, pick_run, List.size_toArray] <;> rfl
def rSlL (K : PySem.W.Frag) : V → Option Int → Option Int → Hp → VK → Prop := fun x lo hi H Q => ∃ a xs, x = .ref a ∧ SqL K H a xs ∧ ∀ p, H p = none → Q (.ref p) (upd H p (.lst (cutV xs lo hi)))
theorem sl_list : SlR X (rSlL X.K) := by
  intro pins s σ H x v vl vu lo hi sl Q I rx hs pl pu h
  obtain ⟨a, xs, rfl, hx, q⟩ := h
  cases rx
  obtain ⟨its, r, ht, hz⟩ := I.list hx
  have hlen := r.length
  refine ⟨"list", _, slot_list_getitem.lookup, ht.isList.typeIs, ?_⟩
  refine wpAny_getItem_list_slice ht.isList hs pl pu .none (by simp) ?_ (by rw [List.size_toArray] <;> omega)
  rw [slicePick_cut, ← hlen]
  refine ⟨.ref s.heap.objs.size, _, I.laid (t' := s.toks) (o := .lst (cutV xs lo hi)) (fun b ob q => Heap.get?_push_of_some _ q) (Nat.le_refl _) ?_, rfl, q _ (I.hok.fresh (Nat.le_refl _))⟩
  exact ⟨Nat.le_trans (cutV_length xs lo hi) hz, _, 0, (r.drop (HT.sIx xs.length 0 lo)).take (HT.sIx xs.length xs.length hi - HT.sIx xs.length 0 lo), Heap.get?_push_size _ rfl⟩
def flatV : V → Bool
  | .non => true
  | .bl _ => true
  | .int _ => true
  | .str _ => true
  | _ => false
def eqV : V → V → Bool
  | .non, .non => true
  | .bl a, .bl b => a == b
  | .bl a, .int b => (if a then 1 else 0) == b
  | .int a, .bl b => a == (if b then 1 else 0)
  | .int a, .int b => a == b
  | .str a, .str b => a == b
  | _, _ => false
theorem eqAt_V {A : Around} {s : Shared} {y x : V} {u v : Value} (ry : RelV y u) (rx : RelV x v) (fy : flatV y = true) (fx : flatV x = true) : SeqAt.EqAt A s u v (eqV y x) := by
  cases y with
  | non =>
    cases ry
    cases x with
    | non => cases rx; exact SeqAt.EqAt.same _
    | bl b => cases rx; exact SeqAt.EqAt.none_bool b
    | int b => obtain ⟨t, rfl⟩ := rx; exact SeqAt.EqAt.none_int b t
    | str b => obtain ⟨t, rfl⟩ := rx; exact SeqAt.EqAt.none_str b t
    | _ => exact absurd (show false = true from fx) Bool.false_ne_true
  | bl a =>
    cases ry
    cases x with
    | non => cases rx; exact SeqAt.EqAt.bool_none a
    | bl b => cases rx; exact SeqAt.EqAt.bool_bool a b
    | int b => obtain ⟨t, rfl⟩ := rx; exact SeqAt.EqAt.bool_int a b t
    | str b => obtain ⟨t, rfl⟩ := rx; exact SeqAt.EqAt.bool_str a b t
    | _ => exact absurd (show false = true from fx) Bool.false_ne_true
  | int a =>
    obtain ⟨t', rfl⟩ := ry
    cases x with
    | non => cases rx; exact SeqAt.EqAt.int_none a t'
    | bl b => cases rx; exact SeqAt.EqAt.int_bool a t' b
    | int b => obtain ⟨t, rfl⟩ := rx; exact SeqAt.EqAt.int_int a t' b t
    | str b => obtain ⟨t, rfl⟩ := rx; exact SeqAt.EqAt.int_str a t' b t
    | _ => exact absurd (show false = true from fx) Bool.false_ne_true
  | str a =>
    obtain ⟨t', rfl⟩ := ry
    cases x with
    | non => cases rx; exact SeqAt.EqAt.str_none a t'
    | bl b => cases rx; exact SeqAt.EqAt.str_bool a t' b
    | int b => obtain ⟨t, rfl⟩ := rx; exact SeqAt.EqAt.str_int a t' b t
    | str b => obtain ⟨t, rfl⟩ := rx; exact SeqAt.EqAt.str_str a t' b t
    | _ => exact absurd (show false = true from fx) Bool.false_ne_true
  | _ => exact absurd (show false = true from fy) Bool.false_ne_true
def eqU (x : V) (u : Value) : Bool := match u with
  | .none => eqV .non x
  | .bool b => eqV (.bl b) x
  | .int i _ => eqV (.int i) x
  | .str z _ => eqV (.str z) x
  | _ => false
theorem eqU_of {x y : V} {u : Value} (r : RelV y u) (f : flatV y = true) : eqU x u = eqV y x := by
  cases y with
  | non => cases r; rfl
  | bl b => cases r; rfl
  | int i => obtain ⟨t, rfl⟩ := r; rfl
  | str z => obtain ⟨t, rfl⟩ := r; rfl
  | _ => exact absurd (show false = true from f) Bool.false_ne_true
theorem any_eqU {x : V} : ∀ {xs : List V} {us : List Value}, Vals xs us → xs.all flatV = true → us.any (eqU x) = xs.any fun y => eqV y x
  | _, _, .nil, _ => rfl
  | y :: xs, u :: us, .cons r t, f => by
    rw [List.all_cons, Bool.and_eq_true] at f
    rw [List.any_cons, List.any_cons, eqU_of r f.1, any_eqU t f.2]
theorem mem_eqAt {A : Around} {s : Shared} {x : V} {v : Value} (rx : RelV x v) (fx : flatV x = true) : ∀ {xs : List V} {us : List Value}, Vals xs us → xs.all flatV = true → ∀ u ∈ us, SeqAt.EqAt A s u v (eqU x u)
  | _, _, .nil, _ => fun u hu => by cases hu
  | y :: xs, u :: us, .cons r t, f => fun u' hu => by
    rw [List.all_cons, Bool.and_eq_true] at f
    rcases List.mem_cons.mp hu with rfl | hu
    · rw [eqU_of r f.1]; exact eqAt_V r rx f.1 fx
    · exact mem_eqAt rx fx t f.2 u' hu
def inV (x : V) (xs : List V) : Bool := xs.any fun y => eqV y x
def rIn (K : PySem.W.Frag) (neg : Bool) : R2 := fun x y H Q => ∃ p xs, y = .ref p ∧ (SqL K H p xs ∨ SqT K H p xs) ∧ flatV x = true ∧ xs.all flatV = true ∧ Q (.bl (if neg then !inV x xs else inV x xs)) H
theorem op_in_seq : OpR X (compareOp .In) (rIn X.K false) := by
  intro pins s σ H x y v u Q I rx ry h
  obtain ⟨p, xs, rfl, hq, fx, fs, q⟩ := h
  cases ry
  rcases hq with hq | hq
  · obtain ⟨its, r, pl, hz⟩ := I.list hq
    refine SeqAt.in_listAt (eqU x) pl.isList (fun w hw => mem_eqAt rx fx r fs w (by simpa using hw)) ⟨.bl _, H, I, rfl, ?_⟩
    rw [show its.toArray.any (eqU x) = its.any (eqU x) by simp, any_eqU r fs]
    exact q
  · obtain ⟨its, r, pl, hz⟩ := I.tuple hq
    refine SeqAt.in_tupleAt (eqU x) pl (fun w hw => mem_eqAt rx fx r fs w (by simpa using hw)) ⟨.bl _, H, I, rfl, ?_⟩
    rw [show its.toArray.any (eqU x) = its.any (eqU x) by simp, any_eqU r fs]
    exact q
theorem CallR.or {f : Value} {r r' : List V → Hp → VK → Prop} (h : CallR X f r) (h' : CallR X f r') : CallR X f (fun xs H Q => r xs H Q ∨ r' xs H Q) := by
  intro pins s σ H xs us Q I rs q
  rcases q with q | q
  · exact h pins s σ H xs us Q I rs q
  · exact h' pins s σ H xs us Q I rs q
theorem call_list_of : CallR X (.type "list") (fun xs H Q => ∃ p ys, xs = [.ref p] ∧ (SqL X.K H p ys ∨ SqT X.K H p ys) ∧ ∀ l, H l = none → Q (.ref l) (upd H l (.lst ys))) := by
  intro pins s σ H xs us Q I r h
  obtain ⟨p, ys, rfl, hq, q⟩ := h
  obtain ⟨u, rfl, rx⟩ := vals1 r
  cases rx
  have fin : ∀ (its : List Value), Vals ys its → ys.length ≤ sizeLine → ∀ (h' : Heap) (c' : Nat), (∀ b o', s.heap.get? b = some o' → h'.get? b = some o') →
      h'.get? s.heap.objs.size = some { cls := .type "list", dict := none, data := .seq its.toArray c', slots := #[] } → EP X pins σ Q (.ref s.heap.objs.size) { s with heap := h' } := fun its r' hz h' c' kp e =>
    ⟨.ref s.heap.objs.size, _, I.laid (t' := s.toks) kp (Nat.le_refl _) (show ObjOk X.prog X.w _ h' _ (.lst ys) from ⟨hz, its, c', r', e⟩), rfl, q _ (I.hok.fresh (Nat.le_refl _))⟩
  rcases hq with hq | hq
  · obtain ⟨its, r', pl, hz⟩ := I.list hq
    have hlen := r'.length
    obtain ⟨o, ho, hc, n, hd⟩ := pl.isList
    exact call_list_seq p (.inl rfl) ho hc hd (fun h' c' kp e => fin its r' hz h' c' kp e) (by simp only [List.size_toArray] <;> omega)
  · obtain ⟨its, r', pl, hz⟩ := I.tuple hq
    have hlen := r'.length
    obtain ⟨o, ho, hc, n, hd⟩ := pl
    exact call_list_seq p (.inr rfl) ho hc hd (fun h' c' kp e => fin its r' hz h' c' kp e) (by simp only [List.size_toArray] <;> omega)
theorem call_tuple_of : CallR X (.type "tuple") (fun xs H Q => ∃ p ys, xs = [.ref p] ∧ ((SqL X.K H p ys ∧ ∀ l, H l = none → Q (.ref l) (upd H l (.tup ys))) ∨ (SqT X.K H p ys ∧ Q (.ref p) H))) := by
  intro pins s σ H xs us Q I r h
  obtain ⟨p, ys, rfl, h⟩ := h
  obtain ⟨u, rfl, rx⟩ := vals1 r
  cases rx
  rcases h with ⟨hq, q⟩ | ⟨hq, q⟩
  · obtain ⟨its, r', pl, hz⟩ := I.list hq
    have hlen := r'.length
    refine call_tuple_list pl.isList (fun h' kp => ?_) (by simp only [List.size_toArray] <;> omega)
    have I1 : Inv X pins σ H { s with heap := h' } := I.kept (t' := s.toks) kp
    have I2 : Inv X pins σ (upd H h'.objs.size (.tup ys)) { s with heap := h'.push { cls := .type "tuple", data := .seq its.toArray } } :=
      I1.laid (t' := s.toks) (fun b o e => Heap.get?_push_of_some _ e) (Nat.le_refl _) (show ObjOk X.prog X.w _ _ _ (.tup ys) from ⟨hz, its, r', IsTup.new _ _⟩)
    exact ⟨.ref h'.objs.size, _, I2, rfl, q _ (I1.hok.fresh (Nat.le_refl _))⟩
  · obtain ⟨its, r', pl, hz⟩ := I.tuple hq
    exact call_tuple_same pl ⟨.ref p, H, I, rfl, q⟩
variable {o e : Expr} {es : List Expr} {to : TE} {t : TA} {name : Str} {apos cpos : Pos} {T id : String} {r : V → List V → Hp → VK → Prop}
end
end L2
namespace L2
open PySem PySem.Spec PyProof.Rows
def MtM (X : Cx) (id : String) (r : V → List V → Hp → VK → Prop) : Prop :=
  ∀ (pins : List (Addr × Obj)) (s : Shared) (σ : St) (H : Hp) (x : V) (xs : List V) (v : Value) (us : List Value) (Q : VK), Inv X pins σ H s → RelV x v → Vals xs us → r x xs H Q →
    wpAny (model X.prog X.w) X.A (call (.builtin id) (v :: us)) (EP X pins σ Q) X.xe s
theorem Vals.one : ∀ {x : V} {us : List Value}, Vals [x] us → ∃ u, us = [u] ∧ RelV x u
  | _, _, .cons r .nil => ⟨_, rfl, r⟩
theorem Vals.zero : ∀ {us : List Value}, Vals [] us → us = []
  | _, .nil => rfl
theorem Vals.reverse {xs : List V} {us : List Value} (h : Vals xs us) : Vals xs.reverse us.reverse := by
  induction h with
  | nil => exact .nil
  | cons r t ih => rw [List.reverse_cons, List.reverse_cons]; exact Vals.append ih (.cons r .nil)
section
variable {X : Cx} {pins : List (Addr × Obj)} {σ : St} {H : Hp} {s : Shared} {l b : Addr} {xs ys zs : List V}
theorem Inv.lset {its its' : List Value} {n : Nat} {f : Array Value → Array Value} {t' : Nat} (I : Inv X pins σ H s) (hH : H l = some (.lst xs))
    (e : s.heap.get? l = some { cls := .type "list", data := .seq its.toArray n }) (hf : f its.toArray = its'.toArray) (hv : Vals ys its') (hz : ys.length ≤ sizeLine) :
    Inv X pins σ (upd H l (.lst ys)) { s with heap := s.heap.update l (Obj.mapSeq f), toks := t' } := by
  have q := PySem.IsL.update e f
  rw [hf] at q
  refine I.write (x := l) (e := l) (by rw [hH]; exact trivial) (.inl rfl) (fun b' u hb hu => (Heap.get?_update_other s.heap (Obj.mapSeq f) (Ne.symm hb)).trans hu) ⟨_, q⟩ ?_
  exact ⟨hz, its', _, hv, q⟩
theorem Inv.lnew {its : List Value} {t' : Nat} (I : Inv X pins σ H s) (hv : Vals ys its) (hz : ys.length ≤ sizeLine) :
    Inv X pins σ (upd H s.heap.objs.size (.lst ys)) { s with heap := s.heap.push { cls := .type "list", data := .seq its.toArray }, toks := t' } :=
  I.laid (fun _ _ q => Heap.get?_push_of_some _ q) (Nat.le_refl _) ⟨hz, its, 0, hv, Heap.get?_push_size _ rfl⟩
theorem Inv.fresh (I : Inv X pins σ H s) : H s.heap.objs.size = none := I.hok.fresh (Nat.le_refl _)
theorem Inv.lstM (I : Inv X pins σ H s) (hH : H l = some (.lst xs)) : xs.length ≤ sizeLine ∧ ∃ (its : List Value) (n : Nat), Vals xs its ∧ xs.length = its.length ∧ s.heap.get? l = some { cls := .type "list", data := .seq its.toArray n } := by
  obtain ⟨z, its, n, r, e⟩ := I.hok l _ hH
  exact ⟨z, its, n, r, r.length, e⟩
end
section
variable {X : Cx}
def rAppend : V → List V → Hp → VK → Prop := fun x vs H Q => ∃ l xs y, x = .ref l ∧ vs = [y] ∧ H l = some (.lst xs) ∧ xs.length < sizeLine ∧ Q .non (upd H l (.lst (xs ++ [y])))
theorem mt_append : MtM X "list.append" rAppend := by
  intro pins s σ H x vs v us Q I rx rv h
  obtain ⟨l, xs, y, rfl, rfl, hH, hz, q⟩ := h
  cases rx
  obtain ⟨u, rfl, ru⟩ := rv.one
  obtain ⟨z, its, n, r, hl, e⟩ := I.lstM hH
  refine call_meets F.slot_list_append ⟨_, e, rfl⟩ F.entry_list_append (F.args_list_append_2 _ _) (PySem.list_append l its.toArray n u (by rw [List.size_toArray]; omega)) ⟨e, ?_⟩
  refine ⟨.non, _, I.lset (its' := its ++ [u]) hH e (by simp) (r.append (.cons ru .nil)) ?_, rfl, q⟩
  rw [List.length_append, List.length_singleton]
  omega
def rCat : R2 := fun x y H Q => ∃ l b xs zs, x = .ref l ∧ y = .ref b ∧ H l = some (.lst xs) ∧ H b = some (.lst zs) ∧ xs.length + zs.length ≤ sizeLine ∧ ∀ p, H p = none → Q (.ref p) (upd H p (.lst (xs ++ zs)))
theorem op_cat : OpR X (binaryOp .Add) rCat := by
  intro pins s σ H x y v u Q I rx ry h
  obtain ⟨l, b, xs, zs, rfl, rfl, hH, hB, hz, q⟩ := h
  cases rx
  cases ry
  obtain ⟨z, its, n, r, hl, e⟩ := I.lstM hH
  obtain ⟨z2, its2, n2, r2, hl2, e2⟩ := I.lstM hB
  refine PySem.P.add_list e e2 ?_ (by rw [List.size_toArray, List.size_toArray]; omega)
  have ea : its.toArray ++ its2.toArray = (its ++ its2).toArray := by simp
  rw [ea]
  exact ⟨.ref _, _, I.lnew (t' := s.toks) (r.append r2) (by rw [List.length_append]; omega), rfl, q _ I.fresh⟩
end
section
variable {prog : Program} {w : World} {A : Around} {E : Value → Shared → Prop} {s : Shared}
end
section
variable {X : Cx}
end
end L2
namespace Att
open PySem PySem.W PySem.Calls PyProof.Rows
theorem ints_of_wellAll {P : Params} {h : Heap} : ∀ (ns : List Int) (vs : List Value), WellAll P h vs (ns.map WData.int) → IntsAre vs ns := by
  intro ns
  induction ns with
  | nil =>
    intro vs w
    rw [List.map_nil] at w
    cases w
    exact .nil
  | cons n ns ih =>
    intro vs w
    rw [List.map_cons] at w
    cases w with
    | cons a b =>
      cases a
      exact .cons _ _ (ih _ b)
theorem script_of {l : OpenLaw} {n : Nat} (hn : l.most = some n) {P : Params} {h : Heap} {args : List WData} {vals : List Value}
    (hpre : l.row.toRowW.claim.pre args = true) (hwl : WellAll P h vals args) :
    ∃ a vs ns, vals = [Value.ref a] ∧ args = [WData.list (ns.map WData.int)] ∧ h.get? a = some { cls := .type "list", data := .seq vs.toArray } ∧ IntsAre vs ns ∧ ns.length ≤ n := by
  have hsh : WShape.hasAll [] args [.list .int] = true := (pre_splitW hpre).1
  have hc : l.pre.holds [] { args := args } = true := (pre_splitW hpre).2
  obtain ⟨d, r, rfl, h1, h2⟩ := hasAllW_cons hsh
  obtain rfl := hasAllW_nil h2
  obtain ⟨xs, rfl, h3⟩ := hasW_list h1
  obtain ⟨ns, rfl⟩ := items_int h3
  have hlen : ns.length ≤ n := by
    unfold OpenLaw.pre at hc
    have h4 : (WTm.not (.lt (.lit (.int (n : Int))) (.len (.arg 0)))).holds [] { args := [.list (ns.map .int)] } = true := by
      have h4 := (holds_andW hc).1
      rw [hn] at h4
      exact h4
    have h5 := condW_of h4 (w_not (w_lt w_lit (w_len_list (w_arg rfl))))
    rw [List.length_map] at h5
    refine Nat.le_of_not_lt fun q => ?_
    have q' : (n : Int) < ((ns.length : Nat) : Int) := by omega
    first
      | (rw [decide_eq_true q'] at h5; exact absurd h5 (by decide))
      | (simp at h5; omega)
  cases hwl with
  | cons w1 w2 =>
    cases w2
    cases w1 with
    | list ho hall => exact ⟨_, _, ns, rfl, rfl, ho, ints_of_wellAll ns _ hall, hlen⟩
theorem post_true (l : OpenLaw) (args : List WData) : l.row.toRowW.claim.post args (.bool true) args = true :=
  postW_of (r := l.row.toRowW) (X := (true == true))
    (show WShape.has [] (.bool true) .bool = true by first | rfl | decide | simp [WShape.has, WShape.arms, WShape.armsAll])
    (show (WTm.eq .res (.lit (.bool true))).value [] { args := args, res := some (.bool true), after := args } = some (.bool (true == true)) from w_eq_bool (w_res rfl) w_lit) rfl
theorem attach_call {l : OpenLaw} {n : Nat} {q : Program} {loose : List Str} {XP : (Str → Option Value) → Heap → Prop} {YP : World → Heap → Prop} {d : DefRec}
    (hn : l.most = some n) (hdf : d.params.defaults = [])
    (call : ∀ (w : World) (s₀ s₁ : Shared) (mg mb : Str → Option Value) (fa : Addr) (o : Obj) (pm cd doc : Value) (a : Addr) (vs : List Value) (ns : List Int),
      Ground q loose [] XP w s₀ mg mb s₁.heap → YP w s₁.heap →
      s₁.heap.get? fa = some o → o.data = .func (docDef d.name d.params d.body d.scope pm cd doc) → s₁.heap.CodeRec cd d.name → mg d.name = some (.ref fa) →
      s₁.heap.get? a = some { cls := .type "list", data := .seq vs.toArray } → IntsAre vs ns → ns.length ≤ n → s₁.gens = #[] →
      codeAny (model l.prog w) callerA (.call (.ref fa) ⟨[.ref a], []⟩) (fun r s' => r = .ok (.ret (.bool true)) ∧ OldK s₁.heap s'.heap ∧ s'.os = s₁.os ∧ AllBare s'.gens) s₁) :
    WalkO q loose XP YP l.row.toRowW d [] (fun f vs => PySem.call f vs) := by
  intro w s₀ s₁ mg mb G Y fa o pm cd doc dV kV ho hd hcd hD hmg hg args vals as hpre hlay hrd hwl hlo
  obtain rfl : dV = .none := Dflts.none hD hdf
  obtain rfl : kV = .none := Dflts.noKw hD
  obtain ⟨a, vs, ns, rfl, rfl, hobj, hints, hlen⟩ := script_of hn hpre hwl
  refine enter_call (codeAny_mono (call w s₀ s₁ mg mb fa o pm cd doc a vs ns G Y ho (fd_plain hd) hcd hmg hobj hints hlen hg) fun r s' hq => ?_)
  obtain ⟨rfl, h2, h3, h4⟩ := hq
  exact ⟨.inl ⟨.bool true, .bool true, [], rfl, fun _ => rfl, .bool true, post_true l _, fun _ => ⟨List.Pairwise.nil, fun _ hm => (nomatch hm)⟩⟩, h2, h3, h4⟩
section
variable {prog : Program} {w : World} {A : Around} {E : Value → Shared → Prop} {s : Shared} {K : Frag}
end
end Att
namespace L2
open PySem PySem.Spec PyProof.Rows
theorem vals_ints : ∀ {vs : List Value} {ns : List Int}, IntsAre vs ns → Vals (ns.map V.int) vs
  | _, _, .nil => .nil
  | _, _, .cons n t h => .cons ⟨t, rfl⟩ (vals_ints h)
def Only (H : Hp) : Prop := ∀ b, H b = none ∨ ∃ o xs, H b = some (.frz o (.lst xs))
theorem law_call {P : Program} {w : World} {K : PySem.W.Frag} {mg mb : Str → Option Value} {CX : CXT} {k : Nat} {fa a : Addr} {fd : FuncData} {x : Str} {sp : Sp} {s₁ : Shared} {vs : List Value} {ns : List Int}
    (KX : K.In s₁.heap) (hns : s₁.heap.Ns mainGlobals mg) (hb : s₁.heap.Ns builtinsNs mb) (hbb : ∀ x : Str, x ≠ "__name__" → mb x = bootBuiltins x) (hlim : s₁.heap.NoLimit) (hg : s₁.gens = #[])
    (ha : s₁.heap.get? a = some { cls := .type "list", data := .seq vs.toArray }) (hi : IntsAre vs ns) (hl : ns.length ≤ sizeLine) (hr : Room k callerA)
    (F : ∀ base : Heap, K.In base → base.Ns mainGlobals mg → FnOk P w K mg base CX k fa fd [x] sp) (hbind : ∀ (s : Shared) (u : Value), BindsTo s fd ⟨[u], []⟩ [(x, u)])
    (hsp : ∀ H : Hp, Only H → SqL K H a (ns.map V.int) → sp [.ref a] H (fun v _ => v = .bl true) fun _ _ _ => False)
    (hCX : ∀ H e s', CX [] H s₁ (fun _ _ _ => False) e s' → False) :
    codeAny (model P w) callerA (.call (.ref fa) ⟨[.ref a], []⟩) (fun r s' => r = .ok (.ret (.bool true)) ∧ OldK s₁.heap s'.heap ∧ s'.os = s₁.os ∧ AllBare s'.gens) s₁ := by
  have rv := vals_ints hi
  have lenV := hi.length
  -- from an abstract heap in which nothing but the script may be tracked
  have core : ∀ H : Hp, Only H → SqL K H a (ns.map V.int) → HOk P w H s₁.heap → (∀ b, H b ≠ none → b = a) → (H a ≠ none → K.lookup a = none) →
      codeAny (model P w) callerA (.call (.ref fa) ⟨[.ref a], []⟩) (fun r s' => r = .ok (.ret (.bool true)) ∧ OldK s₁.heap s'.heap ∧ s'.os = s₁.os ∧ AllBare s'.gens) s₁ := by
    intro H hO hS hok hA hK
    have base_of : ∀ {b : Addr} {o : Obj}, s₁.heap.get? b = some o → H b = none → (hidT s₁.heap H).get? b = some o := fun e n => hidT_get e n
    have noA : ∀ {b : Addr} {o : Obj} {es : Array DictEntry} {ep : Nat}, s₁.heap.get? b = some o → o.data = .dict es ep → H b = none := fun {b o es ep} e d => by
      cases q : H b with
      | none => rfl
      | some u =>
        have e' : b = a := hA b (by rw [q]; simp)
        subst e'
        rw [ha] at e; cases e
        have d' : Data.seq vs.toArray _ = Data.dict es ep := d
        cases d'
    have nsK : ∀ {b : Addr} {m : Str → Option Value}, s₁.heap.Ns b m → (hidT s₁.heap H).Ns b m := fun {b m} ⟨o, es, ep, e, d, r⟩ => ⟨o, es, ep, base_of e (noA e d), d, r⟩
    have hKb : K.In (hidT s₁.heap H) := fun b o e => base_of (KX b o e) (by
      cases q : H b with
      | none => rfl
      | some u =>
        have e' : b = a := hA b (by rw [q]; simp)
        subst e'
        rw [hK (by rw [q]; simp)] at e; cases e)
    have hM : Mod K mg (hidT s₁.heap H) := ⟨hKb, nsK hns, ⟨mb, nsK hb, hbb⟩, let ⟨mc, h1, h2⟩ := hlim; ⟨mc, nsK h1, h2⟩⟩
    have e0 : Env0 P w K mg (hidT s₁.heap H) callerA [] s₁ H := ⟨rfl, hM, fun b o e => of_hidT e, Nat.le_of_eq (hidT_size _ _), trivial, fun b hb => absurd (show b ∈ ([] : List Addr) from hb) (by simp), hok, .of_eq hg⟩
    refine codeAny_mono ((F _ hKb (nsK hns)).run callerA [] s₁ H ⟨[.ref a], []⟩ [.ref a] [.ref a] _ _ hr e0 (hbind s₁ (.ref a)) (.cons rfl .nil) (hsp H hO hS)) fun r s' h => ?_
    cases r with
    | error e => exact (hCX H e s' h).elim
    | ok fl =>
      cases fl with
      | next => exact False.elim h
      | brk => exact False.elim h
      | cont => exact False.elim h
      | ret u =>
        obtain ⟨v, H', os, bare, un, hok', r', q⟩ := h
        have q' : v = .bl true := q
        subst q'
        obtain rfl : u = Value.bool true := r'
        refine ⟨rfl, OldK.of_keep fun b o e => ?_, os, bare⟩
        cases q : H b with
        | none => exact un.keep b o e q (by intro z; exact absurd (show b ∈ ([] : List Addr) from z) (by simp)) (by simp)
        | some u =>
          rcases hO b with z | ⟨ob, xs, z⟩
          · rw [q] at z; cases z
          · have z2 := un.frzs b ob _ z
            obtain ⟨e1, _⟩ := hok b _ z
            obtain ⟨e2, _⟩ := hok' b _ z2
            rw [e] at e1; cases e1
            exact e2
  cases hk : K.lookup a with
  | some o =>
    -- the script is one of the module's own objects
    have e := KX a o hk
    rw [ha] at e
    cases e
    refine core (fun _ => none) (fun _ => .inl rfl) (.inr ⟨_, vs.toArray, _, hk, rfl, rfl, rfl, by rw [List.size_toArray, lenV]; exact hl, by simpa using rv⟩) (fun b u z => by have z' : (none : Option HO) = some u := z; cases z') (fun b z => absurd rfl z) fun z => absurd rfl z
  | none =>
    refine core (fun b => if b = a then some (.frz { cls := .type "list", data := .seq vs.toArray } (.lst (ns.map V.int))) else none) (fun b => ?_) (.inl (.inr ⟨{ cls := .type "list", data := .seq vs.toArray }, if_pos rfl⟩)) (fun b u z => ?_) (fun b z => ?_) fun _ => hk
    · by_cases hb : b = a
      · exact .inr ⟨_, _, if_pos hb⟩
      · exact .inl (if_neg hb)
    · by_cases hb : b = a
      · have z' := (if_pos hb).symm.trans z
        cases z'
        subst hb
        exact ⟨ha, by rw [List.length_map]; exact hl, vs, _, rv, ha⟩
      · have z' := (if_neg hb).symm.trans z
        cases z'
    · by_cases hb : b = a
      · exact hb
      · exact absurd (if_neg hb) z
end L2
namespace L2
open PySem PySem.Spec PyProof.Rows
theorem walk_of {l : PySem.W.OpenLaw} {n k : Nat} {q : Program} {loose : List Str} {XP : (Str → Option Value) → Heap → Prop} {YP : World → Heap → Prop} {d : DefRec} {K : Params → PySem.W.Frag} {CX : World → CXT} {sp : World → Sp} {x : Str}
    (hn : l.most = some n) (hn2 : n ≤ sizeLine) (hdf : d.params.defaults = []) (hr : Room k callerA)
    (hY : ∀ (w : World) (h : Heap), YP w h → (K w.params).In h)
    (F : ∀ (w : World) (mg : Str → Option Value) (fa : Addr) (h : Heap), (K w.params).In h → h.Ns mainGlobals mg → mg d.name = some (.ref fa) →
      ∃ fd : FuncData, (∀ (s : Shared) (u : Value), BindsTo s fd ⟨[u], []⟩ [(x, u)]) ∧
        ∀ base : Heap, (K w.params).In base → base.Ns mainGlobals mg → FnOk l.prog w (K w.params) mg base (CX w) k fa fd [x] (sp w))
    (hsp : ∀ (w : World) (H : Hp) (a : Addr) (ns : List Int), ns.length ≤ n → Only H → SqL (K w.params) H a (ns.map V.int) → sp w [.ref a] H (fun v _ => v = .bl true) fun _ _ _ => False)
    (hCX : ∀ (w : World) (H : Hp) (s : Shared) (e : Value) (s' : Shared), CX w [] H s (fun _ _ _ => False) e s' → False) :
    PySem.W.WalkO q loose XP YP l.row.toRowW d [] (fun f vs => PySem.call f vs) := by
  refine Att.attach_call hn hdf fun w s₀ s₁ mg mb fa o pm cd doc a vs ns G Y ho hd hcd hmg hobj hints hlen hg => ?_
  have KX := hY w _ Y
  obtain ⟨fd, hb, hF⟩ := F w mg fa _ KX G.T.g hmg
  exact law_call KX G.T.g G.T.b G.T.builtins G.T.nolimit hg hobj hints (Nat.le_trans hlen hn2) hr hF hb (fun H hO hS => hsp w H a ns hlen hO hS) fun H e s' => hCX w H s₁ e s'
end L2
namespace L2
open PySem PySem.Spec PyProof.Rows
def defArgs (s : Stmt) : Arguments := match s with
  | .FunctionDef _ a _ _ _ _ _ _ _ _ => a
  | _ => { posonlyargs := [], args := [], vararg := none, kwonlyargs := [], kw_defaults := [], kwarg := none, defaults := [] }
def defBody (s : Stmt) : List Stmt := match s with
  | .FunctionDef _ _ b _ _ _ _ _ _ _ => b
  | _ => []
def defScope (s : Stmt) : Scope := match s with
  | .FunctionDef _ _ _ _ _ _ sc _ _ _ => sc
  | _ => { kind := .function, names := [], isGenerator := false, isCoroutine := false }
abbrev CX0 : CXT := fun _ _ _ _ _ _ => False
abbrev E0 : XK := fun _ _ _ => False
theorem pass0 {X : Cx} : Passes CX0 X E0 := fun _ _ _ _ _ _ _ h => h.elim
structure Fun (K : PySem.W.Frag) (x qual : Str) (st : Stmt) (f : Addr) (fd : FuncData) : Prop where
  ex : ∃ (oc : Value) (od : Option Addr) (kV doc pm : Value) (an : Option Addr) (cdv ct : Value) (osl : Array (Option Value)),
    fd = PySem.W.fnOf x qual (defArgs st) (defBody st) (defScope st) .none kV doc pm an cdv ct ∧ K.lookup f = some ⟨oc, od, .func fd, osl⟩ ∧ PySem.W.codeIn K cdv qual = true
  kp : PySem.W.keepIn K (.ref f) = true
section
variable {P : Program} {w : World} {K : PySem.W.Frag} {mg : Str → Option Value} {base : Heap}
theorem Fun.ok {x qual : Str} {st : Stmt} {f : Addr} {fd : FuncData} {N ps : List Str} {k : Nat} {sp : Sp} (F : Fun K x qual st f fd) (S : FnScope N ps (defScope st)) (len : ∀ vs H Q E, sp vs H Q E → vs.length = ps.length)
    (hbody : ∀ (cdv : Value) (A : Around) (outer : List Env) (s : Shared) (H : Hp) (vs : List V) (Q : VK) (E : XK), Room k (A.deeper (envOfC qual (defScope st) s.heap.objs.size f cdv)) → sp vs H Q E →
      ∃ t, PSs (cxOf CX0 P w K mg base N qual (defScope st) f cdv A outer s H E).nox (defBody st) t ∧ t { nx := fun _ H' => Q .non H', rt := Q } (start N vs) H) : FnOk P w K mg base CX0 (k + 1) f fd ps sp := by
  obtain ⟨oc, od, kV, doc, pm, an, cdv, ct, osl, rfl, lk, hcd⟩ := F.ex
  refine fn_of lk hcd S len fun A outer s H vs Q E hr hsp => ?_
  obtain ⟨t, h, q⟩ := hbody cdv A outer s H vs Q E hr hsp
  exact ⟨t, h.nox, q⟩
theorem Fun.binds {x qual : Str} {st : Stmt} {f : Addr} {fd : FuncData} {ps : List Str} (F : Fun K x qual st f fd)
    (h : ∀ (kV doc pm : Value) (an : Option Addr) (cdv ct : Value) (us : List Value), us.length = ps.length → bindArgs (PySem.W.fnOf x qual (defArgs st) (defBody st) (defScope st) .none kV doc pm an cdv ct) ⟨us, []⟩ = pure (ps.zip us)) : Binds K fd ps [] := by
  obtain ⟨oc, od, kV, doc, pm, an, cdv, ct, osl, rfl, lk, hcd⟩ := F.ex
  exact .all (h kV doc pm an cdv ct)
theorem fun_mk {x qual : Str} {st : Stmt} {f : Addr} {oc : Value} {od an : Option Addr} {osl : Array (Option Value)} {kV doc pm cdv ct : Value} (l : K.lookup f = some ⟨oc, od, .func (PySem.W.fnOf x qual (defArgs st) (defBody st) (defScope st) .none kV doc pm an cdv ct), osl⟩)
    (c : PySem.W.codeIn K cdv qual = true) (k : PySem.W.keepIn K (.ref f) = true) : Fun K x qual st f (PySem.W.fnOf x qual (defArgs st) (defBody st) (defScope st) .none kV doc pm an cdv ct) := ⟨⟨oc, od, kV, doc, pm, an, cdv, ct, osl, rfl, l, c⟩, k⟩
end
section
variable {X : Cx}
end
theorem iteF {A B : Prop} (h : B) : if false = true then A else B := by
  rw [if_neg Bool.false_ne_true]
  exact h
theorem iteT {A B : Prop} (h : A) : if true = true then A else B := by
  rw [if_pos rfl]
  exact h
def Same (H H' : Hp) : Prop := ∀ b o, H b = some o → H' b = some o
theorem Same.refl (H : Hp) : Same H H := fun _ _ h => h
theorem Same.trans {H H1 H2 : Hp} (a : Same H H1) (b : Same H1 H2) : Same H H2 := fun c o h => b c o (a c o h)
theorem Same.free {H H' : Hp} (e : Same H H') {l : Addr} (h : H' l = Option.none) : H l = Option.none := by
  cases q : H l with
  | none => rfl
  | some o =>
    rw [e l o q] at h
    cases h
theorem Same.seq {K : PySem.W.Frag} {H H' : Hp} {a : Addr} {xs : List V} (e : Same H H') (h : SqL K H a xs) : SqL K H' a xs := by
  rcases h with (h | ⟨o, h⟩) | h
  · exact .inl (.inl (e _ _ h))
  · exact .inl (.inr ⟨o, e _ _ h⟩)
  · exact .inr h
end L2
set_option Elab.async false
set_option linter.all false
set_option maxRecDepth 100000
set_option maxHeartbeats 4000000
namespace L3
open PySem PySem.Spec PyProof.Rows L2
inductive T where
  | non | bl (b : Bool) | int (i : Int) | str (x : Str) | tup (xs : List T) | ref (a : Addr)
inductive O where
  | lst (xs : List T)
  | frz (xs : List T)
abbrev Gp := Addr → Option O
def gu (G : Gp) (a : Addr) (o : O) : Gp := fun b => if b = a then some o else G b
theorem gu_same {G : Gp} {a : Addr} {o : O} : gu G a o a = some o := by unfold gu; rw [if_pos rfl]
theorem gu_ne {G : Gp} {a b : Addr} {o : O} (h : b ≠ a) : gu G a o b = G b := by unfold gu; rw [if_neg h]
mutual
inductive Rp (K : PySem.W.Frag) (H : Hp) : T → V → Prop
  | non : Rp K H .non .non
  | bl (b : Bool) : Rp K H (.bl b) (.bl b)
  | int (i : Int) : Rp K H (.int i) (.int i)
  | str (x : Str) : Rp K H (.str x) (.str x)
  | ref (a : Addr) : Rp K H (.ref a) (.ref a)
  | tup {xs : List T} {a : Addr} {vs : List V} : SqT K H a vs → Rps K H xs vs → Rp K H (.tup xs) (.ref a)
inductive Rps (K : PySem.W.Frag) (H : Hp) : List T → List V → Prop
  | nil : Rps K H [] []
  | cons {x : T} {v : V} {xs : List T} {vs : List V} : Rp K H x v → Rps K H xs vs → Rps K H (x :: xs) (v :: vs)
end
def OR (K : PySem.W.Frag) (H : Hp) (a : Addr) : O → Prop
  | .lst xs => ∃ vs, H a = some (.lst vs) ∧ Rps K H xs vs
  | .frz xs => ∃ vs, (∃ o, H a = some (.frz o (.lst vs))) ∧ Rps K H xs vs
def HR (K : PySem.W.Frag) (G : Gp) (H : Hp) : Prop := ∀ a o, G a = some o → OR K H a o
def Kp (G : Gp) (H : Hp) (G' : Gp) (H' : Hp) : Prop := ∀ a o, H a = some o → G a = none → H' a = some o ∧ G' a = none
theorem Kp.refl {G : Gp} {H : Hp} : Kp G H G H := fun _ _ h g => ⟨h, g⟩
theorem Kp.trans {G G1 G2 : Gp} {H H1 H2 : Hp} (a : Kp G H G1 H1) (b : Kp G1 H1 G2 H2) : Kp G H G2 H2 := fun x o h g =>
  let ⟨h1, g1⟩ := a x o h g; b x o h1 g1
section
variable {K : PySem.W.Frag} {G G' : Gp} {H H' : Hp}
theorem HR.noneT (hr : HR K G H) {a : Addr} {vs : List V} (h : Rd H a (.tup vs)) : G a = none := by
  cases e : G a with
  | none => rfl
  | some o =>
    have q := hr a o e
    cases o with
    | lst xs =>
      obtain ⟨us, q1, _⟩ := q
      rcases h with h | ⟨ob, h⟩ <;> (rw [q1] at h; cases h)
    | frz xs =>
      obtain ⟨us, ⟨o1, q1⟩, _⟩ := q
      rcases h with h | ⟨ob, h⟩ <;> (rw [q1] at h; cases h)
theorem sqT_keep (hr : HR K G H) (k : Kp G H G' H') {a : Addr} {vs : List V} (h : SqT K H a vs) : SqT K H' a vs := by
  rcases h with h | h
  · have g := hr.noneT h
    rcases h with h | ⟨o, h⟩
    · exact .inl (.inl (k a _ h g).1)
    · exact .inl (.inr ⟨o, (k a _ h g).1⟩)
  · exact .inr h
mutual
theorem Rp.keep (hr : HR K G H) (k : Kp G H G' H') : ∀ {x : T} {v : V}, Rp K H x v → Rp K H' x v
  | _, _, .non => .non
  | _, _, .bl b => .bl b
  | _, _, .int i => .int i
  | _, _, .str x => .str x
  | _, _, .ref a => .ref a
  | _, _, .tup h hs => .tup (sqT_keep hr k h) (Rps.keep hr k hs)
theorem Rps.keep (hr : HR K G H) (k : Kp G H G' H') : ∀ {x : List T} {v : List V}, Rps K H x v → Rps K H' x v
  | _, _, .nil => .nil
  | _, _, .cons a b => .cons (Rp.keep hr k a) (Rps.keep hr k b)
end
theorem Rps.length : ∀ {xs : List T} {vs : List V}, Rps K H xs vs → xs.length = vs.length
  | _, _, .nil => rfl
  | _, _, .cons _ b => by simp [Rps.length b]
theorem Rps.get : ∀ {xs : List T} {vs : List V} {i : Nat} {x : T}, Rps K H xs vs → xs[i]? = some x → ∃ v, vs[i]? = some v ∧ Rp K H x v
  | _, _, _, _, .nil, e => by simp at e
  | _, _, 0, _, .cons r _, e => by simp at e; subst e; exact ⟨_, rfl, r⟩
  | _, _, i + 1, x, .cons _ t, e => by
    obtain ⟨u, h1, h2⟩ := Rps.get (i := i) (x := x) t (by simpa using e)
    exact ⟨u, by simpa using h1, h2⟩
theorem Rps.append : ∀ {xs ys : List T} {vs us : List V}, Rps K H xs vs → Rps K H ys us → Rps K H (xs ++ ys) (vs ++ us)
  | _, _, _, _, .nil, s => s
  | _, _, _, _, .cons r t, s => .cons r (Rps.append t s)
theorem Rps.take : ∀ {xs : List T} {vs : List V} (n : Nat), Rps K H xs vs → Rps K H (xs.take n) (vs.take n)
  | _, _, 0, _ => .nil
  | _, _, _ + 1, .nil => .nil
  | _, _, n + 1, .cons r t => .cons r (Rps.take n t)
theorem Rps.drop : ∀ {xs : List T} {vs : List V} (n : Nat), Rps K H xs vs → Rps K H (xs.drop n) (vs.drop n)
  | _, _, 0, r => r
  | _, _, _ + 1, .nil => .nil
  | _, _, n + 1, .cons _ t => Rps.drop n t
theorem Rps.set {x : T} {v : V} (r : Rp K H x v) : ∀ {xs : List T} {vs : List V} (i : Nat), Rps K H xs vs → Rps K H (xs.set i x) (vs.set i v)
  | _, _, _, .nil => .nil
  | _, _, 0, .cons _ t => .cons r t
  | _, _, i + 1, .cons q t => .cons q (Rps.set r i t)
theorem Rps.ints : ∀ (ns : List Int), Rps K H (ns.map T.int) (ns.map V.int)
  | [] => .nil
  | n :: r => .cons (.int n) (Rps.ints r)
theorem Rps.reverse {xs : List T} {vs : List V} (h : Rps K H xs vs) : Rps K H xs.reverse vs.reverse := by
  induction xs generalizing vs with
  | nil => cases h; exact .nil
  | cons x r ih =>
    cases h with
    | cons a b =>
      rw [List.reverse_cons, List.reverse_cons]
      exact (ih b).append (.cons a .nil)
theorem Kp.laid {p : Addr} {ho : HO} (hp : H p = none) : Kp G H G (upd H p ho) := fun a o h g => ⟨by rw [upd_ne (ne_of_none h hp)]; exact h, g⟩
theorem HR.free (hr : HR K G H) {p : Addr} (hp : H p = none) : G p = none := by
  cases e : G p with
  | none => rfl
  | some o =>
    have q := hr p o e
    cases o with
    | lst xs => obtain ⟨us, q1, _⟩ := q; rw [hp] at q1; cases q1
    | frz xs => obtain ⟨us, ⟨o1, q1⟩, _⟩ := q; rw [hp] at q1; cases q1
theorem OR.keep (hr : HR K G H) (k : Kp G H G' H') {a : Addr} {o : O} (h : OR K H a o) (e : ∀ u, H a = some u → H' a = some u) : OR K H' a o := by
  cases o with
  | lst xs => obtain ⟨vs, h1, h2⟩ := h; exact ⟨vs, e _ h1, h2.keep hr k⟩
  | frz xs => obtain ⟨vs, ⟨o, h1⟩, h2⟩ := h; exact ⟨vs, ⟨o, e _ h1⟩, h2.keep hr k⟩
theorem HR.laid (hr : HR K G H) {p : Addr} {ho : HO} (hp : H p = none) : HR K G (upd H p ho) := fun a o e =>
  (hr a o e).keep hr (Kp.laid hp) fun u h => by rw [upd_ne (ne_of_none h hp)]; exact h
theorem Kp.newL {p : Addr} {ho : HO} {o' : O} (hp : H p = none) : Kp G H (gu G p o') (upd H p ho) := fun a o h g =>
  ⟨by rw [upd_ne (ne_of_none h hp)]; exact h, by rw [gu_ne (ne_of_none h hp)]; exact g⟩
theorem HR.newL (hr : HR K G H) {p : Addr} {xs : List T} {vs : List V} (hp : H p = none) (r : Rps K H xs vs) : HR K (gu G p (.lst xs)) (upd H p (.lst vs)) := fun a o e => by
  by_cases ha : a = p
  · subst ha
    rw [gu_same] at e; cases e
    exact ⟨vs, upd_same, r.keep hr (Kp.laid hp)⟩
  · rw [gu_ne ha] at e
    exact (hr a o e).keep hr (Kp.laid hp) fun u h => by rw [upd_ne ha]; exact h
theorem Kp.wr {p : Addr} {ho : HO} {o o' : O} (g : G p = some o) : Kp G H (gu G p o') (upd H p ho) := fun a ob h ga => by
  have ha : a ≠ p := by intro e; subst e; rw [g] at ga; cases ga
  exact ⟨by rw [upd_ne ha]; exact h, by rw [gu_ne ha]; exact ga⟩
theorem HR.wr (hr : HR K G H) {p : Addr} {ys xs : List T} {vs : List V} (g : G p = some (.lst ys)) (r : Rps K H xs vs) : HR K (gu G p (.lst xs)) (upd H p (.lst vs)) := fun a o e => by
  have k : Kp G H (gu G p (.lst xs)) (upd H p (.lst vs)) := Kp.wr g
  by_cases ha : a = p
  · subst ha
    rw [gu_same] at e; cases e
    exact ⟨vs, upd_same, r.keep hr k⟩
  · rw [gu_ne ha] at e
    exact (hr a o e).keep hr k fun u h => by rw [upd_ne ha]; exact h
end
abbrev St3 := List (Option T)
structure Rel (K : PySem.W.Frag) (τ : St3) (G : Gp) (σ : L2.St) (H : Hp) : Prop where
  hp : HR K G H
  len : τ.length = σ.length
  st : ∀ (i : Nat) (t : T), τ[i]? = some (some t) → ∃ v, σ[i]? = some (some v) ∧ Rp K H t v
theorem Rel.next {K : PySem.W.Frag} {τ : St3} {G G' : Gp} {σ : L2.St} {H H' : Hp} (r : Rel K τ G σ H) (hr : HR K G' H') (k : Kp G H G' H') : Rel K τ G' σ H' :=
  ⟨hr, r.len, fun i t e => let ⟨v, h1, h2⟩ := r.st i t e; ⟨v, h1, h2.keep r.hp k⟩⟩
theorem Rel.set {K : PySem.W.Frag} {τ : St3} {G : Gp} {σ : L2.St} {H : Hp} {t : T} {v : V} (r : Rel K τ G σ H) (i : Nat) (h : Rp K H t v) : Rel K (τ.set i (some t)) G (σ.set i (some v)) H := by
  refine ⟨r.hp, by simp [r.len], fun j u e => ?_⟩
  by_cases hij : i = j
  · subst hij
    rw [List.getElem?_set_self'] at e
    have hl : i < τ.length := by
      cases q : τ[i]? with
      | none => rw [q] at e; cases e
      | some z => exact (List.getElem?_eq_some_iff.mp q).1
    rw [List.getElem?_eq_getElem hl] at e
    have e' : t = u := by simpa using e
    subst e'
    exact ⟨v, by rw [List.getElem?_set_self (by rw [← r.len]; exact hl)], h⟩
  · rw [List.getElem?_set_ne hij] at e
    obtain ⟨w, h1, h2⟩ := r.st j u e
    exact ⟨w, by rw [List.getElem?_set_ne hij]; exact h1, h2⟩
abbrev Q3 := T → Gp → Prop
abbrev TE3 := St3 → Gp → Q3 → Prop
abbrev TT3 := St3 → Gp → (Bool → Gp → Prop) → Prop
abbrev TA3 := St3 → Gp → (List T → Gp → Prop) → Prop
def Aft (K : PySem.W.Frag) (G : Gp) (H : Hp) (q : Q3) (Q : VK) : Prop := ∀ x G', q x G' → ∀ v H', Rp K H' x v → HR K G' H' → Kp G H G' H' → Q v H'
def AftB (K : PySem.W.Frag) (G : Gp) (H : Hp) (q : Bool → Gp → Prop) (Q : Bool → Hp → Prop) : Prop := ∀ x G', q x G' → ∀ H', HR K G' H' → Kp G H G' H' → Q x H'
def AftA (K : PySem.W.Frag) (G : Gp) (H : Hp) (q : List T → Gp → Prop) (Q : List V → Hp → Prop) : Prop := ∀ x G', q x G' → ∀ v H', Rps K H' x v → HR K G' H' → Kp G H G' H' → Q v H'
def lE (K : PySem.W.Frag) (t : TE3) : TE := fun σ H Q => ∃ τ G q, Rel K τ G σ H ∧ t τ G q ∧ Aft K G H q Q
def lT (K : PySem.W.Frag) (t : TT3) : TT := fun σ H Q => ∃ τ G q, Rel K τ G σ H ∧ t τ G q ∧ AftB K G H q Q
def lA (K : PySem.W.Frag) (t : TA3) : TA := fun σ H Q => ∃ τ G q, Rel K τ G σ H ∧ t τ G q ∧ AftA K G H q Q
abbrev E3 (X : Cx) (e : Expr) (t : TE3) : Prop := PE X e (lE X.K t)
abbrev C3 (X : Cx) (e : Expr) (t : TT3) : Prop := PT X e (lT X.K t)
abbrev W3 (X : Cx) (e : Expr) (t : TT3) : Prop := PW X e (lT X.K t)
abbrev A3 (X : Cx) (es : List Expr) (t : TA3) : Prop := PA X es (lA X.K t)
theorem Aft.back {K : PySem.W.Frag} {G G1 : Gp} {H H1 : Hp} {q : Q3} {Q : VK} (a : Aft K G H q Q) (k : Kp G H G1 H1) : Aft K G1 H1 q Q := fun x G' h v H' r hr k' => a x G' h v H' r hr (k.trans k')
theorem AftB.back {K : PySem.W.Frag} {G G1 : Gp} {H H1 : Hp} {q : Bool → Gp → Prop} {Q : Bool → Hp → Prop} (a : AftB K G H q Q) (k : Kp G H G1 H1) : AftB K G1 H1 q Q := fun x G' h H' hr k' => a x G' h H' hr (k.trans k')
theorem AftA.back {K : PySem.W.Frag} {G G1 : Gp} {H H1 : Hp} {q : List T → Gp → Prop} {Q : List V → Hp → Prop} (a : AftA K G H q Q) (k : Kp G H G1 H1) : AftA K G1 H1 q Q := fun x G' h v H' r hr k' => a x G' h v H' r hr (k.trans k')
theorem pe_w {X : Cx} {e : Expr} {t t' : TE} (h : PE X e t) (w : ∀ σ H Q, t' σ H Q → t σ H Q) : PE X e t' := fun pins s σ H Q I q => h pins s σ H Q I (w σ H Q q)
theorem pt_w {X : Cx} {e : Expr} {t t' : TT} (h : PT X e t) (w : ∀ σ H Q, t' σ H Q → t σ H Q) : PT X e t' := fun pins s σ H Q I q => h pins s σ H Q I (w σ H Q q)
theorem pw_w {X : Cx} {e : Expr} {t t' : TT} (h : PW X e t) (w : ∀ σ H Q, t' σ H Q → t σ H Q) : PW X e t' := fun wh pins s σ H Q I q => h wh pins s σ H Q I (w σ H Q q)
theorem pa_w {X : Cx} {e : List Expr} {t t' : TA} (h : PA X e t) (w : ∀ σ H Q, t' σ H Q → t σ H Q) : PA X e t' := fun pos pins s σ H Q I q => h pos pins s σ H Q I (w σ H Q q)
theorem lE_seq {K : PySem.W.Frag} {ta : TE3} {τ : St3} {G : Gp} {σ : L2.St} {H : Hp} {q : Q3} {Q : VK} (r : Rel K τ G σ H) (h : ta τ G q)
    (n : ∀ x G1, q x G1 → ∀ v H1, Rp K H1 x v → HR K G1 H1 → Kp G H G1 H1 → Rel K τ G1 σ H1 → Q v H1) : lE K ta σ H Q :=
  ⟨τ, G, q, r, h, fun x G1 hq v H1 rx hr k => n x G1 hq v H1 rx hr k (r.next hr k)⟩
theorem lT_seq {K : PySem.W.Frag} {ta : TT3} {τ : St3} {G : Gp} {σ : L2.St} {H : Hp} {q : Bool → Gp → Prop} {Q : Bool → Hp → Prop} (r : Rel K τ G σ H) (h : ta τ G q)
    (n : ∀ x G1, q x G1 → ∀ H1, HR K G1 H1 → Kp G H G1 H1 → Rel K τ G1 σ H1 → Q x H1) : lT K ta σ H Q :=
  ⟨τ, G, q, r, h, fun x G1 hq H1 hr k => n x G1 hq H1 hr k (r.next hr k)⟩
theorem lA_seq {K : PySem.W.Frag} {ta : TA3} {τ : St3} {G : Gp} {σ : L2.St} {H : Hp} {q : List T → Gp → Prop} {Q : List V → Hp → Prop} (r : Rel K τ G σ H) (h : ta τ G q)
    (n : ∀ x G1, q x G1 → ∀ v H1, Rps K H1 x v → HR K G1 H1 → Kp G H G1 H1 → Rel K τ G1 σ H1 → Q v H1) : lA K ta σ H Q :=
  ⟨τ, G, q, r, h, fun x G1 hq v H1 rx hr k => n x G1 hq v H1 rx hr k (r.next hr k)⟩
section
variable {X : Cx} {a b c : Expr} {ta tb tc : TE3} {pos : Pos}
def v3 (i : Nat) : TE3 := fun τ G q => match τ[i]? with | some (some t) => q t G | _ => False
theorem e_var (i : Nat) {x : Str} {pos : Pos} (hN : X.N[i]? = some x := by rfl) (hv : Vis X.env.scope x := by first | exact Or.inl rfl | exact Or.inr (Or.inl rfl) | exact Or.inr (Or.inr rfl)) (hd : (x == ("__debug__" : Str)) = false := by decide)
    (hcd : (x == ("__classdict__" : Str)) = false := by decide) : E3 X (.Name x pos) (v3 i) := by
  refine pe_w (pe_var (i := i) hN hv hd hcd) fun σ H Q ⟨τ, G, q, r, h, af⟩ => ?_
  unfold v3 at h
  split at h
  · rename_i t e
    obtain ⟨v, e2, rv⟩ := r.st i t e
    exact ⟨v, e2, af t G h v H rv r.hp Kp.refl⟩
  · exact h.elim
def c3 (t : T) : TE3 := fun _ G q => q t G
theorem e_c {t : T} {v : V} {e : Expr} (h : PE X e (tC v)) (hr : ∀ H, Rp X.K H t v) : E3 X e (c3 t) := pe_w h fun σ H Q ⟨τ, G, q, r, h, af⟩ => af t G h v H (hr H) r.hp Kp.refl
theorem e_int {i : Int} {j pos} : E3 X (.Constant (.int i) j pos) (c3 (.int i)) := e_c pe_int fun _ => .int i
theorem e_bl {b : Bool} {j pos} : E3 X (.Constant (.bool b) j pos) (c3 (.bl b)) := e_c pe_bl fun _ => .bl b
theorem e_non {j pos} : E3 X (.Constant .none j pos) (c3 .non) := e_c pe_non fun _ => .non
theorem e_str {x : Str} {j pos} : E3 X (.Constant (.str x) j pos) (c3 (.str x)) := e_c pe_str fun _ => .str x
def n3 : TE3 := fun _ _ _ => False
abbrev R3 := T → T → Gp → Q3 → Prop
def Ref2 (K : PySem.W.Frag) (r3 : R3) (r : R2) : Prop := ∀ x y v u G H q Q, HR K G H → Rp K H x v → Rp K H y u → r3 x y G q → Aft K G H q Q → r v u H Q
def o3 (r : R3) (ta tb : TE3) : TE3 := fun τ G q => ta τ G fun x G1 => tb τ G1 fun y G2 => r x y G2 q
theorem lE_op {K : PySem.W.Frag} {r3 : R3} {r : R2} (hr : Ref2 K r3 r) {σ : L2.St} {H : Hp} {Q : VK} (h : lE K (o3 r3 ta tb) σ H Q) : tOp r (lE K ta) (lE K tb) σ H Q := by
  obtain ⟨τ, G, q, rl, h, af⟩ := h
  refine lE_seq rl h fun x G1 h1 v H1 rx hr1 k1 rl1 => lE_seq rl1 h1 fun y G2 h2 u H2 ry hr2 k2 rl2 => ?_
  exact hr x y v u G2 H2 q Q hr2 (rx.keep hr1 k2) ry h2 (af.back (k1.trans k2))
theorem e_op {op : Operator} {r3 : R3} {r : R2} (ho : OpR X (binaryOp op) r) (hr : Ref2 X.K r3 r) (ha : E3 X a ta) (hb : E3 X b tb) : E3 X (.BinOp a op b pos) (o3 r3 ta tb) :=
  pe_w (pe_op ho ha hb) fun _ _ _ h => lE_op hr h
theorem e_cmp {op : CmpOp} {r3 : R3} {r : R2} (ho : OpR X (compareOp op) r) (hr : Ref2 X.K r3 r) (ha : E3 X a ta) (hb : E3 X b tb) (hm : behindInMarks op b = false) : E3 X (.Compare a [op] [b] pos) (o3 r3 ta tb) :=
  pe_w (pe_cmpR ho ha hb hm) fun _ _ _ h => lE_op hr h
def tb3 (t : TE3) : TT3 := fun τ G q => t τ G fun x G' => match x with | .bl k => q k G' | _ => False
theorem lT_tb {K : PySem.W.Frag} {t : TE3} {t2 : TE} (hw : ∀ σ H Q, lE K t σ H Q → t2 σ H Q) {σ : L2.St} {H : Hp} {Q : Bool → Hp → Prop} (h : lT K (tb3 t) σ H Q) : tTest t2 σ H Q := by
  obtain ⟨τ, G, q, rl, h, af⟩ := h
  refine hw _ _ _ (lE_seq rl h fun x G1 h1 v H1 rx hr1 k1 rl1 => ?_)
  cases x with
  | bl k => cases rx; exact ⟨k, rfl, af k G1 h1 H1 hr1 k1⟩
  | _ => exact h1.elim
theorem t_cmp {op : CmpOp} {r3 : R3} {r : R2} (ho : OpR X (compareOp op) r) (hr : Ref2 X.K r3 r) (ha : E3 X a ta) (hb : E3 X b tb) (hm : behindInMarks op b = false) : C3 X (.Compare a [op] [b] pos) (tb3 (o3 r3 ta tb)) :=
  pt_w (pt_cmpR ho ha hb hm) fun _ _ _ h => lT_tb (fun _ _ _ => lE_op hr) h
def ch3 (r r' : R3) (ta tb tc : TE3) : TE3 := fun τ G q => ta τ G fun x G1 => tb τ G1 fun y G2 => r x y G2 fun z G3 => match z with
  | .bl k => if k = true then tc τ G3 fun w G4 => r' y w G4 q else q (.bl false) G3
  | _ => False
theorem lE_ch {K : PySem.W.Frag} {r3 r3' : R3} {r r' : R2} (hr : Ref2 K r3 r) (hr' : Ref2 K r3' r') {σ : L2.St} {H : Hp} {Q : VK} (h : lE K (ch3 r3 r3' ta tb tc) σ H Q) : tChain r r' (lE K ta) (lE K tb) (lE K tc) σ H Q := by
  obtain ⟨τ, G, q, rl, h, af⟩ := h
  refine lE_seq rl h fun x G1 h1 v H1 rx hr1 k1 rl1 => lE_seq rl1 h1 fun y G2 h2 u H2 ry hr2 k2 rl2 => ?_
  refine hr x y v u G2 H2 _ _ hr2 (rx.keep hr1 k2) ry h2 fun z G3 h3 w H3 rz hr3 k3 => ?_
  cases z with
  | bl k =>
    cases rz
    refine ⟨k, rfl, ?_⟩
    cases k with
    | false =>
      rw [if_neg Bool.false_ne_true]
      rw [show (match T.bl false with | .bl k => if k = true then tc τ G3 fun w G4 => r3' y w G4 q else q (.bl false) G3 | _ => False) = q (.bl false) G3 from by simp] at h3
      exact af _ G3 h3 _ H3 (.bl false) hr3 ((k1.trans k2).trans k3)
    | true =>
      rw [if_pos rfl]
      refine lE_seq (rl2.next hr3 k3) (show tc τ G3 fun w G4 => r3' y w G4 q from by simpa using h3) fun w G4 h4 w' H4 rw' hr4 k4 rl4 => ?_
      exact hr' y w _ _ G4 H4 q Q hr4 ((ry.keep hr2 k3).keep hr3 k4) rw' h4 (af.back (((k1.trans k2).trans k3).trans k4))
  | _ => exact h3.elim
theorem e_chain {op op' : CmpOp} {r3 r3' : R3} {r r' : R2} (ho : OpR X (compareOp op) r) (hr : Ref2 X.K r3 r) (ho' : OpR X (compareOp op') r') (hr' : Ref2 X.K r3' r') (ha : E3 X a ta) (hb : E3 X b tb) (hc : E3 X c tc)
    (hm : lastMarks [op, op'] [b, c] = false := by with_unfolding_all rfl) : E3 X (.Compare a [op, op'] [b, c] pos) (ch3 r3 r3' ta tb tc) :=
  pe_w (pe_chain ho ho' ha hb hc hm) fun _ _ _ h => lE_ch hr hr' h
def Ref1 (K : PySem.W.Frag) (r3 : T → Gp → Q3 → Prop) (r : V → Hp → VK → Prop) : Prop := ∀ x v G H q Q, HR K G H → Rp K H x v → r3 x G q → Aft K G H q Q → r v H Q
def u3 (r : T → Gp → Q3 → Prop) (ta : TE3) : TE3 := fun τ G q => ta τ G fun x G1 => r x G1 q
theorem e_un {op : UnaryOp} {r3 : T → Gp → Q3 → Prop} {r : V → Hp → VK → Prop} (ho : UnR X (unaryOp op) r) (hr : Ref1 X.K r3 r) (ha : E3 X a ta) : E3 X (.UnaryOp op a pos) (u3 r3 ta) :=
  pe_w (pe_un ho ha) fun _ _ _ ⟨τ, G, q, rl, h, af⟩ => lE_seq rl h fun x G1 h1 v H1 rx hr1 k1 rl1 => hr x v G1 H1 q _ hr1 rx h1 (af.back k1)
def neg3 : T → Gp → Q3 → Prop := fun x G q => match x with | .int i => q (.int (-i)) G | _ => False
theorem ref_neg {K : PySem.W.Frag} : Ref1 K neg3 (rU fun i => .int (-i)) := fun x v G H q Q hr rx h af => by
  cases x with
  | int i => cases rx; exact ⟨i, rfl, af _ G h _ H (.int _) hr Kp.refl⟩
  | _ => exact h.elim
def iI (f : Int → Int → Int) : R3 := fun x y G q => match x, y with | .int i, .int j => q (.int (f i j)) G | _, _ => False
def iC (C : Int → Int → Prop) (f : Int → Int → Int) : R3 := fun x y G q => match x, y with | .int i, .int j => C i j ∧ q (.int (f i j)) G | _, _ => False
def iB (f : Int → Int → Bool) : R3 := fun x y G q => match x, y with | .int i, .int j => q (.bl (f i j)) G | _, _ => False
theorem ref_iC {K : PySem.W.Frag} {C : Int → Int → Prop} {f : Int → Int → Int} : Ref2 K (iC C f) (rI C fun i j => .int (f i j)) := fun x y v u G H q Q hr rx ry h af => by
  cases x <;> try exact h.elim
  cases y <;> try exact h.elim
  cases rx; cases ry
  exact ⟨_, _, rfl, rfl, h.1, af _ G h.2 _ H (.int _) hr Kp.refl⟩
theorem ref_iB {K : PySem.W.Frag} {f : Int → Int → Bool} : Ref2 K (iB f) (rI0 fun i j => .bl (f i j)) := fun x y v u G H q Q hr rx ry h af => by
  cases x <;> try exact h.elim
  cases y <;> try exact h.elim
  cases rx; cases ry
  exact ⟨_, _, rfl, rfl, af _ G h _ H (.bl _) hr Kp.refl⟩
theorem e_mul (ha : E3 X a ta) (hb : E3 X b tb) : E3 X (.BinOp a .Mult b pos) (o3 (iC CMul (· * ·)) ta tb) := e_op op_mul ref_iC ha hb
theorem e_mod (ha : E3 X a ta) (hb : E3 X b tb) : E3 X (.BinOp a .Mod b pos) (o3 (iC (fun _ j => 0 < j) (· % ·)) ta tb) := e_op op_mod ref_iC ha hb
theorem e_div (ha : E3 X a ta) (hb : E3 X b tb) : E3 X (.BinOp a .FloorDiv b pos) (o3 (iC CDiv (· / ·)) ta tb) := e_op op_fdiv ref_iC ha hb
theorem e_pow (ha : E3 X a ta) (hb : E3 X b tb) : E3 X (.BinOp a .Pow b pos) (o3 (iC CPow (fun i j => i ^ j.toNat)) ta tb) := e_op op_pow ref_iC ha hb
theorem e_neg (ha : E3 X a ta) : E3 X (.UnaryOp .USub a pos) (u3 neg3 ta) := e_un un_neg ref_neg ha
def scalT : T → T → Option Bool
  | .non, .non => some true | .non, .int _ => some false | .int _, .non => some false | .non, .bl _ => some false | .bl _, .non => some false | .non, .str _ => some false | .str _, .non => some false
  | .int i, .int j => some (decide (i = j)) | .bl i, .bl j => some (decide (i = j)) | .str i, .str j => some (decide (i = j))
  | .int _, .str _ => some false | .str _, .int _ => some false | .bl _, .str _ => some false | .str _, .bl _ => some false
  | _, _ => none
theorem scalT_ok {K : PySem.W.Frag} {H : Hp} {x y : T} {v u : V} {k : Bool} (rx : Rp K H x v) (ry : Rp K H y u) (h : scalT x y = some k) : scal v u = true ∧ decide (v = u) = k := by
  cases rx <;> cases ry <;> simp [scalT] at h <;> subst h <;> simp [scal]
def isN3 (neg : Bool) : R3 := fun x y G q => match y with | .non => q (.bl (match x with | .non => !neg | _ => neg)) G | _ => False
variable {tA tB : TT3} {rest : List Expr}
def and3 (t u : TT3) : TT3 := fun τ G q => t τ G fun k G1 => if k = true then u τ G1 q else q false G1
def or3 (t u : TT3) : TT3 := fun τ G q => t τ G fun k G1 => if k = true then q true G1 else u τ G1 q
def not3 (t : TT3) : TT3 := fun τ G q => t τ G fun k G1 => q (!k) G1
theorem t_or1 (ha : C3 X a tA) : W3 X (.BoolOp .Or [a] pos) tA := pw_or1 ha
theorem t_or (ha : C3 X a tA) (hb : W3 X (.BoolOp .Or (b :: rest) pos) tB) : W3 X (.BoolOp .Or (a :: b :: rest) pos) (or3 tA tB) :=
  pw_w (pw_or ha hb) fun _ _ _ ⟨τ, G, q, rl, h, af⟩ => lT_seq rl h fun k G1 h1 H1 hr1 k1 rl1 => by
    cases k with
    | true => rw [if_pos rfl] at h1 ⊢; exact af _ G1 h1 H1 hr1 k1
    | false => rw [if_neg Bool.false_ne_true] at h1 ⊢; exact ⟨τ, G1, q, rl1, h1, af.back k1⟩
theorem t_not (ha : C3 X a tA) : C3 X (.UnaryOp .Not a pos) (not3 tA) :=
  pt_w (pt_not ha) fun _ _ _ ⟨τ, G, q, rl, h, af⟩ => lT_seq rl h fun k G1 h1 H1 hr1 k1 rl1 => af _ G1 h1 H1 hr1 k1
theorem t_val {e : Expr} {t : TE3} (h : E3 X e t) (he : ∀ whole, isTrue e X.env whole = (do let v ← whole; standAt e.pos; holding [v] (truthy v)) := by intro _; rfl) : C3 X e (tb3 t) :=
  pt_w (pt_val h he) fun _ _ _ h => lT_tb (fun _ _ _ h => h) h
def andV3 (ta tb : TE3) : TE3 := fun τ G q => ta τ G fun x G1 => match x with | .bl k => if k = true then tb τ G1 q else q (.bl false) G1 | _ => False
def orV3 (ta tb : TE3) : TE3 := fun τ G q => ta τ G fun x G1 => match x with | .bl k => if k = true then q (.bl true) G1 else tb τ G1 q | _ => False
def notV3 (ta : TE3) : TE3 := fun τ G q => ta τ G fun x G1 => match x with | .bl k => q (.bl (!k)) G1 | _ => False
theorem e_one {op} (h : E3 X a ta) : E3 X (.BoolOp op [a] pos) ta := pe_one h
theorem e_and (ha : E3 X a ta) (hb : E3 X (.BoolOp .And (b :: rest) pos) tb) : E3 X (.BoolOp .And (a :: b :: rest) pos) (andV3 ta tb) :=
  pe_w (pe_and ha hb) fun _ _ _ ⟨τ, G, q, rl, h, af⟩ => lE_seq rl h fun x G1 h1 v H1 rx hr1 k1 rl1 => by
    cases x with
    | bl k =>
      cases rx
      refine ⟨k, rfl, ?_⟩
      cases k with
      | true => rw [if_pos rfl]; exact ⟨τ, G1, q, rl1, (show tb τ G1 q from by simpa using h1), af.back k1⟩
      | false => rw [if_neg Bool.false_ne_true]; exact af _ G1 (by simpa using h1) _ H1 (.bl false) hr1 k1
    | _ => exact h1.elim
theorem e_not (ha : E3 X a ta) : E3 X (.UnaryOp .Not a pos) (notV3 ta) :=
  pe_w (pe_not ha) fun _ _ _ ⟨τ, G, q, rl, h, af⟩ => lE_seq rl h fun x G1 h1 v H1 rx hr1 k1 rl1 => by
    cases x with
    | bl k => cases rx; exact ⟨k, rfl, af _ G1 h1 _ H1 (.bl _) hr1 k1⟩
    | _ => exact h1.elim
def if3 (t : TT3) (ta tb : TE3) : TE3 := fun τ G q => t τ G fun k G1 => if k = true then ta τ G1 q else tb τ G1 q
theorem e_if {c : Expr} (hc : C3 X c tA) (ha : E3 X a ta) (hb : E3 X b tb) : E3 X (.IfExp c a b pos) (if3 tA ta tb) :=
  pe_w (pe_ifExp hc ha hb) fun _ _ _ ⟨τ, G, q, rl, h, af⟩ => lT_seq rl h fun k G1 h1 H1 hr1 k1 rl1 => by
    cases k with
    | true => rw [if_pos rfl] at h1 ⊢; exact ⟨τ, G1, q, rl1, h1, af.back k1⟩
    | false => rw [if_neg Bool.false_ne_true] at h1 ⊢; exact ⟨τ, G1, q, rl1, h1, af.back k1⟩
variable {e : Expr} {es : List Expr} {te : TE3} {t : TA3}
def nil3 : TA3 := fun _ G q => q [] G
def cons3 (ta : TE3) (tr : TA3) : TA3 := fun τ G q => ta τ G fun x G1 => tr τ G1 fun xs G2 => q (x :: xs) G2
theorem a_nil : A3 X [] nil3 := pa_w pa_nil fun _ H _ ⟨τ, G, q, rl, h, af⟩ => af _ G h _ H .nil rl.hp Kp.refl
theorem a_cons (ha : E3 X e te) (hr : A3 X es t) (hs : starEach (e :: es) X.env = (false, eval e X.env) :: starEach es X.env := by rfl) : A3 X (e :: es) (cons3 te t) :=
  pa_w (pa_cons ha hr hs) fun _ _ _ ⟨τ, G, q, rl, h, af⟩ => lE_seq rl h fun x G1 h1 v H1 rx hr1 k1 rl1 => lA_seq rl1 h1 fun xs G2 h2 vs H2 rs hr2 k2 rl2 =>
    af _ G2 h2 _ H2 (.cons (rx.keep hr1 k2) rs) hr2 (k1.trans k2)
def tup3 (t : TA3) : TE3 := fun τ G q => t τ G fun xs G1 => xs.length ≤ sizeLine ∧ q (.tup xs) G1
def lst3 (t : TA3) : TE3 := fun τ G q => t τ G fun xs G1 => xs.length ≤ sizeLine ∧ ∀ p, G1 p = none → q (.ref p) (gu G1 p (.lst xs))
theorem e_tup {x1} (h : A3 X es t) : E3 X (.Tuple es x1 pos) (tup3 t) :=
  pe_w (pe_tup h) fun _ _ _ ⟨τ, G, q, rl, h, af⟩ => lA_seq rl h fun xs G1 h1 vs H1 rs hr1 k1 rl1 => ⟨by rw [← rs.length]; exact h1.1, fun p hp =>
    af _ G1 h1.2 _ _ (.tup (SqT.of upd_same) (rs.keep hr1 (Kp.laid hp))) (hr1.laid hp) (k1.trans (Kp.laid hp))⟩
theorem e_lst (h : A3 X es t) : E3 X (.List es pos) (lst3 t) :=
  pe_w (pe_lst h) fun _ _ _ ⟨τ, G, q, rl, h, af⟩ => lA_seq rl h fun xs G1 h1 vs H1 rs hr1 k1 rl1 => ⟨by rw [← rs.length]; exact h1.1, fun p hp =>
    af _ _ (h1.2 p (hr1.free hp)) _ _ (.ref p) (hr1.newL hp rs) (k1.trans (Kp.newL hp))⟩
def RefC (K : PySem.W.Frag) (r3 : List T → Gp → Q3 → Prop) (r : List V → Hp → VK → Prop) : Prop := ∀ xs vs G H q Q, HR K G H → Rps K H xs vs → r3 xs G q → Aft K G H q Q → r vs H Q
def cb3 (r : List T → Gp → Q3 → Prop) (t : TA3) : TE3 := fun τ G q => t τ G fun xs G1 => r xs G1 q
theorem lA_cb {K : PySem.W.Frag} {r3 : List T → Gp → Q3 → Prop} {r : List V → Hp → VK → Prop} (hr : RefC K r3 r) {σ : L2.St} {H : Hp} {Q : VK} (h : lE K (cb3 r3 t) σ H Q) : tCB r (lA K t) σ H Q := by
  obtain ⟨τ, G, q, rl, h, af⟩ := h
  exact lA_seq rl h fun xs G1 h1 vs H1 rs hr1 k1 rl1 => hr xs vs G1 H1 q Q hr1 rs h1 (af.back k1)
theorem e_callB {x : Str} {p : Pos} {id : String} {r3 : List T → Gp → Q3 → Prop} {r : List V → Hp → VK → Prop} (hc : CallR X (.builtin id) r) (hr : RefC X.K r3 r) (hg : Gl X x) (hm : X.mg x = none) (hv : bootBuiltins x = some (.builtin id)) (ha : A3 X (e :: es) t) (hn : x ≠ "__name__" := by decide) (hdb : (x == ("__debug__" : Str)) = false := by decide)
    (he : starEach (e :: es) X.env = (false, eval e X.env) :: starEach es X.env := by rfl) (hpl : (backTo pos (starEach es X.env)).any (·.1) = false := by rfl) : E3 X (.Call (.Name x p) (e :: es) [] pos) (cb3 r3 t) :=
  pe_w (pe_callB hc hg hm hv ha hn hdb he hpl) fun _ _ _ h => lA_cb hr h
theorem e_callTy {x : Str} {p : Pos} {ty : String} {r3 : List T → Gp → Q3 → Prop} {r : List V → Hp → VK → Prop} (hc : CallR X (.type ty) r) (hr : RefC X.K r3 r) (hg : Gl X x) (hm : X.mg x = none) (hv : bootBuiltins x = some (.type ty)) (ha : A3 X (e :: es) t) (hn : x ≠ "__name__" := by decide) (hdb : (x == ("__debug__" : Str)) = false := by decide)
    (he : starEach (e :: es) X.env = (false, eval e X.env) :: starEach es X.env := by rfl) (hpl : (backTo pos (starEach es X.env)).any (·.1) = false := by rfl) : E3 X (.Call (.Name x p) (e :: es) [] pos) (cb3 r3 t) :=
  pe_w (pe_callTy hc hg hm hv ha hn hdb he hpl) fun _ _ _ h => lA_cb hr h
end
end L3
set_option Elab.async false
set_option linter.all false
set_option maxRecDepth 100000
set_option maxHeartbeats 4000000
namespace L3
open PySem PySem.Spec PyProof.Rows L2
def getL (G : Gp) (p : Addr) : Option (List T) := match G p with | some (.lst xs) => some xs | some (.frz xs) => some xs | none => none
section
variable {K : PySem.W.Frag} {G G' : Gp} {H H' : Hp}
theorem getL_sq (hr : HR K G H) {p : Addr} {xs : List T} (h : getL G p = some xs) : ∃ vs, SqL K H p vs ∧ Rps K H xs vs := by
  unfold getL at h
  split at h
  · rename_i ys e; cases h
    obtain ⟨vs, h1, h2⟩ := hr p _ e
    exact ⟨vs, SqL.of h1, h2⟩
  · rename_i ys e; cases h
    obtain ⟨vs, ⟨o, h1⟩, h2⟩ := hr p _ e
    exact ⟨vs, .inl (.inr ⟨o, h1⟩), h2⟩
  · cases h
theorem HR.lst (hr : HR K G H) {p : Addr} {xs : List T} (h : G p = some (.lst xs)) : ∃ vs, H p = some (.lst vs) ∧ Rps K H xs vs := hr p _ h
theorem Rps.atI {xs : List T} {vs : List V} {i : Int} {x : T} (r : Rps K H xs vs) (h : atI xs i = some x) : ∃ v, L2.atI vs i = some v ∧ Rp K H x v := by
  unfold L2.atI at h ⊢
  rw [← r.length]
  cases e : ixN xs.length i with
  | none => rw [e] at h; cases h
  | some j =>
    rw [e] at h
    exact r.get (by simpa using h)
end
def ix3 : R3 := fun x y G q => match x, y with
  | .tup xs, .int i => (match atI xs i with | some z => q z G | none => False)
  | .ref p, .int i => (match getL G p with | some xs => (match atI xs i with | some z => q z G | none => False) | none => False)
  | _, _ => False
section
variable {X : Cx} {a b c e : Expr} {es : List Expr} {ta tb tc te : TE3} {t : TA3} {pos : Pos}
theorem ref_ix {K : PySem.W.Frag} : Ref2 K ix3 (rIx K) := fun x y v u G H q Q hr rx ry h af => by
  cases x <;> try exact h.elim
  case tup xs =>
    cases y <;> try exact h.elim
    case int i =>
      unfold ix3 at h
      simp only at h
      split at h
      · rename_i z e
        cases ry
        cases rx with
        | tup hs rs =>
          obtain ⟨w, e2, rw'⟩ := rs.atI e
          exact .inr (.inl ⟨_, _, i, w, rfl, rfl, hs, e2, af z G h w H rw' hr Kp.refl⟩)
      · exact h.elim
  case ref p =>
    cases y <;> try exact h.elim
    case int i =>
      unfold ix3 at h
      simp only at h
      split at h
      · rename_i xs e0
        split at h
        · rename_i z e
          cases ry
          cases rx
          obtain ⟨vs, hs, rs⟩ := getL_sq hr e0
          obtain ⟨w, e2, rw'⟩ := rs.atI e
          exact .inl ⟨p, vs, i, w, rfl, rfl, hs, e2, af z G h w H rw' hr Kp.refl⟩
        · exact h.elim
      · exact h.elim
theorem e_ix (ha : E3 X a ta) (hb : E3 X b tb) (hs : PlainIx b := by intro _ _; rfl) : E3 X (.Subscript a b pos) (o3 ix3 ta tb) := pe_w (pe_ix ix_seq ha hb hs) fun _ _ _ h => lE_op ref_ix h
def cut3 {α : Type} (xs : List α) (lo hi : Option Int) : List α := (xs.drop (HT.sIx xs.length 0 lo)).take (HT.sIx xs.length xs.length hi - HT.sIx xs.length 0 lo)
theorem Rps.cut {K : PySem.W.Frag} {H : Hp} {xs : List T} {vs : List V} (r : Rps K H xs vs) (lo hi : Option Int) : Rps K H (cut3 xs lo hi) (cutV vs lo hi) := by
  unfold cut3 cutV
  rw [r.length]
  exact (r.drop _).take _
abbrev TO3 := St3 → Gp → (Option Int → Gp → Prop) → Prop
def lO (K : PySem.W.Frag) (t : TO3) : TO := fun σ H Q => ∃ τ G q, Rel K τ G σ H ∧ t τ G q ∧ ∀ x G', q x G' → ∀ H', HR K G' H' → Kp G H G' H' → Q x H'
abbrev P3 (X : Cx) (e : Option Expr) (t : TO3) : Prop := PO X e (lO X.K t)
def np3 : TO3 := fun _ G q => q none G
def sp3 (t : TE3) : TO3 := fun τ G q => t τ G fun x G1 => match x with | .int i => q (some i) G1 | _ => False
theorem po_w {X : Cx} {e : Option Expr} {t t' : TO} (h : PO X e t) (w : ∀ σ H Q, t' σ H Q → t σ H Q) : PO X e t' := fun pins s σ H Q I q => h pins s σ H Q I (w σ H Q q)
theorem p_none : P3 X none np3 := po_w po_none fun _ H _ ⟨τ, G, q, rl, h, af⟩ => af none G h H rl.hp Kp.refl
theorem p_some (h : E3 X e te) : P3 X (some e) (sp3 te) := po_w (po_some h) fun _ _ _ ⟨τ, G, q, rl, h, af⟩ => lE_seq rl h fun x G1 h1 v H1 rx hr1 k1 rl1 => by
  cases x <;> try exact h1.elim
  cases rx
  exact ⟨_, rfl, af _ G1 h1 H1 hr1 k1⟩
def sl3 : T → Option Int → Option Int → Gp → Q3 → Prop := fun x lo hi G q => match x with
  | .tup xs => ¬ (HT.sIx xs.length 0 lo = 0 ∧ HT.sIx xs.length xs.length hi = xs.length) ∧ q (.tup (cut3 xs lo hi)) G
  | .ref p => (match getL G p with | some xs => ∀ a, G a = none → q (.ref a) (gu G a (.lst (cut3 xs lo hi))) | none => False)
  | _ => False
def tsl3 (te : TE3) (tl th : TO3) : TE3 := fun τ G q => te τ G fun x G1 => tl τ G1 fun l G2 => th τ G2 fun u G3 => sl3 x l u G3 q
theorem rps_nil {K : PySem.W.Frag} {H : Hp} {xs : List T} {vs : List V} (r : Rps K H xs vs) : vs = [] ↔ xs = [] := by
  cases r <;> simp
def cat3 : R3 := fun x y G q => match x, y with
  | .tup xs, .tup ys => xs ≠ [] ∧ xs.length + ys.length ≤ sizeLine ∧ q (.tup (xs ++ ys)) G
  | .ref a, .ref b => (match G a, G b with | some (.lst xs), some (.lst ys) => xs.length + ys.length ≤ sizeLine ∧ ∀ p, G p = none → q (.ref p) (gu G p (.lst (xs ++ ys))) | _, _ => False)
  | .int i, .int j => q (.int (i + j)) G
  | _, _ => False
theorem ref_cat {K : PySem.W.Frag} : Ref2 K cat3 (fun x y H Q => (rI0 (fun i j => .int (i + j)) x y H Q ∨ rCatT K x y H Q) ∨ rCat x y H Q) := fun x y v u G H q Q hr rx ry h af => by
  cases x <;> try exact h.elim
  case int i =>
    cases y <;> try exact h.elim
    cases rx; cases ry
    exact .inl (.inl ⟨_, _, rfl, rfl, af _ G h _ H (.int _) hr Kp.refl⟩)
  case tup xs =>
    cases y <;> try exact h.elim
    case tup ys =>
      obtain ⟨h1, h2, h3⟩ := h
      cases rx with
      | tup hs rs =>
        cases ry with
        | tup hs' rs' =>
          refine .inl (.inr ⟨_, _, _, _, rfl, rfl, hs, hs', fun z => h1 ((rps_nil rs).mp z), by rw [← rs.length, ← rs'.length]; exact h2, fun z => ?_, fun z p hp => ?_⟩)
          · have e := (rps_nil rs').mp z
            subst e
            rw [List.append_nil] at h3
            exact af _ G h3 _ H (.tup hs rs) hr Kp.refl
          · exact af _ G h3 _ _ (.tup (SqT.of upd_same) ((rs.append rs').keep hr (Kp.laid hp))) (hr.laid hp) (Kp.laid hp)
  case ref a =>
    cases y <;> try exact h.elim
    case ref b =>
      unfold cat3 at h
      simp only at h
      split at h
      · rename_i xs ys e1 e2
        cases rx; cases ry
        obtain ⟨vs, g1, r1⟩ := hr.lst e1
        obtain ⟨us, g2, r2⟩ := hr.lst e2
        refine .inr ⟨a, b, vs, us, rfl, rfl, g1, g2, by rw [← r1.length, ← r2.length]; exact h.1, fun p hp => ?_⟩
        exact af _ _ (h.2 p (hr.free hp)) _ _ (.ref p) (hr.newL hp (r1.append r2)) (Kp.newL hp)
      · exact h.elim
theorem e_plus (ha : E3 X a ta) (hb : E3 X b tb) : E3 X (.BinOp a .Add b pos) (o3 cat3 ta tb) := e_op ((op_add.or op_catT).or op_cat) ref_cat ha hb
def flatT : T → Bool
  | .non => true | .bl _ => true | .int _ => true | .str _ => true | _ => false
def eqF : T → T → Bool
  | .non, .non => true
  | .bl a, .bl b => a == b
  | .bl a, .int b => (if a then 1 else 0) == b
  | .int a, .bl b => a == (if b then 1 else 0)
  | .int a, .int b => a == b
  | .str a, .str b => a == b
  | _, _ => false
theorem flat_ok {K : PySem.W.Frag} {H : Hp} {x : T} {v : V} (r : Rp K H x v) (h : flatT x = true) : flatV v = true := by
  cases r <;> first | rfl | (cases h)
theorem flats_ok {K : PySem.W.Frag} {H : Hp} : ∀ {x : List T} {v : List V}, Rps K H x v → x.all flatT = true → v.all flatV = true
  | _, _, .nil, _ => rfl
  | _, _, .cons a b, h => by
    rw [List.all_cons, Bool.and_eq_true] at h ⊢
    exact ⟨flat_ok a h.1, flats_ok b h.2⟩
theorem eqF_ok {K : PySem.W.Frag} {H : Hp} {x y : T} {v u : V} (r : Rp K H x v) (s : Rp K H y u) (h : flatT x = true) (h' : flatT y = true) : eqV v u = eqF x y := by
  cases r <;> first | (cases h; done) | (cases s <;> first | rfl | (cases h'; done))
theorem inF_ok {K : PySem.W.Frag} {H : Hp} {x : T} {v : V} (r : Rp K H x v) (h : flatT x = true) : ∀ {ys : List T} {us : List V}, Rps K H ys us → ys.all flatT = true → inV v us = ys.any fun y => eqF y x
  | _, _, .nil, _ => rfl
  | _, _, .cons a b, h' => by
    rw [List.all_cons, Bool.and_eq_true] at h'
    unfold inV
    rw [List.any_cons, List.any_cons, eqF_ok a r h'.1 h]
    congr 1
    exact inF_ok r h b h'.2
def in3 (neg : Bool) : R3 := fun x y G q => flatT x = true ∧ match y with
  | .tup ys => ys.all flatT = true ∧ q (.bl (if neg then !(ys.any fun y => eqF y x) else (ys.any fun y => eqF y x))) G
  | .ref p => (match getL G p with | some ys => ys.all flatT = true ∧ q (.bl (if neg then !(ys.any fun y => eqF y x) else (ys.any fun y => eqF y x))) G | none => False)
  | _ => False
theorem ref_in {K : PySem.W.Frag} {neg : Bool} : Ref2 K (in3 neg) (rIn K neg) := fun x y v u G H q Q hr rx ry h af => by
  obtain ⟨hf, h⟩ := h
  cases y <;> try exact h.elim
  case tup ys =>
    cases ry with
    | tup hs rs =>
      refine ⟨_, _, rfl, .inr hs, flat_ok rx hf, flats_ok rs h.1, ?_⟩
      rw [inF_ok rx hf rs h.1]
      exact af _ G h.2 _ H (.bl _) hr Kp.refl
  case ref p =>
    simp only at h
    split at h
    · rename_i ys e
      cases ry
      obtain ⟨us, hs, rs⟩ := getL_sq hr e
      refine ⟨_, _, rfl, .inl hs, flat_ok rx hf, flats_ok rs h.1, ?_⟩
      rw [inF_ok rx hf rs h.1]
      exact af _ G h.2 _ H (.bl _) hr Kp.refl
    · exact h.elim
def len3 : List T → Gp → Q3 → Prop := fun xs G q => match xs with
  | [.tup ys] => q (.int ys.length) G
  | [.str y] => y.length ≤ sizeLine ∧ q (.int y.length) G
  | [.ref p] => (match getL G p with | some ys => q (.int ys.length) G | none => False)
  | _ => False
theorem rps1 {K : PySem.W.Frag} {H : Hp} {x : T} {vs : List V} (r : Rps K H [x] vs) : ∃ v, vs = [v] ∧ Rp K H x v := by
  cases r with
  | cons a b => cases b; exact ⟨_, rfl, a⟩
theorem rps2 {K : PySem.W.Frag} {H : Hp} {x y : T} {vs : List V} (r : Rps K H [x, y] vs) : ∃ v u, vs = [v, u] ∧ Rp K H x v ∧ Rp K H y u := by
  cases r with
  | cons a b => cases b with | cons c d => cases d; exact ⟨_, _, rfl, a, c⟩
theorem ref_len {K : PySem.W.Frag} : RefC K len3 (fun xs H Q => ∃ x n, xs = [x] ∧ LenV K x H n ∧ Q (.int n) H) := fun xs vs G H q Q hr rs h af => by
  unfold len3 at h
  split at h
  · obtain ⟨v, rfl, r⟩ := rps1 rs
    cases r with
    | tup hs r2 => exact ⟨_, _, rfl, .inr ⟨_, hs, rfl⟩, by rw [← r2.length]; exact af _ G h _ H (.int _) hr Kp.refl⟩
  · obtain ⟨v, rfl, r⟩ := rps1 rs
    cases r
    exact ⟨_, _, rfl, ⟨h.1, rfl⟩, af _ G h.2 _ H (.int _) hr Kp.refl⟩
  · obtain ⟨v, rfl, r⟩ := rps1 rs
    split at h
    · rename_i ys e
      cases r
      obtain ⟨us, hs, r2⟩ := getL_sq hr e
      exact ⟨_, _, rfl, .inl ⟨_, hs, rfl⟩, by rw [← r2.length]; exact af _ G h _ H (.int _) hr Kp.refl⟩
    · exact h.elim
  · exact h.elim
def abs3 : List T → Gp → Q3 → Prop := fun xs G q => match xs with | [.int i] => q (.int (if i < 0 then -i else i)) G | _ => False
theorem ref_abs {K : PySem.W.Frag} : RefC K abs3 (fun xs H Q => ∃ i, xs = [.int i] ∧ Q (.int (if i < 0 then -i else i)) H) := fun xs vs G H q Q hr rs h af => by
  unfold abs3 at h
  split at h
  · obtain ⟨v, rfl, r⟩ := rps1 rs
    cases r
    exact ⟨_, rfl, af _ G h _ H (.int _) hr Kp.refl⟩
  · exact h.elim
def min3 : List T → Gp → Q3 → Prop := fun xs G q => match xs with | [.int i, .int j] => q (.int (if j < i then j else i)) G | _ => False
theorem ref_min {K : PySem.W.Frag} : RefC K min3 (fun xs H Q => ∃ i j, xs = [.int i, .int j] ∧ Q (.int (if j < i then j else i)) H) := fun xs vs G H q Q hr rs h af => by
  unfold min3 at h
  split at h
  · obtain ⟨v, u, rfl, r, r'⟩ := rps2 rs
    cases r; cases r'
    exact ⟨_, _, rfl, af _ G h _ H (.int _) hr Kp.refl⟩
  · exact h.elim
def max3 : List T → Gp → Q3 → Prop := fun xs G q => match xs with | [.int i, .int j] => q (.int (if j > i then j else i)) G | _ => False
def int3 : List T → Gp → Q3 → Prop := fun xs G q => match xs with | [.int i] => q (.int i) G | [.bl k] => q (.int (if k then 1 else 0)) G | _ => False
def tuple3 : List T → Gp → Q3 → Prop := fun xs G q => match xs with
  | [.tup ys] => q (.tup ys) G
  | [.ref p] => (match getL G p with | some ys => q (.tup ys) G | none => False)
  | _ => False
theorem ref_tuple {K : PySem.W.Frag} : RefC K tuple3 (fun xs H Q => ∃ p ys, xs = [.ref p] ∧ ((SqL K H p ys ∧ ∀ l, H l = none → Q (.ref l) (upd H l (.tup ys))) ∨ (SqT K H p ys ∧ Q (.ref p) H))) := fun xs vs G H q Q hr rs h af => by
  unfold tuple3 at h
  split at h
  · obtain ⟨v, rfl, r⟩ := rps1 rs
    cases r with
    | tup hs r2 => exact ⟨_, _, rfl, .inr ⟨hs, af _ G h _ H (.tup hs r2) hr Kp.refl⟩⟩
  · obtain ⟨v, rfl, r⟩ := rps1 rs
    split at h
    · rename_i ys e
      cases r
      obtain ⟨us, hs, r2⟩ := getL_sq hr e
      exact ⟨_, _, rfl, .inl ⟨hs, fun l hl => af _ G h _ _ (.tup (SqT.of upd_same) (r2.keep hr (Kp.laid hl))) (hr.laid hl) (Kp.laid hl)⟩⟩
    · exact h.elim
  · exact h.elim
def list3 : List T → Gp → Q3 → Prop := fun xs G q => match xs with
  | [.tup ys] => ∀ p, G p = none → q (.ref p) (gu G p (.lst ys))
  | [.ref p] => (match getL G p with | some ys => ∀ p, G p = none → q (.ref p) (gu G p (.lst ys)) | none => False)
  | _ => False
theorem ref_list {K : PySem.W.Frag} : RefC K list3 (fun xs H Q => ∃ p ys, xs = [.ref p] ∧ (SqL K H p ys ∨ SqT K H p ys) ∧ ∀ l, H l = none → Q (.ref l) (upd H l (.lst ys))) := fun xs vs G H q Q hr rs h af => by
  unfold list3 at h
  split at h
  · obtain ⟨v, rfl, r⟩ := rps1 rs
    cases r with
    | tup hs r2 => exact ⟨_, _, rfl, .inr hs, fun l hl => af _ _ (h l (hr.free hl)) _ _ (.ref l) (hr.newL hl r2) (Kp.newL hl)⟩
  · obtain ⟨v, rfl, r⟩ := rps1 rs
    split at h
    · rename_i ys e
      cases r
      obtain ⟨us, hs, r2⟩ := getL_sq hr e
      exact ⟨_, _, rfl, .inl hs, fun l hl => af _ _ (h l (hr.free hl)) _ _ (.ref l) (hr.newL hl r2) (Kp.newL hl)⟩
    · exact h.elim
  · exact h.elim
def ext3 : T → List T → Gp → Q3 → Prop := fun x xs G q => match x, xs with
  | .ref l, [.ref b] => (match G l, G b with | some (.lst ys), some (.lst zs) => ys.length + zs.length ≤ sizeLine ∧ q .non (gu G l (.lst (ys ++ zs))) | _, _ => False)
  | _, _ => False
def app3 : T → List T → Gp → Q3 → Prop := fun x xs G q => match x, xs with
  | .ref l, [y] => (match G l with | some (.lst ys) => ys.length < sizeLine ∧ q .non (gu G l (.lst (ys ++ [y]))) | _ => False)
  | _, _ => False
def bm3 (r : T → List T → Gp → Q3 → Prop) (to : TE3) (t : TA3) : TE3 := fun τ G q => to τ G fun x G1 => (match x with | .ref p => (getL G1 p).isSome = true | _ => False) ∧ t τ G1 fun xs G2 => r x xs G2 q
end
end L3
set_option Elab.async false
set_option linter.all false
set_option maxRecDepth 100000
set_option maxHeartbeats 4000000
namespace L3
open PySem PySem.Spec PyProof.Rows L2
def tyT (G : Gp) : T → Option String
  | .non => some "NoneType" | .bl _ => some "bool" | .int _ => some "int" | .str _ => some "str" | .tup _ => some "tuple"
  | .ref p => if (getL G p).isSome then some "list" else none
def subT (t c : String) : Bool := t == c || (t == "bool" && c == "int")
theorem kit_ints (K : PySem.W.Frag) : ∀ t ∈ ["NoneType", "bool", "int", "str", "tuple", "list"], ∀ c ∈ ["bool", "int", "str", "tuple", "list"], PySem.W.kitOne K (.type t) (.type c) = some (subT t c) := by
  intro t ht c hc
  simp only [List.mem_cons, List.not_mem_nil, or_false] at ht hc
  rcases ht with rfl | rfl | rfl | rfl | rfl | rfl <;> rcases hc with rfl | rfl | rfl | rfl | rfl <;> kernel_rfl
section
variable {X : Cx} {a b c e : Expr} {es : List Expr} {ta tb tc te : TE3} {t : TA3} {pos : Pos}
def TyS (K : PySem.W.Frag) (H : Hp) (x : V) (t : String) : Prop := match x with
  | .non => t = "NoneType" | .bl _ => t = "bool" | .int _ => t = "int" | .str _ => t = "str"
  | .ref a => (t = "tuple" ∧ ∃ vs, SqT K H a vs) ∨ (t = "list" ∧ ∃ vs, SqL K H a vs)
  | _ => False
theorem TyS.mem {K : PySem.W.Frag} {H : Hp} {x : V} {t : String} (h : TyS K H x t) : t ∈ ["NoneType", "bool", "int", "str", "tuple", "list"] := by
  cases x <;> simp [TyS] at h <;> first | (subst h; decide) | (rcases h with ⟨rfl, _⟩ | ⟨rfl, _⟩ <;> decide)
theorem TyS.kitx {pins : List (Addr × Obj)} {σ : L2.St} {H : Hp} {s : Shared} {x : V} {u : Value} {t : String} (I : Inv X pins σ H s) (rx : RelV x u) (h : TyS X.K H x t) :
    ∃ HH : Heap → Prop, PySem.W.KitX X.K u (.type t) HH ∧ HH s.heap ∧ u ≠ .builtin "__main__.__loader__#opaque" := by
  cases x with
  | non => cases (show u = Value.none from rx); cases (show t = _ from h); exact ⟨_, PySem.W.kitx_none, True.intro, fun z => nomatch z⟩
  | bl y => cases (show u = Value.bool y from rx); cases (show t = _ from h); exact ⟨_, PySem.W.kitx_bool, True.intro, fun z => nomatch z⟩
  | int i => obtain ⟨tk, q⟩ := (show ∃ t, u = Value.int i t from rx); cases q; cases (show t = _ from h); exact ⟨_, PySem.W.kitx_int, True.intro, fun z => nomatch z⟩
  | str y => obtain ⟨tk, q⟩ := (show ∃ t, u = Value.str y t from rx); cases q; cases (show t = _ from h); exact ⟨_, PySem.W.kitx_str, True.intro, fun z => nomatch z⟩
  | ref a =>
    cases (show u = Value.ref a from rx)
    rcases (show (t = "tuple" ∧ ∃ vs, SqT X.K H a vs) ∨ (t = "list" ∧ ∃ vs, SqL X.K H a vs) from h) with ⟨rfl, vs, hs⟩ | ⟨rfl, vs, hs⟩
    · obtain ⟨its, _, p, _⟩ := I.tuple hs
      obtain ⟨o, h1, h2, _⟩ := p
      exact ⟨_, PySem.W.kitx_tuple, ⟨o, h1, h2⟩, fun z => nomatch z⟩
    · obtain ⟨its, _, p, _⟩ := I.list hs
      obtain ⟨o, n, h1, h2, _⟩ := p
      exact ⟨_, PySem.W.kitx_list, ⟨o, h1, h2⟩, fun z => nomatch z⟩
  | _ => exact False.elim h
abbrev tyNames : List String := ["bool", "int", "str", "tuple", "list"]
theorem call_isi : CallR X (.builtin "isinstance") (fun xs H Q => ∃ x t c, xs = [x, .ty c] ∧ TyS X.K H x t ∧ c ∈ tyNames ∧ Q (.bl (subT t c)) H) := by
  intro pins s σ H xs us Q I r h
  obtain ⟨x, t, c, rfl, ht, hc, q⟩ := h
  obtain ⟨u, w, rfl, rx, rc⟩ := vals2 r
  cases (show w = Value.type c from rc)
  obtain ⟨HH, kx, hh, ne⟩ := ht.kitx I rx
  exact PySem.W.kia_one kx I.kIn hh (kit_ints X.K t ht.mem c hc) ne fun tk => ⟨.bl _, H, I.tok tk, rfl, q⟩
theorem tyT_ok {K : PySem.W.Frag} {G : Gp} {H : Hp} (hr : HR K G H) {x : T} {v : V} {t : String} (r : Rp K H x v) (h : tyT G x = some t) : TyS K H v t := by
  cases r with
  | non => cases h; rfl
  | bl _ => cases h; rfl
  | int _ => cases h; rfl
  | str _ => cases h; rfl
  | tup hs rs => cases h; exact .inl ⟨rfl, _, hs⟩
  | ref a =>
    have h : (if (getL G a).isSome then some "list" else none) = some t := h
    split at h
    · rename_i e
      cases h
      obtain ⟨ys, e⟩ := Option.isSome_iff_exists.mp e
      obtain ⟨us, hs, _⟩ := getL_sq hr e
      exact .inr ⟨rfl, us, hs⟩
    · cases h
def isi3 (f : String → Bool) (te : TE3) : TE3 := fun τ G q => te τ G fun x G1 => match tyT G1 x with | some t => q (.bl (f t)) G1 | none => False
theorem e_isi {tn : Str} {ty : String} {p p2 : Pos} (he : E3 X e te) (hg : Gl X "isinstance") (hm : X.mg "isinstance" = none) (hg2 : Gl X tn) (hm2 : X.mg tn = none) (hv : bootBuiltins tn = some (.type ty)) (hmem : ty ∈ tyNames := by decide) (hn : tn ≠ "__name__" := by decide) (hdb : (tn == ("__debug__" : Str)) = false := by decide)
    (hs : starEach [e, .Name tn p2] X.env = (false, eval e X.env) :: starEach [.Name tn p2] X.env := by rfl) (hs2 : starEach [.Name tn p2] X.env = (false, eval (.Name tn p2) X.env) :: starEach [] X.env := by rfl) (hpl : (backTo pos (starEach [.Name tn p2] X.env)).any (·.1) = false := by rfl) :
    E3 X (.Call (.Name "isinstance" p) [e, .Name tn p2] [] pos) (isi3 (fun t => subT t ty) te) :=
  pe_w (pe_callB call_isi hg hm PyProof.Rows.boot_isinstance (pa_cons he (pa_cons (pe_bltn (v := .ty ty) hg2 hm2 hv rfl hn hdb) pa_nil hs2) hs) (by decide) (by decide) hs hpl)
    fun _ _ _ ⟨τ, G, q, rl, h, af⟩ => lE_seq rl h fun x G1 h1 v H1 rx hr1 k1 rl1 => by
      split at h1
      · rename_i t e1
        exact ⟨_, t, ty, rfl, tyT_ok hr1 rx e1, hmem, af _ G1 h1 _ H1 (.bl _) hr1 k1⟩
      · exact h1.elim
structure Ends3 where
  nx : St3 → Gp → Prop
  rt : Q3
  bk : St3 → Gp → Prop := fun _ _ => False
  ct : St3 → Gp → Prop := fun _ _ => False
abbrev TS3 := Ends3 → St3 → Gp → Prop
def AftS (K : PySem.W.Frag) (G : Gp) (H : Hp) (q : St3 → Gp → Prop) (Q : L2.St → Hp → Prop) : Prop := ∀ τ G', q τ G' → ∀ σ H', Rel K τ G' σ H' → Kp G H G' H' → Q σ H'
structure AftD (K : PySem.W.Frag) (G : Gp) (H : Hp) (d : Ends3) (D : Ends) : Prop where
  nx : AftS K G H d.nx D.nx
  rt : Aft K G H d.rt D.rt
  bk : AftS K G H d.bk D.bk
  ct : AftS K G H d.ct D.ct
theorem AftS.back {K : PySem.W.Frag} {G G1 : Gp} {H H1 : Hp} {q : St3 → Gp → Prop} {Q : L2.St → Hp → Prop} (a : AftS K G H q Q) (k : Kp G H G1 H1) : AftS K G1 H1 q Q := fun x G' h v H' r k' => a x G' h v H' r (k.trans k')
theorem AftD.back {K : PySem.W.Frag} {G G1 : Gp} {H H1 : Hp} {d : Ends3} {D : Ends} (a : AftD K G H d D) (k : Kp G H G1 H1) : AftD K G1 H1 d D := ⟨a.nx.back k, a.rt.back k, a.bk.back k, a.ct.back k⟩
def lS (K : PySem.W.Frag) (t : TS3) : TS := fun D σ H => ∃ τ G d, Rel K τ G σ H ∧ t d τ G ∧ AftD K G H d D
abbrev S3 (X : Cx) (st : Stmt) (t : TS3) : Prop := PS X st (lS X.K t)
abbrev B3 (X : Cx) (st : List Stmt) (t : TS3) : Prop := PSs X st (lS X.K t)
theorem ps_w {X : Cx} {st : Stmt} {t t' : TS} (h : PS X st t) (w : ∀ D σ H, t' D σ H → t D σ H) : PS X st t' := fun pins s σ H D I q => h pins s σ H D I (w D σ H q)
theorem pss_w {X : Cx} {st : List Stmt} {t t' : TS} (h : PSs X st t) (w : ∀ D σ H, t' D σ H → t D σ H) : PSs X st t' := fun pins s σ H D I q => h pins s σ H D I (w D σ H q)
variable {st : Stmt} {rest : List Stmt} {t1 t2 : TS3} {tA : TT3}
def next3 : TS3 := fun d τ G => d.nx τ G
def seq3 (t u : TS3) : TS3 := fun d τ G => t { d with nx := u d } τ G
theorem b_nil : B3 X [] next3 := pss_w pss_nil fun _ σ H ⟨τ, G, d, rl, h, af⟩ => af.nx τ G h σ H rl Kp.refl
theorem b_cons (h1 : S3 X st t1) (h2 : B3 X rest t2) : B3 X (st :: rest) (seq3 t1 t2) := pss_w (pss_cons h1 h2) fun D σ H ⟨τ, G, d, rl, h, af⟩ =>
  ⟨τ, G, { d with nx := t2 d }, rl, h, ⟨fun τ' G' h' σ' H' rl' k' => ⟨τ', G', d, rl', h', af.back k'⟩, af.rt, af.bk, af.ct⟩⟩
theorem b_one (h1 : S3 X st t1) : B3 X [st] t1 := pss_one h1
def drop3 (te : TE3) : TS3 := fun d τ G => te τ G fun _ G1 => d.nx τ G1
def ret3 (te : TE3) : TS3 := fun d τ G => te τ G d.rt
theorem s_ret (he : E3 X e te) : S3 X (.Return (some e) pos) (ret3 te) := ps_w (ps_ret he) fun _ σ H ⟨τ, G, d, rl, h, af⟩ => ⟨τ, G, d.rt, rl, h, af.rt⟩
def retN3 : TS3 := fun d _ G => d.rt .non G
def ifS3 (c : TT3) (t u : TS3) : TS3 := fun d τ G => c τ G fun k G1 => if k = true then t d τ G1 else u d τ G1
theorem s_if {c : Expr} {ba bb : List Stmt} (hc : C3 X c tA) (ha : B3 X ba t1) (hb : B3 X bb t2) : S3 X (.If c ba bb pos) (ifS3 tA t1 t2) := ps_w (ps_if hc ha hb) fun _ σ H ⟨τ, G, d, rl, h, af⟩ =>
  lT_seq rl h fun k G1 h1 H1 hr1 k1 rl1 => by
    cases k with
    | true => rw [if_pos rfl] at h1 ⊢; exact ⟨τ, G1, d, rl1, h1, af.back k1⟩
    | false => rw [if_neg Bool.false_ne_true] at h1 ⊢; exact ⟨τ, G1, d, rl1, h1, af.back k1⟩
def nev3 : TS3 := fun _ _ _ => False
abbrev TG3 := T → St3 → Gp → (St3 → Gp → Prop) → Prop
abbrev TGs3 := List T → St3 → Gp → (St3 → Gp → Prop) → Prop
def lG (K : PySem.W.Frag) (t : TG3) : TG := fun v σ H Q => ∃ x τ G q, Rp K H x v ∧ Rel K τ G σ H ∧ t x τ G q ∧ AftS K G H q Q
def lGs (K : PySem.W.Frag) (t : TGs3) : TGs := fun v σ H Q => ∃ x τ G q, Rps K H x v ∧ Rel K τ G σ H ∧ t x τ G q ∧ AftS K G H q Q
abbrev G3 (X : Cx) (e : Expr) (t : TG3) : Prop := PG X e (lG X.K t)
abbrev Gs3 (X : Cx) (es : List Expr) (t : TGs3) : Prop := PGs X es (lGs X.K t)
theorem pg_w {X : Cx} {e : Expr} {t t' : TG} (h : PG X e t) (w : ∀ v σ H Q, t' v σ H Q → t v σ H Q) : PG X e t' := fun pins s σ H v u Q I r q => h pins s σ H v u Q I r (w v σ H Q q)
theorem pgs_w {X : Cx} {e : List Expr} {t t' : TGs} (h : PGs X e t) (w : ∀ v σ H Q, t' v σ H Q → t v σ H Q) : PGs X e t' := fun pins s σ H v u Q I r q => h pins s σ H v u Q I r (w v σ H Q q)
def gn3 (i : Nat) : TG3 := fun x τ G q => q (τ.set i (some x)) G
theorem g_name {i : Nat} {x : Str} (hN : X.N.Nodup) (hi : X.N[i]? = some x := by rfl) (hx : Loc X.env.scope x := by first | exact Or.inl rfl | exact Or.inr rfl) (hf : X.fn x = true ∨ X.env.scope.names.lookup x = some .local := by first | exact .inl rfl | exact .inr rfl) : G3 X (.Name x pos) (gn3 i) :=
  pg_w (pg_name hN hi hx hf) fun v σ H Q ⟨x, τ, G, q, rx, rl, h, af⟩ => af _ G h _ H (rl.set i rx) Kp.refl
def gnil3 : TGs3 := fun xs τ G q => match xs with | [] => q τ G | _ => False
def gcons3 (t : TG3) (u : TGs3) : TGs3 := fun xs τ G q => match xs with | x :: r => t x τ G fun τ' G' => u r τ' G' q | [] => False
theorem g_nil : Gs3 X [] gnil3 := pgs_w pgs_nil fun v σ H Q ⟨x, τ, G, q, rx, rl, h, af⟩ => by
  cases rx with
  | nil => exact ⟨rfl, af _ G h _ H rl Kp.refl⟩
  | cons _ _ => exact h.elim
theorem g_cons {tg : TG3} {tgs : TGs3} (h1 : G3 X e tg) (h2 : Gs3 X es tgs) (hs : (assignEach (e :: es) X.env).map (·.2) = assign e X.env :: (assignEach es X.env).map (·.2) := by rfl) : Gs3 X (e :: es) (gcons3 tg tgs) := pgs_w (pgs_cons h1 h2 hs) fun v σ H Q ⟨x, τ, G, q, rx, rl, h, af⟩ => by
  cases rx with
  | nil => exact h.elim
  | cons r rs => exact ⟨_, _, rfl, _, τ, G, _, r, rl, h, fun τ' G' h' σ' H' rl' k' => ⟨_, τ', G', q, rs.keep rl.hp k', rl', h', af.back k'⟩⟩
def gtup3 (n : Nat) (t : TGs3) : TG3 := fun x τ G q => match x with | .tup xs => xs.length = n ∧ t xs τ G q | _ => False
theorem g_tup {k : Nat} {tgs : TGs3} {n : Nat} (hc : X.calm = true) (h : Gs3 X es tgs) (hn : (assignEach es X.env).length = n := by rfl) (hst : (assignEach es X.env).findIdx? (·.1) = none := by rfl) : G3 X (.Tuple es k pos) (gtup3 n tgs) :=
  pg_w (pg_tup hc h hn hst) fun v σ H Q ⟨x, τ, G, q, rx, rl, h, af⟩ => by
    cases x <;> try exact h.elim
    case tup xs =>
      cases rx with
      | tup hs rs => exact ⟨_, _, rfl, hs, by rw [← rs.length]; exact h.1, _, τ, G, q, rs, rl, h.2, af⟩
def set3 : T → T → T → Gp → (Gp → Prop) → Prop := fun o i v G q => match o, i with
  | .ref p, .int k => (match G p with | some (.lst xs) => (match ixN xs.length k with | some j => q (gu G p (.lst (xs.set j v))) | none => False) | _ => False)
  | _, _ => False
def gsub3 (to ti : TE3) : TG3 := fun x τ G q => to τ G fun o G1 => ti τ G1 fun i G2 => set3 o i x G2 fun G3 => q τ G3
theorem g_sub {o i : Expr} {to ti : TE3} (ho : E3 X o to) (hi : E3 X i ti) (ha : ∀ v, assign (.Subscript o i pos) X.env v = (do
      let ov ← holding [v] (eval o X.env)
      let iv ← holding [v, ov] (eval i X.env)
      standAt pos
      holding [v, ov, iv] (setItem ov iv v)
      release [v, ov, iv] []) := by intro _; rfl) : G3 X (.Subscript o i pos) (gsub3 to ti) :=
  pg_w (pg_sub ho hi set_list ha) fun v σ H Q ⟨x, τ, G, q, rx, rl, h, af⟩ => lE_seq rl h fun y G1 h1 u H1 ry hr1 k1 rl1 => lE_seq rl1 h1 fun z G2 h2 w H2 rz hr2 k2 rl2 => by
    have rx2 := (rx.keep rl.hp k1).keep hr1 k2
    have ry2 := ry.keep hr1 k2
    unfold set3 at h2
    split at h2
    · rename_i p k
      split at h2
      · rename_i xs e
        split at h2
        · rename_i j ej
          cases ry2; cases rz
          obtain ⟨vs, g1, r1⟩ := hr2.lst e
          have kk : Kp G2 H2 (gu G2 p (.lst (xs.set j x))) (upd H2 p (.lst (vs.set j v))) := Kp.wr e
          exact ⟨p, vs, k, j, rfl, rfl, g1, by rw [← r1.length]; exact ej, af τ _ h2 σ _ (rl2.next (hr2.wr e (r1.set rx2 j)) kk) ((k1.trans k2).trans kk)⟩
        · exact h2.elim
      · exact h2.elim
    · exact h2.elim
def asg3 (te : TE3) (g : TG3) : TS3 := fun d τ G => te τ G fun x G1 => g x τ G1 d.nx
theorem s_asg {tg e : Expr} {g : TG3} (he : E3 X e te) (hg : G3 X tg g) (hs : swapsWithSole [tg] e pos.line X.env = pure false := by rfl) (hw : swappedStores [tg] e X.env = pure none := by rfl)
    (h1 : (assignEach [tg] X.env).map (·.2) = [assign tg X.env] := by rfl) : S3 X (.Assign [tg] e pos) (asg3 te g) := ps_w (ps_asg he hg hs hw h1) fun _ σ H ⟨τ, G, d, rl, h, af⟩ =>
  lE_seq rl h fun x G1 h1 v H1 rx hr1 k1 rl1 => ⟨x, τ, G1, d.nx, rx, rl1, h1, af.nx.back k1⟩
theorem s_set (i : Nat) {x : Str} {e : Expr} {pos' : Pos} (hN : X.N.Nodup) (he : E3 X e te) (hi : X.N[i]? = some x := by rfl) (hx : Loc X.env.scope x := by first | exact Or.inl rfl | exact Or.inr rfl) (hs : swapsWith e (some (.Name x pos')) pos.line X.env = pure false := by rfl) (hf : X.fn x = true ∨ X.env.scope.names.lookup x = some .local := by first | exact .inl rfl | exact .inr rfl) :
    S3 X (.Assign [.Name x pos'] e pos) (asg3 te (gn3 i)) := ps_w (ps_set hN hi hx he hs hf) fun _ σ H ⟨τ, G, d, rl, h, af⟩ =>
  lE_seq rl h fun x G1 h1 v H1 rx hr1 k1 rl1 => af.nx _ G1 h1 _ H1 (rl1.set i rx) k1
def par3 (i j : Nat) (ta : TA3) : TS3 := fun d τ G => ta τ G fun xs G1 => match xs with | [x, y] => d.nx ((τ.set i (some x)).set j (some y)) G1 | _ => False
theorem s_par {i j : Nat} {x y : Str} {a b : Expr} {tt : TA3} {px py pt : Pos} {kt k2 pt2} (hc : X.calm = true) (hN : X.N.Nodup) (hi : X.N[i]? = some x) (hj : X.N[j]? = some y) (hij : i ≠ j)
    (hx : X.env.scope.names.lookup x = some .local) (hy : X.env.scope.names.lookup y = some .local) (ha : A3 X [a, b] tt)
    (hw : swappedStores [.Tuple [.Name x px, .Name y py] kt pt] (.Tuple [a, b] k2 pt2) X.env = pure (some [x, y]) := by rfl)
    (hs : swapsWithSole [.Tuple [.Name x px, .Name y py] kt pt] (.Tuple [a, b] k2 pt2) pos.line X.env = pure false := by rfl) :
    S3 X (.Assign [.Tuple [.Name x px, .Name y py] kt pt] (.Tuple [a, b] k2 pt2) pos) (par3 i j tt) := ps_w (ps_par hc hN hi hj hij hx hy ha hw hs) fun _ σ H ⟨τ, G, d, rl, h, af⟩ =>
  lA_seq rl h fun xs G1 h1 vs H1 rs hr1 k1 rl1 => by
    split at h1
    · obtain ⟨v, u, rfl, r, r'⟩ := rps2 rs
      exact ⟨v, u, rfl, af.nx _ G1 h1 _ H1 ((rl1.set i r).set j r') k1⟩
    · exact h1.elim
end
end L3
set_option Elab.async false
set_option linter.all false
set_option maxRecDepth 100000
set_option maxHeartbeats 4000000
namespace L3
open PySem PySem.Spec PyProof.Rows L2
abbrev TI3 := St3 → Gp → (List T → (Gp → Prop) → Gp → Prop) → Prop
def ItOk (K : PySem.W.Frag) (J : It) (items : List T) (stay : Gp → Prop) (G0 : Gp) (H0 : Hp) : Prop := ∀ G H, HR K G H → Kp G0 H0 G H → stay G →
  (∀ i x, items[i]? = some x → J.go i H) ∧ (∀ i x v H', items[i]? = some x → J.yld i H v H' → Rp K H' x v ∧ HR K G H' ∧ Kp G H G H') ∧ J.stop items.length H
def lI (K : PySem.W.Frag) (wi : TI3) : TI := fun σ H R => ∃ τ G r, Rel K τ G σ H ∧ wi τ G r ∧ ∀ items stay G', r items stay G' → ∀ J H', HR K G' H' → Kp G H G' H' → ItOk K J items stay G' H' → R J H'
abbrev I3 (X : Cx) (tg iter : Expr) (wi : TI3) : Prop := PI X tg iter (lI X.K wi)
theorem pi_w {X : Cx} {tg e : Expr} {t t' : TI} (h : PI X tg e t) (w : ∀ σ H R, t' σ H R → t σ H R) : PI X tg e t' := fun pins s σ H R I q => h pins s σ H R I (w σ H R q)
section
variable {X : Cx} {a b c e l tg : Expr} {es : List Expr} {ta tb tc te : TE3} {t : TA3} {pos : Pos}
theorem pi_seq {tl : TE} (hl : PE X l tl) : PI X tg l (fun σ H R => tl σ H fun x H1 => ∃ a, x = .ref a ∧ (((∃ xs, SqL X.K H1 a xs) ∧ R (Itl X.K a) H1) ∨ ((∃ xs, SqT X.K H1 a xs) ∧ R (Itt X.K a) H1))) := by
  intro pins s σ H R I h
  refine thn (hl pins s σ H _ I h) fun v s1 ⟨x, H1, I1, r1, q1⟩ => ?_
  obtain ⟨a, e, ⟨⟨xs, hq⟩, q⟩ | ⟨⟨xs, hq⟩, q⟩⟩ := q1
  · subst e
    cases r1
    obtain ⟨its, rv, p, hz⟩ := I1.list hq
    refine wpAny_pyIter_list p.isList ?_
    refine ⟨s1.heap.objs.size, [s1.heap.objs.size], _, _, H1, rfl, I1.kept (t' := s1.toks) fun b o e => Heap.get?_push_of_some _ e, turn_list a _, ⟨_, Heap.get?_push_size _ rfl, rfl, rfl⟩, fun b hb => ?_, q⟩
    have e : b = s1.heap.objs.size := by simpa using hb
    subst e
    exact I1.fpOk (Nat.le_refl _) (I1.hok.fresh (Nat.le_refl _))
  · subst e
    cases r1
    obtain ⟨its, rv, p, hz⟩ := I1.tuple hq
    refine wpAny_pyIter_tuple (show s1.heap.IsTuple a its.toArray from p) ?_
    refine ⟨s1.heap.objs.size, [s1.heap.objs.size], _, _, H1, rfl, I1.kept (t' := s1.toks) fun b o e => Heap.get?_push_of_some _ e, turn_tuple a _, ⟨_, Heap.get?_push_size _ rfl, rfl, rfl⟩, fun b hb => ?_, q⟩
    have e : b = s1.heap.objs.size := by simpa using hb
    subst e
    exact I1.fpOk (Nat.le_refl _) (I1.hok.fresh (Nat.le_refl _))
def iseq3 (tl : TE3) : TI3 := fun τ G r => tl τ G fun x G1 => match x with
  | .tup xs => r xs (fun _ => True) G1
  | .ref p => (match getL G1 p with | some xs => r xs (fun G => getL G p = some xs) G1 | none => False)
  | _ => False
theorem itl_ok {K : PySem.W.Frag} {p : Addr} {xs : List T} {G0 : Gp} {H0 : Hp} : ItOk K (Itl K p) xs (fun G => getL G p = some xs) G0 H0 := by
  intro G H hr _ hs
  obtain ⟨vs, sq, rs⟩ := getL_sq hr hs
  refine ⟨fun i x hi => ?_, fun i x v H' hi y => ?_, ⟨vs, sq, by rw [rs.length]; exact Nat.le_refl _⟩⟩
  · obtain ⟨v, hv, _⟩ := rs.get hi
    exact ⟨vs, v, sq, hv⟩
  · obtain ⟨e, y⟩ := y
    subst e
    obtain ⟨w, hw, rw'⟩ := rs.get hi
    have e2 := (y vs sq).symm.trans hw
    cases e2
    exact ⟨rw', hr, Kp.refl⟩
theorem itt_ok {K : PySem.W.Frag} {p : Addr} {xs : List T} {vs : List V} {G0 : Gp} {H0 : Hp} (hr0 : HR K G0 H0) (sq0 : SqT K H0 p vs) (rs0 : Rps K H0 xs vs) : ItOk K (Itt K p) xs (fun _ => True) G0 H0 := by
  intro G H hr k _
  have sq := sqT_keep hr0 k sq0
  have rs := rs0.keep hr0 k
  refine ⟨fun i x hi => ?_, fun i x v H' hi y => ?_, ⟨vs, sq, by rw [rs.length]; exact Nat.le_refl _⟩⟩
  · obtain ⟨v, hv, _⟩ := rs.get hi
    exact ⟨vs, v, sq, hv⟩
  · obtain ⟨e, y⟩ := y
    subst e
    obtain ⟨w, hw, rw'⟩ := rs.get hi
    have e2 := (y vs sq).symm.trans hw
    cases e2
    exact ⟨rw', hr, Kp.refl⟩
theorem i_seq (hl : E3 X l te) : I3 X tg l (iseq3 te) := pi_w (pi_seq hl) fun σ H R ⟨τ, G, r, rl, h, af⟩ => lE_seq rl h fun x G1 h1 v H1 rx hr1 k1 rl1 => by
  cases x <;> try exact h1.elim
  case tup xs =>
    cases rx with
    | tup hs rs => exact ⟨_, rfl, .inr ⟨⟨_, hs⟩, af _ _ G1 h1 _ H1 hr1 k1 (itt_ok hr1 hs rs)⟩⟩
  case ref p =>
    simp only at h1
    split at h1
    · rename_i xs e0
      cases rx
      obtain ⟨vs, hs, rs⟩ := getL_sq hr1 e0
      exact ⟨_, rfl, .inl ⟨⟨_, hs⟩, af _ _ G1 h1 _ H1 hr1 k1 itl_ok⟩⟩
    · exact h1.elim
def rngT (lo : Int) (n : Nat) : List T := (List.range n).map fun (i : Nat) => T.int (lo + (i : Int))
theorem itr_ok {K : PySem.W.Frag} {lo : Int} {n : Nat} {G0 : Gp} {H0 : Hp} : ItOk K (Itr lo n) (rngT lo n) (fun _ => True) G0 H0 := by
  intro G H hr k _
  have hl : (rngT lo n).length = n := by simp [rngT]
  refine ⟨fun i x hi => ?_, fun i x v H' hi y => ?_, (show n ≤ (rngT lo n).length by rw [hl]; exact Nat.le_refl n)⟩
  · have := (List.getElem?_eq_some_iff.mp hi).1
    rw [hl] at this
    exact this
  · obtain ⟨e, y⟩ := y
    subst e
    subst y
    have h1 := (List.getElem?_eq_some_iff.mp hi).1
    rw [hl] at h1
    unfold rngT at hi
    rw [List.getElem?_map, List.getElem?_range h1] at hi
    have e : T.int (lo + (i : Int)) = x := by simpa using hi
    subst e
    exact ⟨.int _, hr, Kp.refl⟩
def irng3 (ta : TA3) : TI3 := fun τ G r => ta τ G fun xs G1 => match xs with
  | [.int j] => (-(2 ^ 62) ≤ j ∧ j < 2 ^ 62) ∧ r (rngT 0 j.toNat) (fun _ => True) G1
  | [.int i, .int j] => (-(2 ^ 62) ≤ i ∧ i < 2 ^ 62 ∧ -(2 ^ 62) ≤ j ∧ j < 2 ^ 62) ∧ r (rngT i (j - i).toNat) (fun _ => True) G1
  | _ => False
theorem i_range1 {p : Pos} (hg : Gl X "range") (hm : X.mg "range" = none) (ha : A3 X [a] t) (hs : starEach [a] X.env = [(false, eval a X.env)] := by rfl) (h1 : ∀ τ G q, t τ G q → t τ G fun xs G => q xs G ∧ xs.length = 1) : I3 X tg (.Call (.Name "range" p) [a] [] pos) (irng3 t) :=
  pi_w (pi_range1 hg hm ha hs) fun σ H R ⟨τ, G, r, rl, h, af⟩ => lA_seq rl (h1 _ _ _ h) fun xs G1 h1 vs H1 rs hr1 k1 rl1 => by
    obtain ⟨h1, hl⟩ := h1
    simp only at h1
    split at h1
    · obtain ⟨v, rfl, r1⟩ := rps1 rs
      cases r1
      exact ⟨_, rfl, h1.1.1, h1.1.2, af _ _ G1 h1.2 _ H1 hr1 k1 itr_ok⟩
    · simp at hl
    · exact h1.elim
def forGo (stay : Gp → Prop) (g : TG3) (tb : TS3) (d : Ends3) : List T → St3 → Gp → Prop
  | [], τ, G => stay G ∧ d.nx τ G
  | x :: r, τ, G => stay G ∧ g x τ G fun τ2 G2 => tb { d with nx := forGo stay g tb d r, ct := forGo stay g tb d r, bk := d.nx } τ2 G2
def for3 (wi : TI3) (g : TG3) (tb : TS3) : TS3 := fun d τ G => wi τ G fun items stay G1 => forGo stay g tb d items τ G1
theorem s_for {iter : Expr} {body : List Stmt} {wi : TI3} {g : TG3} {tb : TS3} (hp : PassesOwn (model X.prog X.w) X.A X.env X.xe) (hc : X.calm = true) (hi : I3 X tg iter wi) (hg : G3 X tg g) (hb : B3 X body tb)
    (hs : ∀ x, foldedSetIterable iter X.env x = pure x := by intro _; rfl) : S3 X (.For tg iter body [] pos) (for3 wi g tb) :=
  ps_w (ps_for hp hc hi hg hb hs) fun D σ H ⟨τ, G, d, rl, h, af⟩ => by
    refine ⟨τ, G, _, rl, h, fun items stay G1 h1 J H1 hr1 k1 ok => ?_⟩
    refine ⟨fun i m σ' H' => m = items.length - i ∧ i ≤ items.length ∧ ∃ τ' G', Rel X.K τ' G' σ' H' ∧ Kp G1 H1 G' H' ∧ forGo stay g tb d (items.drop i) τ' G', ⟨_, rfl, Nat.zero_le _, τ, G1, rl.next hr1 k1, Kp.refl, by simpa using h1⟩, ?_⟩
    rintro i m σ' H' ⟨rfl, hi, τ', G', rl', k', h'⟩
    by_cases hlt : i < items.length
    · rw [List.drop_eq_getElem_cons hlt] at h'
      obtain ⟨hst, h'⟩ := h'
      obtain ⟨go, yld, _⟩ := ok G' H' rl'.hp k' hst
      have hx : items[i]? = some items[i] := List.getElem?_eq_getElem hlt
      refine .inr ⟨go i _ hx, fun σ2 H2 => ∃ τ2 G2, Rel X.K τ2 G2 σ2 H2 ∧ Kp G1 H1 G2 H2 ∧ forGo stay g tb d (items.drop (i + 1)) τ2 G2, fun σ2 H2 h2 => ⟨_, by omega, rfl, hlt, h2⟩, fun v H2 y => ?_⟩
      obtain ⟨rv, hr2, k2⟩ := yld i _ v H2 hx y
      have k3 : Kp G1 H1 G' H2 := k'.trans k2
      refine ⟨_, τ', G', _, rv, rl'.next hr2 k2, h', fun τ3 G3 h3 σ3 H3 rl3 k4 => ?_⟩
      have k5 : Kp G H G3 H3 := (k1.trans k3).trans k4
      refine ⟨τ3, G3, _, rl3, h3, ⟨fun τ4 G4 h4 σ4 H4 rl4 k6 => ⟨τ4, G4, rl4, (k3.trans k4).trans k6, h4⟩, af.rt.back k5, af.nx.back k5, fun τ4 G4 h4 σ4 H4 rl4 k6 => ⟨τ4, G4, rl4, (k3.trans k4).trans k6, h4⟩⟩⟩
    · have e : i = items.length := by omega
      subst e
      rw [List.drop_length] at h'
      obtain ⟨_, _, stop⟩ := ok G' H' rl'.hp k' h'.1
      exact .inl ⟨stop, af.nx τ' G' h'.2 σ' H' rl' (k1.trans k')⟩
theorem forGo_inv {stay : Gp → Prop} {g : TG3} {tb : TS3} {d : Ends3} (items : List T) (Pv : Nat → St3 → Gp → Prop) {τ : St3} {G : Gp} (h0 : Pv 0 τ G) (hst : ∀ i τ G, i ≤ items.length → Pv i τ G → stay G)
    (hs : ∀ i x τ G (nx : St3 → Gp → Prop), items[i]? = some x → Pv i τ G → (∀ τ G, Pv (i + 1) τ G → nx τ G) → g x τ G fun τ2 G2 => tb { d with nx := nx, ct := nx, bk := d.nx } τ2 G2)
    (hd : ∀ τ G, Pv items.length τ G → d.nx τ G) : forGo stay g tb d items τ G := by
  have key : ∀ (r : List T) (i : Nat) τ G, items.drop i = r → i ≤ items.length → Pv i τ G → forGo stay g tb d r τ G := by
    intro r
    induction r with
    | nil =>
      intro i τ G e hi p
      have : i = items.length := by have := congrArg List.length e; simp at this; omega
      subst this
      exact ⟨hst _ τ G hi p, hd τ G p⟩
    | cons x r ih =>
      intro i τ G e hi p
      have hl : i < items.length := by
        apply Classical.byContradiction
        intro z
        rw [List.drop_eq_nil_of_le (by omega)] at e
        cases e
      have e' := List.drop_eq_getElem_cons hl
      rw [e] at e'
      injection e' with e1 e2
      refine ⟨hst i τ G hi p, hs i x τ G _ (by rw [List.getElem?_eq_getElem hl, e1]) p fun τ2 G2 p2 => ih (i + 1) τ2 G2 e2.symm hl p2⟩
  exact key items 0 τ G (by simp) (Nat.zero_le _) h0
abbrev Sp3 := List T → Gp → Q3 → Prop
def lSp (K : PySem.W.Frag) (sp : Sp3) : Sp := fun vs H Q _ => ∃ ts G q, HR K G H ∧ Rps K H ts vs ∧ sp ts G q ∧ Aft K G H q Q
def Fn3 (P : Program) (w : World) (K : PySem.W.Frag) (mg : Str → Option Value) (base : Heap) (k : Nat) (x : Str) (sp : Sp3) : Prop :=
  ∃ f fd ps, FnOk P w K mg base CX0 k f fd ps (lSp K sp) ∧ Binds K fd ps [] ∧ PySem.W.keepIn K (.ref f) = true ∧ mg x = some (.ref f)
theorem Fn3.mono {P : Program} {w : World} {K : PySem.W.Frag} {mg : Str → Option Value} {base : Heap} {j k : Nat} {x : Str} {sp : Sp3} (F : Fn3 P w K mg base j x sp) (h : j ≤ k) : Fn3 P w K mg base k x sp :=
  let ⟨f, fd, ps, a, b, c, d⟩ := F; ⟨f, fd, ps, a.mono h, b, c, d⟩
theorem e_call {k : Nat} {x : Str} {p : Pos} {sp : Sp3} (F : Fn3 X.prog X.w X.K X.mg X.base k x sp) (hr : Room k X.A) (hg : Gl X x) (ha : A3 X (e :: es) t) (hdb : (x == ("__debug__" : Str)) = false := by decide)
    (he : starEach (e :: es) X.env = (false, eval e X.env) :: starEach es X.env := by rfl) (hpl : (backTo pos (starEach es X.env)).any (·.1) = false := by rfl) : E3 X (.Call (.Name x p) (e :: es) [] pos) (cb3 sp t) := by
  obtain ⟨f, fd, ps, F, b, kp, m⟩ := F
  refine pe_w (pe_call F hr hg m kp b .nil pass0 ha hdb he hpl) fun σ H Q ⟨τ, G, q, rl, h, af⟩ => lA_seq rl h fun xs G1 h1 vs H1 rs hr1 k1 rl1 => ?_
  rw [List.append_nil]
  exact ⟨xs, G1, q, hr1, rs, h1, af.back k1⟩
def start3 (N : List Str) (ts : List T) : St3 := ts.map some ++ List.replicate (N.length - ts.length) none
theorem rel_start {K : PySem.W.Frag} {N : List Str} {G : Gp} {H : Hp} {ts : List T} {vs : List V} (hr : HR K G H) (rs : Rps K H ts vs) : Rel K (start3 N ts) G (L2.start N vs) H := by
  refine ⟨hr, by simp [start3, L2.start, rs.length], fun i t e => ?_⟩
  unfold start3 at e
  by_cases hi : i < ts.length
  · rw [List.getElem?_append_left (by simpa using hi), List.getElem?_map] at e
    cases q : ts[i]? with
    | none => rw [q] at e; cases e
    | some z =>
      rw [q] at e
      have e' : z = t := by simpa using e
      subst e'
      obtain ⟨v, hv, r⟩ := rs.get q
      refine ⟨v, ?_, r⟩
      unfold L2.start
      rw [List.getElem?_append_left (by rw [List.length_map, ← rs.length]; exact hi), List.getElem?_map, hv]
      rfl
  · rw [List.getElem?_append_right (by simpa using hi), List.getElem?_replicate] at e
    split at e <;> cases e
theorem fn3_of {P : Program} {w : World} {K : PySem.W.Frag} {mg : Str → Option Value} {base : Heap} {x qual : Str} {st : Stmt} {f : Addr} {fd : FuncData} {N ps : List Str} {k : Nat} {sp : Sp3} {t3 : TS3} (F : Fun K x qual st f fd) (S : FnScope N ps (defScope st)) (bd : Binds K fd ps []) (hm : mg x = some (.ref f))
    (body : ∀ (cdv : Value) (A : Around) (outer : List Env) (s : Shared) (H : Hp) (E : XK), Room k (A.deeper (envOfC qual (defScope st) s.heap.objs.size f cdv)) →
      B3 (cxOf CX0 P w K mg base N qual (defScope st) f cdv A outer s H E).nox (defBody st) t3)
    (read : ∀ ts G q, sp ts G q → ts.length = ps.length ∧ t3 { nx := fun _ G' => q .non G', rt := q } (start3 N ts) G) : Fn3 P w K mg base (k + 1) x sp := by
  refine ⟨f, fd, ps, F.ok S (fun vs H Q E ⟨ts, G, q, h1, h2, h3, h4⟩ => by rw [← h2.length]; exact (read ts G q h3).1) fun cdv A outer s H vs Q E hr ⟨ts, G, q, h1, h2, h3, h4⟩ => ?_, bd, F.kp, hm⟩
  refine ⟨_, body cdv A outer s H E hr, start3 N ts, G, _, rel_start h1 h2, (read ts G q h3).2, ⟨fun τ' G' h' σ' H' rl' k' => h4 _ G' h' _ H' .non rl'.hp k', h4, fun _ _ z => z.elim, fun _ _ z => z.elim⟩⟩
def allB (xs : List T) : Option Bool := match xs with
  | [] => some true
  | .bl k :: r => (match allB r with | some j => some (k && j) | none => none)
  | _ => none
def anyB (xs : List T) : Option Bool := match xs with
  | [] => some false
  | .bl k :: r => (match anyB r with | some j => some (k || j) | none => none)
  | _ => none
theorem truth_of {P : Program} {w : World} {A : Around} {its : List Value} {ks : List Bool} (h : its = ks.map Value.bool) : TruthOf P w A (fun i v => its.toArray[i]? = some v) (fun i => ks.getD i true) := by
  intro i v s Q E hp hq
  subst h
  have hp' : ks[i]?.map Value.bool = some v := by simpa using hp
  cases e : ks[i]? with
  | none => rw [e] at hp'; cases hp'
  | some k =>
    rw [e] at hp'
    cases hp'
    have : ks.getD i true = k := by rw [List.getD_eq_getElem?_getD, e]; rfl
    have hq : Q (ks.getD i true) s := hq
    rw [this] at hq
    exact wpAny_truthy_bool hq
theorem vals_bools : ∀ {ks : List Bool} {us : List Value}, Vals (ks.map V.bl) us → us = ks.map Value.bool
  | [], _, r => by cases r; rfl
  | k :: ks, _, r => by
    cases r with
    | cons a b => rw [show _ = Value.bool k from a, vals_bools b]; rfl
theorem range_all (ks : List Bool) : ((List.range ks.length).all fun i => ks.getD i true) = ks.all id := by
  induction ks with
  | nil => rfl
  | cons k ks ih =>
    rw [List.length_cons, List.range_succ_eq_map, List.all_cons, List.all_map, List.all_cons]
    congr 1
theorem call_all_bools (hc : X.calm = true) : CallR X (.builtin "all") (fun xs H Q => ∃ (p : Addr) (ks : List Bool), xs = [.ref p] ∧ SqL X.K H p (ks.map V.bl) ∧ Q (.bl (ks.all id)) H) := by
  intro pins s σ H xs us Q I r h
  obtain ⟨p, ks, rfl, hq, q⟩ := h
  obtain ⟨u, rfl, rp⟩ := vals1 r
  cases (show u = Value.ref p from rp)
  obtain ⟨its, rv, pl, hz⟩ := I.list hq
  have hb := vals_bools rv
  have hlen : its.length = ks.length := by rw [hb]; simp
  have hp : p < s.heap.objs.size := by obtain ⟨o, n, e, _⟩ := pl; exact Heap.lt_size e
  refine call_all_walk (wpAny_pyIter_list pl.isList ⟨s.heap.objs.size, _, _, _, _, _, fun i => ks.getD i true, rfl, Walks.list (A := X.A.in1) (show X.A.in1.handled = none from I.ok.hd hc) s.heap.objs.size p (Nat.ne_of_lt hp) its.toArray, ⟨⟨_, Heap.get?_push_size _ rfl, rfl, rfl⟩, ?_⟩, truth_of hb, fun h' tk hk => ?_⟩)
  · obtain ⟨o, n, e, c, _, d⟩ := pl
    exact ⟨o, Heap.get?_push_of_some _ e, c, n, d⟩
  · refine ⟨.bl _, H, ?_, rfl, by rw [List.size_toArray, hlen, range_all]; exact q⟩
    exact I.kept (h' := h') (t' := tk) fun b o e => hk b o (by simp; exact Nat.ne_of_lt (Heap.lt_size e)) (Heap.get?_push_of_some _ e)
end
end L3
set_option Elab.async false
set_option linter.all false
set_option maxRecDepth 100000
set_option maxHeartbeats 4000000
namespace L3
open PySem PySem.Spec PyProof.Rows L2
def clos (env : Env) : List (Str × NameKind) → List (Str × Addr) → List (Str × Addr)
  | [], cs => cs
  | (n, k) :: r, cs => if k = .free then clos env r ((n, (env.cells.lookup n).getD 0) :: cs) else clos env r cs
theorem closureFor_eq {scope : Scope} {env : Env} (h : ∀ y ∈ scope.names, y.2 = .free → ∃ c, env.cells.lookup y.1 = some c) : closureFor scope env = pure (clos env scope.names []) := by
  have key : ∀ (l : List (Str × NameKind)) (cs : List (Str × Addr)), (∀ y ∈ l, y.2 = .free → ∃ c, env.cells.lookup y.1 = some c) →
      (forIn l cs fun (x : Str × NameKind) (r : List (Str × Addr)) => if (x.2 == NameKind.free) = true then (do let a ← cellOf env x.1; pure (ForInStep.yield ((x.1, a) :: r))) else pure (ForInStep.yield r)) = (pure (clos env l cs) : Sem _) := by
    intro l
    induction l with
    | nil => intro cs _; rfl
    | cons y r ih =>
      intro cs hl
      obtain ⟨n, k⟩ := y
      rw [List.forIn_cons]
      by_cases hk : k = .free
      · subst hk
        obtain ⟨c, hc⟩ := hl (n, .free) List.mem_cons_self rfl
        have e : cellOf env n = pure c := by unfold cellOf; rw [show List.lookup n env.cells = some c from hc]
        simp only [beq_self_eq_true, if_true]
        rw [e, pure_bind, pure_bind]
        show forIn r ((n, c) :: cs) _ = _
        rw [ih _ fun z hz => hl z (List.mem_cons_of_mem _ hz)]
        show _ = (pure (if NameKind.free = NameKind.free then clos env r ((n, (env.cells.lookup n).getD 0) :: cs) else clos env r cs) : Sem _)
        rw [if_pos rfl, show List.lookup n env.cells = some c from hc]
        rfl
      · have hb : (k == NameKind.free) = false := by cases k <;> first | rfl | exact absurd rfl hk
        simp only [hb, Bool.false_eq_true, if_false]
        rw [pure_bind]
        show forIn r cs _ = _
        rw [ih _ fun z hz => hl z (List.mem_cons_of_mem _ hz)]
        show _ = (pure (if k = NameKind.free then clos env r ((n, (env.cells.lookup n).getD 0) :: cs) else clos env r cs) : Sem _)
        rw [if_neg hk]
  have := key scope.names [] h
  unfold closureFor
  refine Eq.trans ?_ this
  exact bind_pure (m := Sem) _
theorem clos_lookup {env : Env} : ∀ (l : List (Str × NameKind)) (cs : List (Str × Addr)) (x : Str) (c : Addr), (∀ y ∈ l, y.2 = .free → ∃ c, env.cells.lookup y.1 = some c) →
    (∀ x c, cs.lookup x = some c → env.cells.lookup x = some c) → (clos env l cs).lookup x = some c → env.cells.lookup x = some c
  | [], _, _, _, _, h, e => h _ _ e
  | (n, k) :: r, cs, x, c, hl, h, e => by
    unfold clos at e
    split at e
    · rename_i hk
      refine clos_lookup r _ x c (fun y hy => hl y (List.mem_cons_of_mem _ hy)) (fun x c e => ?_) e
      rw [List.lookup_cons] at e
      split at e
      · rename_i hx
        have hx' : x = n := by simpa using hx
        subst hx'
        obtain ⟨d, hd⟩ := hl (x, k) List.mem_cons_self hk
        have hd : List.lookup x env.cells = some d := hd
        rw [hd] at e ⊢
        exact e
      · exact h _ _ e
    · exact clos_lookup r cs x c (fun y hy => hl y (List.mem_cons_of_mem _ hy)) h e
theorem clos_has {env : Env} : ∀ (l : List (Str × NameKind)) (cs : List (Str × Addr)) (x : Str), ((x, NameKind.free) ∈ l ∨ ∃ c, cs.lookup x = some c) → ∃ c, (clos env l cs).lookup x = some c
  | [], _, _, h => by
    rcases h with h | h
    · simp at h
    · exact h
  | (n, k) :: r, cs, x, h => by
    unfold clos
    have put : ∀ d : Addr, (x = n ∨ ∃ c, cs.lookup x = some c) → ∃ c, ((n, d) :: cs).lookup x = some c := fun d z => by
      rw [List.lookup_cons]
      cases hx : x == n with
      | true => exact ⟨d, rfl⟩
      | false =>
        rcases z with z | z
        · rw [z] at hx; simp at hx
        · exact z
    split
    · rename_i hk
      refine clos_has r _ x ?_
      rcases h with h | h
      · rcases List.mem_cons.mp h with e | e
        · cases e; exact .inr (put _ (.inl rfl))
        · exact .inl e
      · exact .inr (put _ (.inr h))
    · rename_i hk
      refine clos_has r _ x ?_
      rcases h with h | h
      · rcases List.mem_cons.mp h with e | e
        · cases e; exact absurd rfl hk
        · exact .inl e
      · exact .inr h
def cxComp (X : Cx) (N' : List Str) (scope : Scope) (s : Shared) (H : Hp) (fp : List Addr) : Cx where
  prog := X.prog
  w := X.w
  K := X.K
  mg := X.mg
  base := X.base
  A := X.A
  N := N'
  s₀ := s
  H₀ := H
  env := compEnvC scope (clos X.env scope.names []) s.heap.objs.size X.env
  outer := X.stack
  stack := X.stack
  ex := fp
  fn := fun _ => false
  calm := true
  pn := []
  xe := fun _ _ => False
def scOk (outer inner : Scope) : Bool := (inner.kind == .function) && inner.names.all fun y =>
  (y.2 != .cell) && (y.2 != .local || inner.names.lookup y.1 == some .local) && (y.2 != .free || (inner.names.lookup y.1 == some .free && (outer.names.lookup y.1 == some .cell || outer.names.lookup y.1 == some .free)))
def cap {α : Type} (m : List (Option Nat)) (σ : List (Option α)) : List (Option α) := m.map fun o => match o with | some j => (σ[j]?).join | none => none
def capOk (N N' : List Str) (scope : Scope) (m : List (Option Nat)) : Bool := (m.length == N'.length) && (m.zip N').all fun p => match p.1 with
  | none => true
  | some j => N[j]? == some p.2 && scope.names.lookup p.2 == some .free
theorem cap_get {α : Type} {m : List (Option Nat)} {σ : List (Option α)} {i : Nat} {v : α} (h : (cap m σ)[i]? = some (some v)) : ∃ j, m[i]? = some (some j) ∧ σ[j]? = some (some v) := by
  unfold cap at h
  rw [List.getElem?_map] at h
  cases e : m[i]? with
  | none => rw [e] at h; cases h
  | some o =>
    rw [e] at h
    cases o with
    | none => cases h
    | some j =>
      refine ⟨j, rfl, ?_⟩
      have h' : (σ[j]?).join = some v := by simpa using h
      cases q : σ[j]? with
      | none => rw [q] at h'; cases h'
      | some z => rw [q] at h'; exact congrArg some h'
theorem capOk_get {N N' : List Str} {scope : Scope} {m : List (Option Nat)} (h : capOk N N' scope m = true) {i j : Nat} {x : Str} (e : m[i]? = some (some j)) (hx : N'[i]? = some x) : N[j]? = some x ∧ scope.names.lookup x = some .free := by
  unfold capOk at h
  rw [Bool.and_eq_true] at h
  have hm : (some j, x) ∈ m.zip N' := List.mem_of_getElem? (i := i) (List.getElem?_zip_eq_some.mpr ⟨e, hx⟩)
  have := List.all_eq_true.mp h.2 _ hm
  simp only [Bool.and_eq_true, beq_iff_eq] at this
  exact this
theorem cap_len {N N' : List Str} {scope : Scope} {m : List (Option Nat)} {α : Type} (σ : List (Option α)) (h : capOk N N' scope m = true) : (cap m σ).length = N'.length := by
  unfold capOk at h
  rw [Bool.and_eq_true] at h
  unfold cap
  rw [List.length_map]
  simpa using h.1
structure ScFacts (outer inner : Scope) : Prop where
  kind : inner.kind = .function
  nocell : ∀ y ∈ inner.names, y.2 ≠ .cell
  loc : ∀ y ∈ inner.names, y.2 = .local → inner.names.lookup y.1 = some .local
  free : ∀ y ∈ inner.names, y.2 = .free → inner.names.lookup y.1 = some .free ∧ (outer.names.lookup y.1 = some .cell ∨ outer.names.lookup y.1 = some .free)
theorem scOk_facts {outer inner : Scope} (h : scOk outer inner = true) : ScFacts outer inner := by
  unfold scOk at h
  rw [Bool.and_eq_true] at h
  have ha := List.all_eq_true.mp h.2
  refine ⟨by simpa using h.1, fun y hy e => ?_, fun y hy e => ?_, fun y hy e => ?_⟩
  · have := ha y hy
    rw [e] at this
    simp at this
  · have := ha y hy
    rw [e] at this
    simpa using this
  · have := ha y hy
    rw [e] at this
    simpa using this
theorem relabel_lookup {scope : Scope} {env : Env} {x : Str} {k : NameKind} (h : (relabel scope env).names.lookup x = some k) : scope.names.lookup x = some k ∨ (k = .cell ∧ scope.names.lookup x = some .free) := by
  have key : ∀ (l : List (Str × NameKind)), (l.map fun (n, k) => if (k == NameKind.free && env.scope.kind == .function && env.kindOf n == some .cell) then (n, NameKind.cell) else (n, k)).lookup x = some k → l.lookup x = some k ∨ (k = .cell ∧ l.lookup x = some .free) := by
    intro l
    induction l with
    | nil => intro h; simp at h
    | cons y r ih =>
      intro h
      obtain ⟨n, j⟩ := y
      rw [List.map_cons] at h
      dsimp only at h
      by_cases hc : (j == NameKind.free && env.scope.kind == .function && env.kindOf n == some .cell) = true
      · rw [if_pos hc, List.lookup_cons] at h
        rw [List.lookup_cons]
        cases hx : x == n with
        | true =>
          rw [hx] at h
          have hk : NameKind.cell = k := by simpa using h
          have hj : j = .free := by simp only [Bool.and_eq_true, beq_iff_eq] at hc; exact hc.1.1
          exact .inr ⟨hk.symm, by rw [hj]⟩
        | false => rw [hx] at h; exact ih h
      · rw [if_neg hc, List.lookup_cons] at h
        rw [List.lookup_cons]
        cases hx : x == n with
        | true => rw [hx] at h; exact .inl h
        | false => rw [hx] at h; exact ih h
  exact key scope.names h
def PF (X : Cx) (ifs : List Expr) (t : TT) : Prop :=
  ∀ (pins : List (Addr × Obj)) (s : Shared) (σ : L2.St) (H : Hp) (Q : Bool → Hp → Prop), Inv X pins σ H s → t σ H Q →
    wpAny (model X.prog X.w) X.A (forIn ifs true fun c r => if r = true then do let ok ← isTrue c X.env (eval c X.env); pure (ForInStep.yield ok) else pure (ForInStep.yield r)) (TP X pins σ Q) X.xe s
theorem pf_nil {X : Cx} : PF X [] (fun _ H Q => Q true H) := fun _ _ _ H _ I h => wpAny_tests_nil ⟨H, I, h⟩
section
variable {X : Cx} {pins : List (Addr × Obj)} {σ : L2.St} {H : Hp} {s : Shared}
theorem inv_comp {N' : List Str} {scope : Scope} {fp : List Addr} {m : List (Option Nat)} {h1 : Heap} {mm : Str → Option Value} (hc : X.calm = true) (I : Inv X pins σ H s) (sc : ScFacts X.env.scope scope) (hcap : capOk X.N N' scope m = true)
    (hfp : ∀ b ∈ fp, FpOk X pins H b) (hob : ∀ b ∈ fp, ∃ o, s.heap.get? b = some o) (hns : h1.Ns s.heap.objs.size mm) (hk : ∀ b o, s.heap.get? b = some o → h1.get? b = some o) :
    Inv (cxComp X N' scope s H fp) [] (cap m σ) H { s with heap := h1 } := by
  have hcl : ∀ y ∈ scope.names, y.2 = .free → ∃ c, X.env.cells.lookup y.1 = some c := fun y hy e => by
    rcases (sc.free y hy e).2 with z | z
    · exact I.ok.has y.1 (.inl z)
    · exact I.ok.has y.1 (.inr z)
  have cl : ∀ x c, (clos X.env scope.names []).lookup x = some c → X.env.cells.lookup x = some c := fun x c e => clos_lookup scope.names [] x c hcl (fun _ _ z => by simp at z) e
  have fpne : ∀ b ∈ fp, b ≠ s.heap.objs.size := fun b hb => let ⟨o, e⟩ := hob b hb; Nat.ne_of_lt (Heap.lt_size e)
  refine ⟨⟨I.ok.mod, sc.kind, I.ok.glob, I.ok.blt, Nat.le_refl _, fun x y c e1 e2 => I.ok.inj x y c (cl x c e1) (cl y c e2), fun x hx => ?_, fun x c hf => (by cases hf), fun _ => I.ok.hd hc, I.ok.frames, .inl rfl, fun b hb => ⟨fpne b hb, fun x c e => (hfp b hb).2.2.2.2.1 x c (cl x c e)⟩, I.bs, Nat.le_trans I.ok.bsz I.sz, fun b o e hb => ?_, fun b hb z => ?_, I.stack, I.stkFree⟩,
    rfl, I.bare, Un.kept hk, ⟨mm, hns, fun i x v e1 e2 e3 => ?_⟩, fun x c e => ?_, I.fresh, fun x c e => I.freeC x c (cl x c e), fun p hp => absurd (show p ∈ ([] : List (Addr × Obj)) from hp) (by simp), I.hok.kept hk, cap_len σ hcap⟩
  · have hx : (relabel scope X.env).names.lookup x = some .cell ∨ (relabel scope X.env).names.lookup x = some .free := hx
    have hf : scope.names.lookup x = some .free := by
      rcases hx with z | z
      · rcases relabel_lookup z with q | ⟨_, q⟩
        · exact absurd rfl (sc.nocell _ (PySem.mem_of_lookup q))
        · exact q
      · rcases relabel_lookup z with q | ⟨q, _⟩
        · exact q
        · cases q
    exact clos_has scope.names [] x (.inl (PySem.mem_of_lookup hf))
  · rcases (hfp b hb).2.2.2.1 with z | z
    · exact I.ok.noex b o e z
    · exact absurd (Nat.lt_of_lt_of_le (Heap.lt_size e) (Nat.le_trans I.ok.bsz z)) (Nat.lt_irrefl _)
  · rcases List.mem_cons.mp (I.stkSub b z) with q | q
    · exact (hfp b hb).2.1 q
    · exact (hfp b hb).2.2.1 q
  · obtain ⟨j, ej, es⟩ := cap_get e2
    obtain ⟨hN, hfr⟩ := capOk_get hcap ej e1
    have mem := PySem.mem_of_lookup hfr
    have ho := (sc.free _ mem rfl).2
    obtain ⟨m0, hn0, hl0⟩ := I.loc
    obtain ⟨u, ru, lk⟩ := hl0 j x v hN es (ho.elim (fun z => .inr (.inl z)) fun z => .inr (.inr z))
    refine ⟨u, ru, .inr ⟨?_, ?_⟩⟩
    · rcases e3 with z | z | z
      · rcases relabel_lookup z with q | ⟨q, _⟩
        · rw [hfr] at q; cases q
        · cases q
      · exact .inl z
      · exact .inr z
    · rcases lk with ⟨z, _⟩ | ⟨_, c, hc', hcell⟩
      · have z : X.env.scope.names.lookup x = some .local := z
        rcases ho with q | q <;> (rw [z] at q; cases q)
      · obtain ⟨c', hc2⟩ := clos_has (env := X.env) scope.names [] x (.inl mem)
        have e := cl x c' hc2
        rw [hc'] at e
        cases e
        obtain ⟨o, eo, d⟩ := hcell
        exact ⟨c, hc2, o, hk c o eo, d⟩
  · obtain ⟨v, o, eo, d⟩ := I.cell x c (cl x c e)
    exact ⟨v, o, hk c o eo, d⟩
theorem inv_uncomp {N' : List Str} {scope : Scope} {fp : List Addr} {pins' : List (Addr × Obj)} {σ' : L2.St} {H' : Hp} {s' : Shared} {h2 : Heap} (I : Inv X pins σ H s) (hfp : ∀ b ∈ fp, FpOk X pins H b) (J : Inv (cxComp X N' scope s H fp) pins' σ' H' s')
    (sb : Heap.SameBut s.heap.objs.size s'.heap h2) : Inv X pins σ H' { s' with heap := h2 } := by
  have ne : ∀ b o, s.heap.get? b = some o → b ≠ s.heap.objs.size := fun b o e => Nat.ne_of_lt (Heap.lt_size e)
  have g : ∀ b, b ≠ s.heap.objs.size → h2.get? b = s'.heap.get? b := fun b hb => sb.2 b hb
  have hn : H' s.heap.objs.size = none := J.free
  have u : Un (frs X.stack) fp H H' s.heap s'.heap := J.base
  refine I.call' (s' := { s' with heap := h2 }) J.os ⟨fun b o e n hb hx => ?_, fun b o e n hb hx => ?_, u.free, fun b o e hx => ?_, u.tups, u.frzs, u.tbls⟩ (fun a o e => ?_) J.bare fun b hb => ⟨(hfp b hb).2.2.2.1, (hfp b hb).2.1, (hfp b hb).2.2.2.2.1, (hfp b hb).2.2.2.2.2⟩
  · show h2.get? b = _
    rw [g b (ne b o e)]; exact u.keep b o e n hb hx
  · show ∃ sl, h2.get? b = _
    rw [g b (ne b o e)]; exact u.slot b o e n hb hx
  · show ∃ o', h2.get? b = _
    rw [g b (ne b o e)]; exact u.there b o e hx
  · refine (J.hok a o e).stay (fun b v hb q => ?_) (fun _ q => q) fun _ _ q => q
    have hb' : b ≠ s.heap.objs.size := by
      intro z
      subst z
      rcases hb with z | z
      · rw [← z] at e; rw [hn] at e; cases e
      · rw [hn] at z; cases z
    rw [g b hb']; exact q
end
end L3
set_option Elab.async false
set_option linter.all false
set_option maxRecDepth 100000
set_option maxHeartbeats 4000000
namespace L3
open PySem PySem.Spec PyProof.Rows L2
def tLC (wi : TI) (g : TG) (tif : TT) (te : TE) (m : List (Option Nat)) : TE := fun σ H Q => wi σ H fun J H1 => ∀ D, H1 D = none →
  ∃ W : Nat → Nat → L2.St → Hp → Prop, (∃ n, W 0 n (cap m σ) (upd H1 D (.lst []))) ∧ ∀ i n σ H, W i n σ H →
    (J.stop i H ∧ Q (.ref D) H) ∨ (J.go i H ∧ ∀ x H', J.yld i H x H' → g x σ H' fun σ2 H2 => tif σ2 H2 fun k H3 =>
      if k = true then te σ2 H3 fun y H4 => ∃ zs, H4 D = some (.lst zs) ∧ zs.length < sizeLine ∧ ∃ n', n' < n ∧ W (i + 1) n' σ2 (upd H4 D (.lst (zs ++ [y])))
      else ∃ n', n' < n ∧ W (i + 1) n' σ2 H3)
section
variable {X : Cx}
theorem pe_lc {elt tg iter : Expr} {ifs : List Expr} {scope : Scope} {pos : Pos} {N' : List Str} {m : List (Option Nat)} {wi : TI} {g : TG} {tif : TT} {te : TE} (hc : X.calm = true) (hi : PI X tg iter wi)
    (hg : ∀ s H fp, PG (cxComp X N' scope s H fp) tg g) (hf : ∀ s H fp, PF (cxComp X N' scope s H fp) ifs tif) (he : ∀ s H fp, PE (cxComp X N' scope s H fp) elt te)
    (hsc : scOk X.env.scope scope = true) (hcap : capOk X.N N' scope m = true) (hs : ∀ x, foldedSetIterable iter X.env x = pure x := by intro _; rfl) :
    PE X (.ListComp elt [⟨tg, iter, ifs, 0⟩] scope pos) (tLC wi g tif te m) := by
  intro pins s σ H Q I h
  have sc := scOk_facts hsc
  have hcl : ∀ y ∈ scope.names, y.2 = .free → ∃ c, X.env.cells.lookup y.1 = some c := fun y hy e => by
    rcases (sc.free y hy e).2 with z | z
    · exact I.ok.has y.1 (.inl z)
    · exact I.ok.has y.1 (.inr z)
  rw [eval_ListComp]
  refine wpAny_comprehension_free (use := none) (g := ⟨tg, iter, ifs, 0⟩) (gs := []) rfl hs (closureFor_eq hcl) sc.kind sc.loc ?_
  show wpAny _ _ (eval iter X.env) _ _ s
  refine thn (hi pins s σ H _ I h) fun v s1 h1 => thn h1 fun itv s2 h2 => ?_
  obtain ⟨it, fp, tn, J, H2, rfl, I2, T, st2, f2, hW⟩ := h2
  refine wpAny_newObj_type ?_
  have hD : H2 s2.heap.objs.size = none := I2.fresh
  obtain ⟨W, ⟨n0, w0⟩, turn⟩ := hW _ hD
  generalize hDe : s2.heap.objs.size = D at *
  have I3 : Inv X pins σ (upd H2 D (.lst [])) { s2 with heap := s2.heap.push { cls := .type "list", dict := none, data := .seq ([] : List Value).toArray } } := by
    subst hDe
    exact I2.laid (t' := s2.toks) (fun b u e => Heap.get?_push_of_some _ e) (Nat.le_refl _) ⟨Nat.zero_le _, [], 0, .nil, Heap.get?_push_size _ rfl⟩
  have ob2 := T.obj 0 _ st2
  have ob3 : ∀ b ∈ fp, ∃ o, (s2.heap.push { cls := .type "list", dict := none, data := .seq ([] : List Value).toArray }).get? b = some o := fun b hb => let ⟨o, e, _⟩ := ob2 b hb; ⟨o, Heap.get?_push_of_some _ e⟩
  have f3 : ∀ b ∈ fp, FpOk X pins (upd H2 D (.lst [])) b := fun b hb => by
    obtain ⟨o, e, _⟩ := ob2 b hb
    have : b ≠ D := by rw [← hDe]; exact Nat.ne_of_lt (Heap.lt_size e)
    exact ⟨by rw [upd_ne this]; exact (f2 b hb).1, (f2 b hb).2⟩
  have k23 : ∀ b o, s2.heap.get? b = some o → (s2.heap.push { cls := .type "list", dict := none, data := .seq ([] : List Value).toArray }).get? b = some o := fun b o e => Heap.get?_push_of_some _ e
  generalize hH3 : upd H2 D (.lst []) = H3 at *
  generalize hs3 : ({ s2 with heap := s2.heap.push { cls := .type "list", dict := none, data := .seq ([] : List Value).toArray } } : Shared) = s3 at *
  have ob3 : ∀ b ∈ fp, ∃ o, s3.heap.get? b = some o := by rw [← hs3]; exact ob3
  have k23 : ∀ b o, s2.heap.get? b = some o → s3.heap.get? b = some o := by rw [← hs3]; exact k23
  refine wpAny_newFunctionEnv (fun y hy => sc.nocell y hy) (by intro y hy; simp at hy) (fun h₁ hns hsb => ?_) sc.kind
  have hk : ∀ b o, s3.heap.get? b = some o → h₁.get? b = some o := fun b o e => by
    rw [hsb.2 b (Nat.ne_of_lt (Heap.lt_size e))]; exact Heap.get?_push_of_some _ e
  have I4 : Inv (cxComp X N' scope s3 H3 fp) [] (cap m σ) H3 { s3 with heap := h₁ } := inv_comp hc I3 sc hcap f3 ob3 hns hk
  have tn4 : tn 0 h₁ := T.keep _ _ _ st2 fun b hb o e => hk b o (k23 b o e)
  have fr4 : ∀ b ∈ fp, H3 b = none := fun b hb => (f3 b hb).1
  have stat : ∀ {H' : Hp}, (∀ b ∈ fp, H' b = none) → ∀ b ∈ fp, FpOk (cxComp X N' scope s3 H3 fp) [] H' b := fun hn b hb => by
    refine ⟨hn b hb, I4.ok.exf b hb |>.1, I4.ok.exfs b hb, .inl hb, fun x c e => (I4.ok.exf b hb).2 x c e, fun p hp => absurd (show p ∈ ([] : List (Addr × Obj)) from hp) (by simp)⟩
  show codeAny (model X.prog X.w) X.A (.compStart (.ListComp elt [⟨tg, iter, ifs, 0⟩] scope pos) 0 (.ref it) (.ref D) (cxComp X N' scope s3 H3 fp).env) (compPost (model X.prog X.w) X.A X.xe none (EP X pins σ Q) (.ref D) s3.heap.objs.size) { s3 with heap := h₁ }
  have loop : codeAny (model X.prog X.w) X.A (.compLoop (.ListComp elt [⟨tg, iter, ifs, 0⟩] scope pos) 0 (.ref it) (.ref D) (cxComp X N' scope s3 H3 fp).env) (compPost (model X.prog X.w) X.A X.xe none (EP X pins σ Q) (.ref D) s3.heap.objs.size) { s3 with heap := h₁ } := by
    refine codeAny_loop rfl (fun n s' => ∃ i σ' H', Inv (cxComp X N' scope s3 H3 fp) [] σ' H' s' ∧ tn i s'.heap ∧ (∀ b ∈ fp, H' b = none) ∧ W i n σ' H') (fun n s' hI => ?_) n0 ⟨0, cap m σ, H3, I4, tn4, fr4, w0⟩
    show wpAny _ X.A ((compTurn (.ListComp elt [⟨tg, iter, ifs, 0⟩] scope pos) 0 (.ref it) (.ref D) (cxComp X N' scope s3 H3 fp).env).onRaise (fun x => do noteFrame x (cxComp X N' scope s3 H3 fp).env; theTreesLotGoes x)) _ _ s'
    refine wpAny_noted ?_
    rw [compTurn_list]
    refine wpAny_bind (wpAny_standAt (wpAny_bind ?_))
    obtain ⟨i, σ5, H5, I5, st5, fr5, w5⟩ := hI
    rcases turn i n σ5 H5 w5 with ⟨stop, q⟩ | ⟨go, step⟩
    · refine thn (T.done (cxComp X N' scope s3 H3 fp) rfl rfl rfl rfl i [] s' σ5 H5 _ I5 (stat fr5) st5 stop) fun r s6 ⟨hr, I6⟩ => ?_
      subst hr
      refine wpAny_pure ?_
      obtain ⟨mm, hn6, _⟩ := I6.loc
      exact ⟨mm, hn6, fun h' sb => ⟨.ref D, H5, inv_uncomp I3 f3 I6 sb, rfl, q⟩⟩
    · refine thn (T.item (cxComp X N' scope s3 H3 fp) rfl rfl rfl rfl i [] s' σ5 H5 _ I5 (stat fr5) st5 go) fun r s6 ⟨u, hr, h6⟩ => ?_
      subst hr
      refine wpAny_bind (thn h6 fun _ s7 ⟨x, H7, I7, r7, y7, st7, fr7⟩ => ?_)
      have I7' := I7.pinned (stat fr7) (T.obj _ _ st7)
      have again : ∀ {σ8 : L2.St} {H8 : Hp} {s8 : Shared}, Inv (cxComp X N' scope s3 H3 fp) ([] ++ pinsAt fp s7.heap) σ8 H8 s8 → (∃ n', n' < n ∧ W (i + 1) n' σ8 H8) →
          ∃ m', m' < n ∧ ∃ i σ' H', Inv (cxComp X N' scope s3 H3 fp) [] σ' H' s8 ∧ tn i s8.heap ∧ (∀ b ∈ fp, H' b = none) ∧ W i m' σ' H' := fun {σ8 H8 s8} I8 ⟨n', hn, w8⟩ => by
        refine ⟨n', hn, i + 1, σ8, H8, I8.unpinned, T.keep _ _ _ st7 fun b hb o e => (I8.pin (b, o) (List.mem_append_right _ (List.mem_append_right _ (mem_pinsAt hb e)))).1, fun b hb => ?_, w8⟩
        obtain ⟨o, e, d⟩ := T.obj _ _ st7 b hb
        exact (I8.pin (b, o) (List.mem_append_right _ (List.mem_append_right _ (mem_pinsAt hb e)))).2.1
      refine wpAny_bind (wpAny_mono (hg s3 H3 fp _ s7 σ5 H7 x u _ I7' r7 (step x H7 y7)) (fun _ s8 ⟨σ8, H8, I8, q8⟩ => ?_) fun _ _ z => z.elim)
      refine wpAny_bind (wpAny_mono (hf s3 H3 fp _ s8 σ8 H8 _ I8 q8) (fun k s9 ⟨H9, I9, q9⟩ => ?_) fun _ _ z => z.elim)
      cases k with
      | false =>
        rw [if_neg Bool.false_ne_true] at q9
        exact wpAny_pure ⟨rfl, again I9 q9⟩
      | true =>
        rw [if_pos rfl] at q9
        refine wpAny_bind (wpAny_bind (wpAny_mono (he s3 H3 fp _ s9 σ8 H9 _ I9 q9) (fun w s10 ⟨y, H10, I10, r10, q10⟩ => ?_) fun _ _ z => z.elim))
        obtain ⟨zs, hz, hl, q10⟩ := q10
        refine wpAny_bind (wpAny_mono (mt_append (X := cxComp X N' scope s3 H3 fp) _ s10 σ8 H10 (.ref D) [y] (.ref D) [w] (fun _ H11 => H11 = upd H10 D (.lst (zs ++ [y]))) I10 rfl (.cons r10 .nil) ⟨D, zs, y, rfl, rfl, hz, hl, rfl⟩) (fun _ s11 ⟨_, H11, I11, _, e11⟩ => ?_) fun _ _ z => z.elim)
        subst e11
        exact wpAny_pure (wpAny_pure ⟨rfl, again I11 q10⟩)
  exact codeAny_compStart_list loop (T.self X.A 0 _ _ _ tn4 loop)
end
end L3
set_option Elab.async false
set_option linter.all false
set_option maxRecDepth 100000
set_option maxHeartbeats 4000000
namespace L3
open PySem PySem.Spec PyProof.Rows L2
section
variable {K : PySem.W.Frag} {G G' : Gp} {H H' : Hp}
theorem sqT_wrD {D : Addr} {o : HO} {ws : List V} (hD : H D = some (.lst ws)) {a : Addr} {vs : List V} (h : SqT K H a vs) : SqT K (upd H D o) a vs := by
  rcases h with h | h
  · refine .inl ?_
    rcases h with h | ⟨ob, h⟩
    · have : a ≠ D := by intro e; subst e; rw [hD] at h; cases h
      exact .inl (by rw [upd_ne this]; exact h)
    · have : a ≠ D := by intro e; subst e; rw [hD] at h; cases h
      exact .inr ⟨ob, by rw [upd_ne this]; exact h⟩
  · exact .inr h
mutual
theorem Rp.wrD {D : Addr} {o : HO} {ws : List V} (hD : H D = some (.lst ws)) : ∀ {x : T} {v : V}, Rp K H x v → Rp K (upd H D o) x v
  | _, _, .non => .non
  | _, _, .bl b => .bl b
  | _, _, .int i => .int i
  | _, _, .str x => .str x
  | _, _, .ref a => .ref a
  | _, _, .tup h hs => .tup (sqT_wrD hD h) (Rps.wrD hD hs)
theorem Rps.wrD {D : Addr} {o : HO} {ws : List V} (hD : H D = some (.lst ws)) : ∀ {x : List T} {v : List V}, Rps K H x v → Rps K (upd H D o) x v
  | _, _, .nil => .nil
  | _, _, .cons a b => .cons (Rp.wrD hD a) (Rps.wrD hD b)
end
theorem HR.wrD {D : Addr} {o : HO} {ws : List V} (hr : HR K G H) (hD : H D = some (.lst ws)) (g : G D = none) : HR K G (upd H D o) := fun a ob e => by
  have ha : a ≠ D := by intro z; subst z; rw [g] at e; cases e
  have q := hr a ob e
  cases ob with
  | lst xs => obtain ⟨vs, h1, h2⟩ := q; exact ⟨vs, by rw [upd_ne ha]; exact h1, h2.wrD hD⟩
  | frz xs => obtain ⟨vs, ⟨o1, h1⟩, h2⟩ := q; exact ⟨vs, ⟨o1, by rw [upd_ne ha]; exact h1⟩, h2.wrD hD⟩
theorem Rel.wrD {D : Addr} {o : HO} {ws : List V} {τ : St3} {σ : L2.St} (r : Rel K τ G σ H) (hD : H D = some (.lst ws)) (g : G D = none) : Rel K τ G σ (upd H D o) :=
  ⟨r.hp.wrD hD g, r.len, fun i t e => let ⟨v, h1, h2⟩ := r.st i t e; ⟨v, h1, h2.wrD hD⟩⟩
theorem Kp.wrD {D : Addr} {o : HO} (k : Kp G H G' H') (hD : H D = none) : Kp G H G' (upd H' D o) := fun a ob h g => by
  obtain ⟨h1, h2⟩ := k a ob h g
  exact ⟨by rw [upd_ne (ne_of_none h hD)]; exact h1, h2⟩
theorem cap_some {α : Type} {m : List (Option Nat)} {σ : List (Option α)} {i j : Nat} (h : m[i]? = some (some j)) : (cap m σ)[i]? = some ((σ[j]?).join) := by
  unfold cap; rw [List.getElem?_map, h]; rfl
theorem Rel.cap {τ : St3} {σ : L2.St} (r : Rel K τ G σ H) (m : List (Option Nat)) : Rel K (cap m τ) G (L3.cap m σ) H := by
  refine ⟨r.hp, by simp [L3.cap], fun i t e => ?_⟩
  obtain ⟨j, e1, e2⟩ := cap_get e
  obtain ⟨v, h1, h2⟩ := r.st j t e2
  exact ⟨v, by rw [cap_some e1, h1]; rfl, h2⟩
end
def lcGo (stay : Gp → Prop) (g : TG3) (tif : TT3) (te : TE3) (q : Q3) : List T → List T → St3 → Gp → Prop
  | [], ys, _, G => stay G ∧ ∀ p, G p = none → q (.ref p) (gu G p (.lst ys))
  | x :: r, ys, τ, G => stay G ∧ g x τ G fun τ2 G2 => tif τ2 G2 fun k G3 => if k = true then te τ2 G3 fun y G4 => ys.length < sizeLine ∧ lcGo stay g tif te q r (ys ++ [y]) τ2 G4 else lcGo stay g tif te q r ys τ2 G3
def lc3 (wi : TI3) (g : TG3) (tif : TT3) (te : TE3) (m : List (Option Nat)) : TE3 := fun τ G q => wi τ G fun items stay G1 => lcGo stay g tif te q items [] (cap m τ) G1
abbrev F3 (X : Cx) (ifs : List Expr) (t : TT3) : Prop := PF X ifs (lT X.K t)
def tt3 : TT3 := fun _ G q => q true G
theorem f_nil {X : Cx} : F3 X [] tt3 := fun pins s σ H Q I ⟨τ, G, q, rl, h, af⟩ => pf_nil pins s σ H Q I (af true G h H rl.hp Kp.refl)
section
variable {X : Cx}
theorem e_lc {elt tg iter : Expr} {ifs : List Expr} {scope : Scope} {pos : Pos} (N' : List Str) (m : List (Option Nat)) {wi : TI3} {g : TG3} {tif : TT3} {te : TE3} (hc : X.calm = true) (hi : I3 X tg iter wi)
    (hg : ∀ s H fp, G3 (cxComp X N' scope s H fp) tg g) (hf : ∀ s H fp, F3 (cxComp X N' scope s H fp) ifs tif) (he : ∀ s H fp, E3 (cxComp X N' scope s H fp) elt te)
    (hsc : scOk X.env.scope scope = true) (hcap : capOk X.N N' scope m = true) (hs : ∀ x, foldedSetIterable iter X.env x = pure x := by intro _; rfl) :
    E3 X (.ListComp elt [⟨tg, iter, ifs, 0⟩] scope pos) (lc3 wi g tif te m) :=
  pe_w (pe_lc (g := lG X.K g) (tif := lT X.K tif) (te := lE X.K te) hc hi hg hf he hsc hcap hs) fun σ H Q ⟨τ, G, q, rl, h, af⟩ => by
    refine ⟨τ, G, _, rl, h, fun items stay G1 h1 J H1 hr1 k1 ok D hD => ?_⟩
    have gD : G1 D = none := hr1.free hD
    refine ⟨fun i n σ' H' => n = items.length - i ∧ i ≤ items.length ∧ ∃ τ' G' ys vs, Rel X.K τ' G' σ' H' ∧ Kp G1 H1 G' H' ∧ H' D = some (.lst vs) ∧ Rps X.K H' ys vs ∧ G' D = none ∧ lcGo stay g tif te q (items.drop i) ys τ' G',
      ⟨_, rfl, Nat.zero_le _, cap m τ, G1, [], [], ((rl.next hr1 k1).cap m).next (hr1.laid hD) (Kp.laid hD), Kp.laid hD, upd_same, .nil, gD, by simpa using h1⟩, ?_⟩
    rintro i n σ' H' ⟨rfl, hi, τ', G', ys, vs, rl', k', hDl, rys, gD', h'⟩
    by_cases hlt : i < items.length
    · rw [List.drop_eq_getElem_cons hlt] at h'
      obtain ⟨hst, h'⟩ := h'
      obtain ⟨go, yld, _⟩ := ok G' H' rl'.hp k' hst
      have hx : items[i]? = some items[i] := List.getElem?_eq_getElem hlt
      refine .inr ⟨go i _ hx, fun v H2 y => ?_⟩
      obtain ⟨rv, hr2, k2⟩ := yld i _ v H2 hx y
      have nxt : ∀ {τ4 : St3} {G4 : Gp} {σ4 : L2.St} {H4 : Hp} {ys4 : List T} {vs4 : List V}, Rel X.K τ4 G4 σ4 H4 → Kp G1 H1 G4 H4 → H4 D = some (.lst vs4) → Rps X.K H4 ys4 vs4 → G4 D = none → lcGo stay g tif te q (items.drop (i + 1)) ys4 τ4 G4 →
          ∃ n', n' < items.length - i ∧ (n' = items.length - (i + 1) ∧ i + 1 ≤ items.length ∧ ∃ τ' G' ys vs, Rel X.K τ' G' σ4 H4 ∧ Kp G1 H1 G' H4 ∧ H4 D = some (.lst vs) ∧ Rps X.K H4 ys vs ∧ G' D = none ∧ lcGo stay g tif te q (items.drop (i + 1)) ys τ' G') :=
        fun {τ4 G4 σ4 H4 ys4 vs4} a b c d e f => ⟨_, by omega, rfl, hlt, τ4, G4, ys4, vs4, a, b, c, d, e, f⟩
      refine ⟨_, τ', G', _, rv, rl'.next hr2 k2, h', fun τ3 G3 h3 σ3 H3 rl3 k3 => ⟨τ3, G3, _, rl3, h3, fun k G4 h4 H4 hr4 k4 => ?_⟩⟩
      have kk := (k2.trans k3).trans k4
      obtain ⟨hD4, gD4⟩ := kk D _ hDl gD'
      have rys4 := rys.keep rl'.hp kk
      cases k with
      | false =>
        rw [if_neg Bool.false_ne_true] at h4
        refine iteF ?_
        exact nxt (rl3.next hr4 k4) (k'.trans kk) hD4 rys4 gD4 h4
      | true =>
        rw [if_pos rfl] at h4
        refine iteT ?_
        refine ⟨τ3, G4, _, rl3.next hr4 k4, h4, fun z G5 h5 w H5 rw5 hr5 k5 => ?_⟩
        obtain ⟨hD5, gD5⟩ := k5 D _ hD4 gD4
        have rys5 := rys4.keep hr4 k5
        exact ⟨vs, hD5, by rw [← rys.length]; exact h5.1, nxt (((rl3.next hr4 k4).next hr5 k5).wrD hD5 gD5) (((k'.trans kk).trans k5).wrD hD) upd_same ((rys5.append (.cons rw5 .nil)).wrD hD5) gD5 h5.2⟩
    · have e : i = items.length := by omega
      subst e
      rw [List.drop_length] at h'
      obtain ⟨_, _, stop⟩ := ok G' H' rl'.hp k' h'.1
      refine .inl ⟨stop, af _ _ (h'.2 D gD') _ H' (.ref D) (fun a o e => ?_) fun a o e ga => ?_⟩
      · by_cases ha : a = D
        · subst ha
          rw [gu_same] at e; cases e
          exact ⟨vs, hDl, rys⟩
        · rw [gu_ne ha] at e
          exact rl'.hp a o e
      · obtain ⟨e1, g1⟩ := k1 a o e ga
        obtain ⟨e2, g2⟩ := k' a o e1 g1
        exact ⟨e2, by rw [gu_ne (ne_of_none e1 hD)]; exact g2⟩
end
end L3
set_option Elab.async false
set_option linter.all false
set_option maxRecDepth 100000
set_option maxHeartbeats 4000000
namespace L3
open PySem PySem.Spec PyProof.Rows L2
section
variable {P : Program} {w : World} {A : Around} {s : Shared} {z ti to i1 i2 c1 c2 : Addr} {S1 S2 : Nat → Heap → Prop} {H1 H2 : Array Value → Heap → Prop} {k1 k2 : Nat} {xs ys : Array Value} {x y a b : Value} {E : Value → Shared → Prop}
end
end L3
set_option Elab.async false
set_option linter.all false
set_option maxRecDepth 100000
set_option maxHeartbeats 4000000
namespace L3
open PySem PySem.Spec PyProof.Rows L2
def IsSq (b : Bool) (c : Addr) (xs : Array Value) (h : Heap) : Prop := match b with | true => h.IsList c xs | false => h.IsTuple c xs
end L3
set_option Elab.async false
set_option linter.all false
set_option maxRecDepth 100000
set_option maxHeartbeats 4000000
namespace L3
open PySem PySem.Spec PyProof.Rows L2
section
variable {P : Program} {w : World} {A : Around} {s : Shared} {E : Value → Shared → Prop}
end
def SqB (K : PySem.W.Frag) (b : Bool) (H : Hp) (a : Addr) (xs : List V) : Prop := match b with | true => SqL K H a xs | false => SqT K H a xs
theorem SqB.get {X : Cx} {pins : List (Addr × Obj)} {σ : L2.St} {H : Hp} {s : Shared} {b : Bool} {a : Addr} {xs : List V} (I : Inv X pins σ H s) (h : SqB X.K b H a xs) : ∃ its : List Value, Vals xs its ∧ IsSq b a its.toArray s.heap ∧ xs.length ≤ sizeLine := by
  cases b
  · obtain ⟨its, r, p, hz⟩ := I.tuple (show SqT X.K H a xs from h)
    exact ⟨its, r, (show s.heap.IsTuple a its.toArray from p), hz⟩
  · obtain ⟨its, r, p, hz⟩ := I.list (show SqL X.K H a xs from h)
    exact ⟨its, r, p.isList, hz⟩
theorem SqB.inj {X : Cx} {pins : List (Addr × Obj)} {σ : L2.St} {H : Hp} {s : Shared} {b : Bool} {a : Addr} {xs ys : List V} (I : Inv X pins σ H s) (h : SqB X.K b H a xs) (h' : SqB X.K b H a ys) : xs = ys := by
  cases b
  · exact I.tuple_inj h h'
  · exact I.list_inj h h'
end L3
set_option Elab.async false
set_option linter.all false
set_option maxRecDepth 100000
set_option maxHeartbeats 4000000
namespace L3
open PySem PySem.Spec PyProof.Rows L2
section
variable {X : Cx} {a b e l : Expr} {es : List Expr} {pos : Pos}
end
section
variable {X : Cx} {a b e l : Expr} {es : List Expr} {pos : Pos} {t : TA3}
def all3 : List T → Gp → Q3 → Prop := fun xs G q => match xs with
  | [.ref p] => (match getL G p with | some ys => (match allB ys with | some k => q (.bl k) G | none => False) | none => False)
  | _ => False
theorem allB_ok {K : PySem.W.Frag} {H : Hp} : ∀ {ys : List T} {vs : List V} {k : Bool}, Rps K H ys vs → allB ys = some k → ∃ ks : List Bool, vs = ks.map V.bl ∧ ks.all id = k
  | _, _, _, .nil, h => by cases h; exact ⟨[], rfl, rfl⟩
  | y :: ys, _, k, .cons a b, h => by
    unfold allB at h
    split at h
    · rename_i e; cases e
    · rename_i j r e
      cases e
      split at h
      · rename_i i ei
        obtain ⟨ks, rfl, hk⟩ := allB_ok b ei
        cases a
        cases h
        exact ⟨j :: ks, rfl, by rw [List.all_cons, hk]; rfl⟩
      · cases h
    · cases h
theorem ref_all {K : PySem.W.Frag} : RefC K all3 (fun xs H Q => ∃ (p : Addr) (ks : List Bool), xs = [.ref p] ∧ SqL K H p (ks.map V.bl) ∧ Q (.bl (ks.all id)) H) := fun xs vs G H q Q hr rs h af => by
  unfold all3 at h
  split at h
  · rename_i p
    obtain ⟨v, rfl, r⟩ := rps1 rs
    cases r
    split at h
    · rename_i ys e0
      split at h
      · rename_i k e1
        obtain ⟨us, hs, r2⟩ := getL_sq hr e0
        obtain ⟨ks, rfl, hk⟩ := allB_ok r2 e1
        exact ⟨p, ks, rfl, hs, by rw [hk]; exact af _ G h _ H (.bl _) hr Kp.refl⟩
      · exact h.elim
    · exact h.elim
  · exact h.elim
end
end L3
set_option Elab.async false
set_option linter.all false
set_option maxRecDepth 100000
set_option maxHeartbeats 4000000
namespace L3
open PySem PySem.Spec PyProof.Rows L2
def lsCls : Value → Bool
  | .type t => t == "list"
  | _ => false
def noLists : List (Addr × Obj) → Bool
  | [] => true
  | p :: r => if lsCls p.2.cls then false else noLists r
theorem noLists_at : ∀ {K : List (Addr × Obj)} {a : Addr} {o : Obj}, noLists K = true → K.lookup a = some o → o.cls ≠ .type "list"
  | [], _, _, _, e => by simp at e
  | (b, x) :: r, a, o, h, e => by
    unfold noLists at h
    split at h
    · cases h
    · rename_i hx
      rw [List.lookup_cons] at e
      split at e
      · cases e
        intro z
        rw [z] at hx
        exact hx rfl
      · exact noLists_at h e
theorem script_frz {K : PySem.W.Frag} {H : Hp} {a : Addr} {ns : List Int} (hK : noLists K = true) (hO : Only H) (hS : SqL K H a (ns.map V.int)) : ∃ o, H a = some (.frz o (.lst (ns.map V.int))) := by
  rcases hS with (h | h) | ⟨o, its, n, h1, h2, _⟩
  · rcases hO a with z | ⟨o, xs, z⟩ <;> (rw [h] at z; cases z)
  · exact h
  · exact absurd h2 (noLists_at hK h1)
def only (a : Addr) (ns : List Int) : Gp := fun b => if b = a then some (.frz (ns.map T.int)) else none
theorem only_hr {K : PySem.W.Frag} {H : Hp} {a : Addr} {ns : List Int} (h : ∃ o, H a = some (.frz o (.lst (ns.map V.int)))) : HR K (only a ns) H := fun b o e => by
  unfold only at e
  split at e
  · rename_i hb; subst hb; cases e; exact ⟨_, h, Rps.ints ns⟩
  · cases e
def sp_top : Sp3 := fun ts G q => ∃ (a : Addr) (ns : List Int), ts = [.ref a] ∧ G a = some (.frz (ns.map T.int)) ∧ ns.length ≤ 63 ∧ ∀ G', q (.bl true) G'
theorem walk3 {l : PySem.W.OpenLaw} {k : Nat} {q : Program} {loose : List Str} {XP : (Str → Option Value) → Heap → Prop} {YP : World → Heap → Prop} {d : DefRec} {K : Params → PySem.W.Frag} {x : Str} (hn : l.most = some 63) (hdf : d.params.defaults = []) (hr : Room k callerA)
    (hY : ∀ (w : World) (h : Heap), YP w h → (K w.params).In h) (hK : ∀ w : World, noLists (K w.params) = true)
    (F : ∀ (w : World) (mg : Str → Option Value) (fa : Addr) (h : Heap), (K w.params).In h → h.Ns mainGlobals mg → mg d.name = some (.ref fa) →
      ∃ fd : FuncData, (∀ (s : Shared) (u : Value), BindsTo s fd ⟨[u], []⟩ [(x, u)]) ∧ ∀ base : Heap, (K w.params).In base → base.Ns mainGlobals mg → FnOk l.prog w (K w.params) mg base CX0 k fa fd [x] (lSp (K w.params) sp_top)) :
    PySem.W.WalkO q loose XP YP l.row.toRowW d [] (fun f vs => PySem.call f vs) :=
  L2.walk_of (n := 63) (k := k) (x := x) (CX := fun _ => CX0) (sp := fun w => lSp (K w.params) sp_top) hn (by decide) hdf hr hY F
    (fun w H a ns hl hO hS => ⟨[.ref a], only a ns, fun t _ => t = .bl true, only_hr (script_frz (hK w) hO hS), .cons (.ref a) .nil, ⟨a, ns, rfl, by simp [only], hl, fun _ => rfl⟩, fun t G' e v H' r _ _ => by subst e; cases r; rfl⟩) fun _ _ _ _ _ z => z
theorem fnok_of {P : Program} {w : World} {K : PySem.W.Frag} {mg : Str → Option Value} {base : Heap} {x qual : Str} {st : Stmt} {f : Addr} {fd : FuncData} {N ps : List Str} {k : Nat} {sp : Sp3} {t3 : TS3} (F : Fun K x qual st f fd) (S : FnScope N ps (defScope st))
    (body : ∀ (cdv : Value) (A : Around) (outer : List Env) (s : Shared) (H : Hp) (E : XK), Room k (A.deeper (envOfC qual (defScope st) s.heap.objs.size f cdv)) →
      B3 (cxOf CX0 P w K mg base N qual (defScope st) f cdv A outer s H E).nox (defBody st) t3)
    (read : ∀ ts G q, sp ts G q → ts.length = ps.length ∧ t3 { nx := fun _ G' => q .non G', rt := q } (start3 N ts) G) : FnOk P w K mg base CX0 (k + 1) f fd ps (lSp K sp) := by
  refine F.ok S (fun vs H Q E ⟨ts, G, q, h1, h2, h3, h4⟩ => by rw [← h2.length]; exact (read ts G q h3).1) fun cdv A outer s H vs Q E hr ⟨ts, G, q, h1, h2, h3, h4⟩ => ?_
  refine ⟨_, body cdv A outer s H E hr, start3 N ts, G, _, rel_start h1 h2, (read ts G q h3).2, ⟨fun τ' G' h' σ' H' rl' k' => h4 _ G' h' _ H' .non rl'.hp k', h4, fun _ _ z => z.elim, fun _ _ z => z.elim⟩⟩
end L3
set_option Elab.async false
set_option linter.all false
set_option maxRecDepth 100000
set_option maxHeartbeats 4000000
namespace L3
open PySem PySem.Spec PyProof.Rows L2
open AutoSeq1 (wpAny_loadPart')
section
variable {P : Program} {w : World} {A : Around} {s : Shared} {E : Value → Shared → Prop}
end
section
variable {X : Cx} {a b e l : Expr} {es : List Expr} {pos : Pos}
end
section
variable {X : Cx} {a b e l : Expr} {es : List Expr} {pos : Pos} {t : TA3}
end
end L3
set_option Elab.async false
set_option linter.all false
set_option maxRecDepth 100000
set_option maxHeartbeats 4000000
namespace L3
open PySem PySem.Spec PyProof.Rows L2
section
variable {X : Cx} {a b c e : Expr} {es : List Expr} {ta tb tc te : TE3} {t : TA3} {pos : Pos}
def aug3 (i : Nat) (r : R3) (te : TE3) : TS3 := fun d τ G => match τ[i]? with
  | some (some x) => te τ G fun y G1 => r x y G1 fun z G2 => d.nx (τ.set i (some z)) G2
  | _ => False
def any3 : List T → Gp → Q3 → Prop := fun xs G q => match xs with
  | [.ref p] => (match getL G p with | some ys => (match anyB ys with | some k => q (.bl k) G | none => False) | none => False)
  | _ => False
end
end L3
set_option Elab.async false
set_option linter.all false
set_option maxRecDepth 100000
set_option maxHeartbeats 4000000
namespace L3
open PySem PySem.Spec PyProof.Rows L2
section
variable {X : Cx}
end
end L3
set_option Elab.async false
set_option linter.all false
set_option maxRecDepth 100000
set_option maxHeartbeats 4000000
set_option autoImplicit true
namespace L3
open PySem PySem.Spec PyProof.Rows L2
structure jE3 (X : Cx) (e : Expr) (t : TE3) : Prop where h : E3 X e t
structure jC3 (X : Cx) (e : Expr) (t : TT3) : Prop where h : C3 X e t
structure jW3 (X : Cx) (e : Expr) (t : TT3) : Prop where h : W3 X e t
structure jA3 (X : Cx) (e : List Expr) (t : TA3) : Prop where h : A3 X e t
structure jP3 (X : Cx) (e : Option Expr) (t : TO3) : Prop where h : P3 X e t
structure jS3 (X : Cx) (e : Stmt) (t : TS3) : Prop where h : S3 X e t
structure jB3 (X : Cx) (e : List Stmt) (t : TS3) : Prop where h : B3 X e t
structure jG3 (X : Cx) (e : Expr) (t : TG3) : Prop where h : G3 X e t
structure jGs3 (X : Cx) (e : List Expr) (t : TGs3) : Prop where h : Gs3 X e t
structure jI3 (X : Cx) (tg e : Expr) (t : TI3) : Prop where h : I3 X tg e t
structure jF3 (X : Cx) (e : List Expr) (t : TT3) : Prop where h : F3 X e t
theorem je_var {X : Cx} (i : Nat) {x : Str} {pos : Pos} (hN : X.N[i]? = some x := by rfl) (hv : Vis X.env.scope x := by first | exact Or.inl rfl | exact Or.inr (Or.inl rfl) | exact Or.inr (Or.inr rfl)) (hd : (x == ("__debug__" : Str)) = false := by decide)
    (hcd : (x == ("__classdict__" : Str)) = false := by decide) : jE3 X (.Name x pos) (v3 i) :=
  ⟨e_var (i := i) (hN := hN) (hv := hv) (hd := hd) (hcd := hcd)⟩
theorem je_int {X : Cx} {i : Int} {j pos} : jE3 X (.Constant (.int i) j pos) (c3 (.int i)) :=
  ⟨e_int ⟩
theorem je_bl {X : Cx} {b : Bool} {j pos} : jE3 X (.Constant (.bool b) j pos) (c3 (.bl b)) :=
  ⟨e_bl ⟩
theorem je_non {X : Cx} {j pos} : jE3 X (.Constant .none j pos) (c3 .non) :=
  ⟨e_non ⟩
theorem je_str {X : Cx} {x : Str} {j pos} : jE3 X (.Constant (.str x) j pos) (c3 (.str x)) :=
  ⟨e_str ⟩
theorem je_cmp {ta : TE3} {tb : TE3} {pos : Pos} {a : Expr} {b : Expr} {X : Cx} {op : CmpOp} {r3 : R3} {r : R2} (ho : OpR X (compareOp op) r) (hr : Ref2 X.K r3 r) (ha : jE3 X a ta) (hb : jE3 X b tb) (hm : behindInMarks op b = false) : jE3 X (.Compare a [op] [b] pos) (o3 r3 ta tb) :=
  ⟨e_cmp (ho := ho) (hr := hr) (ha := ha.h) (hb := hb.h) (hm := hm)⟩
theorem jt_cmp {ta : TE3} {tb : TE3} {pos : Pos} {a : Expr} {b : Expr} {X : Cx} {op : CmpOp} {r3 : R3} {r : R2} (ho : OpR X (compareOp op) r) (hr : Ref2 X.K r3 r) (ha : jE3 X a ta) (hb : jE3 X b tb) (hm : behindInMarks op b = false) : jC3 X (.Compare a [op] [b] pos) (tb3 (o3 r3 ta tb)) :=
  ⟨t_cmp (ho := ho) (hr := hr) (ha := ha.h) (hb := hb.h) (hm := hm)⟩
theorem je_chain {ta : TE3} {tb : TE3} {tc : TE3} {pos : Pos} {a : Expr} {b : Expr} {c : Expr} {X : Cx} {op op' : CmpOp} {r3 r3' : R3} {r r' : R2} (ho : OpR X (compareOp op) r) (hr : Ref2 X.K r3 r) (ho' : OpR X (compareOp op') r') (hr' : Ref2 X.K r3' r') (ha : jE3 X a ta) (hb : jE3 X b tb) (hc : jE3 X c tc)
    (hm : lastMarks [op, op'] [b, c] = false := by with_unfolding_all rfl) : jE3 X (.Compare a [op, op'] [b, c] pos) (ch3 r3 r3' ta tb tc) :=
  ⟨e_chain (ho := ho) (hr := hr) (ho' := ho') (hr' := hr') (ha := ha.h) (hb := hb.h) (hc := hc.h) (hm := hm)⟩
theorem je_mul {ta : TE3} {tb : TE3} {pos : Pos} {a : Expr} {b : Expr} {X : Cx} (ha : jE3 X a ta) (hb : jE3 X b tb) : jE3 X (.BinOp a .Mult b pos) (o3 (iC CMul (· * ·)) ta tb) :=
  ⟨e_mul (ha := ha.h) (hb := hb.h)⟩
theorem je_mod {ta : TE3} {tb : TE3} {pos : Pos} {a : Expr} {b : Expr} {X : Cx} (ha : jE3 X a ta) (hb : jE3 X b tb) : jE3 X (.BinOp a .Mod b pos) (o3 (iC (fun _ j => 0 < j) (· % ·)) ta tb) :=
  ⟨e_mod (ha := ha.h) (hb := hb.h)⟩
theorem je_div {ta : TE3} {tb : TE3} {pos : Pos} {a : Expr} {b : Expr} {X : Cx} (ha : jE3 X a ta) (hb : jE3 X b tb) : jE3 X (.BinOp a .FloorDiv b pos) (o3 (iC CDiv (· / ·)) ta tb) :=
  ⟨e_div (ha := ha.h) (hb := hb.h)⟩
theorem je_pow {ta : TE3} {tb : TE3} {pos : Pos} {a : Expr} {b : Expr} {X : Cx} (ha : jE3 X a ta) (hb : jE3 X b tb) : jE3 X (.BinOp a .Pow b pos) (o3 (iC CPow (fun i j => i ^ j.toNat)) ta tb) :=
  ⟨e_pow (ha := ha.h) (hb := hb.h)⟩
theorem je_neg {ta : TE3} {pos : Pos} {a : Expr} {X : Cx} (ha : jE3 X a ta) : jE3 X (.UnaryOp .USub a pos) (u3 neg3 ta) :=
  ⟨e_neg (ha := ha.h)⟩
theorem jt_or1 {tA : TT3} {pos : Pos} {a : Expr} {X : Cx} (ha : jC3 X a tA) : jW3 X (.BoolOp .Or [a] pos) tA :=
  ⟨t_or1 (ha := ha.h)⟩
theorem jt_or {rest : List Expr} {tA : TT3} {tB : TT3} {pos : Pos} {a : Expr} {X : Cx} (ha : jC3 X a tA) (hb : jW3 X (.BoolOp .Or (b :: rest) pos) tB) : jW3 X (.BoolOp .Or (a :: b :: rest) pos) (or3 tA tB) :=
  ⟨t_or (ha := ha.h) (hb := hb.h)⟩
theorem jt_not {tA : TT3} {pos : Pos} {a : Expr} {X : Cx} (ha : jC3 X a tA) : jC3 X (.UnaryOp .Not a pos) (not3 tA) :=
  ⟨t_not (ha := ha.h)⟩
theorem jt_val {X : Cx} {e : Expr} {t : TE3} (h : jE3 X e t) (he : ∀ whole, isTrue e X.env whole = (do let v ← whole; standAt e.pos; holding [v] (truthy v)) := by intro _; rfl) : jC3 X e (tb3 t) :=
  ⟨t_val (h := h.h) (he := he)⟩
theorem je_one {ta : TE3} {pos : Pos} {a : Expr} {X : Cx} {op} (h : jE3 X a ta) : jE3 X (.BoolOp op [a] pos) ta :=
  ⟨e_one (h := h.h)⟩
theorem je_and {rest : List Expr} {ta : TE3} {tb : TE3} {pos : Pos} {a : Expr} {X : Cx} (ha : jE3 X a ta) (hb : jE3 X (.BoolOp .And (b :: rest) pos) tb) : jE3 X (.BoolOp .And (a :: b :: rest) pos) (andV3 ta tb) :=
  ⟨e_and (ha := ha.h) (hb := hb.h)⟩
theorem je_not {ta : TE3} {pos : Pos} {a : Expr} {X : Cx} (ha : jE3 X a ta) : jE3 X (.UnaryOp .Not a pos) (notV3 ta) :=
  ⟨e_not (ha := ha.h)⟩
theorem je_if {tA : TT3} {ta : TE3} {tb : TE3} {pos : Pos} {a : Expr} {b : Expr} {X : Cx} {c : Expr} (hc : jC3 X c tA) (ha : jE3 X a ta) (hb : jE3 X b tb) : jE3 X (.IfExp c a b pos) (if3 tA ta tb) :=
  ⟨e_if (hc := hc.h) (ha := ha.h) (hb := hb.h)⟩
theorem ja_nil {X : Cx}  : jA3 X [] nil3 :=
  ⟨a_nil ⟩
theorem ja_cons {te : TE3} {t : TA3} {es : List Expr} {X : Cx} (ha : jE3 X e te) (hr : jA3 X es t) (hs : starEach (e :: es) X.env = (false, eval e X.env) :: starEach es X.env := by rfl) : jA3 X (e :: es) (cons3 te t) :=
  ⟨a_cons (ha := ha.h) (hr := hr.h) (hs := hs)⟩
theorem je_tup {t : TA3} {pos : Pos} {es : List Expr} {X : Cx} {x1} (h : jA3 X es t) : jE3 X (.Tuple es x1 pos) (tup3 t) :=
  ⟨e_tup (h := h.h)⟩
theorem je_lst {t : TA3} {pos : Pos} {es : List Expr} {X : Cx} (h : jA3 X es t) : jE3 X (.List es pos) (lst3 t) :=
  ⟨e_lst (h := h.h)⟩
theorem je_callB {t : TA3} {pos : Pos} {es : List Expr} {X : Cx} {x : Str} {p : Pos} {id : String} {r3 : List T → Gp → Q3 → Prop} {r : List V → Hp → VK → Prop} (hc : CallR X (.builtin id) r) (hr : RefC X.K r3 r) (hg : Gl X x) (hm : X.mg x = none) (hv : bootBuiltins x = some (.builtin id)) (ha : jA3 X (e :: es) t) (hn : x ≠ "__name__" := by decide) (hdb : (x == ("__debug__" : Str)) = false := by decide)
    (he : starEach (e :: es) X.env = (false, eval e X.env) :: starEach es X.env := by rfl) (hpl : (backTo pos (starEach es X.env)).any (·.1) = false := by rfl) : jE3 X (.Call (.Name x p) (e :: es) [] pos) (cb3 r3 t) :=
  ⟨e_callB (hc := hc) (hr := hr) (hg := hg) (hm := hm) (hv := hv) (ha := ha.h) (hn := hn) (hdb := hdb) (he := he) (hpl := hpl)⟩
theorem je_callTy {t : TA3} {pos : Pos} {es : List Expr} {X : Cx} {x : Str} {p : Pos} {ty : String} {r3 : List T → Gp → Q3 → Prop} {r : List V → Hp → VK → Prop} (hc : CallR X (.type ty) r) (hr : RefC X.K r3 r) (hg : Gl X x) (hm : X.mg x = none) (hv : bootBuiltins x = some (.type ty)) (ha : jA3 X (e :: es) t) (hn : x ≠ "__name__" := by decide) (hdb : (x == ("__debug__" : Str)) = false := by decide)
    (he : starEach (e :: es) X.env = (false, eval e X.env) :: starEach es X.env := by rfl) (hpl : (backTo pos (starEach es X.env)).any (·.1) = false := by rfl) : jE3 X (.Call (.Name x p) (e :: es) [] pos) (cb3 r3 t) :=
  ⟨e_callTy (hc := hc) (hr := hr) (hg := hg) (hm := hm) (hv := hv) (ha := ha.h) (hn := hn) (hdb := hdb) (he := he) (hpl := hpl)⟩
theorem je_ix {ta : TE3} {tb : TE3} {pos : Pos} {a : Expr} {b : Expr} {X : Cx} (ha : jE3 X a ta) (hb : jE3 X b tb) (hs : PlainIx b := by intro _ _; rfl) : jE3 X (.Subscript a b pos) (o3 ix3 ta tb) :=
  ⟨e_ix (ha := ha.h) (hb := hb.h) (hs := hs)⟩
theorem jp_none {X : Cx}  : jP3 X none np3 :=
  ⟨p_none ⟩
theorem jp_some {te : TE3} {e : Expr} {X : Cx} (h : jE3 X e te) : jP3 X (some e) (sp3 te) :=
  ⟨p_some (h := h.h)⟩
theorem je_plus {ta : TE3} {tb : TE3} {pos : Pos} {a : Expr} {b : Expr} {X : Cx} (ha : jE3 X a ta) (hb : jE3 X b tb) : jE3 X (.BinOp a .Add b pos) (o3 cat3 ta tb) :=
  ⟨e_plus (ha := ha.h) (hb := hb.h)⟩
theorem je_isi {te : TE3} {pos : Pos} {e : Expr} {X : Cx} {tn : Str} {ty : String} {p p2 : Pos} (he : jE3 X e te) (hg : Gl X "isinstance") (hm : X.mg "isinstance" = none) (hg2 : Gl X tn) (hm2 : X.mg tn = none) (hv : bootBuiltins tn = some (.type ty)) (hmem : ty ∈ tyNames := by decide) (hn : tn ≠ "__name__" := by decide) (hdb : (tn == ("__debug__" : Str)) = false := by decide)
    (hs : starEach [e, .Name tn p2] X.env = (false, eval e X.env) :: starEach [.Name tn p2] X.env := by rfl) (hs2 : starEach [.Name tn p2] X.env = (false, eval (.Name tn p2) X.env) :: starEach [] X.env := by rfl) (hpl : (backTo pos (starEach [.Name tn p2] X.env)).any (·.1) = false := by rfl) : jE3 X (.Call (.Name "isinstance" p) [e, .Name tn p2] [] pos) (isi3 (fun t => subT t ty) te) :=
  ⟨e_isi (he := he.h) (hg := hg) (hm := hm) (hg2 := hg2) (hm2 := hm2) (hv := hv) (hmem := hmem) (hn := hn) (hdb := hdb) (hs := hs) (hs2 := hs2) (hpl := hpl)⟩
theorem jb_nil {X : Cx}  : jB3 X [] next3 :=
  ⟨b_nil ⟩
theorem jb_cons {rest : List Stmt} {st : Stmt} {t1 : TS3} {t2 : TS3} {X : Cx} (h1 : jS3 X st t1) (h2 : jB3 X rest t2) : jB3 X (st :: rest) (seq3 t1 t2) :=
  ⟨b_cons (h1 := h1.h) (h2 := h2.h)⟩
theorem jb_one {st : Stmt} {t1 : TS3} {X : Cx} (h1 : jS3 X st t1) : jB3 X [st] t1 :=
  ⟨b_one (h1 := h1.h)⟩
theorem js_ret {te : TE3} {pos : Pos} {e : Expr} {X : Cx} (he : jE3 X e te) : jS3 X (.Return (some e) pos) (ret3 te) :=
  ⟨s_ret (he := he.h)⟩
theorem js_if {tA : TT3} {t1 : TS3} {t2 : TS3} {pos : Pos} {X : Cx} {c : Expr} {ba bb : List Stmt} (hc : jC3 X c tA) (ha : jB3 X ba t1) (hb : jB3 X bb t2) : jS3 X (.If c ba bb pos) (ifS3 tA t1 t2) :=
  ⟨s_if (hc := hc.h) (ha := ha.h) (hb := hb.h)⟩
theorem jg_name {pos : Pos} {X : Cx} {i : Nat} {x : Str} (hN : X.N.Nodup) (hi : X.N[i]? = some x := by rfl) (hx : Loc X.env.scope x := by first | exact Or.inl rfl | exact Or.inr rfl) (hf : X.fn x = true ∨ X.env.scope.names.lookup x = some .local := by first | exact .inl rfl | exact .inr rfl) : jG3 X (.Name x pos) (gn3 i) :=
  ⟨g_name (hN := hN) (hi := hi) (hx := hx) (hf := hf)⟩
theorem jg_nil {X : Cx}  : jGs3 X [] gnil3 :=
  ⟨g_nil ⟩
theorem jg_cons {es : List Expr} {X : Cx} {tg : TG3} {tgs : TGs3} (h1 : jG3 X e tg) (h2 : jGs3 X es tgs) (hs : (assignEach (e :: es) X.env).map (·.2) = assign e X.env :: (assignEach es X.env).map (·.2) := by rfl) : jGs3 X (e :: es) (gcons3 tg tgs) :=
  ⟨g_cons (h1 := h1.h) (h2 := h2.h) (hs := hs)⟩
theorem jg_tup {pos : Pos} {es : List Expr} {X : Cx} {k : Nat} {tgs : TGs3} {n : Nat} (hc : X.calm = true) (h : jGs3 X es tgs) (hn : (assignEach es X.env).length = n := by rfl) (hst : (assignEach es X.env).findIdx? (·.1) = none := by rfl) : jG3 X (.Tuple es k pos) (gtup3 n tgs) :=
  ⟨g_tup (hc := hc) (h := h.h) (hn := hn) (hst := hst)⟩
theorem jg_sub {pos : Pos} {X : Cx} {o i : Expr} {to ti : TE3} (ho : jE3 X o to) (hi : jE3 X i ti) (ha : ∀ v, assign (.Subscript o i pos) X.env v = (do
      let ov ← holding [v] (eval o X.env)
      let iv ← holding [v, ov] (eval i X.env)
      standAt pos
      holding [v, ov, iv] (setItem ov iv v)
      release [v, ov, iv] []) := by intro _; rfl) : jG3 X (.Subscript o i pos) (gsub3 to ti) :=
  ⟨g_sub (ho := ho.h) (hi := hi.h) (ha := ha)⟩
theorem js_asg {te : TE3} {pos : Pos} {X : Cx} {tg e : Expr} {g : TG3} (he : jE3 X e te) (hg : jG3 X tg g) (hs : swapsWithSole [tg] e pos.line X.env = pure false := by rfl) (hw : swappedStores [tg] e X.env = pure none := by rfl)
    (h1 : (assignEach [tg] X.env).map (·.2) = [assign tg X.env] := by rfl) : jS3 X (.Assign [tg] e pos) (asg3 te g) :=
  ⟨s_asg (he := he.h) (hg := hg.h) (hs := hs) (hw := hw) (h1 := h1)⟩
theorem js_set {te : TE3} {pos : Pos} {X : Cx} (i : Nat) {x : Str} {e : Expr} {pos' : Pos} (hN : X.N.Nodup) (he : jE3 X e te) (hi : X.N[i]? = some x := by rfl) (hx : Loc X.env.scope x := by first | exact Or.inl rfl | exact Or.inr rfl) (hs : swapsWith e (some (.Name x pos')) pos.line X.env = pure false := by rfl) (hf : X.fn x = true ∨ X.env.scope.names.lookup x = some .local := by first | exact .inl rfl | exact .inr rfl) : jS3 X (.Assign [.Name x pos'] e pos) (asg3 te (gn3 i)) :=
  ⟨s_set (i := i) (hN := hN) (he := he.h) (hi := hi) (hx := hx) (hs := hs) (hf := hf)⟩
theorem js_par {pos : Pos} {X : Cx} {i j : Nat} {x y : Str} {a b : Expr} {tt : TA3} {px py pt : Pos} {kt k2 pt2} (hc : X.calm = true) (hN : X.N.Nodup) (hi : X.N[i]? = some x) (hj : X.N[j]? = some y) (hij : i ≠ j)
    (hx : X.env.scope.names.lookup x = some .local) (hy : X.env.scope.names.lookup y = some .local) (ha : jA3 X [a, b] tt)
    (hw : swappedStores [.Tuple [.Name x px, .Name y py] kt pt] (.Tuple [a, b] k2 pt2) X.env = pure (some [x, y]) := by rfl)
    (hs : swapsWithSole [.Tuple [.Name x px, .Name y py] kt pt] (.Tuple [a, b] k2 pt2) pos.line X.env = pure false := by rfl) : jS3 X (.Assign [.Tuple [.Name x px, .Name y py] kt pt] (.Tuple [a, b] k2 pt2) pos) (par3 i j tt) :=
  ⟨s_par (hc := hc) (hN := hN) (hi := hi) (hj := hj) (hij := hij) (hx := hx) (hy := hy) (ha := ha.h) (hw := hw) (hs := hs)⟩
theorem ji_seq {te : TE3} {X : Cx} {tg : Expr} {l : Expr} (hl : jE3 X l te) : jI3 X tg l (iseq3 te) :=
  ⟨i_seq (hl := hl.h)⟩
theorem ji_range1 {t : TA3} {pos : Pos} {a : Expr} {X : Cx} {tg : Expr} {p : Pos} (hg : Gl X "range") (hm : X.mg "range" = none) (ha : jA3 X [a] t) (hs : starEach [a] X.env = [(false, eval a X.env)] := by rfl) (h1 : ∀ τ G q, t τ G q → t τ G fun xs G => q xs G ∧ xs.length = 1) : jI3 X tg (.Call (.Name "range" p) [a] [] pos) (irng3 t) :=
  ⟨i_range1 (hg := hg) (hm := hm) (ha := ha.h) (hs := hs) (h1 := h1)⟩
theorem js_for {pos : Pos} {X : Cx} {tg : Expr} {iter : Expr} {body : List Stmt} {wi : TI3} {g : TG3} {tb : TS3} (hp : PassesOwn (model X.prog X.w) X.A X.env X.xe) (hc : X.calm = true) (hi : jI3 X tg iter wi) (hg : jG3 X tg g) (hb : jB3 X body tb)
    (hs : ∀ x, foldedSetIterable iter X.env x = pure x := by intro _; rfl) : jS3 X (.For tg iter body [] pos) (for3 wi g tb) :=
  ⟨s_for (hp := hp) (hc := hc) (hi := hi.h) (hg := hg.h) (hb := hb.h) (hs := hs)⟩
theorem je_call {t : TA3} {pos : Pos} {es : List Expr} {X : Cx} {k : Nat} {x : Str} {p : Pos} {sp : Sp3} (F : Fn3 X.prog X.w X.K X.mg X.base k x sp) (hr : Room k X.A) (hg : Gl X x) (ha : jA3 X (e :: es) t) (hdb : (x == ("__debug__" : Str)) = false := by decide)
    (he : starEach (e :: es) X.env = (false, eval e X.env) :: starEach es X.env := by rfl) (hpl : (backTo pos (starEach es X.env)).any (·.1) = false := by rfl) : jE3 X (.Call (.Name x p) (e :: es) [] pos) (cb3 sp t) :=
  ⟨e_call (F := F) (hr := hr) (hg := hg) (ha := ha.h) (hdb := hdb) (he := he) (hpl := hpl)⟩
theorem je_lc {X : Cx} {elt tg iter : Expr} {ifs : List Expr} {scope : Scope} {pos : Pos} (N' : List Str) (m : List (Option Nat)) {wi : TI3} {g : TG3} {tif : TT3} {te : TE3} (hc : X.calm = true) (hi : jI3 X tg iter wi)
    (hg : ∀ s H fp, jG3 (cxComp X N' scope s H fp) tg g) (hf : ∀ s H fp, jF3 (cxComp X N' scope s H fp) ifs tif) (he : ∀ s H fp, jE3 (cxComp X N' scope s H fp) elt te)
    (hsc : scOk X.env.scope scope = true) (hcap : capOk X.N N' scope m = true) (hs : ∀ x, foldedSetIterable iter X.env x = pure x := by intro _; rfl) : jE3 X (.ListComp elt [⟨tg, iter, ifs, 0⟩] scope pos) (lc3 wi g tif te m) :=
  ⟨e_lc (N' := N') (m := m) (hc := hc) (hi := hi.h) (hg := (fun s H fp => (hg s H fp).h)) (hf := (fun s H fp => (hf s H fp).h)) (he := (fun s H fp => (he s H fp).h)) (hsc := hsc) (hcap := hcap) (hs := hs)⟩
theorem jf_nil {X : Cx} : jF3 X [] tt3 :=
  ⟨f_nil ⟩
theorem jpt {X : Cx} {e : Expr} {t : TT3} (h : jW3 X e t) : jC3 X e t := ⟨PW.pt h.h⟩
theorem jfn3_of {P : Program} {w : World} {K : PySem.W.Frag} {mg : Str → Option Value} {base : Heap} {x qual : Str} {st : Stmt} {f : Addr} {fd : FuncData} {N ps : List Str} {k : Nat} {sp : Sp3} {t3 : TS3} (F : Fun K x qual st f fd) (S : FnScope N ps (defScope st)) (bd : Binds K fd ps []) (hm : mg x = some (.ref f))
    (body : ∀ (cdv : Value) (A : Around) (outer : List Env) (s : Shared) (H : Hp) (E : XK), Room k (A.deeper (envOfC qual (defScope st) s.heap.objs.size f cdv)) →
      jB3 (cxOf CX0 P w K mg base N qual (defScope st) f cdv A outer s H E).nox (defBody st) t3)
    (read : ∀ ts G q, sp ts G q → ts.length = ps.length ∧ t3 { nx := fun _ G' => q .non G', rt := q } (start3 N ts) G) : Fn3 P w K mg base (k + 1) x sp :=
  fn3_of F S bd hm (fun cdv A outer s H E hr => (body cdv A outer s H E hr).h) read
theorem jfnok_of {P : Program} {w : World} {K : PySem.W.Frag} {mg : Str → Option Value} {base : Heap} {x qual : Str} {st : Stmt} {f : Addr} {fd : FuncData} {N ps : List Str} {k : Nat} {sp : Sp3} {t3 : TS3} (F : Fun K x qual st f fd) (S : FnScope N ps (defScope st))
    (body : ∀ (cdv : Value) (A : Around) (outer : List Env) (s : Shared) (H : Hp) (E : XK), Room k (A.deeper (envOfC qual (defScope st) s.heap.objs.size f cdv)) →
      jB3 (cxOf CX0 P w K mg base N qual (defScope st) f cdv A outer s H E).nox (defBody st) t3)
    (read : ∀ ts G q, sp ts G q → ts.length = ps.length ∧ t3 { nx := fun _ G' => q .non G', rt := q } (start3 N ts) G) : FnOk P w K mg base CX0 (k + 1) f fd ps (lSp K sp) :=
  fnok_of F S (fun cdv A outer s H E hr => (body cdv A outer s H E hr).h) read
end L3
set_option Elab.async false
set_option linter.all false
set_option maxRecDepth 100000
set_option maxHeartbeats 4000000
namespace L3
open PySem PySem.Spec PyProof.Rows L2
open PySem.SeqAt
def Ex (G G' : Gp) : Prop := ∀ b o, G b = some o → G' b = some o
theorem Ex.refl {G : Gp} : Ex G G := fun _ _ e => e
theorem Ex.trans {G G1 G2 : Gp} (a : Ex G G1) (b : Ex G1 G2) : Ex G G2 := fun x o e => b x o (a x o e)
theorem ex_new {G : Gp} {p : Addr} {o : O} (hp : G p = none) : Ex G (gu G p o) := fun b ob e => by
  rw [gu_ne (by rintro rfl; rw [hp] at e; cases e)]; exact e
mutual
inductive Dp (G : Gp) : T → PyData → Prop
  | non : Dp G .non .none
  | bl (b : Bool) : Dp G (.bl b) (.bool b)
  | int (i : Int) : Dp G (.int i) (.int i)
  | str (x : Str) : Dp G (.str x) (.str x)
  | tup {xs : List T} {ds : List PyData} : Dps G xs ds → Dp G (.tup xs) (.tuple ds)
  | lst {p : Addr} {xs : List T} {ds : List PyData} : getL G p = some xs → Dps G xs ds → Dp G (.ref p) (.list ds)
inductive Dps (G : Gp) : List T → List PyData → Prop
  | nil : Dps G [] []
  | cons {x : T} {d : PyData} {xs : List T} {ds : List PyData} : Dp G x d → Dps G xs ds → Dps G (x :: xs) (d :: ds)
end
theorem Ex.getL {G G' : Gp} (e : Ex G G') {p : Addr} {xs : List T} (h : getL G p = some xs) : getL G' p = some xs := by
  unfold L3.getL at h ⊢
  split at h
  · rename_i ys g; cases h; rw [e _ _ g]
  · rename_i ys g; cases h; rw [e _ _ g]
  · cases h
mutual
theorem Dp.up {G G' : Gp} (e : Ex G G') : ∀ {x : T} {d : PyData}, Dp G x d → Dp G' x d
  | _, _, .non => .non
  | _, _, .bl b => .bl b
  | _, _, .int i => .int i
  | _, _, .str x => .str x
  | _, _, .tup h => .tup (Dps.up e h)
  | _, _, .lst h1 h2 => .lst (e.getL h1) (Dps.up e h2)
theorem Dps.up {G G' : Gp} (e : Ex G G') : ∀ {x : List T} {d : List PyData}, Dps G x d → Dps G' x d
  | _, _, .nil => .nil
  | _, _, .cons a b => .cons (Dp.up e a) (Dps.up e b)
end
theorem Dps.length {G : Gp} : ∀ {xs : List T} {ds : List PyData}, Dps G xs ds → xs.length = ds.length
  | _, _, .nil => rfl
  | _, _, .cons _ b => by simp [Dps.length b]
theorem Dps.get {G : Gp} : ∀ {xs : List T} {ds : List PyData} {i : Nat} {x : T}, Dps G xs ds → xs[i]? = some x → ∃ d, ds[i]? = some d ∧ Dp G x d
  | _, _, _, _, .nil, e => by simp at e
  | _, _, 0, _, .cons r _, e => by simp at e; subst e; exact ⟨_, rfl, r⟩
  | _, _, i + 1, x, .cons _ t, e => by
    obtain ⟨u, h1, h2⟩ := Dps.get (i := i) (x := x) t (by simpa using e)
    exact ⟨u, by simpa using h1, h2⟩
theorem Dps.ints {G : Gp} : ∀ (ns : List Int), Dps G (ns.map T.int) (ns.map PyData.int)
  | [] => .nil
  | n :: r => .cons (.int n) (Dps.ints r)
mutual
inductive DV (K : PySem.W.Frag) (H : Hp) : V → PyData → Prop
  | non : DV K H .non .none
  | bl (b : Bool) : DV K H (.bl b) (.bool b)
  | int (i : Int) : DV K H (.int i) (.int i)
  | str (x : Str) : DV K H (.str x) (.str x)
  | tup {a : Addr} {vs : List V} {ds : List PyData} : SqT K H a vs → DVs K H vs ds → DV K H (.ref a) (.tuple ds)
  | lst {a : Addr} {vs : List V} {ds : List PyData} : SqL K H a vs → DVs K H vs ds → DV K H (.ref a) (.list ds)
inductive DVs (K : PySem.W.Frag) (H : Hp) : List V → List PyData → Prop
  | nil : DVs K H [] []
  | cons {x : V} {d : PyData} {xs : List V} {ds : List PyData} : DV K H x d → DVs K H xs ds → DVs K H (x :: xs) (d :: ds)
end
mutual
theorem Dp.dv {K : PySem.W.Frag} {G : Gp} {H : Hp} (hr : HR K G H) : ∀ {x : T} {d : PyData} {v : V}, Dp G x d → Rp K H x v → DV K H v d
  | _, _, _, .non, .non => .non
  | _, _, _, .bl b, .bl _ => .bl b
  | _, _, _, .int i, .int _ => .int i
  | _, _, _, .str x, .str _ => .str x
  | _, _, _, .tup h, .tup hs rs => .tup hs (Dps.dv hr h rs)
  | _, _, _, .lst g h, r => by
    cases r
    obtain ⟨_, hs, rs⟩ := getL_sq hr g
    exact .lst hs (Dps.dv hr h rs)
theorem Dps.dv {K : PySem.W.Frag} {G : Gp} {H : Hp} (hr : HR K G H) : ∀ {x : List T} {d : List PyData} {v : List V}, Dps G x d → Rps K H x v → DVs K H v d
  | _, _, _, .nil, .nil => .nil
  | _, _, _, .cons a b, .cons c d => .cons (Dp.dv hr a c) (Dps.dv hr b d)
end
mutual
def pyEq : PyData → PyData → Option Bool
  | .none, .none => some true
  | .bool a, .bool b => some (a == b)
  | .int a, .int b => some (a == b)
  | .str a, .str b => some (a == b)
  | .list xs, .list ys => pyEqs xs ys
  | .tuple xs, .tuple ys => pyEqs xs ys
  | _, _ => none
def pyEqs : List PyData → List PyData → Option Bool
  | [], [] => some true
  | x :: xs, y :: ys => match pyEq x y, pyEqs xs ys with | some a, some b => some (a && b) | _, _ => none
  | _, _ => some false
end
mutual
def dpt : PyData → Nat
  | .list xs => dpts xs + 1
  | .tuple xs => dpts xs + 1
  | _ => 0
def dpts : List PyData → Nat
  | [] => 0
  | x :: xs => max (dpt x) (dpts xs)
end
section
variable {X : Cx} {pins : List (Addr × Obj)} {σ : L2.St} {H : Hp} {s : Shared}
mutual
theorem DV.inj (I : Inv X pins σ H s) : ∀ {v : V} {d e : PyData}, DV X.K H v d → DV X.K H v e → d = e
  | _, _, _, .non, .non => rfl
  | _, _, _, .bl _, .bl _ => rfl
  | _, _, _, .int _, .int _ => rfl
  | _, _, _, .str _, .str _ => rfl
  | _, _, _, .tup h hs, .tup k ks => by
    have := I.tuple_inj h k
    subst this
    rw [DVs.inj I hs ks]
  | _, _, _, .lst h hs, .lst k ks => by
    have := I.list_inj h k
    subst this
    rw [DVs.inj I hs ks]
  | _, _, _, .tup h hs, .lst k ks => by
    obtain ⟨i1, _, p1, _⟩ := I.tuple h
    obtain ⟨i2, _, p2, _⟩ := I.list k
    exact absurd rfl (ne_of_list_tuple p2.isList (show s.heap.IsTuple _ i1.toArray from p1))
  | _, _, _, .lst k ks, .tup h hs => by
    obtain ⟨i1, _, p1, _⟩ := I.tuple h
    obtain ⟨i2, _, p2, _⟩ := I.list k
    exact absurd rfl (ne_of_list_tuple p2.isList (show s.heap.IsTuple _ i1.toArray from p1))
theorem DVs.inj (I : Inv X pins σ H s) : ∀ {v : List V} {d e : List PyData}, DVs X.K H v d → DVs X.K H v e → d = e
  | _, _, _, .nil, .nil => rfl
  | _, _, _, .cons a b, .cons c d => by rw [DV.inj I a c, DVs.inj I b d]
end
mutual
theorem pyEq_self : ∀ {d : PyData} {b : Bool}, pyEq d d = some b → b = true
  | .none, _, h => by simp [pyEq] at h; exact h
  | .bool _, _, h => by simp [pyEq] at h; exact h
  | .int _, _, h => by simp [pyEq] at h; exact h
  | .str _, _, h => by simp [pyEq] at h; exact h
  | .list xs, _, h => by simp only [pyEq] at h; exact pyEqs_self h
  | .tuple xs, _, h => by simp only [pyEq] at h; exact pyEqs_self h
  | .dict _, _, h => by simp [pyEq] at h
theorem pyEqs_self : ∀ {d : List PyData} {b : Bool}, pyEqs d d = some b → b = true
  | [], _, h => by simp [pyEqs] at h; exact h
  | x :: xs, b, h => by
    simp only [pyEqs] at h
    split at h
    · rename_i a c e1 e2
      rw [pyEq_self e1, pyEqs_self e2] at h
      simpa using h.symm
    · cases h
end
theorem pyEqs_get : ∀ {xs ys : List PyData} {b : Bool}, pyEqs xs ys = some b → xs.length = ys.length → ∃ e : Nat → Bool, (∀ (j : Nat) x y, xs[j]? = some x → ys[j]? = some y → pyEq x y = some (e j)) ∧ b = (List.range xs.length).all e
  | [], [], b, h, _ => by simp [pyEqs] at h; exact ⟨fun _ => true, by simp, by simp [h]⟩
  | x :: xs, y :: ys, b, h, hl => by
    simp only [pyEqs] at h
    split at h
    · rename_i a c e1 e2
      obtain ⟨e, h1, h2⟩ := pyEqs_get e2 (by simpa using hl)
      refine ⟨fun j => match j with | 0 => a | j + 1 => e j, fun j u v hu hv => ?_, ?_⟩
      · cases j with
        | zero => simp at hu hv; subst hu; subst hv; exact e1
        | succ j => exact h1 j u v (by simpa using hu) (by simpa using hv)
      · rw [List.length_cons, List.range_succ_eq_map, List.all_cons, List.all_map]
        cases h
        rw [h2]
        rfl
    · cases h
  | [], _ :: _, _, _, hl => by simp at hl
  | _ :: _, [], _, _, hl => by simp at hl
theorem pyEqs_len : ∀ {xs ys : List PyData} {b : Bool}, pyEqs xs ys = some b → xs.length ≠ ys.length → b = false ∧ ∃ e : Nat → Bool, ∀ (j : Nat) x y, xs[j]? = some x → ys[j]? = some y → pyEq x y = some (e j)
  | [], [], _, _, hl => by simp at hl
  | [], _ :: _, b, h, _ => by simp [pyEqs] at h; exact ⟨h, fun _ => true, by simp⟩
  | _ :: _, [], b, h, _ => by simp [pyEqs] at h; exact ⟨h, fun _ => true, by simp⟩
  | x :: xs, y :: ys, b, h, hl => by
    simp only [pyEqs] at h
    split at h
    · rename_i a c e1 e2
      obtain ⟨h0, e, h1⟩ := pyEqs_len e2 (by simpa using hl)
      subst h0
      refine ⟨by simpa using h.symm, fun j => match j with | 0 => a | j + 1 => e j, fun j u v hu hv => ?_⟩
      cases j with
      | zero => simp at hu hv; subst hu; subst hv; exact e1
      | succ j => exact h1 j u v (by simpa using hu) (by simpa using hv)
    · cases h
theorem dpts_mem : ∀ {xs : List PyData} {x : PyData}, x ∈ xs → dpt x ≤ dpts xs
  | [], _, h => by simp at h
  | y :: ys, x, h => by
    simp only [dpts]
    rcases List.mem_cons.mp h with e | e
    · subst e; omega
    · have := dpts_mem e; omega
theorem DVs.get {K : PySem.W.Frag} {H : Hp} : ∀ {xs : List V} {ds : List PyData} {i : Nat} {x : V}, DVs K H xs ds → xs[i]? = some x → ∃ d, ds[i]? = some d ∧ DV K H x d
  | _, _, _, _, .nil, e => by simp at e
  | _, _, 0, _, .cons r _, e => by simp at e; subst e; exact ⟨_, rfl, r⟩
  | _, _, i + 1, x, .cons _ t, e => by
    obtain ⟨u, h1, h2⟩ := DVs.get (i := i) (x := x) t (by simpa using e)
    exact ⟨u, by simpa using h1, h2⟩
theorem DVs.length {K : PySem.W.Frag} {H : Hp} : ∀ {xs : List V} {ds : List PyData}, DVs K H xs ds → xs.length = ds.length
  | _, _, .nil => rfl
  | _, _, .cons _ b => by simp [DVs.length b]
theorem vals_at {vs : List V} {us : List Value} (r : Vals vs us) {j : Nat} (h : j < us.toArray.size) : ∃ v, vs[j]? = some v ∧ RelV v us.toArray[j] := by
  have hj : j < vs.length := by rw [r.length]; simpa using h
  obtain ⟨u, hu, ru⟩ := r.get (List.getElem?_eq_getElem hj)
  refine ⟨vs[j], List.getElem?_eq_getElem hj, ?_⟩
  have hj2 : j < us.length := by simpa using h
  rw [List.getElem?_eq_getElem hj2] at hu
  have : us[j] = u := Option.some.inj hu
  simpa [this] using ru
theorem eq_deep (I : Inv X pins σ H s) : ∀ (n : Nat) {v u : V} {d e : PyData} {b : Bool} {x y : Value} {A : Around}, DV X.K H v d → DV X.K H u e → pyEq d e = some b → dpt d ≤ n → A.units + n < cLine → RelV v x → RelV u y →
    RcAt A s x y b ∧ EqAt A s x y b := by
  intro n
  induction n with
  | zero =>
    intro v u d e b x y A hv hu h hd hn rx ry
    cases hv with
    | non => cases hu <;> simp [pyEq] at h; subst h; cases (show x = Value.none from rx); cases (show y = Value.none from ry); exact ⟨RcAt.none_none, EqAt.same _⟩
    | bl a => cases hu <;> simp [pyEq] at h; subst h; cases (show x = Value.bool _ from rx); cases (show y = Value.bool _ from ry); exact ⟨RcAt.bool_bool _ _, EqAt.bool_bool _ _⟩
    | int a => cases hu <;> simp [pyEq] at h; subst h; obtain ⟨t, rfl⟩ := (show ∃ t, x = Value.int _ t from rx); obtain ⟨t', rfl⟩ := (show ∃ t, y = Value.int _ t from ry); exact ⟨RcAt.int_int _ _ _ _, EqAt.int_int _ _ _ _⟩
    | str a => cases hu <;> simp [pyEq] at h; subst h; obtain ⟨t, rfl⟩ := (show ∃ t, x = Value.str _ t from rx); obtain ⟨t', rfl⟩ := (show ∃ t, y = Value.str _ t from ry); exact ⟨RcAt.str_str _ _ _ _, EqAt.str_str _ _ _ _⟩
    | tup => simp [dpt] at hd
    | lst => simp [dpt] at hd
  | succ n ih =>
    intro v u d e b x y A hv hu h hd hn rx ry
    have fin : ∀ {l l' : Addr} {k : Bool}, x = .ref l → y = .ref l' → v = .ref l → u = .ref l' → b = k → RcAt A s x y k → RcAt A s x y b ∧ EqAt A s x y b := by
      rintro l l' k rfl rfl rfl rfl rfl rc
      refine ⟨rc, ?_⟩
      by_cases hll : l = l'
      · subst hll
        have := DV.inj I hv hu
        subst this
        rw [pyEq_self h]
        exact EqAt.same _
      · exact EqAt.of_refs hll rc
    cases hv with
    | non => cases hu <;> simp [pyEq] at h; subst h; cases (show x = Value.none from rx); cases (show y = Value.none from ry); exact ⟨RcAt.none_none, EqAt.same _⟩
    | bl a => cases hu <;> simp [pyEq] at h; subst h; cases (show x = Value.bool _ from rx); cases (show y = Value.bool _ from ry); exact ⟨RcAt.bool_bool _ _, EqAt.bool_bool _ _⟩
    | int a => cases hu <;> simp [pyEq] at h; subst h; obtain ⟨t, rfl⟩ := (show ∃ t, x = Value.int _ t from rx); obtain ⟨t', rfl⟩ := (show ∃ t, y = Value.int _ t from ry); exact ⟨RcAt.int_int _ _ _ _, EqAt.int_int _ _ _ _⟩
    | str a => cases hu <;> simp [pyEq] at h; subst h; obtain ⟨t, rfl⟩ := (show ∃ t, x = Value.str _ t from rx); obtain ⟨t', rfl⟩ := (show ∃ t, y = Value.str _ t from ry); exact ⟨RcAt.str_str _ _ _ _, EqAt.str_str _ _ _ _⟩
    | tup hq hs =>
      cases hu with
      | tup kq ks =>
        rename_i a1 vs1 ds1 a2 vs2 ds2
        simp only [pyEq] at h
        obtain ⟨i1, r1, p1, z1⟩ := I.tuple hq
        obtain ⟨i2, r2, p2, z2⟩ := I.tuple kq
        have l1 := hs.length; have l2 := ks.length; have m1 := r1.length; have m2 := r2.length
        have el : ∀ (e : Nat → Bool), (∀ (j : Nat) x y, ds1[j]? = some x → ds2[j]? = some y → pyEq x y = some (e j)) → ∀ j (h1 : j < i1.toArray.size) (h2 : j < i2.toArray.size), EqAt A.in1 s i1.toArray[j] i2.toArray[j] (e j) := fun e he j h1 h2 => by
          obtain ⟨w1, g1, q1⟩ := vals_at r1 h1
          obtain ⟨w2, g2, q2⟩ := vals_at r2 h2
          obtain ⟨d1, f1, dv1⟩ := hs.get g1
          obtain ⟨d2, f2, dv2⟩ := ks.get g2
          have := dpts_mem (List.mem_of_getElem? f1)
          exact (ih dv1 dv2 (he j d1 d2 f1 f2) (by simp only [dpt] at hd; omega) (show A.units + 1 + n < cLine by omega) q1 q2).2
        cases (show x = Value.ref a1 from rx)
        cases (show y = Value.ref a2 from ry)
        by_cases hl : ds1.length = ds2.length
        · obtain ⟨e, he, hb⟩ := pyEqs_get h hl
          refine fin rfl rfl rfl rfl (k := (List.range (min i1.toArray.size i2.toArray.size)).all e && i1.toArray.size == i2.toArray.size) ?_ (RcAt.tuples (show s.heap.IsTuple a1 i1.toArray from p1) (show s.heap.IsTuple a2 i2.toArray from p2) (by omega) (el e he))
          have e1 : i1.toArray.size = ds1.length := by rw [List.size_toArray]; omega
          have e2 : i2.toArray.size = ds1.length := by rw [List.size_toArray]; omega
          rw [e1, e2, hb]; simp
        · obtain ⟨hb, e, he⟩ := pyEqs_len h hl
          refine fin rfl rfl rfl rfl (k := (List.range (min i1.toArray.size i2.toArray.size)).all e && i1.toArray.size == i2.toArray.size) ?_ (RcAt.tuples (show s.heap.IsTuple a1 i1.toArray from p1) (show s.heap.IsTuple a2 i2.toArray from p2) (by omega) (el e he))
          have e1 : i1.toArray.size ≠ i2.toArray.size := by rw [List.size_toArray, List.size_toArray]; omega
          rw [hb]; simp [e1]
          intro; omega
      | _ => simp [pyEq] at h
    | lst hq hs =>
      cases hu with
      | lst kq ks =>
        rename_i a1 vs1 ds1 a2 vs2 ds2
        simp only [pyEq] at h
        obtain ⟨i1, r1, p1, z1⟩ := I.list hq
        obtain ⟨i2, r2, p2, z2⟩ := I.list kq
        have l1 := hs.length; have l2 := ks.length; have m1 := r1.length; have m2 := r2.length
        have el : ∀ (e : Nat → Bool), (∀ (j : Nat) x y, ds1[j]? = some x → ds2[j]? = some y → pyEq x y = some (e j)) → ∀ j (h1 : j < i1.toArray.size) (h2 : j < i2.toArray.size), EqAt A.in1 s i1.toArray[j] i2.toArray[j] (e j) := fun e he j h1 h2 => by
          obtain ⟨w1, g1, q1⟩ := vals_at r1 h1
          obtain ⟨w2, g2, q2⟩ := vals_at r2 h2
          obtain ⟨d1, f1, dv1⟩ := hs.get g1
          obtain ⟨d2, f2, dv2⟩ := ks.get g2
          have := dpts_mem (List.mem_of_getElem? f1)
          exact (ih dv1 dv2 (he j d1 d2 f1 f2) (by simp only [dpt] at hd; omega) (show A.units + 1 + n < cLine by omega) q1 q2).2
        cases (show x = Value.ref a1 from rx)
        cases (show y = Value.ref a2 from ry)
        by_cases hl : ds1.length = ds2.length
        · obtain ⟨e, he, hb⟩ := pyEqs_get h hl
          refine fin rfl rfl rfl rfl (k := (List.range i1.toArray.size).all e) ?_ (RcAt.lists p1.isList p2.isList (by rw [List.size_toArray, List.size_toArray]; omega) (by omega) (el e he))
          have e1 : i1.toArray.size = ds1.length := by rw [List.size_toArray]; omega
          rw [e1, hb]
        · obtain ⟨hb, e, he⟩ := pyEqs_len h hl
          refine fin rfl rfl rfl rfl (k := false) hb (RcAt.lists_lengths p1.isList p2.isList (by rw [List.size_toArray, List.size_toArray]; simp; omega) (by omega))
      | _ => simp [pyEq] at h
theorem ne_deep (I : Inv X pins σ H s) {n : Nat} {v u : V} {d e : PyData} {b : Bool} {x y : Value} {A : Around} (hv : DV X.K H v d) (hu : DV X.K H u e) (h : pyEq d e = some b) (hd : dpt d ≤ n + 1) (hn : A.units + (n + 1) < cLine) (rx : RelV v x) (ry : RelV u y) (hs : dpt d ≠ 0) : RcNeAt A s x y (!b) := by
  cases hv with
  | tup hq hs' =>
    cases hu with
    | tup kq ks =>
      rename_i a1 vs1 ds1 a2 vs2 ds2
      simp only [pyEq] at h
      obtain ⟨i1, r1, p1, z1⟩ := I.tuple hq
      obtain ⟨i2, r2, p2, z2⟩ := I.tuple kq
      have l1 := hs'.length; have l2 := ks.length; have m1 := r1.length; have m2 := r2.length
      have el : ∀ (e : Nat → Bool), (∀ (j : Nat) x y, ds1[j]? = some x → ds2[j]? = some y → pyEq x y = some (e j)) → ∀ j (h1 : j < i1.toArray.size) (h2 : j < i2.toArray.size), EqAt A.in1 s i1.toArray[j] i2.toArray[j] (e j) := fun e he j h1 h2 => by
        obtain ⟨w1, g1, q1⟩ := vals_at r1 h1
        obtain ⟨w2, g2, q2⟩ := vals_at r2 h2
        obtain ⟨d1, f1, dv1⟩ := hs'.get g1
        obtain ⟨d2, f2, dv2⟩ := ks.get g2
        have := dpts_mem (List.mem_of_getElem? f1)
        exact (eq_deep I n dv1 dv2 (he j d1 d2 f1 f2) (by simp only [dpt] at hd; omega) (show A.units + 1 + n < cLine by omega) q1 q2).2
      cases (show x = Value.ref a1 from rx)
      cases (show y = Value.ref a2 from ry)
      by_cases hl : ds1.length = ds2.length
      · obtain ⟨e, he, hb⟩ := pyEqs_get h hl
        have := RcNeAt.tuples (show s.heap.IsTuple a1 i1.toArray from p1) (show s.heap.IsTuple a2 i2.toArray from p2) (A := A) (by omega) (el e he)
        have e1 : i1.toArray.size = ds1.length := by rw [List.size_toArray]; omega
        have e2 : i2.toArray.size = ds1.length := by rw [List.size_toArray]; omega
        rw [e1, e2] at this
        rw [hb]; simpa using this
      · obtain ⟨hb, e, he⟩ := pyEqs_len h hl
        have := RcNeAt.tuples (show s.heap.IsTuple a1 i1.toArray from p1) (show s.heap.IsTuple a2 i2.toArray from p2) (A := A) (by omega) (el e he)
        have e1 : (i1.toArray.size == i2.toArray.size) = false := by rw [List.size_toArray, List.size_toArray]; simp; omega
        rw [e1] at this
        rw [hb]; simpa using this
    | _ => simp [pyEq] at h
  | lst hq hs' =>
    cases hu with
    | lst kq ks =>
      rename_i a1 vs1 ds1 a2 vs2 ds2
      simp only [pyEq] at h
      obtain ⟨i1, r1, p1, z1⟩ := I.list hq
      obtain ⟨i2, r2, p2, z2⟩ := I.list kq
      have l1 := hs'.length; have l2 := ks.length; have m1 := r1.length; have m2 := r2.length
      have el : ∀ (e : Nat → Bool), (∀ (j : Nat) x y, ds1[j]? = some x → ds2[j]? = some y → pyEq x y = some (e j)) → ∀ j (h1 : j < i1.toArray.size) (h2 : j < i2.toArray.size), EqAt A.in1 s i1.toArray[j] i2.toArray[j] (e j) := fun e he j h1 h2 => by
        obtain ⟨w1, g1, q1⟩ := vals_at r1 h1
        obtain ⟨w2, g2, q2⟩ := vals_at r2 h2
        obtain ⟨d1, f1, dv1⟩ := hs'.get g1
        obtain ⟨d2, f2, dv2⟩ := ks.get g2
        have := dpts_mem (List.mem_of_getElem? f1)
        exact (eq_deep I n dv1 dv2 (he j d1 d2 f1 f2) (by simp only [dpt] at hd; omega) (show A.units + 1 + n < cLine by omega) q1 q2).2
      cases (show x = Value.ref a1 from rx)
      cases (show y = Value.ref a2 from ry)
      by_cases hl : ds1.length = ds2.length
      · obtain ⟨e, he, hb⟩ := pyEqs_get h hl
        have := RcNeAt.lists p1.isList p2.isList (A := A) (by rw [List.size_toArray, List.size_toArray]; omega) (by omega) (el e he)
        have e1 : i1.toArray.size = ds1.length := by rw [List.size_toArray]; omega
        rw [e1] at this
        rw [hb]; exact this
      · obtain ⟨hb, e, he⟩ := pyEqs_len h hl
        rw [hb]
        exact RcNeAt.lists_lengths p1.isList p2.isList (by rw [List.size_toArray, List.size_toArray]; simp; omega) (by omega)
    | _ => simp [pyEq] at h
  | _ => simp [dpt] at hs
def rEqD (K : PySem.W.Frag) (neg : Bool) : R2 := fun x y H Q => ∃ d e b, DV K H x d ∧ DV K H y e ∧ pyEq d e = some b ∧ dpt d ≤ 40 ∧ dpt d ≠ 0 ∧ Q (.bl (if neg then !b else b)) H
theorem op_eqD (hu : X.A.units + 64 < cLine) : OpR X (compareOp .Eq) (rEqD X.K false) := by
  intro pins s σ H x y v u Q I rx ry h
  obtain ⟨d, e, b, hx, hy, hb, hd, _, q⟩ := h
  exact (eq_deep I 40 hx hy hb hd (by omega) rx ry).1 X.prog X.w X.xe _ ⟨.bl b, H, I, rfl, q⟩
theorem op_neD (hu : X.A.units + 64 < cLine) : OpR X (compareOp .NotEq) (rEqD X.K true) := by
  intro pins s σ H x y v u Q I rx ry h
  obtain ⟨d, e, b, hx, hy, hb, hd, hs, q⟩ := h
  exact ne_deep I (n := 40) hx hy hb (by omega) (by omega) rx ry hs X.prog X.w X.xe _ ⟨.bl (!b), H, I, rfl, q⟩
end
def eqA3 (neg : Bool) : R3 := fun x y G q => match scalT x y with
  | some k => q (.bl (if neg then !k else k)) G
  | none => ∃ d e b, Dp G x d ∧ Dp G y e ∧ pyEq d e = some b ∧ dpt d ≤ 40 ∧ dpt d ≠ 0 ∧ q (.bl (if neg then !b else b)) G
theorem ref_eqA {K : PySem.W.Frag} : Ref2 K (eqA3 false) (fun x y H Q => rEq x y H Q ∨ rEqD K false x y H Q) := fun x y v u G H q Q hr rx ry h af => by
  unfold eqA3 at h
  split at h
  · rename_i k e
    obtain ⟨h1, h2⟩ := scalT_ok rx ry e
    refine .inl ⟨h1, ?_⟩
    rw [h2]
    exact af _ G h _ H (.bl _) hr Kp.refl
  · obtain ⟨d, e, b, h1, h2, h3, h4, h5, h6⟩ := h
    exact .inr ⟨d, e, b, h1.dv hr rx, h2.dv hr ry, h3, h4, h5, af _ G h6 _ H (.bl _) hr Kp.refl⟩
theorem ref_neA {K : PySem.W.Frag} : Ref2 K (eqA3 true) (fun x y H Q => rNe x y H Q ∨ rEqD K true x y H Q) := fun x y v u G H q Q hr rx ry h af => by
  unfold eqA3 at h
  split at h
  · rename_i k e
    obtain ⟨h1, h2⟩ := scalT_ok rx ry e
    refine .inl ⟨h1, ?_⟩
    rw [h2]
    exact af _ G h _ H (.bl _) hr Kp.refl
  · obtain ⟨d, e, b, h1, h2, h3, h4, h5, h6⟩ := h
    exact .inr ⟨d, e, b, h1.dv hr rx, h2.dv hr ry, h3, h4, h5, af _ G h6 _ H (.bl _) hr Kp.refl⟩
theorem op_eqA {X : Cx} (hu : X.A.units + 64 < cLine) : OpR X (compareOp .Eq) (fun x y H Q => rEq x y H Q ∨ rEqD X.K false x y H Q) := op_eq.or (op_eqD hu)
theorem op_neA {X : Cx} (hu : X.A.units + 64 < cLine) : OpR X (compareOp .NotEq) (fun x y H Q => rNe x y H Q ∨ rEqD X.K true x y H Q) := op_ne.or (op_neD hu)
end L3
set_option Elab.async false
set_option linter.all false
set_option maxRecDepth 100000
set_option maxHeartbeats 4000000
namespace L3
open PySem PySem.Spec PyProof.Rows L2
section
variable {X : Cx} {pins : List (Addr × Obj)} {σ : L2.St} {H : Hp} {s : Shared}
mutual
theorem DV.reads (I : Inv X pins σ H s) : ∀ {v : V} {d : PyData} {x : Value}, DV X.K H v d → RelV v x → ∃ as, Reads s.heap x d as
  | _, _, x, .non, r => by cases (show x = Value.none from r); exact ⟨_, .none⟩
  | _, _, x, .bl b, r => by cases (show x = Value.bool b from r); exact ⟨_, .bool b⟩
  | _, _, x, .int i, r => by obtain ⟨t, rfl⟩ := (show ∃ t, x = Value.int i t from r); exact ⟨_, .int i t⟩
  | _, _, x, .str y, r => by obtain ⟨t, rfl⟩ := (show ∃ t, x = Value.str y t from r); exact ⟨_, .str y t⟩
  | _, _, x, .tup (a := a) h hs, r => by
    cases (show x = Value.ref a from r)
    obtain ⟨its, rv, ⟨o, h1, h2, n, h3⟩, _⟩ := I.tuple h
    obtain ⟨as, ra⟩ := DVs.reads I hs rv
    exact ⟨as, .tuple h1 h2 h3 (by simpa using ra)⟩
  | _, _, x, .lst (a := a) h hs, r => by
    cases (show x = Value.ref a from r)
    obtain ⟨its, rv, p, _⟩ := I.list h
    obtain ⟨o, h1, h2, n, h3⟩ := p.isList
    obtain ⟨as, ra⟩ := DVs.reads I hs rv
    exact ⟨a :: as, .list h1 h2 h3 (by simpa using ra)⟩
theorem DVs.reads (I : Inv X pins σ H s) : ∀ {v : List V} {d : List PyData} {x : List Value}, DVs X.K H v d → Vals v x → ∃ as, ReadsAll s.heap x d as
  | _, _, _, .nil, .nil => ⟨_, .nil⟩
  | _, _, _, .cons a b, .cons c d => by
    obtain ⟨as, r1⟩ := DV.reads I a c
    obtain ⟨bs, r2⟩ := DVs.reads I b d
    exact ⟨_, .cons r1 r2⟩
end
structure ShOk (d : PyData) : Prop where
  sh : d.showable = true
  nd : d.hasDict = false
  dp : d.depth ≤ 40
  lv : d.leavesShort 13 = true
  bk : d.bulk ≤ 2 ^ 20
end
end L3
set_option Elab.async false
set_option linter.all false
set_option maxRecDepth 100000
set_option maxHeartbeats 4000000
namespace L3
open PySem PySem.Spec PyProof.Rows L2
section
variable {X : Cx}
end
end L3
set_option Elab.async false
set_option linter.all false
set_option maxRecDepth 100000
set_option maxHeartbeats 4000000
namespace L3
open PySem PySem.Spec PyProof.Rows L2
section
variable {prog : Program} {w : World} {A : Around} {R : Result → Shared → Prop} {s : Shared}
end
section
variable {X : Cx}
end
end L3
set_option Elab.async false
set_option linter.all false
set_option maxRecDepth 100000
set_option maxHeartbeats 4000000
namespace L3
open PySem PySem.Spec PyProof.Rows L2
section
variable {K : PySem.W.Frag}
end
section
variable {X : Cx}
end
end L3
set_option Elab.async false
set_option linter.all false
set_option maxRecDepth 100000
set_option maxHeartbeats 4000000
namespace L3
open PySem PySem.Spec PyProof.Rows L2
section
variable {X : Cx}
end
end L3
set_option Elab.async false
set_option linter.all false
set_option maxRecDepth 100000
set_option maxHeartbeats 4000000
namespace L3
open PySem PySem.Spec PyProof.Rows L2
section
variable {X : Cx} {tg a b c : Expr} {pos : Pos}
end
end L3
set_option Elab.async false
set_option linter.all false
set_option maxRecDepth 100000
set_option maxHeartbeats 4000000
namespace L3
open PySem PySem.Spec PyProof.Rows L2
section
variable {X : Cx}
end
end L3
set_option Elab.async false
set_option linter.all false
set_option maxRecDepth 100000
set_option maxHeartbeats 4000000
namespace L3
open PySem PySem.Spec PyProof.Rows L2
end L3
set_option Elab.async false
set_option linter.all false
set_option maxRecDepth 100000
set_option maxHeartbeats 4000000
namespace L3
open PySem PySem.Spec PyProof.Rows L2
section
variable {X : Cx} {a b : Expr} {ta tb : TE3} {pos : Pos}
theorem op_notB : OpR X (compareOp .IsNot) (fun x y H Q => ∃ i j, x = .bl i ∧ y = .bl j ∧ Q (.bl (i != j)) H) := by
  intro pins s σ H x y v u Q I rx ry h
  obtain ⟨i, j, rfl, rfl, q⟩ := h
  cases rx
  cases ry
  exact isnot_bool (fin_bl I q rfl)
def isB3 (neg : Bool) : R3 := fun x y G q => match x, y with | .bl i, .bl j => q (.bl (if neg then i != j else i == j)) G | _, _ => False
theorem ref_notB {K : PySem.W.Frag} : Ref2 K (isB3 true) (fun x y H Q => ∃ i j, x = .bl i ∧ y = .bl j ∧ Q (.bl (i != j)) H) := fun x y v u G H q Q hr rx ry h af => by
  cases x <;> try exact h.elim
  cases y <;> try exact h.elim
  cases rx; cases ry
  exact ⟨_, _, rfl, rfl, af _ G h _ H (.bl _) hr Kp.refl⟩
structure ShW (d : PyData) : Prop where
  sh : d.showable = true
  nd : d.hasDict = false
  dp : d.depth ≤ 40
  fit : d.shown.length ≤ sizeLine
theorem ShOk.w {d : PyData} (h : ShOk d) : ShW d := ⟨h.sh, h.nd, h.dp, PyData.shown_fits_bulk (by decide) (by decide) h.lv h.bk⟩
theorem call_strW (hg : X.A.guards = some []) (hu : X.A.units + 64 < cLine) : CallR X (.type "str") (fun xs H Q => ∃ a d, xs = [.ref a] ∧ DV X.K H (.ref a) d ∧ ShW d ∧ Q (.str d.shown) H) := by
  intro pins s σ H xs us Q I r h
  obtain ⟨a, d, rfl, dv, ok, q⟩ := h
  obtain ⟨u, rfl, rp⟩ := vals1 r
  cases (show u = Value.ref a from rp)
  obtain ⟨as, rd⟩ := dv.reads I (show RelV (.ref a) (.ref a) from rfl)
  refine str_of_reads rd ok.sh (PyData.noDict_hsm ok.nd) hg (by have := ok.dp; omega) (fun _ _ e => e) (fun h' u tk hk => ?_) ok.fit
  exact ⟨.str _, H, I.kept (h' := h') (t' := tk) hk, ⟨_, rfl⟩, q⟩
def shV (st : Bool) : V → Hp → (Str → Prop) → Prop := fun v H q => match v with
  | .non => q (Str.ofString "None")
  | .bl b => q (if b = true then Str.ofString "True" else Str.ofString "False")
  | .int i => i.natAbs.log2 < 1920 ∧ q (Str.ofString (toString i))
  | .str x => if st then q x else (reprText x).length ≤ sizeLine ∧ q (reprText x)
  | .ref a => ∃ d, DV X.K H (.ref a) d ∧ ShW d ∧ q d.shown
  | _ => False
theorem call_strAny (hg : X.A.guards = some []) (hu : X.A.units + 64 < cLine) : CallR X (.type "str") (fun xs H Q => ∃ v, xs = [v] ∧ shV (X := X) true v H fun x => Q (.str x) H) := by
  intro pins s σ H xs us Q I r h
  obtain ⟨v, rfl, h⟩ := h
  obtain ⟨u, rfl, rp⟩ := vals1 r
  cases v with
  | non => cases (show u = Value.none from rp); exact P.str_of_none ⟨.str _, H, I.tok _, ⟨_, rfl⟩, h⟩
  | bl b => cases (show u = Value.bool b from rp); exact P.str_of_bool ⟨.str _, H, I.tok _, ⟨_, rfl⟩, h⟩
  | int i => obtain ⟨t, rfl⟩ := (show ∃ t, u = Value.int i t from rp); exact P.str_of_int h.1 ⟨.str _, H, I.tok _, ⟨_, rfl⟩, h.2⟩
  | str x => obtain ⟨t, rfl⟩ := (show ∃ t, u = Value.str x t from rp); exact P.str_of_str ⟨.str _, H, I, ⟨_, rfl⟩, h⟩
  | ref a =>
    obtain ⟨d, dv, ok, q⟩ := h
    exact call_strW hg hu _ _ _ _ _ _ _ I r ⟨a, d, rfl, dv, ok, q⟩
  | _ => exact h.elim
def shT (st : Bool) : T → Gp → (Str → Prop) → Prop := fun x G q => match x with
  | .non => q (Str.ofString "None")
  | .bl b => q (if b = true then Str.ofString "True" else Str.ofString "False")
  | .int i => i.natAbs.log2 < 1920 ∧ q (Str.ofString (toString i))
  | .str x => if st then q x else (reprText x).length ≤ sizeLine ∧ q (reprText x)
  | .tup _ => ∃ d, Dp G x d ∧ ShW d ∧ q d.shown
  | .ref _ => ∃ d, Dp G x d ∧ ShW d ∧ q d.shown
def show3 (st : Bool) : List T → Gp → Q3 → Prop := fun xs G q => match xs with
  | [x] => shT st x G fun y => q (.str y) G
  | _ => False
theorem ref_show {st : Bool} : RefC X.K (show3 st) (fun xs H Q => ∃ v, xs = [v] ∧ shV (X := X) st v H fun x => Q (.str x) H) := fun xs vs G H q Q hr rs h af => by
  unfold show3 at h
  split at h
  · rename_i x
    obtain ⟨v, rfl, r⟩ := rps1 rs
    refine ⟨v, rfl, ?_⟩
    cases r with
    | non => exact af _ G h _ H (.str _) hr Kp.refl
    | bl b => exact af _ G h _ H (.str _) hr Kp.refl
    | int i => exact ⟨h.1, af _ G h.2 _ H (.str _) hr Kp.refl⟩
    | str x =>
      cases st with
      | true => exact af _ G h _ H (.str _) hr Kp.refl
      | false => exact ⟨h.1, af _ G h.2 _ H (.str _) hr Kp.refl⟩
    | tup hs r2 =>
      obtain ⟨d, h1, h2, h3⟩ := h
      exact ⟨d, h1.dv hr (.tup hs r2), h2, af _ G h3 _ H (.str _) hr Kp.refl⟩
    | ref a =>
      obtain ⟨d, h1, h2, h3⟩ := h
      exact ⟨d, h1.dv hr (.ref a), h2, af _ G h3 _ H (.str _) hr Kp.refl⟩
  · exact h.elim
theorem op_catT0 : OpR X (binaryOp .Add) (fun x y H Q => ∃ a b ys, x = .ref a ∧ y = .ref b ∧ SqT X.K H a [] ∧ SqT X.K H b ys ∧ Q (.ref b) H) := by
  intro pins s σ H x y v u Q I rx ry h
  obtain ⟨a, b, ys, rfl, rfl, ha, hb, q⟩ := h
  cases rx
  cases ry
  obtain ⟨its, r1, p1, _⟩ := I.tuple ha
  obtain ⟨its2, r2, p2, _⟩ := I.tuple hb
  cases r1
  obtain ⟨⟨cls, dd, data, sl⟩, ho, hc, n, hd⟩ := id p1
  obtain ⟨⟨cls2, dd2, data2, sl2⟩, ho2, hc2, n2, hd2⟩ := id p2
  simp only at hc hd hc2 hd2
  subst hc hd hc2 hd2
  exact concat_meets ⟨_, ho, rfl⟩ ⟨_, ho2, rfl⟩ noFill_tuple_add seq_tuple_add PySem.F.slot_tuple_add PySem.F.entry_tuple_add (PySem.F.args_tuple_add_2 _ _)
      (tuple_addW0 a b #[] its2.toArray n n2 dd dd2 sl sl2 rfl) ⟨ho, ho2, ⟨.ref b, H, I, rfl, q⟩⟩
def catA3 : R3 := fun x y G q => match x, y with
  | .tup xs, .tup ys => xs.length + ys.length ≤ sizeLine ∧ q (.tup (xs ++ ys)) G
  | .ref a, .ref b => (match G a, G b with | some (.lst xs), some (.lst ys) => xs.length + ys.length ≤ sizeLine ∧ ∀ p, G p = none → q (.ref p) (gu G p (.lst (xs ++ ys))) | _, _ => False)
  | .int i, .int j => q (.int (i + j)) G
  | _, _ => False
theorem ref_catA : Ref2 X.K catA3 (fun x y H Q => ((rI0 (fun i j => .int (i + j)) x y H Q ∨ rCatT X.K x y H Q) ∨ rCat x y H Q) ∨ ∃ a b ys, x = .ref a ∧ y = .ref b ∧ SqT X.K H a [] ∧ SqT X.K H b ys ∧ Q (.ref b) H) := fun x y v u G H q Q hr rx ry h af => by
  cases x with
  | tup xs =>
    cases y with
    | tup ys =>
      cases xs with
      | nil =>
        cases rx with
        | tup hs rs =>
          cases rs
          cases ry with
          | tup hs' rs' => exact .inr ⟨_, _, _, rfl, rfl, hs, hs', af _ G h.2 _ H (.tup hs' rs') hr Kp.refl⟩
      | cons x xs => exact .inl (ref_cat _ _ v u G H q Q hr rx ry ⟨by simp, h⟩ af)
    | _ => exact h.elim
  | ref a =>
    cases y with
    | ref b => exact .inl (ref_cat (.ref a) (.ref b) v u G H q Q hr rx ry h af)
    | _ => exact h.elim
  | int i =>
    cases y with
    | int j => exact .inl (ref_cat (.int i) (.int j) v u G H q Q hr rx ry h af)
    | _ => exact h.elim
  | _ => exact h.elim
theorem je_plusA (ha : jE3 X a ta) (hb : jE3 X b tb) : jE3 X (.BinOp a .Add b pos) (o3 catA3 ta tb) := ⟨e_op (((op_add.or op_catT).or op_cat).or op_catT0) ref_catA ha.h hb.h⟩
theorem getItem_tuple_all {prog : Program} {w : World} {A : Around} {E : Value → Shared → Prop} {s : Shared} {t sl : Addr} {items : Array Value} {vl vu : Value} {lo hi : Option Int} {Q : Value → Shared → Prop} (ht : IsTup s.heap t items) (hs : s.heap.IsSliceOf sl vl vu .none) (pl : IsPart vl lo) (pu : IsPart vu hi)
    (hw : HT.sIx items.size 0 lo = 0 ∧ HT.sIx items.size items.size hi = items.size) (h : Q (.ref t) s) : wpAny (model prog w) A (getItem (.ref t) (.ref sl)) Q E s := by
  obtain ⟨os, hos, hcs, hds⟩ := id hs
  have hTs : s.TypeIs (.ref sl) "slice" := ⟨os, hos, hcs⟩
  unfold getItem
  try with_reducible refine wpAny_holding ?_
  first | refine wpAny_bind (wpAny_pure ?_) | skip
  refine wpAny_bind (wpAny_sequenceKey ht.typeIs (by decide) ?_)
  refine wpAny_bind (wpAny_callSpecial?_slot (name := Str.ofString "__getitem__") ht.typeIs PyProof.Rows.slot_tuple_getitem
    (wpAny_call_entry PyProof.Rows.slot_tuple_getitem ht.typeIs entry_tuple_getitem ?_ (args_tuple_getitem _ _)))
  show wpAny _ _ (Builtin.Tuple.tupleItemsOf (.ref t) >>= _) _ _ s
  refine wpAny_bind (tupleItemsOf_ ht ?_)
  refine wpAny_bind (wpAny_typeOf hTs ?_)
  rw [if_pos (by decide)]
  refine wpAny_bind (HT.sliceApplied_gen hs pl pu ?_)
  have hyes : (((HT.sIx items.size 0 lo : Nat) : Int) == 0 && (1 : Int) == 1 && (HT.sIx items.size items.size hi - HT.sIx items.size 0 lo) == items.size) = true := by
    rw [hw.1, hw.2]; simp
  show wpAny _ _ (if (((HT.sIx items.size 0 lo : Nat) : Int) == 0 && (1 : Int) == 1 && (HT.sIx items.size items.size hi - HT.sIx items.size 0 lo) == items.size) = true then _ else _) _ _ s
  rw [if_pos hyes]
  unfold Builtin.Tuple.tupleIsExact
  refine wpAny_bind (wpAny_bind (wpAny_typeOf ht.typeIs (wpAny_pure ?_)))
  rw [if_pos (by decide)]
  refine wpAny_bind (wpAny_rule ?_)
  exact wpAny_pure ⟨_, rfl, wpAny_pure h⟩
def rSlW (K : PySem.W.Frag) : V → Option Int → Option Int → Hp → VK → Prop := fun x lo hi H Q => ∃ a xs, x = .ref a ∧ SqT K H a xs ∧ (HT.sIx xs.length 0 lo = 0 ∧ HT.sIx xs.length xs.length hi = xs.length) ∧ Q (.ref a) H
theorem sl_whole : SlR X (rSlW X.K) := by
  intro pins s σ H x v vl vu lo hi sl Q I rx hs pl pu h
  obtain ⟨a, xs, rfl, hx, hw, q⟩ := h
  cases rx
  obtain ⟨its, r, ht, hz⟩ := I.tuple hx
  have hlen : its.toArray.size = xs.length := by rw [List.size_toArray]; exact r.length.symm
  refine ⟨"tuple", _, PyProof.Rows.slot_tuple_getitem.lookup, ht.typeIs, ?_⟩
  exact getItem_tuple_all ht hs pl pu (by rw [hlen]; exact hw) ⟨.ref a, H, I, rfl, q⟩
def slA3 : T → Option Int → Option Int → Gp → Q3 → Prop := fun x lo hi G q => match x with
  | .tup xs => q (.tup (cut3 xs lo hi)) G
  | .ref p => (match getL G p with | some xs => ∀ a, G a = none → q (.ref a) (gu G a (.lst (cut3 xs lo hi))) | none => False)
  | _ => False
def tslA3 (te : TE3) (tl th : TO3) : TE3 := fun τ G q => te τ G fun x G1 => tl τ G1 fun l G2 => th τ G2 fun u G3 => slA3 x l u G3 q
theorem je_sliceA {e : Expr} {te : TE3} {lo hi : Option Expr} {tl th : TO3} {p2 : Pos} (he : jE3 X e te) (hl : jP3 X lo tl) (hu : jP3 X hi th) : jE3 X (.Subscript e (.Slice lo hi none p2) pos) (tslA3 te tl th) :=
  ⟨pe_w (pe_slice ((sl_tup.or sl_list).or sl_whole) he.h hl.h hu.h) fun _ _ _ ⟨τ, G, q, rl, h, af⟩ => lE_seq rl h fun x G1 h1 v H1 rx hr1 k1 rl1 =>
    ⟨τ, G1, _, rl1, h1, fun l G2 h2 H2 hr2 k2 => ⟨τ, G2, _, rl1.next hr2 k2, h2, fun u G3 h3 H3 hr3 k3 => by
      have kk := (k1.trans k2).trans k3
      have rx3 := (rx.keep hr1 k2).keep hr2 k3
      cases x <;> try exact h3.elim
      case tup xs =>
        cases rx3 with
        | tup hs rs =>
          by_cases hw : HT.sIx xs.length 0 l = 0 ∧ HT.sIx xs.length xs.length u = xs.length
          · refine .inr ⟨_, _, rfl, hs, by rw [← rs.length]; exact hw, ?_⟩
            have e : cut3 xs l u = xs := by unfold cut3; rw [hw.1, hw.2]; simp
            have h4 : q (.tup (cut3 xs l u)) G3 := h3
            rw [e] at h4
            exact af _ G3 h4 _ _ (.tup hs rs) hr3 kk
          · refine .inl (.inl ⟨_, _, rfl, hs, by rw [← rs.length]; exact hw, fun p hp => ?_⟩)
            exact af _ G3 h3 _ _ (.tup (SqT.of upd_same) ((rs.cut _ _).keep hr3 (Kp.laid hp))) (hr3.laid hp) (kk.trans (Kp.laid hp))
      case ref p =>
        unfold slA3 at h3
        simp only at h3
        split at h3
        · rename_i xs e0
          cases rx3
          obtain ⟨vs, hs, rs⟩ := getL_sq hr3 e0
          refine .inl (.inr ⟨p, vs, rfl, hs, fun a ha => ?_⟩)
          exact af _ _ (h3 a (hr3.free ha)) _ _ (.ref a) (hr3.newL ha (rs.cut _ _)) (kk.trans (Kp.newL ha))
        · exact h3.elim⟩⟩⟩
end
end L3
set_option Elab.async false
set_option linter.all false
set_option maxRecDepth 100000
set_option maxHeartbeats 4000000
namespace L3
open PySem PySem.Spec PyProof.Rows L2
def sp_none : Sp3 := fun _ _ _ => False
theorem fn3_none {P : Program} {w : World} {K : PySem.W.Frag} {mg : Str → Option Value} {base : Heap} {x qual : Str} {st : Stmt} {f : Addr} {fd : FuncData} {ps : List Str} (F : Fun K x qual st f fd) (bd : Binds K fd ps []) (hm : mg x = some (.ref f)) : Fn3 P w K mg base 0 x sp_none :=
  ⟨f, fd, ps, ⟨fun vs H Q E ⟨_, _, _, _, _, h, _⟩ => h.elim, fun A outer s H args us vs Q E _ _ _ _ ⟨_, _, _, _, _, h, _⟩ => h.elim⟩, bd, F.kp, hm⟩
theorem ixT (xs : List T) (i : Int) (G : Gp) (q : Q3) : ix3 (.tup xs) (.int i) G q = (match L2.atI xs i with | some z => q z G | none => False) := rfl
theorem ixR (p : Addr) (i : Int) (G : Gp) (q : Q3) : ix3 (.ref p) (.int i) G q = (match getL G p with | some xs => (match L2.atI xs i with | some z => q z G | none => False) | none => False) := rfl
theorem atI_nat' {α : Type} {xs : List α} {i : Int} (h0 : 0 ≤ i) (h1 : i < (xs.length : Int)) : L2.atI xs i = xs[i.toNat]? := by
  unfold L2.atI ixN
  have e1 : i.toNat < xs.length := by omega
  simp [h0, e1, h1]
theorem cm {i j : Int} (h1 : -1000000 < j) (h2 : j < 1000000) : CMul i j := .inr ⟨by omega, by omega⟩
theorem lcGo_inv {stay : Gp → Prop} {g : TG3} {tif : TT3} {te : TE3} {q : Q3} (items : List T) (Pv : Nat → List T → St3 → Gp → Prop) {τ : St3} {G : Gp} (h0 : Pv 0 [] τ G) (hst : ∀ i ys τ G, i ≤ items.length → Pv i ys τ G → stay G)
    (hs : ∀ i x ys τ G (R : List T → St3 → Gp → Prop), items[i]? = some x → Pv i ys τ G → (∀ ys' τ' G', Pv (i + 1) ys' τ' G' → R ys' τ' G') →
      g x τ G fun τ2 G2 => tif τ2 G2 fun k G3 => if k = true then te τ2 G3 fun y G4 => ys.length < sizeLine ∧ R (ys ++ [y]) τ2 G4 else R ys τ2 G3)
    (hd : ∀ ys τ G, Pv items.length ys τ G → ∀ p, G p = none → q (.ref p) (gu G p (.lst ys))) : lcGo stay g tif te q items [] τ G := by
  have key : ∀ (r : List T) (i : Nat) ys τ G, items.drop i = r → i ≤ items.length → Pv i ys τ G → lcGo stay g tif te q r ys τ G := by
    intro r
    induction r with
    | nil =>
      intro i ys τ G e hi p
      have : i = items.length := by have := congrArg List.length e; simp at this; omega
      subst this
      exact ⟨hst _ ys τ G hi p, hd ys τ G p⟩
    | cons x r ih =>
      intro i ys τ G e hi p
      have hl : i < items.length := by
        apply Classical.byContradiction
        intro z
        rw [List.drop_eq_nil_of_le (by omega)] at e
        cases e
      have e' := List.drop_eq_getElem_cons hl
      rw [e] at e'
      injection e' with e1 e2
      exact ⟨hst i ys τ G hi p, hs i x ys τ G _ (by rw [List.getElem?_eq_getElem hl, e1]) p fun ys2 τ2 G2 p2 => ih (i + 1) ys2 τ2 G2 e2.symm hl p2⟩
  exact key items 0 [] τ G (by simp) (Nat.zero_le _) h0
theorem lcGo_map {stay : Gp → Prop} {g : TG3} {te : TE3} {q : Q3} {G : Gp} (f : T → T) (Ok : St3 → Prop) (hst : stay G) : ∀ (items ys : List T) (τ : St3), Ok τ →
    (∀ x ∈ items, ∀ τ, Ok τ → ∀ R : St3 → T → Gp → Prop, (∀ τ', Ok τ' → R τ' (f x) G) → g x τ G fun τ2 G2 => te τ2 G2 fun y G4 => R τ2 y G4) →
    ys.length + items.length < sizeLine → (∀ p, G p = none → q (.ref p) (gu G p (.lst (ys ++ items.map f)))) → lcGo stay g tt3 te q items ys τ G
  | [], ys, τ, _, _, _, h => ⟨hst, by simpa using h⟩
  | x :: r, ys, τ, ok, step, len, h => by
    refine ⟨hst, ?_⟩
    have e : (fun τ2 G2 => tt3 τ2 G2 fun k G3 => if k = true then te τ2 G3 fun y G4 => ys.length < sizeLine ∧ lcGo stay g tt3 te q r (ys ++ [y]) τ2 G4 else lcGo stay g tt3 te q r ys τ2 G3) = (fun τ2 G2 => te τ2 G2 fun y G4 => ys.length < sizeLine ∧ lcGo stay g tt3 te q r (ys ++ [y]) τ2 G4) := by
      funext τ2 G2; simp [tt3]
    rw [e]
    rw [List.length_cons] at len
    refine step x List.mem_cons_self τ ok _ fun τ' ok' => ⟨by omega, lcGo_map f Ok hst r (ys ++ [f x]) τ' ok' (fun z hz => step z (List.mem_cons_of_mem _ hz)) (by rw [List.length_append, List.length_singleton]; omega) fun p hp => ?_⟩
    simpa using h p hp
theorem rng_get {lo : Int} {n i : Nat} {x : T} (h : (rngT lo n)[i]? = some x) : i < n ∧ x = T.int (lo + (i : Int)) := by
  unfold rngT at h
  rw [List.getElem?_map] at h
  cases e : (List.range n)[i]? with
  | none => rw [e] at h; cases h
  | some k =>
    rw [e] at h
    obtain ⟨hi, hk⟩ := List.getElem?_eq_some_iff.mp e
    simp at hi hk
    subst hk
    exact ⟨hi, by simpa using h.symm⟩
theorem rng_len (lo : Int) (n : Nat) : (rngT lo n).length = n := by simp [rngT]
end L3
namespace Bk
open PySem L2 L3
def t_is_number : TS3 := (ret3 (andV3 (isi3 (fun t => subT t "int") (v3 0)) (notV3 (isi3 (fun t => subT t "bool") (v3 0)))))
def t_law_mix : TS3 := (seq3 (asg3 (o3 (iC (fun _ j => 0 < j) (· % ·)) (o3 (iC CMul (· * ·)) (o3 cat3 (o3 cat3 (o3 (iC (fun _ j => 0 < j) (· % ·)) (v3 0) (c3 (.int 2147483629))) (o3 (iC CMul (· * ·)) (o3 (iC CMul (· * ·)) (v3 1) (v3 1)) (c3 (.int 7919)))) (c3 (.int 11))) (c3 (.int 48271))) (c3 (.int 2147483647))) (gn3 2)) (ret3 (o3 (iC (fun _ j => 0 < j) (· % ·)) (o3 (iC CMul (· * ·)) (v3 2) (v3 2)) (c3 (.int 1999999973)))))
def t_law_left : TS3 := (seq3 (asg3 (if3 (tb3 (o3 (iB fun i j => decide (i < j)) (v3 1) (cb3 len3 (cons3 (v3 0) nil3)))) (o3 ix3 (v3 0) (v3 1)) (c3 (.int 0))) (gn3 2)) (seq3 (asg3 (if3 (tb3 (o3 (iB fun i j => decide (j ≤ i)) (cb3 abs3 (cons3 (v3 2) nil3)) (o3 (iC CPow (fun i j => i ^ j.toNat)) (c3 (.int 10)) (c3 (.int 18))))) (cb3 abs3 (cons3 (v3 2) nil3)) (c3 (.int 0))) (gn3 3)) (ret3 (lst3 (cons3 (v3 3) (cons3 (o3 cat3 (v3 2) (o3 (iC CMul (· * ·)) (c3 (.int 1000003)) (v3 1))) (cons3 (c3 (.int 0)) nil3)))))))
def t_law_pick (S_law_mix : Sp3) : TS3 := (seq3 (asg3 (o3 cat3 (o3 ix3 (v3 0) (c3 (.int 2))) (c3 (.int 1))) (gsub3 (v3 0) (c3 (.int 2)))) (seq3 (ifS3 (tb3 (o3 (iB fun i j => decide (j < i)) (o3 ix3 (v3 0) (c3 (.int 0))) (c3 (.int 0)))) (seq3 (asg3 (o3 (iC (fun _ j => 0 < j) (· % ·)) (o3 ix3 (v3 0) (c3 (.int 0))) (v3 1)) (gn3 2)) (seq3 (asg3 (o3 (iC CDiv (· / ·)) (o3 ix3 (v3 0) (c3 (.int 0))) (v3 1)) (gsub3 (v3 0) (c3 (.int 0)))) (ret3 (v3 2)))) next3) (ret3 (o3 (iC (fun _ j => 0 < j) (· % ·)) (o3 (iC CDiv (· / ·)) (cb3 S_law_mix (cons3 (cb3 S_law_mix (cons3 (o3 ix3 (v3 0) (c3 (.int 1))) (cons3 (o3 ix3 (v3 0) (c3 (.int 2))) nil3))) (cons3 (o3 cat3 (o3 ix3 (v3 0) (c3 (.int 2))) (c3 (.int 64))) nil3))) (c3 (.int 64))) (v3 1)))))
end Bk
set_option Elab.async false
set_option linter.all false
set_option maxRecDepth 100000
set_option maxHeartbeats 4000000
namespace Bk
open PySem L2 L3
inductive Dl where
  | skew (r c b x y : Int)
  | rests (r c b p : Int)
  | bits (h l : Nat) (ms : List Int)
  | table (b : Int) (cells : List (List Int))
  | joined (d e : Dl)
def rowT (r : List Int) : T := .tup (r.map T.int)
def Dl.t : Dl → T
  | .skew r c b x y => .tup [.str "skew", .int r, .int c, .int b, .int x, .int y]
  | .rests r c b p => .tup [.str "rests", .int r, .int c, .int b, .int p]
  | .bits h l ms => .tup [.str "bits", .int h, .int l, .tup (ms.map T.int)]
  | .table b cells => .tup [.str "table", .int b, .tup (cells.map rowT)]
  | .joined d e => .tup [.str "joined", d.t, e.t]
def Dl.R : Dl → Int
  | .skew r _ _ _ _ => r
  | .rests r _ _ _ => r
  | .bits h _ _ => 2 ^ h
  | .table _ cells => cells.length
  | .joined d e => d.R * e.R
def Dl.C : Dl → Int
  | .skew _ c _ _ _ => c
  | .rests _ c _ _ => c
  | .bits _ l _ => 2 ^ l
  | .table _ cells => ((cells[0]?).getD []).length
  | .joined d e => d.C * e.C
def Dl.B : Dl → Int
  | .skew _ _ b _ _ => b
  | .rests _ _ b _ => b
  | .bits _ _ ms => 2 ^ ms.length
  | .table b _ => b
  | .joined d e => d.B * e.B
def Dl.Ok : Dl → Prop
  | .skew r c b x y => 1 ≤ r ∧ r ≤ 60 ∧ 1 ≤ c ∧ c ≤ 60 ∧ 1 ≤ b ∧ b ≤ 1000 ∧ 0 ≤ x ∧ x ≤ 1000 ∧ 0 ≤ y ∧ y ≤ 1000
  | .rests r c b p => 1 ≤ r ∧ r ≤ 60 ∧ 1 ≤ c ∧ c ≤ 60 ∧ 1 ≤ b ∧ b ≤ 1000 ∧ 1 ≤ p ∧ p ≤ 100000 ∧ Int.gcd b p = 1 ∧ r * c ≤ b * p
  | .bits h l ms => h ≤ 4 ∧ l ≤ 4 ∧ ms.length ≤ 5 ∧ ∀ m ∈ ms, 0 ≤ m ∧ m < 2 ^ (h + l)
  | .table b cells => 1 ≤ b ∧ b ≤ 1000 ∧ 1 ≤ cells.length ∧ cells.length ≤ 60 ∧ ∃ c, 1 ≤ c ∧ c ≤ 60 ∧ ∀ row ∈ cells, row.length = c ∧ ∀ x ∈ row, 0 ≤ x ∧ x < b
  | .joined d e => d.Ok ∧ e.Ok ∧ d.R * e.R ≤ 4096 ∧ d.C * e.C ≤ 4096 ∧ d.B * e.B ≤ 4096
theorem p2 (n : Nat) : ((2 : Int) ^ n) = ((2 ^ n : Nat) : Int) := by simp
structure Lims (d : Dl) : Prop where
  r1 : 1 ≤ d.R
  r2 : d.R ≤ 4096
  c1 : 1 ≤ d.C
  c2 : d.C ≤ 4096
  b1 : 1 ≤ d.B
  b2 : d.B ≤ 4096
structure Inn (d : Dl) (i j : Int) : Prop where
  i1 : 0 ≤ i
  i2 : i < d.R
  j1 : 0 ≤ j
  j2 : j < d.C
def sp_is_number : Sp3 := fun ts G q => ∃ i, ts = [.int i] ∧ q (.bl true) G
abbrev ends (q : Q3) : Ends3 := { nx := fun _ G' => q .non G', rt := q }
theorem rd_is_number : ∀ ts G q, sp_is_number ts G q → ts.length = 1 ∧ t_is_number (ends q) (start3 ["thing"] ts) G := by
  rintro ts G q ⟨i, rfl, h⟩
  refine ⟨rfl, ?_⟩
  simp [t_is_number, seq3, asg3, gn3, ret3, retN3, ifS3, drop3, nev3, next3, v3, c3, o3, u3, neg3, L3.ixT, L3.ixR, cat3, iI, iC, iB, eqA3, scalT, isN3, tb3, and3, or3, not3, andV3, orV3, notV3, if3, ch3, cb3, cons3, nil3, isi3, tyT, subT, tup3, lst3, tsl3, np3, sp3, gtup3, gcons3, gnil3, gsub3, set3, par3, start3, bm3, app3, ext3, len3, abs3, min3, max3, int3, tuple3, list3, all3, any3, aug3, L2.atI, ixN, cut3, HT.sIx, getL, in3, flatT, eqF, gu, sizeLine_eq, List.getElem?_cons_zero, List.getElem?_cons_succ, h]
end Bk
set_option Elab.async false
set_option linter.all false
set_option maxRecDepth 100000
set_option maxHeartbeats 4000000
namespace Bk
open PySem L2 L3
theorem div_in {i a b : Int} (h0 : 0 ≤ i) (h1 : i < a * b) (hb : 1 ≤ b) : 0 ≤ i / b ∧ i / b < a ∧ 0 ≤ i % b ∧ i % b < b :=
  ⟨Int.ediv_nonneg h0 (by omega), Int.ediv_lt_of_lt_mul (by omega) h1, Int.emod_nonneg _ (by omega), Int.emod_lt_of_pos _ (by omega)⟩
theorem Inn.up {d e : Dl} {i j : Int} (I : Inn (.joined d e) i j) (Le : Lims e) : Inn d (i / e.R) (j / e.C) ∧ Inn e (i % e.R) (j % e.C) := by
  obtain ⟨i1, i2, j1, j2⟩ := I
  obtain ⟨a1, a2, a3, a4⟩ := div_in i1 i2 Le.r1
  obtain ⟨b1, b2, b3, b4⟩ := div_in j1 j2 Le.c1
  exact ⟨⟨a1, a2, b1, b2⟩, ⟨a3, a4, b3, b4⟩⟩
end Bk
set_option Elab.async false
set_option linter.all false
set_option maxRecDepth 100000
set_option maxHeartbeats 4000000
namespace Bk
open PySem L2 L3
def Lf (G : Gp) (a : Addr) (n : Int) : Prop := ∃ o c m, G a = some (.lst [.int o, .int c, .int m]) ∧ 0 ≤ o ∧ 0 ≤ m ∧ m ≤ n
def Ext (a : Addr) (G G' : Gp) : Prop := ∀ b o, b ≠ a → G b = some o → G' b = some o
theorem Lf.ne {G : Gp} {a p : Addr} {n : Int} (h : Lf G a n) (hp : G p = none) : p ≠ a := by
  rintro rfl
  obtain ⟨o, c, m, e, _⟩ := h
  rw [hp] at e; cases e
theorem Lf.new {G : Gp} {a p : Addr} {n : Int} {ob : O} (h : Lf G a n) (hp : p ≠ a) : Lf (gu G p ob) a n := by
  obtain ⟨o, c, m, e, r⟩ := h
  exact ⟨o, c, m, by rw [gu_ne (Ne.symm hp)]; exact e, r⟩
theorem Lf.mono {G : Gp} {a : Addr} {n k : Int} (h : Lf G a n) (hk : n ≤ k) : Lf G a k := by
  obtain ⟨o, c, m, e, h1, h2, h3⟩ := h
  exact ⟨o, c, m, e, h1, h2, by omega⟩
theorem Lf.ex {G G' : Gp} {a : Addr} {n : Int} (h : Lf G a n) (e : Ex G G') : Lf G' a n := by
  obtain ⟨o, c, m, e1, h1⟩ := h
  exact ⟨o, c, m, e _ _ e1, h1⟩
theorem Ext.refl {a : Addr} {G : Gp} : Ext a G G := fun _ _ _ e => e
theorem Ext.trans {a : Addr} {G G1 G2 : Gp} (x : Ext a G G1) (y : Ext a G1 G2) : Ext a G G2 := fun b o hb e => y b o hb (x b o hb e)
theorem ext_new {a p : Addr} {G : Gp} {ob : O} (hp : G p = none) : Ext a G (gu G p ob) := fun b o _ e => by
  rw [gu_ne (by rintro rfl; rw [hp] at e; cases e)]; exact e
def sp_law_mix : Sp3 := fun ts G q => ∃ c k, ts = [.int c, .int k] ∧ 0 ≤ k ∧ k < 4294967296 ∧ ∀ m, 0 ≤ m → m < 1999999973 → q (.int m) G
def sp_law_left : Sp3 := fun ts G q => ∃ (a : Addr) (k : Int) (ns : List Int), ts = [.ref a, .int k] ∧ G a = some (.frz (ns.map T.int)) ∧ ns.length ≤ 63 ∧ 0 ≤ k ∧ k ≤ 63 ∧ ∀ p o c, G p = none → 0 ≤ o → q (.ref p) (gu G p (.lst [.int o, .int c, .int 0]))
def sp_law_pick : Sp3 := fun ts G q => ∃ a n many, ts = [.ref a, .int many] ∧ 1 ≤ many ∧ many < 1073741824 ∧ Lf G a n ∧ n < 1073741824 ∧ ∀ d G', 0 ≤ d → d < many → Lf G' a (n + 1) → Ext a G G' → q (.int d) G'
theorem pick_i {a : Addr} {n many : Int} {G : Gp} {q : Q3} (hL : Lf G a n) (h1 : 1 ≤ many) (h2 : many < 1073741824) (hn : n < 1073741824) (h : ∀ d G', 0 ≤ d → d < many → Lf G' a (n + 1) → Ext a G G' → q (.int d) G') : sp_law_pick [.ref a, .int many] G q := ⟨a, n, many, rfl, h1, h2, hL, hn, h⟩
theorem rd_law_mix : ∀ ts G q, sp_law_mix ts G q → ts.length = 2 ∧ t_law_mix (ends q) (start3 ["_law_cell", "_law_k", "_law_m"] ts) G := by
  rintro ts G q ⟨c, k, rfl, h1, h2, h⟩
  refine ⟨rfl, ?_⟩
  simp [t_law_mix, seq3, asg3, gn3, ret3, retN3, ifS3, drop3, nev3, next3, v3, c3, o3, u3, neg3, L3.ixT, L3.ixR, cat3, iI, iC, iB, eqA3, scalT, isN3, tb3, and3, or3, not3, andV3, orV3, notV3, if3, ch3, cb3, cons3, nil3, isi3, tyT, subT, tup3, lst3, tsl3, np3, sp3, gtup3, gcons3, gnil3, gsub3, set3, par3, start3, bm3, app3, ext3, len3, abs3, min3, max3, int3, tuple3, list3, all3, any3, aug3, L2.atI, ixN, cut3, HT.sIx, getL, in3, flatT, eqF, gu, sizeLine_eq, List.getElem?_cons_zero, List.getElem?_cons_succ]
  exact ⟨.inl ⟨by omega, by omega⟩, cm (by omega) (by omega), cm (by omega) (by omega), .inl ⟨by omega, by omega⟩, h _ (Int.emod_nonneg _ (by omega)) (Int.emod_lt_of_pos _ (by omega))⟩
theorem cp : CPow 10 18 := ⟨by decide, by decide, by decide⟩
theorem rd_law_left : ∀ ts G q, sp_law_left ts G q → ts.length = 2 ∧ t_law_left (ends q) (start3 ["_law_script", "_law_k", "_law_cell", "_law_own"] ts) G := by
  rintro ts G q ⟨a, k, ns, rfl, hG, hl, h1, h2, h⟩
  refine ⟨rfl, ?_⟩
  simp [t_law_left, seq3, asg3, gn3, ret3, retN3, ifS3, drop3, nev3, next3, v3, c3, o3, u3, neg3, L3.ixT, L3.ixR, cat3, iI, iC, iB, eqA3, scalT, isN3, tb3, and3, or3, not3, andV3, orV3, notV3, if3, ch3, cb3, cons3, nil3, isi3, tyT, subT, tup3, lst3, tsl3, np3, sp3, gtup3, gcons3, gnil3, gsub3, set3, par3, start3, bm3, app3, ext3, len3, abs3, min3, max3, int3, tuple3, list3, all3, any3, aug3, L2.atI, ixN, cut3, HT.sIx, getL, in3, flatT, eqF, gu, sizeLine_eq, List.getElem?_cons_zero, List.getElem?_cons_succ, hG]
  have ck : CMul 1000003 k := cm (by omega) (by omega)
  by_cases hk : k < ns.length
  · have hk' : k.toNat < ns.length := by omega
    simp [hk, h1, hk', cp, ck]
    split
    · split
      · exact fun p hp => h p (-ns[k.toNat]) _ hp (by omega)
      · exact fun p hp => h p 0 _ hp (by omega)
    · split
      · exact fun p hp => h p ns[k.toNat] _ hp (by omega)
      · exact fun p hp => h p 0 _ hp (by omega)
  · simp [hk, cp, ck]
    exact fun p hp => h p 0 _ hp (by omega)
theorem rd_law_pick : ∀ ts G q, sp_law_pick ts G q → ts.length = 2 ∧ t_law_pick sp_law_mix (ends q) (start3 ["_law_left_here", "_law_many", "_law_digit"] ts) G := by
  rintro ts G q ⟨a, n, many, rfl, m1, m2, ⟨o, c, m, hG, ho, hm, hn⟩, h3, h⟩
  refine ⟨rfl, ?_⟩
  simp [t_law_pick, seq3, asg3, gn3, ret3, retN3, ifS3, drop3, nev3, next3, v3, c3, o3, u3, neg3, L3.ixT, L3.ixR, cat3, iI, iC, iB, eqA3, scalT, isN3, tb3, and3, or3, not3, andV3, orV3, notV3, if3, ch3, cb3, cons3, nil3, isi3, tyT, subT, tup3, lst3, tsl3, np3, sp3, gtup3, gcons3, gnil3, gsub3, set3, par3, start3, bm3, app3, ext3, len3, abs3, min3, max3, int3, tuple3, list3, all3, any3, aug3, L2.atI, ixN, cut3, HT.sIx, getL, in3, flatT, eqF, gu, sizeLine_eq, List.getElem?_cons_zero, List.getElem?_cons_succ, hG]
  split
  · refine ⟨by omega, ⟨by omega, m2⟩, h _ _ (Int.emod_nonneg _ (by omega)) (Int.emod_lt_of_pos _ (by omega)) ⟨o / many, c, m + 1, gu_same, Int.ediv_nonneg ho (by omega), by omega, by omega⟩ fun b ob hb e => ?_⟩
    rw [gu_ne hb, gu_ne hb]; exact e
  · refine ⟨c, m + 1, rfl, by omega, by omega, fun u u1 u2 => ?_⟩
    simp [gu_same]
    refine ⟨u, m + 1 + 64, rfl, by omega, by omega, fun v v1 v2 => ?_⟩
    simp
    refine ⟨⟨by omega, by omega⟩, by omega, h _ _ (Int.emod_nonneg _ (by omega)) (Int.emod_lt_of_pos _ (by omega)) ⟨o, c, m + 1, gu_same, ho, by omega, by omega⟩ fun b ob hb e => ?_⟩
    rw [gu_ne hb]; exact e
theorem cop {b p : Int} (hb : 1 ≤ b) : ∃ k : Nat, (k : Int) < b ∧ Int.gcd b (p + k) = 1 := by
  refine ⟨((1 - p) % b).toNat, ?_, ?_⟩
  · have := Int.emod_nonneg (1 - p) (show b ≠ 0 by omega)
    have := Int.emod_lt_of_pos (1 - p) (show 0 < b by omega)
    omega
  · have h1 := Int.emod_nonneg (1 - p) (show b ≠ 0 by omega)
    have h2 := Int.emod_add_mul_ediv (1 - p) b
    have e : p + (((1 - p) % b).toNat : Int) = 1 + b * (-((1 - p) / b)) := by
      rw [Int.toNat_of_nonneg h1, Int.mul_neg]; omega
    rw [e]; simp
structure Plc (b p0 pl : Int) (i : Nat) : Prop where
  lo : p0 ≤ pl
  hi : pl ≤ p0 + i
  at_ : Int.gcd b pl = 1 ∨ (pl = p0 + i ∧ ∀ k : Nat, k < i → Int.gcd b (p0 + k) ≠ 1)
theorem Plc.done {b p0 pl : Int} {n : Nat} (h : Plc b p0 pl n) (hb : 1 ≤ b) (hn : b ≤ n) : Int.gcd b pl = 1 := by
  rcases h.at_ with h | ⟨_, h⟩
  · exact h
  · obtain ⟨k, h1, h2⟩ := cop (p := p0) hb
    exact absurd h2 (h k (by omega))
theorem Plc.next {b p0 pl : Int} {i : Nat} (h : Plc b p0 pl i) (hb : 1 ≤ b) (hp : 1 ≤ p0) (hg : (1 : Int) < (Int.gcd b pl : Nat)) : Plc b p0 (pl + 1) (i + 1) := by
  rcases h.at_ with z | ⟨z1, z2⟩
  · rw [z] at hg; simp at hg
  · refine ⟨by have := h.lo; omega, by omega, .inr ⟨by omega, fun k hk => ?_⟩⟩
    rcases Nat.lt_or_ge k i with q | q
    · exact z2 k q
    · have : k = i := by omega
      subst this
      rw [← z1]
      omega
theorem Plc.stay {b p0 pl : Int} {i : Nat} (h : Plc b p0 pl i) (hb : 1 ≤ b) (hp : 1 ≤ p0) (hg : ¬ (1 : Int) < (Int.gcd b pl : Nat)) : Plc b p0 pl (i + 1) := by
  have g0 : 0 < Int.gcd b pl := Int.gcd_pos_of_ne_zero_left _ (by omega)
  exact ⟨h.lo, by have := h.hi; omega, .inl (by omega)⟩
end Bk
set_option Elab.async false
set_option linter.all false
set_option maxRecDepth 100000
set_option maxHeartbeats 4000000
namespace Bk
open PySem L2 L3
end Bk
set_option Elab.async false
set_option linter.all false
set_option maxRecDepth 100000
set_option maxHeartbeats 4000000
namespace Bk
open PySem L2 L3
theorem lc_picks {te : TE3} {q : Q3} {a : Addr} {n many : Int} {rest : St3} {items : List T} {x0 : Option T} {G : Gp} (hte : ∀ x0 G3 (Q : T → Gp → Prop), sp_law_pick [.ref a, .int many] G3 Q → te (x0 :: rest) G3 Q) (hL : Lf G a n) (m1 : 1 ≤ many) (m2 : many < 1073741824) (hl : items.length ≤ 1000) (hn : n < 1000000000)
    (h : ∀ (ds : List Int) G' p, ds.length = items.length → (∀ d ∈ ds, 0 ≤ d ∧ d < many) → Lf G' a (n + items.length) → Ext a G G' → G' p = none → q (.ref p) (gu G' p (.lst (ds.map T.int)))) :
    lcGo (fun _ => True) (gn3 0) tt3 te q items [] (x0 :: rest) G := by
  refine lcGo_inv _ (fun i ys τ G' => ∃ (ds : List Int) (x0 : Option T), τ = x0 :: rest ∧ ys = ds.map T.int ∧ ds.length = i ∧ (∀ d ∈ ds, 0 ≤ d ∧ d < many) ∧ Lf G' a (n + i) ∧ Ext a G G') ⟨[], x0, rfl, rfl, rfl, by simp, by simpa using hL, Ext.refl⟩ (fun _ _ _ _ _ _ => True.intro) ?_ ?_
  · rintro i z ys τ G' R hz ⟨ds, x0, rfl, rfl, e, hd, hL', E⟩ hR
    have hi := (List.getElem?_eq_some_iff.mp hz).1
    simp only [gn3, tt3, List.set_cons_zero, if_true]
    refine hte _ _ _ (pick_i hL' m1 m2 (by omega) fun d G2 d1 d2 L2 E2 => ⟨by simp [sizeLine_eq]; omega, hR _ _ _ ⟨ds ++ [d], _, rfl, by simp, by simp [e], fun x hx => ?_, L2.mono (by omega), E.trans E2⟩⟩)
    rcases List.mem_append.mp hx with hx | hx
    · exact hd x hx
    · simp at hx; subst hx; exact ⟨d1, d2⟩
  · rintro ys τ G' ⟨ds, x0, rfl, rfl, e, hd, hL', E⟩ p hp
    exact h ds G' p e hd hL' E hp
end Bk
set_option Elab.async false
set_option linter.all false
set_option maxRecDepth 100000
set_option maxHeartbeats 4000000
namespace Bk
open PySem L2 L3
structure SD (k n : Nat) (d : PyData) : Prop where
  sh : d.showable = true
  nd : d.hasDict = false
  dp : d.depth ≤ k
  lv : d.leavesShort 13 = true
  bk : d.bulk ≤ n
theorem SD.ok {k n : Nat} {d : PyData} (h : SD k n d) (hk : k ≤ 40) (hn : n ≤ 2 ^ 20) : ShOk d := ⟨h.sh, h.nd, Nat.le_trans h.dp hk, h.lv, Nat.le_trans h.bk hn⟩
theorem SD.w {k n : Nat} {d : PyData} (h : SD k n d) (hk : k ≤ 40) (hn : n ≤ 2 ^ 20) : ShW d := (h.ok hk hn).w
theorem SD.mono {k n k' n' : Nat} {d : PyData} (h : SD k n d) (hk : k ≤ k') (hn : n ≤ n') : SD k' n' d := ⟨h.sh, h.nd, Nat.le_trans h.dp hk, h.lv, Nat.le_trans h.bk hn⟩
theorem sd_none (k n : Nat) : SD k n .none := ⟨rfl, rfl, Nat.zero_le _, rfl, Nat.zero_le _⟩
theorem sd_bool (k n : Nat) (b : Bool) : SD k n (.bool b) := ⟨rfl, rfl, Nat.zero_le _, rfl, Nat.zero_le _⟩
theorem sd_int (k n : Nat) {i : Int} (h : -1000000 ≤ i ∧ i ≤ 1000000) : SD k n (.int i) := by
  refine ⟨?_, rfl, Nat.zero_le _, ?_, Nat.zero_le _⟩
  · simp only [PyData.showable]
    have : i.natAbs < 2 ^ 20 := by omega
    have h2 : i.natAbs.log2 < 20 ∨ i.natAbs = 0 := by
      rcases Nat.eq_zero_or_pos i.natAbs with z | z
      · exact .inr z
      · exact .inl ((Nat.log2_lt (by omega)).mpr this)
    rcases h2 with h2 | h2
    · simp; omega
    · simp [h2]
  · have := PyProof.Rows.intsShortAll_ints2 [i] (by intro n hn; simp at hn; subst hn; omega)
    simpa [PyData.intsShortAll, PyData.intsShort, PyData.leavesShort] using this
theorem sd_str (k n : Nat) {x : Str} (h : x.cps.size ≤ n) (hc : (x.cps.toList.all fun c => decide (c < 16 ^ 8)) = true) : SD k n (.str x) := ⟨rfl, rfl, Nat.zero_le _, hc, h⟩
structure SDs (k n : Nat) (ds : List PyData) : Prop where
  sh : PyData.showableAll ds = true
  nd : PyData.hasDictAll ds = false
  dp : PyData.depthAll ds ≤ k
  lv : PyData.leavesShortAll 13 ds = true
  bk : PyData.bulkAll ds ≤ n
theorem sds_nil (k n : Nat) : SDs k n [] := ⟨rfl, rfl, Nat.zero_le _, rfl, Nat.zero_le _⟩
theorem sds_cons {k n m s : Nat} {d : PyData} {ds : List PyData} (h : SD k n d) (t : SDs k m ds) (hs : n + 1 + m ≤ s) : SDs k s (d :: ds) := by
  refine ⟨?_, ?_, ?_, ?_, ?_⟩
  · simp [PyData.showableAll, h.sh, t.sh]
  · simp [PyData.hasDictAll, h.nd, t.nd]
  · simp only [PyData.depthAll]; exact Nat.max_le.mpr ⟨h.dp, t.dp⟩
  · simp [PyData.leavesShortAll, h.lv, t.lv]
  · simp only [PyData.bulkAll]; have := h.bk; have := t.bk; omega
theorem sd_tuple {k n : Nat} {ds : List PyData} (t : SDs k n ds) : SD (k + 1) n (.tuple ds) := by
  refine ⟨?_, ?_, ?_, ?_, ?_⟩
  · simpa [PyData.showable] using t.sh
  · simpa [PyData.hasDict] using t.nd
  · simp only [PyData.depth]; have := t.dp; omega
  · simpa [PyData.leavesShort] using t.lv
  · simp only [PyData.bulk]; exact t.bk
theorem sd_list {k n : Nat} {ds : List PyData} (t : SDs k n ds) : SD (k + 1) n (.list ds) := by
  refine ⟨?_, ?_, ?_, ?_, ?_⟩
  · simpa [PyData.showable] using t.sh
  · simpa [PyData.hasDict] using t.nd
  · simp only [PyData.depth]; have := t.dp; omega
  · simpa [PyData.leavesShort] using t.lv
  · simp only [PyData.bulk]; exact t.bk
theorem sds_all {k n : Nat} : ∀ {ds : List PyData}, (∀ d ∈ ds, SD k n d) → SDs k (ds.length * (n + 1)) ds
  | [], _ => sds_nil _ _
  | d :: ds, h => sds_cons (h d (by simp)) (sds_all fun x hx => h x (by simp [hx])) (by rw [List.length_cons, Nat.succ_mul]; omega)
theorem SDs.mem {k n : Nat} : ∀ {ds : List PyData}, SDs k n ds → ∀ d ∈ ds, SD k n d
  | [], _, _, h => by cases h
  | e :: ds, t, d, h => by
    obtain ⟨a1, a2, a3, a4, a5⟩ := t
    simp only [PyData.showableAll, PyData.hasDictAll, PyData.depthAll, PyData.leavesShortAll, PyData.bulkAll, Bool.and_eq_true, Bool.or_eq_false_iff] at a1 a2 a3 a4 a5
    rcases List.mem_cons.mp h with rfl | h
    · exact ⟨a1.1, a2.1, by omega, a4.1, by omega⟩
    · exact SDs.mem (ds := ds) ⟨a1.2, a2.2, by omega, a4.2, by omega⟩ d h
theorem sds_ints {k : Nat} {ns : List Int} (h : ∀ n ∈ ns, -1000000 ≤ n ∧ n ≤ 1000000) : SDs k ns.length (ns.map PyData.int) := by
  have := sds_all (k := k) (n := 0) (ds := ns.map PyData.int) (by intro d hd; obtain ⟨i, hi, rfl⟩ := List.mem_map.mp hd; exact sd_int _ _ (h i hi))
  simpa using this
theorem SDs.append {k n m : Nat} : ∀ {ds es : List PyData}, SDs k n ds → SDs k m es → SDs k (n + m) (ds ++ es)
  | [], es, _, b => ⟨b.sh, b.nd, b.dp, b.lv, Nat.le_trans b.bk (Nat.le_add_left _ _)⟩
  | d :: ds, es, a, b => by
    obtain ⟨a1, a2, a3, a4, a5⟩ := a
    simp only [PyData.showableAll, PyData.hasDictAll, PyData.depthAll, PyData.leavesShortAll, PyData.bulkAll, Bool.and_eq_true, Bool.or_eq_false_iff] at a1 a2 a3 a4 a5
    have ih := SDs.append (ds := ds) (n := PyData.bulkAll ds) ⟨a1.2, a2.2, by omega, a4.2, Nat.le_refl _⟩ b
    rw [List.cons_append]
    exact sds_cons (n := d.bulk) ⟨a1.1, a2.1, by omega, a4.1, Nat.le_refl _⟩ ih (by omega)
theorem SDs.take {k n : Nat} : ∀ {ds : List PyData} (i : Nat), SDs k n ds → SDs k n (ds.take i)
  | [], _, t => by simpa using t
  | _ :: _, 0, _ => sds_nil _ _
  | d :: ds, i + 1, t => by
    obtain ⟨a1, a2, a3, a4, a5⟩ := t
    simp only [PyData.showableAll, PyData.hasDictAll, PyData.depthAll, PyData.leavesShortAll, PyData.bulkAll, Bool.and_eq_true, Bool.or_eq_false_iff] at a1 a2 a3 a4 a5
    have ih := SDs.take (k := k) (ds := ds) i (n := PyData.bulkAll ds) ⟨a1.2, a2.2, by omega, a4.2, Nat.le_refl _⟩
    exact sds_cons (n := d.bulk) ⟨a1.1, a2.1, by omega, a4.1, Nat.le_refl _⟩ ih (by omega)
theorem SDs.drop {k n : Nat} : ∀ {ds : List PyData} (i : Nat), SDs k n ds → SDs k n (ds.drop i)
  | [], _, t => by simpa using t
  | _ :: _, 0, t => t
  | d :: ds, i + 1, t => by
    obtain ⟨a1, a2, a3, a4, a5⟩ := t
    simp only [PyData.showableAll, PyData.hasDictAll, PyData.depthAll, PyData.leavesShortAll, PyData.bulkAll, Bool.and_eq_true, Bool.or_eq_false_iff] at a1 a2 a3 a4 a5
    exact SDs.drop (ds := ds) i ⟨a1.2, a2.2, by omega, a4.2, by omega⟩
def DS (G : Gp) (k n : Nat) (t : T) : Prop := ∃ d, Dp G t d ∧ SD k n d
def DSs (G : Gp) (k n : Nat) (ts : List T) : Prop := ∃ ds, Dps G ts ds ∧ SDs k n ds
theorem DS.up {G G' : Gp} {k n : Nat} {t : T} (h : DS G k n t) (e : Ex G G') : DS G' k n t := let ⟨d, a, b⟩ := h; ⟨d, a.up e, b⟩
theorem DSs.up {G G' : Gp} {k n : Nat} {t : List T} (h : DSs G k n t) (e : Ex G G') : DSs G' k n t := let ⟨d, a, b⟩ := h; ⟨d, a.up e, b⟩
theorem DS.mono {G : Gp} {k n k' n' : Nat} {t : T} (h : DS G k n t) (hk : k ≤ k') (hn : n ≤ n') : DS G k' n' t := let ⟨d, a, b⟩ := h; ⟨d, a, b.mono hk hn⟩
theorem SDs.mono {k n k' n' : Nat} {ds : List PyData} (h : SDs k n ds) (hk : k ≤ k') (hn : n ≤ n') : SDs k' n' ds := ⟨h.sh, h.nd, Nat.le_trans h.dp hk, h.lv, Nat.le_trans h.bk hn⟩
theorem DSs.mono {G : Gp} {k n k' n' : Nat} {ts : List T} (h : DSs G k n ts) (hk : k ≤ k') (hn : n ≤ n') : DSs G k' n' ts := let ⟨d, a, b⟩ := h; ⟨d, a, b.mono hk hn⟩
theorem _root_.L3.Dps.append {G : Gp} : ∀ {xs ys : List T} {ds es : List PyData}, Dps G xs ds → Dps G ys es → Dps G (xs ++ ys) (ds ++ es)
  | _, _, _, _, .nil, b => b
  | _, _, _, _, .cons a t, b => .cons a (L3.Dps.append t b)
theorem _root_.L3.Dps.take {G : Gp} : ∀ {xs : List T} {ds : List PyData} (i : Nat), Dps G xs ds → Dps G (xs.take i) (ds.take i)
  | _, _, 0, _ => .nil
  | _, _, _ + 1, .nil => .nil
  | _, _, i + 1, .cons a t => .cons a (L3.Dps.take i t)
theorem _root_.L3.Dps.drop {G : Gp} : ∀ {xs : List T} {ds : List PyData} (i : Nat), Dps G xs ds → Dps G (xs.drop i) (ds.drop i)
  | _, _, 0, h => h
  | _, _, _ + 1, .nil => .nil
  | _, _, i + 1, .cons a t => L3.Dps.drop i t
theorem DSs.append {G : Gp} {k n m : Nat} {xs ys : List T} (a : DSs G k n xs) (b : DSs G k m ys) : DSs G k (n + m) (xs ++ ys) := let ⟨d, a1, a2⟩ := a; let ⟨e, b1, b2⟩ := b; ⟨d ++ e, a1.append b1, a2.append b2⟩
theorem DSs.take {G : Gp} {k n : Nat} {xs : List T} (i : Nat) (a : DSs G k n xs) : DSs G k n (xs.take i) := let ⟨d, a1, a2⟩ := a; ⟨d.take i, a1.take i, a2.take i⟩
theorem DSs.drop {G : Gp} {k n : Nat} {xs : List T} (i : Nat) (a : DSs G k n xs) : DSs G k n (xs.drop i) := let ⟨d, a1, a2⟩ := a; ⟨d.drop i, a1.drop i, a2.drop i⟩
theorem dss_nil (G : Gp) (k n : Nat) : DSs G k n [] := ⟨[], .nil, sds_nil _ _⟩
theorem dss_cons {G : Gp} {k n m s : Nat} {t : T} {ts : List T} (h : DS G k n t) (r : DSs G k m ts) (hs : n + 1 + m ≤ s) : DSs G k s (t :: ts) := let ⟨d, a1, a2⟩ := h; let ⟨e, b1, b2⟩ := r; ⟨d :: e, .cons a1 b1, sds_cons a2 b2 hs⟩
theorem ds_tup {G : Gp} {k n : Nat} {ts : List T} (h : DSs G k n ts) : DS G (k + 1) n (.tup ts) := let ⟨d, a1, a2⟩ := h; ⟨_, .tup a1, sd_tuple a2⟩
theorem ds_lst {G : Gp} {k n : Nat} {p : Addr} {ts : List T} (g : getL G p = some ts) (h : DSs G k n ts) : DS G (k + 1) n (.ref p) := let ⟨d, a1, a2⟩ := h; ⟨_, .lst g a1, sd_list a2⟩
theorem ds_int (G : Gp) (k n : Nat) {i : Int} (h : -1000000 ≤ i ∧ i ≤ 1000000) : DS G k n (.int i) := ⟨_, .int i, sd_int _ _ h⟩
theorem ds_bl (G : Gp) (k n : Nat) (b : Bool) : DS G k n (.bl b) := ⟨_, .bl b, sd_bool _ _ b⟩
theorem ds_non (G : Gp) (k n : Nat) : DS G k n .non := ⟨_, .non, sd_none _ _⟩
theorem ds_str (G : Gp) (k n : Nat) {x : Str} (h : x.cps.size ≤ n) (hc : (x.cps.toList.all fun c => decide (c < 16 ^ 8)) = true) : DS G k n (.str x) := ⟨_, .str x, sd_str _ _ h hc⟩
theorem dss_ints (G : Gp) (k : Nat) {ns : List Int} (h : ∀ n ∈ ns, -1000000 ≤ n ∧ n ≤ 1000000) : DSs G k ns.length (ns.map T.int) := ⟨_, Dps.ints ns, sds_ints h⟩
theorem ds_items {G : Gp} {k n : Nat} {ts : List T} (h : DS G k n (.tup ts)) : ∃ j, k = j + 1 ∧ DSs G j n ts := by
  obtain ⟨d, hd, s⟩ := h
  cases hd with
  | tup hs =>
    obtain ⟨a1, a2, a3, a4, a5⟩ := s
    simp only [PyData.depth] at a3
    obtain ⟨j, rfl⟩ : ∃ j, k = j + 1 := ⟨k - 1, by omega⟩
    exact ⟨j, rfl, _, hs, ⟨by simpa [PyData.showable] using a1, by simpa [PyData.hasDict] using a2, by omega, by simpa [PyData.leavesShort] using a4, by simpa [PyData.bulk] using a5⟩⟩
theorem DSs.get {G : Gp} {k n : Nat} {ts : List T} (h : DSs G k n ts) {i : Nat} {t : T} (e : ts[i]? = some t) : DS G k n t := by
  obtain ⟨ds, a, b⟩ := h
  obtain ⟨d, hd, hp⟩ := a.get e
  exact ⟨d, hp, b.mem d (List.mem_of_getElem? hd)⟩
theorem sh_text {st : Bool} {G : Gp} {k n : Nat} {t : T} (h : DS G k n t) (hk : k ≤ 40) (hn : n ≤ 2 ^ 20) : ∃ x : Str, ∀ G', Ex G G' → ∀ q : Str → Prop, q x → shT st t G' q := by
  obtain ⟨d, hd, s⟩ := h
  cases hd with
  | non => exact ⟨_, fun G' _ q h => h⟩
  | bl b => exact ⟨_, fun G' _ q h => h⟩
  | int i => exact ⟨_, fun G' _ q h => ⟨by simpa [PyData.showable] using s.sh, h⟩⟩
  | str x =>
    cases st with
    | true => exact ⟨_, fun G' _ q h => h⟩
    | false => exact ⟨reprText x, fun G' _ q h => ⟨(s.w hk hn).fit, h⟩⟩
  | tup hs => exact ⟨_, fun G' e q h => ⟨_, .tup (hs.up e), s.w hk hn, h⟩⟩
  | lst g hs => exact ⟨_, fun G' e q h => ⟨_, .lst (e.getL g) (hs.up e), s.w hk hn, h⟩⟩
end Bk
set_option Elab.async false
set_option linter.all false
set_option maxRecDepth 100000
set_option maxHeartbeats 4000000
namespace K55
open PySem L2 L3 Bk
def top (i : Nat) : Stmt := PySem.Challenge.pw_bankwalk_k55_what_nets_are.main.body.getD i (.Pass ⟨0, 0, 0, 0⟩)
abbrev st_is_number : Stmt := top 1
theorem sc_is_number : FnScope ["thing"] ["thing"] (defScope st_is_number) := ⟨rfl, rfl, rfl, by decide +kernel, rfl, by decide +kernel, by decide +kernel⟩
theorem ok_is_number {P : Program} {w : World} {K : PySem.W.Frag} {mg : Str → Option Value} {base : Heap} {f : Addr} {fd : FuncData} {k : Nat} {sp : Sp3} (F : Fun K "is_number" "is_number" st_is_number f fd) (bd : Binds K fd ["thing"] []) (hm : mg "is_number" = some (.ref f))  (m_isinstance : mg "isinstance" = none) (m_bool : mg "bool" = none) (m_int : mg "int" = none)
    (read : ∀ ts G q, sp ts G q → ts.length = 1 ∧ (Bk.t_is_number) { nx := fun _ G' => q .non G', rt := q } (start3 ["thing"] ts) G) : Fn3 P w K mg base (k + 1) "is_number" sp :=
  jfn3_of (t3 := (Bk.t_is_number)) F sc_is_number bd hm (fun cdv A outer s H E hr => (jb_one (js_ret (je_and (je_isi (je_var 0) rfl m_isinstance rfl m_int PyProof.Rows.boot_int) (je_one (je_not (je_isi (je_var 0) rfl m_isinstance rfl m_bool PyProof.Rows.boot_bool))))))) read
abbrev st_is_number_below : Stmt := top 2
theorem sc_is_number_below : FnScope ["thing", "end"] ["thing", "end"] (defScope st_is_number_below) := ⟨rfl, rfl, rfl, by decide +kernel, rfl, by decide +kernel, by decide +kernel⟩
def t_is_number_below (S_is_number : Sp3) : TS3 := (ret3 (andV3 (cb3 S_is_number (cons3 (v3 0) nil3)) (ch3 (iB fun i j => decide (i ≤ j)) (iB fun i j => decide (i < j)) (c3 (.int 0)) (v3 0) (v3 1))))
theorem ok_is_number_below {P : Program} {w : World} {K : PySem.W.Frag} {mg : Str → Option Value} {base : Heap} {f : Addr} {fd : FuncData} {k : Nat} {sp : Sp3} {S_is_number : Sp3} (F : Fun K "is_number_below" "is_number_below" st_is_number_below f fd) (bd : Binds K fd ["thing", "end"] []) (hm : mg "is_number_below" = some (.ref f)) (F_is_number : Fn3 P w K mg base k "is_number" S_is_number) 
    (read : ∀ ts G q, sp ts G q → ts.length = 2 ∧ (t_is_number_below S_is_number) { nx := fun _ G' => q .non G', rt := q } (start3 ["thing", "end"] ts) G) : Fn3 P w K mg base (k + 1) "is_number_below" sp :=
  jfn3_of (t3 := (t_is_number_below S_is_number)) F sc_is_number_below bd hm (fun cdv A outer s H E hr => (jb_one (js_ret (je_and (je_call F_is_number hr rfl (ja_cons (je_var 0) ja_nil)) (je_one (je_chain op_le ref_iB op_lt ref_iB je_int (je_var 0) (je_var 1))))))) read
abbrev st_are_switches : Stmt := top 4
theorem sc_are_switches : FnScope ["thing", "many"] ["thing", "many"] (defScope st_are_switches) := ⟨rfl, rfl, rfl, by decide +kernel, rfl, by decide +kernel, by decide +kernel⟩
def t_are_switches (S_is_number_below : Sp3) : TS3 := (ret3 (andV3 (isi3 (fun t => subT t "tuple") (v3 0)) (andV3 (o3 (eqA3 false) (cb3 len3 (cons3 (v3 0) nil3)) (v3 1)) (cb3 all3 (cons3 (lc3 (iseq3 (v3 0)) (gn3 0) tt3 (cb3 S_is_number_below (cons3 (v3 0) (cons3 (c3 (.int 2)) nil3))) [none]) nil3)))))
theorem ok_are_switches {P : Program} {w : World} {K : PySem.W.Frag} {mg : Str → Option Value} {base : Heap} {f : Addr} {fd : FuncData} {k : Nat} {sp : Sp3} {S_is_number_below : Sp3} (F : Fun K "are_switches" "are_switches" st_are_switches f fd) (bd : Binds K fd ["thing", "many"] []) (hm : mg "are_switches" = some (.ref f)) (F_is_number_below : Fn3 P w K mg base k "is_number_below" S_is_number_below) (m_all : mg "all" = none) (m_len : mg "len" = none) (m_isinstance : mg "isinstance" = none) (m_tuple : mg "tuple" = none)
    (read : ∀ ts G q, sp ts G q → ts.length = 2 ∧ (t_are_switches S_is_number_below) { nx := fun _ G' => q .non G', rt := q } (start3 ["thing", "many"] ts) G) : Fn3 P w K mg base (k + 1) "are_switches" sp :=
  jfn3_of (t3 := (t_are_switches S_is_number_below)) F sc_are_switches bd hm (fun cdv A outer s H E hr => (jb_one (js_ret (je_and (je_isi (je_var 0) rfl m_isinstance rfl m_tuple PyProof.Rows.boot_tuple) (je_and (je_cmp (op_eqA hr.units) ref_eqA (je_callB call_len ref_len rfl m_len PySem.boot_len (ja_cons (je_var 0) ja_nil)) (je_var 1) (nomark _)) (je_one (je_callB (call_all_bools rfl) ref_all rfl m_all PyProof.Rows.boot_all (ja_cons (je_lc ["switch"] [none] rfl (ji_seq (je_var 0)) (fun _ _ _ => (jg_name (i := 0) (show (["switch"] : List Str).Nodup by decide +kernel))) (fun _ _ _ => jf_nil) (fun _ _ _ => (je_call F_is_number_below hr rfl (ja_cons (je_var 0) (ja_cons je_int ja_nil)))) (show scOk (defScope st_are_switches) _ = true by decide +kernel) (show capOk ["thing", "many"] ["switch"] _ [none] = true by decide +kernel)) ja_nil)))))))) read
abbrev st_is_net : Stmt := top 5
theorem sc_is_net : FnScope ["thing", "lanes", "first", "upper", "lower", "last", "half"] ["thing", "lanes"] (defScope st_is_net) := ⟨rfl, rfl, rfl, by decide +kernel, rfl, by decide +kernel, by decide +kernel⟩
def t_is_net (S_is_number_below : Sp3) (S_are_switches : Sp3) (S_is_net : Sp3) : TS3 := (seq3 (ifS3 (tb3 (o3 (eqA3 false) (v3 1) (c3 (.int 2)))) (ret3 (cb3 S_is_number_below (cons3 (v3 0) (cons3 (c3 (.int 2)) nil3)))) next3) (seq3 (ifS3 (or3 (not3 (tb3 (isi3 (fun t => subT t "tuple") (v3 0)))) (tb3 (o3 (eqA3 true) (cb3 len3 (cons3 (v3 0) nil3)) (c3 (.int 4))))) (ret3 (c3 (.bl false))) next3) (seq3 (asg3 (v3 0) (gtup3 4 (gcons3 (gn3 2) (gcons3 (gn3 3) (gcons3 (gn3 4) (gcons3 (gn3 5) gnil3)))))) (seq3 (asg3 (o3 (iC CDiv (· / ·)) (v3 1) (c3 (.int 2))) (gn3 6)) (seq3 (ifS3 (or3 (not3 (tb3 (cb3 S_are_switches (cons3 (v3 2) (cons3 (v3 6) nil3))))) (not3 (tb3 (cb3 S_are_switches (cons3 (v3 5) (cons3 (v3 6) nil3)))))) (ret3 (c3 (.bl false))) next3) (ret3 (andV3 (cb3 S_is_net (cons3 (v3 3) (cons3 (v3 6) nil3))) (cb3 S_is_net (cons3 (v3 4) (cons3 (v3 6) nil3))))))))))
theorem ok_is_net {P : Program} {w : World} {K : PySem.W.Frag} {mg : Str → Option Value} {base : Heap} {f : Addr} {fd : FuncData} {k : Nat} {sp : Sp3} {S_is_number_below : Sp3} {S_are_switches : Sp3} {S_is_net : Sp3} (F : Fun K "is_net" "is_net" st_is_net f fd) (bd : Binds K fd ["thing", "lanes"] []) (hm : mg "is_net" = some (.ref f)) (F_is_number_below : Fn3 P w K mg base k "is_number_below" S_is_number_below) (F_are_switches : Fn3 P w K mg base k "are_switches" S_are_switches) (F_is_net : Fn3 P w K mg base k "is_net" S_is_net) (m_len : mg "len" = none) (m_isinstance : mg "isinstance" = none) (m_tuple : mg "tuple" = none)
    (read : ∀ ts G q, sp ts G q → ts.length = 2 ∧ (t_is_net S_is_number_below S_are_switches S_is_net) { nx := fun _ G' => q .non G', rt := q } (start3 ["thing", "lanes", "first", "upper", "lower", "last", "half"] ts) G) : Fn3 P w K mg base (k + 1) "is_net" sp :=
  jfn3_of (t3 := (t_is_net S_is_number_below S_are_switches S_is_net)) F sc_is_net bd hm (fun cdv A outer s H E hr => (jb_cons (js_if (jt_cmp (op_eqA hr.units) ref_eqA (je_var 1) je_int (nomark _)) (jb_one (js_ret (je_call F_is_number_below hr rfl (ja_cons (je_var 0) (ja_cons je_int ja_nil))))) jb_nil) (jb_cons (js_if (jpt (jt_or (jt_not (jt_val (je_isi (je_var 0) rfl m_isinstance rfl m_tuple PyProof.Rows.boot_tuple))) (jt_or1 (jt_cmp (op_neA hr.units) ref_neA (je_callB call_len ref_len rfl m_len PySem.boot_len (ja_cons (je_var 0) ja_nil)) je_int (nomark _))))) (jb_one (js_ret je_bl)) jb_nil) (jb_cons (js_asg (je_var 0) (jg_tup rfl (jg_cons (jg_name (i := 2) (sc_is_net.nd)) (jg_cons (jg_name (i := 3) (sc_is_net.nd)) (jg_cons (jg_name (i := 4) (sc_is_net.nd)) (jg_cons (jg_name (i := 5) (sc_is_net.nd)) jg_nil)))))) (jb_cons (js_set 6 sc_is_net.nd (je_div (je_var 1) je_int)) (jb_cons (js_if (jpt (jt_or (jt_not (jt_val (je_call F_are_switches hr rfl (ja_cons (je_var 2) (ja_cons (je_var 6) ja_nil))))) (jt_or1 (jt_not (jt_val (je_call F_are_switches hr rfl (ja_cons (je_var 5) (ja_cons (je_var 6) ja_nil)))))))) (jb_one (js_ret je_bl)) jb_nil) (jb_one (js_ret (je_and (je_call F_is_net hr rfl (ja_cons (je_var 3) (ja_cons (je_var 6) ja_nil))) (je_one (je_call F_is_net hr rfl (ja_cons (je_var 4) (ja_cons (je_var 6) ja_nil))))))))))))) read
abbrev st_law_mix : Stmt := top 7
theorem sc_law_mix : FnScope ["_law_cell", "_law_k", "_law_m"] ["_law_cell", "_law_k"] (defScope st_law_mix) := ⟨rfl, rfl, rfl, by decide +kernel, rfl, by decide +kernel, by decide +kernel⟩
theorem ok_law_mix {P : Program} {w : World} {K : PySem.W.Frag} {mg : Str → Option Value} {base : Heap} {f : Addr} {fd : FuncData} {k : Nat} {sp : Sp3} (F : Fun K "_law_mix" "_law_mix" st_law_mix f fd) (bd : Binds K fd ["_law_cell", "_law_k"] []) (hm : mg "_law_mix" = some (.ref f))  
    (read : ∀ ts G q, sp ts G q → ts.length = 2 ∧ (Bk.t_law_mix) { nx := fun _ G' => q .non G', rt := q } (start3 ["_law_cell", "_law_k", "_law_m"] ts) G) : Fn3 P w K mg base (k + 1) "_law_mix" sp :=
  jfn3_of (t3 := (Bk.t_law_mix)) F sc_law_mix bd hm (fun cdv A outer s H E hr => (jb_cons (js_set 2 sc_law_mix.nd (je_mod (je_mul (je_plus (je_plus (je_mod (je_var 0) je_int) (je_mul (je_mul (je_var 1) (je_var 1)) je_int)) je_int) je_int) je_int)) (jb_one (js_ret (je_mod (je_mul (je_var 2) (je_var 2)) je_int))))) read
abbrev st_law_left : Stmt := top 8
theorem sc_law_left : FnScope ["_law_script", "_law_k", "_law_cell", "_law_own"] ["_law_script", "_law_k"] (defScope st_law_left) := ⟨rfl, rfl, rfl, by decide +kernel, rfl, by decide +kernel, by decide +kernel⟩
theorem ok_law_left {P : Program} {w : World} {K : PySem.W.Frag} {mg : Str → Option Value} {base : Heap} {f : Addr} {fd : FuncData} {k : Nat} {sp : Sp3} (F : Fun K "_law_left" "_law_left" st_law_left f fd) (bd : Binds K fd ["_law_script", "_law_k"] []) (hm : mg "_law_left" = some (.ref f))  (m_len : mg "len" = none) (m_abs : mg "abs" = none)
    (read : ∀ ts G q, sp ts G q → ts.length = 2 ∧ (Bk.t_law_left) { nx := fun _ G' => q .non G', rt := q } (start3 ["_law_script", "_law_k", "_law_cell", "_law_own"] ts) G) : Fn3 P w K mg base (k + 1) "_law_left" sp :=
  jfn3_of (t3 := (Bk.t_law_left)) F sc_law_left bd hm (fun cdv A outer s H E hr => (jb_cons (js_set 2 sc_law_left.nd (je_if (jt_cmp op_lt ref_iB (je_var 1) (je_callB call_len ref_len rfl m_len PySem.boot_len (ja_cons (je_var 0) ja_nil)) (nomark _)) (je_ix (je_var 0) (je_var 1)) je_int)) (jb_cons (js_set 3 sc_law_left.nd (je_if (jt_cmp op_ge ref_iB (je_callB call_abs ref_abs rfl m_abs PyProof.Rows.boot_abs (ja_cons (je_var 2) ja_nil)) (je_pow je_int je_int) (nomark _)) (je_callB call_abs ref_abs rfl m_abs PyProof.Rows.boot_abs (ja_cons (je_var 2) ja_nil)) je_int)) (jb_one (js_ret (je_lst (ja_cons (je_var 3) (ja_cons (je_plus (je_var 2) (je_mul je_int (je_var 1))) (ja_cons je_int ja_nil))))))))) read
abbrev st_law_pick : Stmt := top 9
theorem sc_law_pick : FnScope ["_law_left_here", "_law_many", "_law_digit"] ["_law_left_here", "_law_many"] (defScope st_law_pick) := ⟨rfl, rfl, rfl, by decide +kernel, rfl, by decide +kernel, by decide +kernel⟩
theorem ok_law_pick {P : Program} {w : World} {K : PySem.W.Frag} {mg : Str → Option Value} {base : Heap} {f : Addr} {fd : FuncData} {k : Nat} {sp : Sp3} {S_law_mix : Sp3} (F : Fun K "_law_pick" "_law_pick" st_law_pick f fd) (bd : Binds K fd ["_law_left_here", "_law_many"] []) (hm : mg "_law_pick" = some (.ref f)) (F_law_mix : Fn3 P w K mg base k "_law_mix" S_law_mix) 
    (read : ∀ ts G q, sp ts G q → ts.length = 2 ∧ (Bk.t_law_pick S_law_mix) { nx := fun _ G' => q .non G', rt := q } (start3 ["_law_left_here", "_law_many", "_law_digit"] ts) G) : Fn3 P w K mg base (k + 1) "_law_pick" sp :=
  jfn3_of (t3 := (Bk.t_law_pick S_law_mix)) F sc_law_pick bd hm (fun cdv A outer s H E hr => (jb_cons (js_asg (je_plus (je_ix (je_var 0) je_int) je_int) (jg_sub (je_var 0) je_int)) (jb_cons (js_if (jt_cmp op_gt ref_iB (je_ix (je_var 0) je_int) je_int (nomark _)) (jb_cons (js_set 2 sc_law_pick.nd (je_mod (je_ix (je_var 0) je_int) (je_var 1))) (jb_cons (js_asg (je_div (je_ix (je_var 0) je_int) (je_var 1)) (jg_sub (je_var 0) je_int)) (jb_one (js_ret (je_var 2))))) jb_nil) (jb_one (js_ret (je_mod (je_div (je_call F_law_mix hr rfl (ja_cons (je_call F_law_mix hr rfl (ja_cons (je_ix (je_var 0) je_int) (ja_cons (je_ix (je_var 0) je_int) ja_nil))) (ja_cons (je_plus (je_ix (je_var 0) je_int) je_int) ja_nil))) je_int) (je_var 1))))))) read
abbrev st_law_net : Stmt := top 10
theorem sc_law_net : FnScope ["_law_left_here", "_law_lanes", "_law_first", "_law_upper", "_law_lower"] ["_law_left_here", "_law_lanes"] (defScope st_law_net) := ⟨rfl, rfl, rfl, by decide +kernel, rfl, by decide +kernel, by decide +kernel⟩
def t_law_net (S_law_pick : Sp3) (S_law_net : Sp3) : TS3 := (seq3 (ifS3 (tb3 (o3 (eqA3 false) (v3 1) (c3 (.int 2)))) (ret3 (cb3 S_law_pick (cons3 (v3 0) (cons3 (c3 (.int 2)) nil3)))) next3) (seq3 (asg3 (cb3 tuple3 (cons3 (lc3 (irng3 (cons3 (o3 (iC CDiv (· / ·)) (v3 1) (c3 (.int 2))) nil3)) (gn3 0) tt3 (cb3 S_law_pick (cons3 (v3 1) (cons3 (c3 (.int 2)) nil3))) [none, some 0]) nil3)) (gn3 2)) (seq3 (asg3 (cb3 S_law_net (cons3 (v3 0) (cons3 (o3 (iC CDiv (· / ·)) (v3 1) (c3 (.int 2))) nil3))) (gn3 3)) (seq3 (asg3 (cb3 S_law_net (cons3 (v3 0) (cons3 (o3 (iC CDiv (· / ·)) (v3 1) (c3 (.int 2))) nil3))) (gn3 4)) (ret3 (tup3 (cons3 (v3 2) (cons3 (v3 3) (cons3 (v3 4) (cons3 (cb3 tuple3 (cons3 (lc3 (irng3 (cons3 (o3 (iC CDiv (· / ·)) (v3 1) (c3 (.int 2))) nil3)) (gn3 0) tt3 (cb3 S_law_pick (cons3 (v3 1) (cons3 (c3 (.int 2)) nil3))) [none, some 0]) nil3)) nil3))))))))))
theorem ok_law_net {P : Program} {w : World} {K : PySem.W.Frag} {mg : Str → Option Value} {base : Heap} {f : Addr} {fd : FuncData} {k : Nat} {sp : Sp3} {S_law_pick : Sp3} {S_law_net : Sp3} (F : Fun K "_law_net" "_law_net" st_law_net f fd) (bd : Binds K fd ["_law_left_here", "_law_lanes"] []) (hm : mg "_law_net" = some (.ref f)) (F_law_pick : Fn3 P w K mg base k "_law_pick" S_law_pick) (F_law_net : Fn3 P w K mg base k "_law_net" S_law_net) (m_range : mg "range" = none) (m_tuple : mg "tuple" = none)
    (read : ∀ ts G q, sp ts G q → ts.length = 2 ∧ (t_law_net S_law_pick S_law_net) { nx := fun _ G' => q .non G', rt := q } (start3 ["_law_left_here", "_law_lanes", "_law_first", "_law_upper", "_law_lower"] ts) G) : Fn3 P w K mg base (k + 1) "_law_net" sp :=
  jfn3_of (t3 := (t_law_net S_law_pick S_law_net)) F sc_law_net bd hm (fun cdv A outer s H E hr => (jb_cons (js_if (jt_cmp (op_eqA hr.units) ref_eqA (je_var 1) je_int (nomark _)) (jb_one (js_ret (je_call F_law_pick hr rfl (ja_cons (je_var 0) (ja_cons je_int ja_nil))))) jb_nil) (jb_cons (js_set 2 sc_law_net.nd (je_callTy call_tuple_of ref_tuple rfl m_tuple PyProof.Rows.boot_tuple (ja_cons (je_lc ["_law_t", "_law_left_here"] [none, some 0] rfl (ji_range1 rfl m_range (ja_cons (je_div (je_var 1) je_int) ja_nil) (h1 := by intro _ _ _ h; simpa [cons3, nil3] using h)) (fun _ _ _ => (jg_name (i := 0) (show (["_law_t", "_law_left_here"] : List Str).Nodup by decide +kernel))) (fun _ _ _ => jf_nil) (fun _ _ _ => (je_call F_law_pick hr rfl (ja_cons (je_var 1) (ja_cons je_int ja_nil)))) (show scOk (defScope st_law_net) _ = true by decide +kernel) (show capOk ["_law_left_here", "_law_lanes", "_law_first", "_law_upper", "_law_lower"] ["_law_t", "_law_left_here"] _ [none, some 0] = true by decide +kernel)) ja_nil))) (jb_cons (js_set 3 sc_law_net.nd (je_call F_law_net hr rfl (ja_cons (je_var 0) (ja_cons (je_div (je_var 1) je_int) ja_nil)))) (jb_cons (js_set 4 sc_law_net.nd (je_call F_law_net hr rfl (ja_cons (je_var 0) (ja_cons (je_div (je_var 1) je_int) ja_nil)))) (jb_one (js_ret (je_tup (ja_cons (je_var 2) (ja_cons (je_var 3) (ja_cons (je_var 4) (ja_cons (je_callTy call_tuple_of ref_tuple rfl m_tuple PyProof.Rows.boot_tuple (ja_cons (je_lc ["_law_t", "_law_left_here"] [none, some 0] rfl (ji_range1 rfl m_range (ja_cons (je_div (je_var 1) je_int) ja_nil) (h1 := by intro _ _ _ h; simpa [cons3, nil3] using h)) (fun _ _ _ => (jg_name (i := 0) (show (["_law_t", "_law_left_here"] : List Str).Nodup by decide +kernel))) (fun _ _ _ => jf_nil) (fun _ _ _ => (je_call F_law_pick hr rfl (ja_cons (je_var 1) (ja_cons je_int ja_nil)))) (show scOk (defScope st_law_net) _ = true by decide +kernel) (show capOk ["_law_left_here", "_law_lanes", "_law_first", "_law_upper", "_law_lower"] ["_law_t", "_law_left_here"] _ [none, some 0] = true by decide +kernel)) ja_nil)) ja_nil)))))))))))) read
abbrev st_law_is_net : Stmt := top 11
theorem sc_law_is_net : FnScope ["_law_thing", "_law_lanes", "_law_some"] ["_law_thing", "_law_lanes"] (defScope st_law_is_net) := ⟨rfl, rfl, rfl, by decide +kernel, rfl, by decide +kernel, by decide +kernel⟩
def t_law_is_net (S_law_is_net : Sp3) : TS3 := (seq3 (ifS3 (tb3 (o3 (eqA3 false) (v3 1) (c3 (.int 2)))) (ret3 (andV3 (isi3 (fun t => subT t "int") (v3 0)) (andV3 (notV3 (isi3 (fun t => subT t "bool") (v3 0))) (o3 (in3 false) (v3 0) (tup3 (cons3 (c3 (.int 0)) (cons3 (c3 (.int 1)) nil3))))))) next3) (seq3 (ifS3 (or3 (not3 (tb3 (isi3 (fun t => subT t "tuple") (v3 0)))) (tb3 (o3 (eqA3 true) (cb3 len3 (cons3 (v3 0) nil3)) (c3 (.int 4))))) (ret3 (c3 (.bl false))) next3) (seq3 (for3 (iseq3 (tup3 (cons3 (o3 ix3 (v3 0) (c3 (.int 0))) (cons3 (o3 ix3 (v3 0) (c3 (.int 3))) nil3)))) (gn3 2) (seq3 (ifS3 (or3 (not3 (tb3 (isi3 (fun t => subT t "tuple") (v3 2)))) (tb3 (o3 (eqA3 true) (cb3 len3 (cons3 (v3 2) nil3)) (o3 (iC CDiv (· / ·)) (v3 1) (c3 (.int 2)))))) (ret3 (c3 (.bl false))) next3) (ifS3 (not3 (tb3 (cb3 all3 (cons3 (lc3 (iseq3 (v3 2)) (gn3 0) tt3 (cb3 S_law_is_net (cons3 (v3 0) (cons3 (c3 (.int 2)) nil3))) [none]) nil3)))) (ret3 (c3 (.bl false))) next3))) (ret3 (andV3 (cb3 S_law_is_net (cons3 (o3 ix3 (v3 0) (c3 (.int 1))) (cons3 (o3 (iC CDiv (· / ·)) (v3 1) (c3 (.int 2))) nil3))) (cb3 S_law_is_net (cons3 (o3 ix3 (v3 0) (c3 (.int 2))) (cons3 (o3 (iC CDiv (· / ·)) (v3 1) (c3 (.int 2))) nil3))))))))
theorem ok_law_is_net {P : Program} {w : World} {K : PySem.W.Frag} {mg : Str → Option Value} {base : Heap} {f : Addr} {fd : FuncData} {k : Nat} {sp : Sp3} {S_law_is_net : Sp3} (F : Fun K "_law_is_net" "_law_is_net" st_law_is_net f fd) (bd : Binds K fd ["_law_thing", "_law_lanes"] []) (hm : mg "_law_is_net" = some (.ref f)) (F_law_is_net : Fn3 P w K mg base k "_law_is_net" S_law_is_net) (m_isinstance : mg "isinstance" = none) (m_bool : mg "bool" = none) (m_int : mg "int" = none) (m_len : mg "len" = none) (m_tuple : mg "tuple" = none) (m_all : mg "all" = none)
    (read : ∀ ts G q, sp ts G q → ts.length = 2 ∧ (t_law_is_net S_law_is_net) { nx := fun _ G' => q .non G', rt := q } (start3 ["_law_thing", "_law_lanes", "_law_some"] ts) G) : Fn3 P w K mg base (k + 1) "_law_is_net" sp :=
  jfn3_of (t3 := (t_law_is_net S_law_is_net)) F sc_law_is_net bd hm (fun cdv A outer s H E hr => (jb_cons (js_if (jt_cmp (op_eqA hr.units) ref_eqA (je_var 1) je_int (nomark _)) (jb_one (js_ret (je_and (je_isi (je_var 0) rfl m_isinstance rfl m_int PyProof.Rows.boot_int) (je_and (je_not (je_isi (je_var 0) rfl m_isinstance rfl m_bool PyProof.Rows.boot_bool)) (je_one (je_cmp op_in_seq ref_in (je_var 0) (je_tup (ja_cons je_int (ja_cons je_int ja_nil))) (by with_unfolding_all rfl))))))) jb_nil) (jb_cons (js_if (jpt (jt_or (jt_not (jt_val (je_isi (je_var 0) rfl m_isinstance rfl m_tuple PyProof.Rows.boot_tuple))) (jt_or1 (jt_cmp (op_neA hr.units) ref_neA (je_callB call_len ref_len rfl m_len PySem.boot_len (ja_cons (je_var 0) ja_nil)) je_int (nomark _))))) (jb_one (js_ret je_bl)) jb_nil) (jb_cons (js_for PassesOwn.never rfl (ji_seq (je_tup (ja_cons (je_ix (je_var 0) je_int) (ja_cons (je_ix (je_var 0) je_int) ja_nil)))) (jg_name (i := 2) (sc_law_is_net.nd)) (jb_cons (js_if (jpt (jt_or (jt_not (jt_val (je_isi (je_var 2) rfl m_isinstance rfl m_tuple PyProof.Rows.boot_tuple))) (jt_or1 (jt_cmp (op_neA hr.units) ref_neA (je_callB call_len ref_len rfl m_len PySem.boot_len (ja_cons (je_var 2) ja_nil)) (je_div (je_var 1) je_int) (nomark _))))) (jb_one (js_ret je_bl)) jb_nil) (jb_one (js_if (jt_not (jt_val (je_callB (call_all_bools rfl) ref_all rfl m_all PyProof.Rows.boot_all (ja_cons (je_lc ["_law_one"] [none] rfl (ji_seq (je_var 2)) (fun _ _ _ => (jg_name (i := 0) (show (["_law_one"] : List Str).Nodup by decide +kernel))) (fun _ _ _ => jf_nil) (fun _ _ _ => (je_call F_law_is_net hr rfl (ja_cons (je_var 0) (ja_cons je_int ja_nil)))) (show scOk (defScope st_law_is_net) _ = true by decide +kernel) (show capOk ["_law_thing", "_law_lanes", "_law_some"] ["_law_one"] _ [none] = true by decide +kernel)) ja_nil)))) (jb_one (js_ret je_bl)) jb_nil)))) (jb_one (js_ret (je_and (je_call F_law_is_net hr rfl (ja_cons (je_ix (je_var 0) je_int) (ja_cons (je_div (je_var 1) je_int) ja_nil))) (je_one (je_call F_law_is_net hr rfl (ja_cons (je_ix (je_var 0) je_int) (ja_cons (je_div (je_var 1) je_int) ja_nil))))))))))) read
abbrev st_law_bad : Stmt := top 12
theorem sc_law_bad : FnScope ["_law_left_here", "_law_net_here", "_law_odd", "_law_way", "_law_at", "_law_side", "_law_place", "_law_some"] ["_law_left_here", "_law_net_here"] (defScope st_law_bad) := ⟨rfl, rfl, rfl, by decide +kernel, rfl, by decide +kernel, by decide +kernel⟩
def t_law_bad (S_law_pick : Sp3) : TS3 := (seq3 (asg3 (o3 ix3 (lst3 (cons3 (c3 (.int 2)) (cons3 (u3 neg3 (c3 (.int 1))) (cons3 (c3 (.bl true)) (cons3 (c3 (.bl false)) (cons3 (c3 .non) (cons3 (c3 (.str "0")) (cons3 (tup3 nil3) (cons3 (tup3 (cons3 (c3 (.int 0)) nil3)) (cons3 (lst3 (cons3 (c3 (.int 0)) nil3)) (cons3 (tup3 (cons3 (c3 (.int 0)) (cons3 (c3 (.int 0)) nil3))) (cons3 (tup3 (cons3 (c3 (.int 0)) (cons3 (c3 (.int 1)) (cons3 (c3 (.int 0)) (cons3 (c3 (.int 1)) nil3))))) nil3)))))))))))) (cb3 S_law_pick (cons3 (v3 0) (cons3 (c3 (.int 11)) nil3)))) (gn3 2)) (seq3 (ifS3 (not3 (tb3 (isi3 (fun t => subT t "tuple") (v3 1)))) (ret3 (v3 2)) next3) (seq3 (par3 3 4 (cons3 (cb3 S_law_pick (cons3 (v3 0) (cons3 (c3 (.int 5)) nil3))) (cons3 (cb3 S_law_pick (cons3 (v3 0) (cons3 (c3 (.int 4)) nil3))) nil3))) (seq3 (ifS3 (tb3 (o3 (eqA3 false) (v3 3) (c3 (.int 0)))) (ret3 (o3 catA3 (o3 catA3 (tslA3 (v3 1) np3 (sp3 (v3 4))) (tup3 (cons3 (v3 2) nil3))) (tslA3 (v3 1) (sp3 (o3 catA3 (v3 4) (c3 (.int 1)))) np3))) next3) (seq3 (ifS3 (tb3 (o3 (eqA3 false) (v3 3) (c3 (.int 1)))) (ret3 (o3 catA3 (tslA3 (v3 1) np3 (sp3 (v3 4))) (tslA3 (v3 1) (sp3 (o3 catA3 (v3 4) (c3 (.int 1)))) np3))) next3) (seq3 (ifS3 (tb3 (o3 (eqA3 false) (v3 3) (c3 (.int 2)))) (ret3 (o3 catA3 (o3 catA3 (tslA3 (v3 1) np3 (sp3 (v3 4))) (tslA3 (v3 1) (sp3 (v3 4)) (sp3 (o3 catA3 (v3 4) (c3 (.int 1)))))) (tslA3 (v3 1) (sp3 (v3 4)) np3))) next3) (seq3 (ifS3 (tb3 (o3 (eqA3 false) (v3 3) (c3 (.int 3)))) (ret3 (cb3 list3 (cons3 (v3 1) nil3))) next3) (seq3 (asg3 (o3 ix3 (v3 1) (o3 (iC CMul (· * ·)) (c3 (.int 3)) (o3 (iC CDiv (· / ·)) (v3 4) (c3 (.int 2))))) (gn3 5)) (seq3 (asg3 (cb3 S_law_pick (cons3 (v3 0) (cons3 (cb3 len3 (cons3 (v3 5) nil3)) nil3))) (gn3 6)) (seq3 (asg3 (o3 catA3 (o3 catA3 (tslA3 (v3 5) np3 (sp3 (v3 6))) (tup3 (cons3 (v3 2) nil3))) (tslA3 (v3 5) (sp3 (o3 catA3 (v3 6) (c3 (.int 1)))) np3)) (gn3 7)) (ret3 (if3 (tb3 (o3 (iB fun i j => decide (i < j)) (v3 4) (c3 (.int 2)))) (o3 catA3 (tup3 (cons3 (v3 7) nil3)) (tslA3 (v3 1) (sp3 (c3 (.int 1))) np3)) (o3 catA3 (tslA3 (v3 1) np3 (sp3 (c3 (.int 3)))) (tup3 (cons3 (v3 7) nil3)))))))))))))))
theorem ok_law_bad {P : Program} {w : World} {K : PySem.W.Frag} {mg : Str → Option Value} {base : Heap} {f : Addr} {fd : FuncData} {k : Nat} {sp : Sp3} {S_law_pick : Sp3} (F : Fun K "_law_bad" "_law_bad" st_law_bad f fd) (bd : Binds K fd ["_law_left_here", "_law_net_here"] []) (hm : mg "_law_bad" = some (.ref f)) (F_law_pick : Fn3 P w K mg base k "_law_pick" S_law_pick) (m_isinstance : mg "isinstance" = none) (m_tuple : mg "tuple" = none) (m_list : mg "list" = none) (m_len : mg "len" = none)
    (read : ∀ ts G q, sp ts G q → ts.length = 2 ∧ (t_law_bad S_law_pick) { nx := fun _ G' => q .non G', rt := q } (start3 ["_law_left_here", "_law_net_here", "_law_odd", "_law_way", "_law_at", "_law_side", "_law_place", "_law_some"] ts) G) : Fn3 P w K mg base (k + 1) "_law_bad" sp :=
  jfn3_of (t3 := (t_law_bad S_law_pick)) F sc_law_bad bd hm (fun cdv A outer s H E hr => (jb_cons (js_set 2 sc_law_bad.nd (je_ix (je_lst (ja_cons je_int (ja_cons (je_neg je_int) (ja_cons je_bl (ja_cons je_bl (ja_cons je_non (ja_cons je_str (ja_cons (je_tup ja_nil) (ja_cons (je_tup (ja_cons je_int ja_nil)) (ja_cons (je_lst (ja_cons je_int ja_nil)) (ja_cons (je_tup (ja_cons je_int (ja_cons je_int ja_nil))) (ja_cons (je_tup (ja_cons je_int (ja_cons je_int (ja_cons je_int (ja_cons je_int ja_nil))))) ja_nil)))))))))))) (je_call F_law_pick hr rfl (ja_cons (je_var 0) (ja_cons je_int ja_nil))))) (jb_cons (js_if (jt_not (jt_val (je_isi (je_var 1) rfl m_isinstance rfl m_tuple PyProof.Rows.boot_tuple))) (jb_one (js_ret (je_var 2))) jb_nil) (jb_cons (js_par (i := 3) (j := 4) rfl sc_law_bad.nd rfl rfl (by decide) rfl rfl (ja_cons (je_call F_law_pick hr rfl (ja_cons (je_var 0) (ja_cons je_int ja_nil))) (ja_cons (je_call F_law_pick hr rfl (ja_cons (je_var 0) (ja_cons je_int ja_nil))) ja_nil))) (jb_cons (js_if (jt_cmp (op_eqA hr.units) ref_eqA (je_var 3) je_int (nomark _)) (jb_one (js_ret (je_plusA (je_plusA (je_sliceA (je_var 1) jp_none (jp_some (je_var 4))) (je_tup (ja_cons (je_var 2) ja_nil))) (je_sliceA (je_var 1) (jp_some (je_plusA (je_var 4) je_int)) jp_none)))) jb_nil) (jb_cons (js_if (jt_cmp (op_eqA hr.units) ref_eqA (je_var 3) je_int (nomark _)) (jb_one (js_ret (je_plusA (je_sliceA (je_var 1) jp_none (jp_some (je_var 4))) (je_sliceA (je_var 1) (jp_some (je_plusA (je_var 4) je_int)) jp_none)))) jb_nil) (jb_cons (js_if (jt_cmp (op_eqA hr.units) ref_eqA (je_var 3) je_int (nomark _)) (jb_one (js_ret (je_plusA (je_plusA (je_sliceA (je_var 1) jp_none (jp_some (je_var 4))) (je_sliceA (je_var 1) (jp_some (je_var 4)) (jp_some (je_plusA (je_var 4) je_int)))) (je_sliceA (je_var 1) (jp_some (je_var 4)) jp_none)))) jb_nil) (jb_cons (js_if (jt_cmp (op_eqA hr.units) ref_eqA (je_var 3) je_int (nomark _)) (jb_one (js_ret (je_callTy call_list_of ref_list rfl m_list PyProof.Rows.boot_list (ja_cons (je_var 1) ja_nil)))) jb_nil) (jb_cons (js_set 5 sc_law_bad.nd (je_ix (je_var 1) (je_mul je_int (je_div (je_var 4) je_int)))) (jb_cons (js_set 6 sc_law_bad.nd (je_call F_law_pick hr rfl (ja_cons (je_var 0) (ja_cons (je_callB call_len ref_len rfl m_len PySem.boot_len (ja_cons (je_var 5) ja_nil)) ja_nil)))) (jb_cons (js_set 7 sc_law_bad.nd (je_plusA (je_plusA (je_sliceA (je_var 5) jp_none (jp_some (je_var 6))) (je_tup (ja_cons (je_var 2) ja_nil))) (je_sliceA (je_var 5) (jp_some (je_plusA (je_var 6) je_int)) jp_none))) (jb_one (js_ret (je_if (jt_cmp op_lt ref_iB (je_var 4) je_int (nomark _)) (je_plusA (je_tup (ja_cons (je_var 7) ja_nil)) (je_sliceA (je_var 1) (jp_some je_int) jp_none)) (je_plusA (je_sliceA (je_var 1) jp_none (jp_some je_int)) (je_tup (ja_cons (je_var 7) ja_nil))))))))))))))))) read
abbrev st_law : Stmt := top 13
theorem sc_law : FnScope ["_law_script", "_law_k", "_law_left_here", "_law_lanes", "_law_net_here", "_law_things", "_law_thing", "_law_kept", "_law_some", "_law_found"] ["_law_script"] (defScope st_law) := ⟨rfl, rfl, rfl, by decide +kernel, rfl, by decide +kernel, by decide +kernel⟩
def t_law (S_law_left : Sp3) (S_law_pick : Sp3) (S_law_net : Sp3) (S_law_bad : Sp3) (S_is_net : Sp3) (S_law_is_net : Sp3) : TS3 := (seq3 (for3 (irng3 (cons3 (o3 cat3 (c3 (.int 1)) (cb3 min3 (cons3 (c3 (.int 8)) (cons3 (cb3 len3 (cons3 (v3 0) nil3)) nil3)))) nil3)) (gn3 1) (seq3 (asg3 (cb3 S_law_left (cons3 (v3 0) (cons3 (v3 1) nil3))) (gn3 2)) (seq3 (asg3 (o3 ix3 (lst3 (cons3 (c3 (.int 2)) (cons3 (c3 (.int 4)) (cons3 (c3 (.int 8)) (cons3 (c3 (.int 16)) nil3))))) (cb3 S_law_pick (cons3 (v3 2) (cons3 (c3 (.int 4)) nil3)))) (gn3 3)) (seq3 (asg3 (cb3 S_law_net (cons3 (v3 2) (cons3 (v3 3) nil3))) (gn3 4)) (seq3 (asg3 (o3 cat3 (lst3 (cons3 (v3 4) (cons3 (tup3 nil3) (cons3 (c3 .non) (cons3 (c3 (.int 0)) (cons3 (c3 (.int 1)) (cons3 (c3 (.bl true)) nil3))))))) (lc3 (irng3 (cons3 (c3 (.int 5)) nil3)) (gn3 0) tt3 (cb3 S_law_bad (cons3 (v3 1) (cons3 (v3 2) nil3))) [none, some 2, some 4])) (gn3 5)) (seq3 (for3 (iseq3 (v3 5)) (gn3 6) (seq3 (asg3 (cb3 (show3 true) (cons3 (v3 6) nil3)) (gn3 7)) (for3 (iseq3 (tup3 (cons3 (c3 (.int 2)) (cons3 (c3 (.int 4)) (cons3 (c3 (.int 8)) (cons3 (c3 (.int 16)) nil3)))))) (gn3 8) (seq3 (asg3 (cb3 S_is_net (cons3 (v3 6) (cons3 (v3 8) nil3))) (gn3 9)) (ifS3 (or3 (not3 (tb3 (isi3 (fun t => subT t "bool") (v3 9)))) (or3 (tb3 (o3 (eqA3 true) (v3 9) (cb3 S_law_is_net (cons3 (v3 6) (cons3 (v3 8) nil3))))) (tb3 (o3 (eqA3 true) (cb3 (show3 true) (cons3 (v3 6) nil3)) (v3 7))))) (ret3 (c3 (.bl false))) next3))))) (ifS3 (tb3 (o3 (isB3 true) (cb3 S_is_net (cons3 (v3 4) (cons3 (v3 3) nil3))) (c3 (.bl true)))) (ret3 (c3 (.bl false))) next3))))))) (ret3 (c3 (.bl true))))
theorem ok_law {P : Program} {w : World} {K : PySem.W.Frag} {mg : Str → Option Value} {base : Heap} {f : Addr} {fd : FuncData} {k : Nat} {sp : Sp3} {S_law_left : Sp3} {S_law_pick : Sp3} {S_law_net : Sp3} {S_law_bad : Sp3} {S_is_net : Sp3} {S_law_is_net : Sp3} (F : Fun K "law" "law" st_law f fd) (F_law_left : Fn3 P w K mg base k "_law_left" S_law_left) (F_law_pick : Fn3 P w K mg base k "_law_pick" S_law_pick) (F_law_net : Fn3 P w K mg base k "_law_net" S_law_net) (F_law_bad : Fn3 P w K mg base k "_law_bad" S_law_bad) (F_is_net : Fn3 P w K mg base k "is_net" S_is_net) (F_law_is_net : Fn3 P w K mg base k "_law_is_net" S_law_is_net) (m_len : mg "len" = none) (m_min : mg "min" = none) (m_range : mg "range" = none) (m_str : mg "str" = none) (m_isinstance : mg "isinstance" = none) (m_bool : mg "bool" = none)
    (read : ∀ ts G q, sp ts G q → ts.length = 1 ∧ (t_law S_law_left S_law_pick S_law_net S_law_bad S_is_net S_law_is_net) { nx := fun _ G' => q .non G', rt := q } (start3 ["_law_script", "_law_k", "_law_left_here", "_law_lanes", "_law_net_here", "_law_things", "_law_thing", "_law_kept", "_law_some", "_law_found"] ts) G) : FnOk P w K mg base CX0 (k + 1) f fd ["_law_script"] (lSp K sp) :=
  jfnok_of (t3 := (t_law S_law_left S_law_pick S_law_net S_law_bad S_is_net S_law_is_net)) F sc_law (fun cdv A outer s H E hr => (jb_cons (js_for PassesOwn.never rfl (ji_range1 rfl m_range (ja_cons (je_plus je_int (je_callB (call_min2 rfl) ref_min rfl m_min PyProof.Rows.boot_min (ja_cons je_int (ja_cons (je_callB call_len ref_len rfl m_len PySem.boot_len (ja_cons (je_var 0) ja_nil)) ja_nil)))) ja_nil) (h1 := by intro _ _ _ h; simpa [cons3, nil3] using h)) (jg_name (i := 1) (sc_law.nd)) (jb_cons (js_set 2 sc_law.nd (je_call F_law_left hr rfl (ja_cons (je_var 0) (ja_cons (je_var 1) ja_nil)))) (jb_cons (js_set 3 sc_law.nd (je_ix (je_lst (ja_cons je_int (ja_cons je_int (ja_cons je_int (ja_cons je_int ja_nil))))) (je_call F_law_pick hr rfl (ja_cons (je_var 2) (ja_cons je_int ja_nil))))) (jb_cons (js_set 4 sc_law.nd (je_call F_law_net hr rfl (ja_cons (je_var 2) (ja_cons (je_var 3) ja_nil)))) (jb_cons (js_set 5 sc_law.nd (je_plus (je_lst (ja_cons (je_var 4) (ja_cons (je_tup ja_nil) (ja_cons je_non (ja_cons je_int (ja_cons je_int (ja_cons je_bl ja_nil))))))) (je_lc ["_law_turn", "_law_left_here", "_law_net_here"] [none, some 2, some 4] rfl (ji_range1 rfl m_range (ja_cons je_int ja_nil) (h1 := by intro _ _ _ h; simpa [cons3, nil3] using h)) (fun _ _ _ => (jg_name (i := 0) (show (["_law_turn", "_law_left_here", "_law_net_here"] : List Str).Nodup by decide +kernel))) (fun _ _ _ => jf_nil) (fun _ _ _ => (je_call F_law_bad hr rfl (ja_cons (je_var 1) (ja_cons (je_var 2) ja_nil)))) (show scOk (defScope st_law) _ = true by decide +kernel) (show capOk ["_law_script", "_law_k", "_law_left_here", "_law_lanes", "_law_net_here", "_law_things", "_law_thing", "_law_kept", "_law_some", "_law_found"] ["_law_turn", "_law_left_here", "_law_net_here"] _ [none, some 2, some 4] = true by decide +kernel)))) (jb_cons (js_for PassesOwn.never rfl (ji_seq (je_var 5)) (jg_name (i := 6) (sc_law.nd)) (jb_cons (js_set 7 sc_law.nd (je_callTy (call_strAny hr.gd hr.units) ref_show rfl m_str PyProof.Rows.boot_str (ja_cons (je_var 6) ja_nil))) (jb_one (js_for PassesOwn.never rfl (ji_seq (je_tup (ja_cons je_int (ja_cons je_int (ja_cons je_int (ja_cons je_int ja_nil)))))) (jg_name (i := 8) (sc_law.nd)) (jb_cons (js_set 9 sc_law.nd (je_call F_is_net hr rfl (ja_cons (je_var 6) (ja_cons (je_var 8) ja_nil)))) (jb_one (js_if (jpt (jt_or (jt_not (jt_val (je_isi (je_var 9) rfl m_isinstance rfl m_bool PyProof.Rows.boot_bool))) (jt_or (jt_cmp (op_neA hr.units) ref_neA (je_var 9) (je_call F_law_is_net hr rfl (ja_cons (je_var 6) (ja_cons (je_var 8) ja_nil))) (nomark _)) (jt_or1 (jt_cmp (op_neA hr.units) ref_neA (je_callTy (call_strAny hr.gd hr.units) ref_show rfl m_str PyProof.Rows.boot_str (ja_cons (je_var 6) ja_nil)) (je_var 7) (nomark _)))))) (jb_one (js_ret je_bl)) jb_nil))))))) (jb_one (js_if (jt_cmp op_notB ref_notB (je_call F_is_net hr rfl (ja_cons (je_var 4) (ja_cons (je_var 3) ja_nil))) je_bl (nomark _)) (jb_one (js_ret je_bl)) jb_nil)))))))) (jb_one (js_ret je_bl)))) read
end K55
set_option Elab.async false
set_option linter.all false
set_option maxRecDepth 100000
set_option maxHeartbeats 4000000
namespace K55
open PySem L2 L3 Bk
def isI : T → Bool
  | .int _ => true
  | _ => false
def nb : T → Bool
  | .int i => decide (0 ≤ i) && decide (i < 2)
  | _ => false
def nsw (m : Nat) : T → Bool
  | .tup xs => decide (xs.length = m) && xs.all nb
  | _ => false
def netB : Nat → T → Bool
  | 0, t => nb t
  | k + 1, .tup [a, b, c, d] => nsw (2 ^ (k + 1)) a && nsw (2 ^ (k + 1)) d && netB k b && netB k c
  | _ + 1, _ => false
def Tg (G : Gp) (t : T) : Prop := ∃ d, Dp G t d
theorem Tg.up {G G' : Gp} {t : T} (h : Tg G t) (e : Ex G G') : Tg G' t := let ⟨d, a⟩ := h; ⟨d, a.up e⟩
theorem Tg.item {G : Gp} {ts : List T} (h : Tg G (.tup ts)) {i : Nat} {t : T} (e : ts[i]? = some t) : Tg G t := by
  obtain ⟨d, h⟩ := h
  cases h with
  | tup hs => obtain ⟨d, _, hd⟩ := hs.get e; exact ⟨d, hd⟩
def tyN : T → String
  | .non => "NoneType" | .bl _ => "bool" | .int _ => "int" | .str _ => "str" | .tup _ => "tuple" | .ref _ => "list"
theorem Tg.ty {G : Gp} {t : T} (h : Tg G t) : tyT G t = some (tyN t) := by
  obtain ⟨d, h⟩ := h
  cases h <;> simp [tyT, tyN]
  rename_i g _
  simp [g]
def sp_is_number : Sp3 := fun ts G q => ∃ t, ts = [t] ∧ Tg G t ∧ q (.bl (isI t)) G
def sp_is_number_below : Sp3 := fun ts G q => ∃ t, ts = [t, .int 2] ∧ Tg G t ∧ q (.bl (nb t)) G
def sp_are_switches : Sp3 := fun ts G q => ∃ (t : T) (m : Nat), ts = [t, .int m] ∧ m ≤ 8 ∧ Tg G t ∧ ∀ G', Ex G G' → q (.bl (nsw m t)) G'
def sp_is_net : Nat → Sp3
  | 0 => sp_none
  | k + 1 => fun ts G q => ∃ (t : T) (j : Nat), ts = [t, .int (2 ^ (j + 1))] ∧ j ≤ k ∧ j ≤ 3 ∧ Tg G t ∧ ∀ G', Ex G G' → q (.bl (netB j t)) G'
theorem rd_is_number : ∀ ts G q, sp_is_number ts G q → ts.length = 1 ∧ t_is_number (ends q) (start3 ["thing"] ts) G := by
  rintro ts G q ⟨t, rfl, ht, h⟩
  refine ⟨rfl, ?_⟩
  have e := ht.ty
  cases t <;> simp [t_is_number, isI, ret3, andV3, notV3, isi3, v3, start3, e, tyN, subT] at h ⊢ <;> exact h
theorem rd_is_number_below : ∀ ts G q, sp_is_number_below ts G q → ts.length = 2 ∧ t_is_number_below sp_is_number (ends q) (start3 ["thing", "end"] ts) G := by
  rintro ts G q ⟨t, rfl, ht, h⟩
  refine ⟨rfl, ?_⟩
  simp [t_is_number_below, seq3, asg3, gn3, ret3, retN3, ifS3, drop3, nev3, next3, v3, c3, o3, u3, neg3, L3.ixT, L3.ixR, cat3, iI, iC, iB, eqA3, scalT, isN3, tb3, and3, or3, not3, andV3, orV3, notV3, if3, ch3, cb3, cons3, nil3, isi3, tyT, subT, tup3, lst3, tsl3, np3, sp3, gtup3, gcons3, gnil3, gsub3, set3, par3, start3, bm3, app3, ext3, len3, abs3, min3, max3, int3, tuple3, list3, all3, any3, aug3, cut3, HT.sIx, getL, in3, flatT, eqF, gu, sizeLine_eq, List.getElem?_cons_zero, List.getElem?_cons_succ]
  refine ⟨t, rfl, ht, ?_⟩
  cases t <;> simp [isI, nb] at h ⊢ <;> first | exact h | skip
  rename_i i
  by_cases h0 : 0 ≤ i <;> simp [h0] at h ⊢ <;> exact h
theorem allB_map (f : T → Bool) : ∀ xs : List T, allB (xs.map fun t => T.bl (f t)) = some (xs.all f)
  | [] => rfl
  | x :: r => by
    simp [allB, allB_map f r]
theorem rd_are_switches : ∀ ts G q, sp_are_switches ts G q → ts.length = 2 ∧ t_are_switches sp_is_number_below (ends q) (start3 ["thing", "many"] ts) G := by
  rintro ts G q ⟨t, m, rfl, hm, ht, h⟩
  refine ⟨rfl, ?_⟩
  have e := ht.ty
  cases t with
  | tup xs =>
    simp [t_are_switches, e, tyN, seq3, asg3, gn3, ret3, retN3, ifS3, drop3, nev3, next3, v3, c3, o3, u3, neg3, L3.ixT, L3.ixR, cat3, iI, iC, iB, eqA3, scalT, isN3, tb3, and3, or3, not3, andV3, orV3, notV3, if3, ch3, cb3, cons3, nil3, isi3, tyT, subT, tup3, lst3, tsl3, np3, sp3, gtup3, gcons3, gnil3, gsub3, set3, par3, start3, bm3, app3, ext3, len3, abs3, min3, max3, int3, tuple3, list3, all3, any3, aug3, cut3, HT.sIx, getL, in3, flatT, eqF, gu, sizeLine_eq, List.getElem?_cons_zero, List.getElem?_cons_succ]
    by_cases hl : xs.length = m
    · subst hl
      simp [lc3, iseq3, cap, seq3, asg3, gn3, ret3, retN3, ifS3, drop3, nev3, next3, v3, c3, o3, u3, neg3, L3.ixT, L3.ixR, cat3, iI, iC, iB, eqA3, scalT, isN3, tb3, and3, or3, not3, andV3, orV3, notV3, if3, ch3, cb3, cons3, nil3, isi3, tyT, subT, tup3, lst3, tsl3, np3, sp3, gtup3, gcons3, gnil3, gsub3, set3, par3, start3, bm3, app3, ext3, len3, abs3, min3, max3, int3, tuple3, list3, all3, any3, aug3, cut3, HT.sIx, getL, in3, flatT, eqF, gu, sizeLine_eq, List.getElem?_cons_zero, List.getElem?_cons_succ]
      refine lcGo_map (fun t => T.bl (nb t)) (fun τ => ∃ x0, τ = [x0]) True.intro _ _ _ ⟨none, rfl⟩ ?_ (by simp [sizeLine_eq]; omega) ?_
      · rintro z hz τ ⟨x0, rfl⟩ K hK
        obtain ⟨i, hi⟩ := List.getElem?_of_mem hz
        simp [seq3, asg3, gn3, ret3, retN3, ifS3, drop3, nev3, next3, v3, c3, o3, u3, neg3, L3.ixT, L3.ixR, cat3, iI, iC, iB, eqA3, scalT, isN3, tb3, and3, or3, not3, andV3, orV3, notV3, if3, ch3, cb3, cons3, nil3, isi3, tyT, subT, tup3, lst3, tsl3, np3, sp3, gtup3, gcons3, gnil3, gsub3, set3, par3, start3, bm3, app3, ext3, len3, abs3, min3, max3, int3, tuple3, list3, all3, any3, aug3, cut3, HT.sIx, getL, in3, flatT, eqF, gu, sizeLine_eq, List.getElem?_cons_zero, List.getElem?_cons_succ]
        exact ⟨z, rfl, ht.item hi, hK _ ⟨_, rfl⟩⟩
      · intro p hp
        simp [all3, getL, gu_same, allB_map]
        have := h _ (ex_new hp (o := .lst ([] ++ xs.map fun t => T.bl (nb t))))
        simpa [nsw] using this
    · have := h G Ex.refl
      have hl' : ¬ ((xs.length : Int) = (m : Int)) := by omega
      simp [nsw, hl] at this
      simp [hl', this]
  | ref p =>
    have := h G Ex.refl
    simp [nsw] at this
    obtain ⟨d, hd⟩ := id ht
    cases hd with
    | lst g hs => simp [t_are_switches, g, this, seq3, asg3, gn3, ret3, retN3, ifS3, drop3, nev3, next3, v3, c3, o3, u3, neg3, L3.ixT, L3.ixR, cat3, iI, iC, iB, eqA3, scalT, isN3, tb3, and3, or3, not3, andV3, orV3, notV3, if3, ch3, cb3, cons3, nil3, isi3, tyT, subT, tup3, lst3, tsl3, np3, sp3, gtup3, gcons3, gnil3, gsub3, set3, par3, start3, bm3, app3, ext3, len3, abs3, min3, max3, int3, tuple3, list3, all3, any3, aug3, cut3, HT.sIx, in3, flatT, eqF, sizeLine_eq, List.getElem?_cons_zero, List.getElem?_cons_succ]
  | _ =>
    have := h G Ex.refl
    simp [nsw] at this
    simp [t_are_switches, e, tyN, this, seq3, asg3, gn3, ret3, retN3, ifS3, drop3, nev3, next3, v3, c3, o3, u3, neg3, L3.ixT, L3.ixR, cat3, iI, iC, iB, eqA3, scalT, isN3, tb3, and3, or3, not3, andV3, orV3, notV3, if3, ch3, cb3, cons3, nil3, isi3, tyT, subT, tup3, lst3, tsl3, np3, sp3, gtup3, gcons3, gnil3, gsub3, set3, par3, start3, bm3, app3, ext3, len3, abs3, min3, max3, int3, tuple3, list3, all3, any3, aug3, cut3, HT.sIx, getL, in3, flatT, eqF, gu, sizeLine_eq, List.getElem?_cons_zero, List.getElem?_cons_succ]
end K55
set_option Elab.async false
set_option linter.all false
set_option maxRecDepth 100000
set_option maxHeartbeats 4000000
namespace K55
open PySem L2 L3 Bk
theorem p2s {j : Nat} (h : j ≤ 3) : (2 : Int) ^ (j + 1 + 1) / 2 = 2 ^ (j + 1) ∧ ¬ ((2 : Int) ^ (j + 1 + 1) = 2) ∧ (2 : Int) ^ (j + 1) = ((2 ^ (j + 1) : Nat) : Int) := by
  rcases j with _ | _ | _ | _ | j
  · decide
  · decide
  · decide
  · decide
  · omega
theorem rd_is_net (k : Nat) : ∀ ts G q, sp_is_net (k + 1) ts G q → ts.length = 2 ∧ t_is_net sp_is_number_below sp_are_switches (sp_is_net k) (ends q) (start3 ["thing", "lanes", "first", "upper", "lower", "last", "half"] ts) G := by
  rintro ts G q ⟨t, j, rfl, hk, hj, ht, h⟩
  refine ⟨rfl, ?_⟩
  cases j with
  | zero =>
    simp [t_is_net, seq3, asg3, gn3, ret3, retN3, ifS3, drop3, nev3, next3, v3, c3, o3, u3, neg3, L3.ixT, L3.ixR, cat3, iI, iC, iB, eqA3, scalT, isN3, tb3, and3, or3, not3, andV3, orV3, notV3, if3, ch3, cb3, cons3, nil3, isi3, tyT, subT, tup3, lst3, tsl3, np3, sp3, gtup3, gcons3, gnil3, gsub3, set3, par3, start3, bm3, app3, ext3, len3, abs3, min3, max3, int3, tuple3, list3, all3, any3, aug3, cut3, HT.sIx, getL, in3, flatT, eqF, gu, sizeLine_eq, List.getElem?_cons_zero, List.getElem?_cons_succ]
    exact ⟨t, rfl, ht, h _ Ex.refl⟩
  | succ j =>
    obtain ⟨e1, e2, e3⟩ := p2s (j := j) (by omega)
    have h0 := h G Ex.refl
    have c2 : CDiv ((2 : Int) ^ (j + 1 + 1)) 2 := ⟨by decide, by decide⟩
    cases t with
    | ref p =>
      obtain ⟨d, hd⟩ := id ht
      simp [netB] at h0
      cases hd with
      | lst g hs => simp [t_is_net, g, e2, h0, seq3, asg3, gn3, ret3, retN3, ifS3, drop3, nev3, next3, v3, c3, o3, u3, neg3, L3.ixT, L3.ixR, cat3, iI, iC, iB, eqA3, scalT, isN3, tb3, and3, or3, not3, andV3, orV3, notV3, if3, ch3, cb3, cons3, nil3, isi3, tyT, subT, tup3, lst3, tsl3, np3, sp3, gtup3, gcons3, gnil3, gsub3, set3, par3, start3, bm3, app3, ext3, len3, abs3, min3, max3, int3, tuple3, list3, all3, any3, aug3, cut3, HT.sIx, in3, flatT, eqF, sizeLine_eq, List.getElem?_cons_zero, List.getElem?_cons_succ]
    | tup xs =>
      by_cases hl : xs.length = 4
      · obtain ⟨a, b, c, d, rfl⟩ : ∃ a b c d, xs = [a, b, c, d] := by
          match xs, hl with
          | [a, b, c, d], _ => exact ⟨a, b, c, d, rfl⟩
        have ta := ht.item (i := 0) (t := a) rfl
        have tb := ht.item (i := 1) (t := b) rfl
        have tc := ht.item (i := 2) (t := c) rfl
        have td := ht.item (i := 3) (t := d) rfl
        obtain ⟨k', rfl⟩ : ∃ k', k = k' + 1 := ⟨k - 1, by omega⟩
        have hp8 : 2 ^ (j + 1) ≤ 8 := by
          calc 2 ^ (j + 1) ≤ 2 ^ 3 := Nat.pow_le_pow_right (by decide) (by omega)
            _ = 8 := rfl
        simp [t_is_net, e2, e1, c2, seq3, asg3, gn3, ret3, retN3, ifS3, drop3, nev3, next3, v3, c3, o3, u3, neg3, L3.ixT, L3.ixR, cat3, iI, iC, iB, eqA3, scalT, isN3, tb3, and3, or3, not3, andV3, orV3, notV3, if3, ch3, cb3, cons3, nil3, isi3, tyT, subT, tup3, lst3, tsl3, np3, sp3, gtup3, gcons3, gnil3, gsub3, set3, par3, start3, bm3, app3, ext3, len3, abs3, min3, max3, int3, tuple3, list3, all3, any3, aug3, cut3, HT.sIx, getL, in3, flatT, eqF, gu, sizeLine_eq, List.getElem?_cons_zero, List.getElem?_cons_succ]
        refine ⟨a, 2 ^ (j + 1), by rw [e3], hp8, ta, fun G1 E1 => ?_⟩
        cases ha : nsw (2 ^ (j + 1)) a
        · simp
          have := h G1 E1
          simpa [netB, ha] using this
        · simp
          refine ⟨d, 2 ^ (j + 1), by rw [e3], hp8, td.up E1, fun G2 E2 => ?_⟩
          cases hd : nsw (2 ^ (j + 1)) d
          · simp
            have := h G2 (E1.trans E2)
            simpa [netB, ha, hd] using this
          · simp
            refine ⟨b, j, rfl, by omega, by omega, tb.up (E1.trans E2), fun G3 E3 => ?_⟩
            cases hb : netB j b
            · simp
              have := h G3 (E1.trans (E2.trans E3))
              simpa [netB, ha, hd, hb] using this
            · simp
              refine ⟨c, j, rfl, by omega, by omega, tc.up (E1.trans (E2.trans E3)), fun G4 E4 => ?_⟩
              have := h G4 (E1.trans (E2.trans (E3.trans E4)))
              simpa [netB, ha, hd, hb] using this
      · have hl' : ¬ ((xs.length : Int) = 4) := by omega
        have h0' : q (.bl false) G := by
          have e : netB (j + 1) (.tup xs) = false := by
            unfold netB
            split
            · rename_i h; cases h
            · rename_i h; cases h; exact absurd rfl hl
            · rfl
          rw [e] at h0; exact h0
        simp [t_is_net, e2, hl', h0', seq3, asg3, gn3, ret3, retN3, ifS3, drop3, nev3, next3, v3, c3, o3, u3, neg3, L3.ixT, L3.ixR, cat3, iI, iC, iB, eqA3, scalT, isN3, tb3, and3, or3, not3, andV3, orV3, notV3, if3, ch3, cb3, cons3, nil3, isi3, tyT, subT, tup3, lst3, tsl3, np3, sp3, gtup3, gcons3, gnil3, gsub3, set3, par3, start3, bm3, app3, ext3, len3, abs3, min3, max3, int3, tuple3, list3, all3, any3, aug3, cut3, HT.sIx, getL, in3, flatT, eqF, gu, sizeLine_eq, List.getElem?_cons_zero, List.getElem?_cons_succ]
    | _ =>
      simp [netB] at h0
      simp [t_is_net, e2, h0, seq3, asg3, gn3, ret3, retN3, ifS3, drop3, nev3, next3, v3, c3, o3, u3, neg3, L3.ixT, L3.ixR, cat3, iI, iC, iB, eqA3, scalT, isN3, tb3, and3, or3, not3, andV3, orV3, notV3, if3, ch3, cb3, cons3, nil3, isi3, tyT, subT, tup3, lst3, tsl3, np3, sp3, gtup3, gcons3, gnil3, gsub3, set3, par3, start3, bm3, app3, ext3, len3, abs3, min3, max3, int3, tuple3, list3, all3, any3, aug3, cut3, HT.sIx, getL, in3, flatT, eqF, gu, sizeLine_eq, List.getElem?_cons_zero, List.getElem?_cons_succ]
end K55
set_option Elab.async false
set_option linter.all false
set_option maxRecDepth 100000
set_option maxHeartbeats 4000000
namespace K55
open PySem L2 L3 Bk
def sp_law_is_net : Nat → Sp3
  | 0 => sp_none
  | k + 1 => fun ts G q => ∃ (t : T) (j : Nat), ts = [t, .int (2 ^ (j + 1))] ∧ j ≤ k ∧ j ≤ 3 ∧ Tg G t ∧ ∀ G', Ex G G' → q (.bl (netB j t)) G'
theorem net_all {k : Nat} {xs : List T} {G : Gp} {q : Q3} (ht : ∀ x ∈ xs, Tg G x) (hl : xs.length ≤ 8) (h : ∀ G' p, Ex G G' → G' p = none → q (.ref p) (gu G' p (.lst (xs.map fun t => T.bl (nb t))))) :
    lcGo (fun _ => True) (gn3 0) tt3 (cb3 (sp_law_is_net (k + 1)) (cons3 (v3 0) (cons3 (c3 (.int 2)) nil3))) q xs [] [none] G := by
  refine lcGo_inv _ (fun i ys τ G' => Ex G G' ∧ ys = (xs.take i).map (fun t => T.bl (nb t)) ∧ ∃ x0, τ = [x0]) ⟨Ex.refl, by simp, none, rfl⟩ (fun _ _ _ _ _ _ => True.intro) ?_ ?_
  · rintro i z ys τ G' R hz ⟨E, rfl, x0, rfl⟩ hR
    obtain ⟨hi, e⟩ := List.getElem?_eq_some_iff.mp hz
    simp [tt3, seq3, asg3, gn3, ret3, retN3, ifS3, drop3, nev3, next3, v3, c3, o3, u3, neg3, L3.ixT, L3.ixR, cat3, iI, iC, iB, eqA3, scalT, isN3, tb3, and3, or3, not3, andV3, orV3, notV3, if3, ch3, cb3, cons3, nil3, isi3, tyT, subT, tup3, lst3, tsl3, np3, sp3, gtup3, gcons3, gnil3, gsub3, set3, par3, start3, bm3, app3, ext3, len3, abs3, min3, max3, int3, tuple3, list3, all3, any3, aug3, cut3, HT.sIx, getL, in3, flatT, eqF, gu, sizeLine_eq, List.getElem?_cons_zero, List.getElem?_cons_succ]
    refine ⟨z, 0, rfl, by omega, by omega, (ht z (List.mem_of_getElem? hz)).up E, fun G2 E2 => ⟨by omega, hR _ _ _ ⟨E.trans E2, ?_, _, rfl⟩⟩⟩
    rw [List.take_succ_eq_append_getElem hi, e]
    simp [netB]
  · rintro ys τ G' ⟨E, rfl, x0, rfl⟩ p hp
    rw [List.take_length]
    exact h G' p E hp
theorem net_four {k' j m : Nat} {a b c d : T} {L : Int} {G : Gp} {q : Q3} (e1 : L / 2 = (m : Int)) (e2 : ¬ L = 2) (c2 : CDiv L 2) (em : (m : Int) = 2 ^ (j + 1)) (hm : m ≤ 8) (hk : j ≤ k') (hj : j ≤ 3) (ta : Tg G a) (tb : Tg G b) (tc : Tg G c) (td : Tg G d)
    (h : ∀ G', Ex G G' → q (.bl (nsw m a && nsw m d && netB j b && netB j c)) G') : t_law_is_net (sp_law_is_net (k' + 1)) (ends q) [some (T.tup [a, b, c, d]), some (.int L), none] G := by
  have neg1 : nsw m a = false → ∀ G', Ex G G' → q (.bl false) G' := fun z G' E => by
    have := h G' E; simpa [z] using this
  have neg2 : nsw m d = false → ∀ G', Ex G G' → q (.bl false) G' := fun z G' E => by
    have := h G' E; simpa [z] using this
  have st : [a, d].length ≤ sizeLine := by simp [sizeLine_eq]
  unfold t_law_is_net
  generalize hb : (seq3 (ifS3 (or3 (not3 (tb3 (isi3 (fun t => subT t "tuple") (v3 2)))) (tb3 (o3 (eqA3 true) (cb3 len3 (cons3 (v3 2) nil3)) (o3 (iC CDiv (· / ·)) (v3 1) (c3 (.int 2)))))) (ret3 (c3 (.bl false))) next3) (ifS3 (not3 (tb3 (cb3 all3 (cons3 (lc3 (iseq3 (v3 2)) (gn3 0) tt3 (cb3 (sp_law_is_net (k' + 1)) (cons3 (v3 0) (cons3 (c3 (.int 2)) nil3))) [none]) nil3)))) (ret3 (c3 (.bl false))) next3)) = body
  generalize hrr : (ret3 (andV3 (cb3 (sp_law_is_net (k' + 1)) (cons3 (o3 ix3 (v3 0) (c3 (.int 1))) (cons3 (o3 (iC CDiv (· / ·)) (v3 1) (c3 (.int 2))) nil3))) (cb3 (sp_law_is_net (k' + 1)) (cons3 (o3 ix3 (v3 0) (c3 (.int 2))) (cons3 (o3 (iC CDiv (· / ·)) (v3 1) (c3 (.int 2))) nil3))))) = rr
  generalize (ret3 (andV3 (isi3 (fun t => subT t "int") (v3 0)) (andV3 (notV3 (isi3 (fun t => subT t "bool") (v3 0))) (o3 (in3 false) (v3 0) (tup3 (cons3 (c3 (.int 0)) (cons3 (c3 (.int 1)) nil3))))))) = r0
  simp only [e2, seq3, ifS3, tb3, v3, c3, o3, eqA3, scalT, List.getElem?_cons_zero, List.getElem?_cons_succ, decide_false, next3, if_false, Bool.false_eq_true]
  simp only [or3, not3, isi3, tb3, v3, cb3, cons3, nil3, o3, len3, c3, tyT, subT, scalT, eqA3, List.length_cons, List.length_nil, next3, List.getElem?_cons_zero]
  simp
  show [a, d].length ≤ sizeLine ∧ forGo (fun _ => True) (gn3 2) body _ [a, d] _ G
  refine ⟨st, ?_⟩
  refine forGo_inv _ (fun i τ G' => Ex G G' ∧ (∃ x2, τ = [some (T.tup [a, b, c, d]), some (T.int L), x2]) ∧ (1 ≤ i → nsw m a = true) ∧ (2 ≤ i → nsw m d = true)) ⟨Ex.refl, ⟨none, rfl⟩, by omega, by omega⟩ (fun _ _ _ _ _ => True.intro) ?_ ?_
  · rintro i z τ G' nx hz ⟨E, ⟨x2, rfl⟩, i1, i2⟩ hn
    have hz' : (i = 0 ∧ z = a) ∨ (i = 1 ∧ z = d) := by
      match i, hz with
      | 0, hz => exact .inl ⟨rfl, by simpa using hz.symm⟩
      | 1, hz => exact .inr ⟨rfl, by simpa using hz.symm⟩
      | (i + 2), hz => simp at hz
    have tz : Tg G' z := by
      rcases hz' with ⟨_, rfl⟩ | ⟨_, rfl⟩
      · exact ta.up E
      · exact td.up E
    have ng : nsw m z = false → ∀ G'', Ex G' G'' → q (.bl false) G'' := fun w G'' E'' => by
      rcases hz' with ⟨_, rfl⟩ | ⟨_, rfl⟩
      · exact neg1 w G'' (E.trans E'')
      · exact neg2 w G'' (E.trans E'')
    have ps : nsw m z = true → ∀ G'' τ, Ex G' G'' → (∃ x2, τ = [some (T.tup [a, b, c, d]), some (T.int L), x2]) → nx τ G'' := fun w G'' τ E'' e => by
      refine hn _ _ ⟨E.trans E'', e, ?_, ?_⟩
      · rcases hz' with ⟨rfl, rfl⟩ | ⟨rfl, rfl⟩
        · exact fun _ => w
        · exact fun _ => i1 (by omega)
      · rcases hz' with ⟨rfl, rfl⟩ | ⟨rfl, rfl⟩
        · omega
        · exact fun _ => w
    clear hn h neg1 neg2
    subst hb
    cases z with
    | ref p =>
      obtain ⟨d', hd⟩ := id tz
      cases hd with
      | lst g hs => simp [g, ng rfl G' Ex.refl, seq3, asg3, gn3, ret3, retN3, ifS3, drop3, nev3, next3, v3, c3, o3, u3, neg3, L3.ixT, L3.ixR, cat3, iI, iC, iB, eqA3, scalT, isN3, tb3, and3, or3, not3, andV3, orV3, notV3, if3, ch3, cb3, cons3, nil3, isi3, tyT, subT, tup3, lst3, tsl3, np3, sp3, gtup3, gcons3, gnil3, gsub3, set3, par3, start3, bm3, app3, ext3, len3, abs3, min3, max3, int3, tuple3, list3, all3, any3, aug3, cut3, HT.sIx, in3, flatT, eqF, sizeLine_eq, List.getElem?_cons_zero, List.getElem?_cons_succ]
    | tup ys =>
      by_cases hy : ys.length = m
      · have hy' : ((ys.length : Nat) : Int) = (m : Int) := by rw [hy]
        simp [e1, c2, hy, lc3, iseq3, cap, seq3, asg3, gn3, ret3, retN3, ifS3, drop3, nev3, next3, v3, c3, o3, u3, neg3, L3.ixT, L3.ixR, cat3, iI, iC, iB, eqA3, scalT, isN3, tb3, and3, or3, not3, andV3, orV3, notV3, if3, ch3, cb3, cons3, nil3, isi3, tyT, subT, tup3, lst3, tsl3, np3, sp3, gtup3, gcons3, gnil3, gsub3, set3, par3, start3, bm3, app3, ext3, len3, abs3, min3, max3, int3, tuple3, list3, all3, any3, aug3, cut3, HT.sIx, getL, in3, flatT, eqF, gu, sizeLine_eq, List.getElem?_cons_zero, List.getElem?_cons_succ]
        refine net_all (fun x hx => ?_) (by omega) fun G2 p E2 hp => ?_
        · obtain ⟨i, hi⟩ := List.getElem?_of_mem hx
          exact tz.item hi
        · simp [all3, getL, gu_same, allB_map]
          have es : nsw m (.tup ys) = ys.all nb := by simp [nsw, hy]
          split
          · rename_i hA
            exact ps (by rw [es]; simpa using hA) _ _ (E2.trans (ex_new hp)) ⟨_, rfl⟩
          · rename_i hA
            exact ng (by rw [es]; simpa using hA) _ (E2.trans (ex_new hp))
      · have hy' : ¬ ((ys.length : Nat) : Int) = (m : Int) := by omega
        have es : nsw m (.tup ys) = false := by simp [nsw, hy]
        have n0 := ng es G' Ex.refl
        simp [e1, c2, hy', n0, seq3, asg3, gn3, ret3, retN3, ifS3, drop3, nev3, next3, v3, c3, o3, u3, neg3, L3.ixT, L3.ixR, cat3, iI, iC, iB, eqA3, scalT, isN3, tb3, and3, or3, not3, andV3, orV3, notV3, if3, ch3, cb3, cons3, nil3, isi3, tyT, subT, tup3, lst3, tsl3, np3, sp3, gtup3, gcons3, gnil3, gsub3, set3, par3, start3, bm3, app3, ext3, len3, abs3, min3, max3, int3, tuple3, list3, all3, any3, aug3, cut3, HT.sIx, getL, in3, flatT, eqF, gu, sizeLine_eq, List.getElem?_cons_zero, List.getElem?_cons_succ]
    | _ => simp [ng rfl G' Ex.refl, seq3, asg3, gn3, ret3, retN3, ifS3, drop3, nev3, next3, v3, c3, o3, u3, neg3, L3.ixT, L3.ixR, cat3, iI, iC, iB, eqA3, scalT, isN3, tb3, and3, or3, not3, andV3, orV3, notV3, if3, ch3, cb3, cons3, nil3, isi3, tyT, subT, tup3, lst3, tsl3, np3, sp3, gtup3, gcons3, gnil3, gsub3, set3, par3, start3, bm3, app3, ext3, len3, abs3, min3, max3, int3, tuple3, list3, all3, any3, aug3, cut3, HT.sIx, getL, in3, flatT, eqF, gu, sizeLine_eq, List.getElem?_cons_zero, List.getElem?_cons_succ]
  · rintro τ G' ⟨E, ⟨x2, rfl⟩, i1, i2⟩
    have i1 := i1 (by simp)
    have i2 := i2 (by simp)
    subst hrr
    simp only [ret3, andV3, cb3, cons3, nil3, o3, v3, c3, iC, L3.ixT, List.getElem?_cons_zero, List.getElem?_cons_succ]
    show CDiv L 2 ∧ sp_law_is_net (k' + 1) [b, .int (L / 2)] G' _
    refine ⟨c2, b, j, by rw [e1, em], by omega, by omega, tb.up E, fun G3 E3 => ?_⟩
    cases hb : netB j b
    · show q (.bl false) G3
      have := h G3 (E.trans E3)
      simpa [i1, i2, hb] using this
    · show CDiv L 2 ∧ sp_law_is_net (k' + 1) [c, .int (L / 2)] G3 _
      refine ⟨c2, c, j, by rw [e1, em], by omega, by omega, tc.up (E.trans E3), fun G4 E4 => ?_⟩
      have := h G4 (E.trans (E3.trans E4))
      simpa [i1, i2, hb] using this
theorem rd_law_is_net (k : Nat) : ∀ ts G q, sp_law_is_net (k + 1) ts G q → ts.length = 2 ∧ t_law_is_net (sp_law_is_net k) (ends q) (start3 ["_law_thing", "_law_lanes", "_law_some"] ts) G := by
  rintro ts G q ⟨t, j, rfl, hk, hj, ht, h⟩
  refine ⟨rfl, ?_⟩
  cases j with
  | zero =>
    have h0 := h G Ex.refl
    cases t with
    | int i =>
      simp [netB, nb] at h0
      simp [t_law_is_net, seq3, asg3, gn3, ret3, retN3, ifS3, drop3, nev3, next3, v3, c3, o3, u3, neg3, L3.ixT, L3.ixR, cat3, iI, iC, iB, eqA3, scalT, isN3, tb3, and3, or3, not3, andV3, orV3, notV3, if3, ch3, cb3, cons3, nil3, isi3, tyT, subT, tup3, lst3, tsl3, np3, sp3, gtup3, gcons3, gnil3, gsub3, set3, par3, start3, bm3, app3, ext3, len3, abs3, min3, max3, int3, tuple3, list3, all3, any3, aug3, cut3, HT.sIx, getL, in3, flatT, eqF, gu, sizeLine_eq, List.getElem?_cons_zero, List.getElem?_cons_succ]
      by_cases a : i = 0
      · subst a; simpa using h0
      · by_cases b : i = 1
        · subst b; simpa using h0
        · have : (decide (0 ≤ i) && decide (i < 2)) = false := by
            by_cases c : 0 ≤ i
            · have : ¬ i < 2 := by omega
              simp [this]
            · simp [c]
          rw [this] at h0
          have e : ((0 : Int) == i || (1 : Int) == i) = false := by
            have a' : ¬ (0 : Int) = i := fun z => a z.symm
            have b' : ¬ (1 : Int) = i := fun z => b z.symm
            simp [a', b']
          rw [e]; exact h0
    | ref p =>
      obtain ⟨d, hd⟩ := id ht
      simp [netB, nb] at h0
      cases hd with
      | lst g hs => simp [t_law_is_net, g, h0, seq3, asg3, gn3, ret3, retN3, ifS3, drop3, nev3, next3, v3, c3, o3, u3, neg3, L3.ixT, L3.ixR, cat3, iI, iC, iB, eqA3, scalT, isN3, tb3, and3, or3, not3, andV3, orV3, notV3, if3, ch3, cb3, cons3, nil3, isi3, tyT, subT, tup3, lst3, tsl3, np3, sp3, gtup3, gcons3, gnil3, gsub3, set3, par3, start3, bm3, app3, ext3, len3, abs3, min3, max3, int3, tuple3, list3, all3, any3, aug3, cut3, HT.sIx, in3, flatT, eqF, sizeLine_eq, List.getElem?_cons_zero, List.getElem?_cons_succ]
    | _ =>
      simp [netB, nb] at h0
      simp [t_law_is_net, h0, seq3, asg3, gn3, ret3, retN3, ifS3, drop3, nev3, next3, v3, c3, o3, u3, neg3, L3.ixT, L3.ixR, cat3, iI, iC, iB, eqA3, scalT, isN3, tb3, and3, or3, not3, andV3, orV3, notV3, if3, ch3, cb3, cons3, nil3, isi3, tyT, subT, tup3, lst3, tsl3, np3, sp3, gtup3, gcons3, gnil3, gsub3, set3, par3, start3, bm3, app3, ext3, len3, abs3, min3, max3, int3, tuple3, list3, all3, any3, aug3, cut3, HT.sIx, getL, in3, flatT, eqF, gu, sizeLine_eq, List.getElem?_cons_zero, List.getElem?_cons_succ]
  | succ j =>
    obtain ⟨e1, e2, e3⟩ := p2s (j := j) (by omega)
    have h0 := h G Ex.refl
    have c2 : CDiv ((2 : Int) ^ (j + 1 + 1)) 2 := ⟨by decide, by decide⟩
    cases t with
    | ref p =>
      obtain ⟨d, hd⟩ := id ht
      simp [netB] at h0
      cases hd with
      | lst g hs => simp [t_law_is_net, g, e2, h0, seq3, asg3, gn3, ret3, retN3, ifS3, drop3, nev3, next3, v3, c3, o3, u3, neg3, L3.ixT, L3.ixR, cat3, iI, iC, iB, eqA3, scalT, isN3, tb3, and3, or3, not3, andV3, orV3, notV3, if3, ch3, cb3, cons3, nil3, isi3, tyT, subT, tup3, lst3, tsl3, np3, sp3, gtup3, gcons3, gnil3, gsub3, set3, par3, start3, bm3, app3, ext3, len3, abs3, min3, max3, int3, tuple3, list3, all3, any3, aug3, cut3, HT.sIx, in3, flatT, eqF, sizeLine_eq, List.getElem?_cons_zero, List.getElem?_cons_succ]
    | tup xs =>
      by_cases hl : xs.length = 4
      · obtain ⟨a, b, c, d, rfl⟩ : ∃ a b c d, xs = [a, b, c, d] := by
          match xs, hl with
          | [a, b, c, d], _ => exact ⟨a, b, c, d, rfl⟩
        have ta := ht.item (i := 0) (t := a) rfl
        have tb := ht.item (i := 1) (t := b) rfl
        have tc := ht.item (i := 2) (t := c) rfl
        have td := ht.item (i := 3) (t := d) rfl
        obtain ⟨k', rfl⟩ : ∃ k', k = k' + 1 := ⟨k - 1, by omega⟩
        have hp8 : 2 ^ (j + 1) ≤ 8 := by
          calc 2 ^ (j + 1) ≤ 2 ^ 3 := Nat.pow_le_pow_right (by decide) (by omega)
            _ = 8 := rfl
        refine net_four (m := 2 ^ (j + 1)) (j := j) (by rw [e1, e3]) e2 c2 (by rw [e3]) hp8 (by omega) (by omega) ta tb tc td fun G' E => ?_
        have := h G' E
        simpa [netB] using this
      · have hl' : ¬ ((xs.length : Int) = 4) := by omega
        have h0' : q (.bl false) G := by
          have e : netB (j + 1) (.tup xs) = false := by
            unfold netB
            split
            · rename_i h; cases h
            · rename_i h; cases h; exact absurd rfl hl
            · rfl
          rw [e] at h0; exact h0
        simp [t_law_is_net, e2, hl', h0', seq3, asg3, gn3, ret3, retN3, ifS3, drop3, nev3, next3, v3, c3, o3, u3, neg3, L3.ixT, L3.ixR, cat3, iI, iC, iB, eqA3, scalT, isN3, tb3, and3, or3, not3, andV3, orV3, notV3, if3, ch3, cb3, cons3, nil3, isi3, tyT, subT, tup3, lst3, tsl3, np3, sp3, gtup3, gcons3, gnil3, gsub3, set3, par3, start3, bm3, app3, ext3, len3, abs3, min3, max3, int3, tuple3, list3, all3, any3, aug3, cut3, HT.sIx, getL, in3, flatT, eqF, gu, sizeLine_eq, List.getElem?_cons_zero, List.getElem?_cons_succ]
    | _ =>
      simp [netB] at h0
      simp [t_law_is_net, e2, h0, seq3, asg3, gn3, ret3, retN3, ifS3, drop3, nev3, next3, v3, c3, o3, u3, neg3, L3.ixT, L3.ixR, cat3, iI, iC, iB, eqA3, scalT, isN3, tb3, and3, or3, not3, andV3, orV3, notV3, if3, ch3, cb3, cons3, nil3, isi3, tyT, subT, tup3, lst3, tsl3, np3, sp3, gtup3, gcons3, gnil3, gsub3, set3, par3, start3, bm3, app3, ext3, len3, abs3, min3, max3, int3, tuple3, list3, all3, any3, aug3, cut3, HT.sIx, getL, in3, flatT, eqF, gu, sizeLine_eq, List.getElem?_cons_zero, List.getElem?_cons_succ]
end K55
set_option Elab.async false
set_option linter.all false
set_option maxRecDepth 100000
set_option maxHeartbeats 4000000
namespace K55
open PySem L2 L3 Bk
def cN : Nat → Int
  | 0 => 1
  | k + 1 => 2 * 2 ^ (k + 1) + 2 * cN k
theorem cN_le {j : Nat} (h : j ≤ 3) : 1 ≤ cN j ∧ cN j ≤ 60 := by
  rcases j with _ | _ | _ | _ | j
  · decide
  · decide
  · decide
  · decide
  · omega
def Bits (ns : List Int) : Prop := ∀ x ∈ ns, 0 ≤ x ∧ x < 2
def Net : Nat → T → Prop
  | 0, t => ∃ i : Int, t = .int i ∧ 0 ≤ i ∧ i < 2
  | k + 1, t => ∃ (f s : List Int) (u l : T), t = .tup [.tup (f.map T.int), u, l, .tup (s.map T.int)] ∧ f.length = 2 ^ (k + 1) ∧ s.length = 2 ^ (k + 1) ∧ Bits f ∧ Bits s ∧ Net k u ∧ Net k l
theorem bits_nb {f : List Int} (h : Bits f) : (f.map T.int).all nb = true := by
  rw [List.all_map, List.all_eq_true]
  intro x hx
  have := h x hx
  simp [nb, this]
theorem Net.b : ∀ {j : Nat} {t : T}, Net j t → netB j t = true
  | 0, _, ⟨i, e, h⟩ => by subst e; simp [netB, nb, h]
  | j + 1, _, ⟨f, s, u, l, e, h1, h2, h3, h4, h5, h6⟩ => by
    subst e
    simp only [netB, nsw, List.length_map, h1, h2, bits_nb h3, bits_nb h4, Net.b h5, Net.b h6]
    simp
def szN : Nat → Nat
  | 0 => 0
  | k + 1 => 4 + 2 * 2 ^ (k + 1) + 2 * szN k
theorem Net.ds : ∀ {j : Nat} {t : T} (G : Gp), Net j t → DS G (j + 1) (szN j) t
  | 0, _, G, ⟨i, e, h⟩ => by subst e; exact ds_int _ _ _ (by omega)
  | j + 1, _, G, ⟨f, s, u, l, e, h1, h2, h3, h4, h5, h6⟩ => by
    subst e
    have a1 := (ds_tup (dss_ints G j (ns := f) fun n hn => by have := h3 n hn; omega))
    have a2 := (ds_tup (dss_ints G j (ns := s) fun n hn => by have := h4 n hn; omega))
    rw [h1] at a1; rw [h2] at a2
    refine ds_tup (dss_cons a1 (dss_cons (Net.ds G h5) (dss_cons (Net.ds G h6) (dss_cons a2 (dss_nil _ _ 0) (Nat.le_refl _)) (Nat.le_refl _)) (Nat.le_refl _)) ?_)
    simp only [szN]; omega
def sp_law_net : Nat → Sp3
  | 0 => sp_none
  | k + 1 => fun ts G q => ∃ a n j, ts = [.ref a, .int (2 ^ (j + 1))] ∧ j ≤ k ∧ j ≤ 3 ∧ Lf G a n ∧ n + cN j < 10000000 ∧ ∀ t G', Net j t → Lf G' a (n + cN j) → Ext a G G' → q t G'
theorem rd_law_net (k : Nat) : ∀ ts G q, sp_law_net (k + 1) ts G q → ts.length = 2 ∧ t_law_net sp_law_pick (sp_law_net k) (ends q) (start3 ["_law_left_here", "_law_lanes", "_law_first", "_law_upper", "_law_lower"] ts) G := by
  rintro ts G q ⟨a, n, j, rfl, hk, hj, hL, hn, h⟩
  refine ⟨rfl, ?_⟩
  cases j with
  | zero =>
    have hn : n < 10000000 := by have : cN 0 = 1 := rfl; omega
    simp [t_law_net, seq3, asg3, gn3, ret3, retN3, ifS3, drop3, nev3, next3, v3, c3, o3, u3, neg3, L3.ixT, L3.ixR, cat3, iI, iC, iB, eqA3, scalT, isN3, tb3, and3, or3, not3, andV3, orV3, notV3, if3, ch3, cb3, cons3, nil3, isi3, tyT, subT, tup3, lst3, tsl3, np3, sp3, gtup3, gcons3, gnil3, gsub3, set3, par3, start3, bm3, app3, ext3, len3, abs3, min3, max3, int3, tuple3, list3, all3, any3, aug3, cut3, HT.sIx, getL, in3, flatT, eqF, gu, sizeLine_eq, List.getElem?_cons_zero, List.getElem?_cons_succ]
    exact pick_i hL (by omega) (by omega) (by omega) fun d G1 d1 d2 L1 E1 => h _ _ ⟨d, rfl, d1, d2⟩ L1 E1
  | succ j =>
    obtain ⟨e1, e2, e3⟩ := p2s (j := j) (by omega)
    have c2 : CDiv ((2 : Int) ^ (j + 1 + 1)) 2 := ⟨by decide, by decide⟩
    obtain ⟨k', rfl⟩ : ∃ k', k = k' + 1 := ⟨k - 1, by omega⟩
    have cj := cN_le (j := j) (by omega)
    have ce : cN (j + 1) = 2 * 2 ^ (j + 1) + 2 * cN j := rfl
    have hp8 : 2 ^ (j + 1) ≤ 8 := by
      calc 2 ^ (j + 1) ≤ 2 ^ 3 := Nat.pow_le_pow_right (by decide) (by omega)
        _ = 8 := rfl
    have hp8' : (2 : Int) ^ (j + 1) ≤ 8 := by rw [e3]; omega
    have hp1 : (1 : Int) ≤ 2 ^ (j + 1) := by rw [e3]; have := Nat.one_le_two_pow (n := j + 1); omega
    rw [ce] at hn
    generalize (2 : Int) ^ (j + 1 + 1) = L at *
    have et : ((2 : Int) ^ (j + 1)).toNat = 2 ^ (j + 1) := by rw [e3]; exact Int.toNat_natCast _
    simp [t_law_net, e1, e2, c2, lc3, irng3, cap, seq3, asg3, gn3, ret3, retN3, ifS3, drop3, nev3, next3, v3, c3, o3, u3, neg3, L3.ixT, L3.ixR, cat3, iI, iC, iB, eqA3, scalT, isN3, tb3, and3, or3, not3, andV3, orV3, notV3, if3, ch3, cb3, cons3, nil3, isi3, tyT, subT, tup3, lst3, tsl3, np3, sp3, gtup3, gcons3, gnil3, gsub3, set3, par3, start3, bm3, app3, ext3, len3, abs3, min3, max3, int3, tuple3, list3, all3, any3, aug3, cut3, HT.sIx, getL, in3, flatT, eqF, gu, sizeLine_eq, List.getElem?_cons_zero, List.getElem?_cons_succ]
    refine ⟨⟨by omega, by omega⟩, lc_picks (many := 2) (fun x0 G3 Q hq => by simpa [cb3, cons3, v3, c3, nil3] using hq) hL (by omega) (by omega) (by rw [rng_len, et]; omega) (by omega) fun ds G1 p d1 d2 L1 E1 hp => ?_⟩
    rw [rng_len, et] at d1
    rw [rng_len, et] at L1
    have np := L1.ne hp
    have L2' := L1.new np (ob := .lst (ds.map T.int))
    simp [gu_same]
    refine ⟨a, _, j, rfl, by omega, by omega, L2', by rw [← e3]; omega, fun u G2 N2 L3' E2 => ?_⟩
    simp
    refine ⟨a, _, j, rfl, by omega, by omega, L3', by rw [← e3]; omega, fun l G3 N3 L4' E3 => ?_⟩
    simp
    refine ⟨⟨by omega, by omega⟩, lc_picks (many := 2) (fun x0 G3 Q hq => by simpa [cb3, cons3, v3, c3, nil3] using hq) L4' (by omega) (by omega) (by rw [rng_len, et]; omega) (by rw [← e3]; omega) fun es G4 p4 f1 f2 L5' E4 hp4 => ?_⟩
    rw [rng_len, et] at f1
    rw [rng_len, et] at L5'
    have np4 := L5'.ne hp4
    have L6' := L5'.new np4 (ob := .lst (es.map T.int))
    simp [gu_same]
    refine h _ _ ⟨ds, es, u, l, rfl, d1, f1, d2, f2, N2, N3⟩ (L6'.mono ?_) (E1.trans ((ext_new hp).trans (E2.trans (E3.trans (E4.trans (ext_new hp4))))))
    rw [ce, ← e3]; omega
end K55
set_option Elab.async false
set_option linter.all false
set_option maxRecDepth 100000
set_option maxHeartbeats 4000000
namespace K55
open PySem L2 L3 Bk
theorem seq_i {A B : TS3} {d : Ends3} {τ : St3} {G : Gp} (h : ∀ nx, nx = B d → A { d with nx := nx } τ G) : seq3 A B d τ G := h _ rfl
theorem getL_lst {G : Gp} {p : Addr} {xs : List T} (h : G p = some (.lst xs)) : getL G p = some xs := by unfold getL; rw [h]
def off (a : Addr) (G : Gp) : Gp := fun b => if b = a then none else G b
theorem off_ex {a : Addr} {G G' : Gp} (E : Ext a G G') : Ex (off a G) (off a G') := fun b o h => by
  unfold off at h ⊢
  by_cases e : b = a
  · rw [if_pos e] at h; cases h
  · rw [if_neg e] at h ⊢; exact E _ _ e h
theorem off_in {a : Addr} {G : Gp} : Ex (off a G) G := fun b o h => by
  unfold off at h
  by_cases e : b = a
  · rw [if_pos e] at h; cases h
  · rw [if_neg e] at h; exact h
theorem off_get {a p : Addr} {G : Gp} {xs : List T} (h : G p = some (.lst xs)) (ne : p ≠ a) : getL (off a G) p = some xs := by
  unfold getL off; rw [if_neg ne, h]
theorem cut_ds {G : Gp} {k n : Nat} {xs : List T} (h : DSs G k n xs) (lo hi : Option Int) : DSs G k n (cut3 xs lo hi) := (h.drop _).take _
theorem cut_len {α : Type} (xs : List α) (lo hi : Option Int) : (cut3 xs lo hi).length ≤ xs.length := by
  unfold cut3; rw [List.length_take, List.length_drop]; omega
def sp_law_bad : Sp3 := fun ts G q => ∃ a n j t, ts = [.ref a, t] ∧ j ≤ 3 ∧ Net j t ∧ Lf G a n ∧ n < 10000000 ∧ ∀ t' G', DS (off a G') 12 1000 t' → Lf G' a (n + 4) → Ext a G G' → q t' G'
theorem atI_mem {xs : List T} {d : Int} (h0 : 0 ≤ d) (h1 : d < (xs.length : Int)) : ∃ z, L2.atI xs d = some z ∧ z ∈ xs := by
  rw [atI_nat' h0 h1]
  have : d.toNat < xs.length := by omega
  exact ⟨xs[d.toNat], List.getElem?_eq_getElem this, List.getElem_mem this⟩
theorem odd_list {a p1 : Addr} {G : Gp} (h : G p1 = some (.lst [.int 0])) (ne : p1 ≠ a) {d : Int} (d0 : 0 ≤ d) (d1 : d < 11) :
    ∃ z, L2.atI [T.int 2, .int (-1), .bl true, .bl false, .non, .str (Str.ofString "0"), .tup [], .tup [.int 0], .ref p1, .tup [.int 0, .int 0], .tup [.int 0, .int 1, .int 0, .int 1]] d = some z ∧ DS (off a G) 9 100 z := by
  have z0 : ∀ k n, DS (off a G) k n (.int 0) := fun k n => ds_int _ _ _ (by omega)
  have z1 : ∀ k n, DS (off a G) k n (.int 1) := fun k n => ds_int _ _ _ (by omega)
  have all : ∀ z ∈ [T.int 2, .int (-1), .bl true, .bl false, .non, .str (Str.ofString "0"), .tup [], .tup [.int 0], .ref p1, .tup [.int 0, .int 0], .tup [.int 0, .int 1, .int 0, .int 1]], DS (off a G) 9 100 z := by
    intro z hz
    simp only [List.mem_cons, List.not_mem_nil, or_false] at hz
    rcases hz with rfl | rfl | rfl | rfl | rfl | rfl | rfl | rfl | rfl | rfl | rfl
    · exact ds_int _ _ _ (by omega)
    · exact ds_int _ _ _ (by omega)
    · exact ds_bl _ _ _ _
    · exact ds_bl _ _ _ _
    · exact ds_non _ _ _
    · exact ds_str _ _ _ (by decide) (by decide)
    · exact ds_tup (dss_nil _ _ _)
    · exact ds_tup (dss_cons (z0 8 0) (dss_nil _ _ 0) (by decide))
    · exact ds_lst (off_get h ne) (dss_cons (z0 8 0) (dss_nil _ _ 0) (by decide))
    · exact ds_tup (dss_cons (z0 8 0) (dss_cons (z0 8 0) (dss_nil _ _ 0) (Nat.le_refl _)) (by decide))
    · exact ds_tup (dss_cons (z0 8 0) (dss_cons (z1 8 0) (dss_cons (z0 8 0) (dss_cons (z1 8 0) (dss_nil _ _ 0) (Nat.le_refl _)) (Nat.le_refl _)) (Nat.le_refl _)) (by decide))
  obtain ⟨z, hz, hm⟩ := atI_mem (xs := [T.int 2, .int (-1), .bl true, .bl false, .non, .str (Str.ofString "0"), .tup [], .tup [.int 0], .ref p1, .tup [.int 0, .int 0], .tup [.int 0, .int 1, .int 0, .int 1]]) d0 (by simpa using d1)
  exact ⟨z, hz, all z hm⟩
theorem rd_law_bad : ∀ ts G q, sp_law_bad ts G q → ts.length = 2 ∧ t_law_bad sp_law_pick (ends q) (start3 ["_law_left_here", "_law_net_here", "_law_odd", "_law_way", "_law_at", "_law_side", "_law_place", "_law_some"] ts) G := by
  rintro ts G q ⟨a, n, j, t, rfl, hj, N, hL, hn, h⟩
  refine ⟨rfl, ?_⟩
  unfold t_law_bad
  refine seq_i fun nx1 q1 => ?_
  simp [seq3, asg3, gn3, ret3, retN3, ifS3, drop3, nev3, next3, v3, c3, o3, u3, neg3, L3.ixT, L3.ixR, cat3, iI, iC, iB, eqA3, scalT, isN3, tb3, and3, or3, not3, andV3, orV3, notV3, if3, ch3, cb3, cons3, nil3, isi3, tyT, subT, tup3, lst3, tsl3, np3, sp3, gtup3, gcons3, gnil3, gsub3, set3, par3, start3, bm3, app3, ext3, len3, abs3, min3, max3, int3, tuple3, list3, all3, any3, aug3, cut3, HT.sIx, in3, flatT, eqF, sizeLine_eq, List.getElem?_cons_zero, List.getElem?_cons_succ]
  intro p1 hp1 p2 hp2
  have n1 := hL.ne hp1
  have hL1 := hL.new n1 (ob := .lst [.int 0])
  have n2 := hL1.ne hp2
  have ne12 : p1 ≠ p2 := by rintro rfl; rw [gu_same] at hp2; cases hp2
  refine pick_i (hL1.new n2) (by omega) (by omega) (by omega) fun d G1 d0 d1 L1 E1 => ?_
  have g1 : G1 p1 = some (.lst [.int 0]) := E1 _ _ n1 (by rw [gu_ne ne12, gu_same])
  have g2 := getL_lst (E1 _ _ n2 gu_same)
  have X1 : Ext a G G1 := ((ext_new hp1).trans (ext_new hp2)).trans E1
  obtain ⟨z, hz, dz⟩ := odd_list g1 n1 d0 d1
  simp only [L3.ixR, g2, hz, gn3, List.set_cons_succ, List.set_cons_zero]
  rw [q1]
  clear q1 g1 g2 hz E1 hp2 hp1
  cases j with
  | zero =>
    obtain ⟨i, rfl, i1, i2⟩ := N
    refine seq_i fun nx2 q2 => ?_
    simp [seq3, asg3, gn3, ret3, retN3, ifS3, drop3, nev3, next3, v3, c3, o3, u3, neg3, L3.ixT, L3.ixR, cat3, iI, iC, iB, eqA3, scalT, isN3, tb3, and3, or3, not3, andV3, orV3, notV3, if3, ch3, cb3, cons3, nil3, isi3, tyT, subT, tup3, lst3, tsl3, np3, sp3, gtup3, gcons3, gnil3, gsub3, set3, par3, start3, bm3, app3, ext3, len3, abs3, min3, max3, int3, tuple3, list3, all3, any3, aug3, cut3, HT.sIx, in3, flatT, eqF, sizeLine_eq, List.getElem?_cons_zero, List.getElem?_cons_succ]
    exact h z G1 (dz.mono (by omega) (by omega)) (L1.mono (by omega)) X1
  | succ j =>
    have D0 : ∀ G, ∃ j', 1 + (j + 1) = j' + 1 ∧ ∀ xs, t = .tup xs → DSs G j' 100 xs := by
      intro G
      refine ⟨j + 1, by omega, fun xs e => ?_⟩
      have := (N.ds G)
      rw [e] at this
      obtain ⟨j', e', D⟩ := ds_items this
      refine D.mono (by omega) ?_
      rcases j with _ | _ | _ | j
      · decide
      · decide
      · decide
      · omega
    obtain ⟨f, s, u, l, rfl, lf, ls, bf, bs, Nu, Nl⟩ := N
    have DD : ∀ G, DSs G 9 100 [T.tup (f.map T.int), u, l, T.tup (s.map T.int)] := fun G => by
      obtain ⟨j', e, k⟩ := D0 G
      exact (k _ rfl).mono (by omega) (Nat.le_refl _)
    have m1 : 1 ≤ 2 ^ (j + 1) := Nat.one_le_two_pow
    have m8 : 2 ^ (j + 1) ≤ 8 := by
      calc 2 ^ (j + 1) ≤ 2 ^ 3 := Nat.pow_le_pow_right (by decide) (by omega)
        _ = 8 := rfl
    generalize 2 ^ (j + 1) = m at *
    refine seq_i fun nx2 q2 => ?_
    simp [seq3, asg3, gn3, ret3, retN3, ifS3, drop3, nev3, next3, v3, c3, o3, u3, neg3, L3.ixT, L3.ixR, cat3, iI, iC, iB, eqA3, scalT, isN3, tb3, and3, or3, not3, andV3, orV3, notV3, if3, ch3, cb3, cons3, nil3, isi3, tyT, subT, tup3, lst3, tsl3, np3, sp3, gtup3, gcons3, gnil3, gsub3, set3, par3, start3, bm3, app3, ext3, len3, abs3, min3, max3, int3, tuple3, list3, all3, any3, aug3, cut3, HT.sIx, in3, flatT, eqF, sizeLine_eq, List.getElem?_cons_zero, List.getElem?_cons_succ]
    rw [q2]
    clear q2
    refine seq_i fun nx3 q3 => ?_
    simp [seq3, asg3, gn3, ret3, retN3, ifS3, drop3, nev3, next3, v3, c3, o3, u3, neg3, L3.ixT, L3.ixR, cat3, iI, iC, iB, eqA3, scalT, isN3, tb3, and3, or3, not3, andV3, orV3, notV3, if3, ch3, cb3, cons3, nil3, isi3, tyT, subT, tup3, lst3, tsl3, np3, sp3, gtup3, gcons3, gnil3, gsub3, set3, par3, start3, bm3, app3, ext3, len3, abs3, min3, max3, int3, tuple3, list3, all3, any3, aug3, cut3, HT.sIx, in3, flatT, eqF, sizeLine_eq, List.getElem?_cons_zero, List.getElem?_cons_succ]
    refine pick_i L1 (by omega) (by omega) (by omega) fun way G2 w0 w1 L2' E2 => ?_
    try simp
    refine pick_i L2' (by omega) (by omega) (by omega) fun at_ G3 a0 a1 L3' E3 => ?_
    have X3 : Ext a G G3 := X1.trans (E2.trans E3)
    have dz3 : DS (off a G3) 9 100 z := dz.up (off_ex (E2.trans E3))
    try simp
    rw [q3]
    clear q3
    have D3 := DD (off a G3)
    generalize hxs : [T.tup (f.map T.int), u, l, T.tup (s.map T.int)] = xs at *
    have xl : xs.length = 4 := by rw [← hxs]; rfl
    have cl := fun lo hi => cut_len xs lo hi
    have cd := fun lo hi => cut_ds D3 lo hi
    refine seq_i fun nx4 q4 => ?_
    by_cases k0 : way = 0
    · subst k0
      have c1 := cl none (some at_); have c2 := cl (some (at_ + 1)) none
      simp [tslA3, slA3, catA3, seq3, asg3, gn3, ret3, retN3, ifS3, drop3, nev3, next3, v3, c3, o3, u3, neg3, L3.ixT, L3.ixR, cat3, iI, iC, iB, eqA3, scalT, isN3, tb3, and3, or3, not3, andV3, orV3, notV3, if3, ch3, cb3, cons3, nil3, isi3, tyT, subT, tup3, lst3, tsl3, np3, sp3, gtup3, gcons3, gnil3, gsub3, set3, par3, start3, bm3, app3, ext3, len3, abs3, min3, max3, int3, tuple3, list3, all3, any3, aug3, sizeLine_eq, List.getElem?_cons_zero, List.getElem?_cons_succ]
      refine ⟨by omega, by omega, h _ G3 (ds_tup (((cd _ _).append (dss_cons dz3 ((cd _ _)) (Nat.le_refl _))).mono (by omega) (by omega))) (L3'.mono (by omega)) X3⟩
    simp only [ifS3, tb3, o3, v3, c3, eqA3, scalT, List.getElem?_cons_zero, List.getElem?_cons_succ, k0, decide_false, Bool.false_eq_true, if_false, next3]
    rw [q4]
    clear q4
    refine seq_i fun nx5 q5 => ?_
    by_cases k1 : way = 1
    · subst k1
      have c1 := cl none (some at_); have c2 := cl (some (at_ + 1)) none
      simp [tslA3, slA3, catA3, seq3, asg3, gn3, ret3, retN3, ifS3, drop3, nev3, next3, v3, c3, o3, u3, neg3, L3.ixT, L3.ixR, cat3, iI, iC, iB, eqA3, scalT, isN3, tb3, and3, or3, not3, andV3, orV3, notV3, if3, ch3, cb3, cons3, nil3, isi3, tyT, subT, tup3, lst3, tsl3, np3, sp3, gtup3, gcons3, gnil3, gsub3, set3, par3, start3, bm3, app3, ext3, len3, abs3, min3, max3, int3, tuple3, list3, all3, any3, aug3, sizeLine_eq, List.getElem?_cons_zero, List.getElem?_cons_succ]
      refine ⟨by omega, h _ G3 (ds_tup (((cd _ _).append (cd _ _)).mono (by omega) (by omega))) (L3'.mono (by omega)) X3⟩
    simp only [ifS3, tb3, o3, v3, c3, eqA3, scalT, List.getElem?_cons_zero, List.getElem?_cons_succ, k1, decide_false, Bool.false_eq_true, if_false, next3]
    rw [q5]
    clear q5
    refine seq_i fun nx6 q6 => ?_
    by_cases k2 : way = 2
    · subst k2
      have c1 := cl none (some at_); have c2 := cl (some at_) (some (at_ + 1)); have c3' := cl (some at_) none
      simp [tslA3, slA3, catA3, seq3, asg3, gn3, ret3, retN3, ifS3, drop3, nev3, next3, v3, c3, o3, u3, neg3, L3.ixT, L3.ixR, cat3, iI, iC, iB, eqA3, scalT, isN3, tb3, and3, or3, not3, andV3, orV3, notV3, if3, ch3, cb3, cons3, nil3, isi3, tyT, subT, tup3, lst3, tsl3, np3, sp3, gtup3, gcons3, gnil3, gsub3, set3, par3, start3, bm3, app3, ext3, len3, abs3, min3, max3, int3, tuple3, list3, all3, any3, aug3, sizeLine_eq, List.getElem?_cons_zero, List.getElem?_cons_succ]
      refine ⟨by omega, by omega, h _ G3 (ds_tup (((cd _ _).append ((cd _ _).append (cd _ _))).mono (by omega) (by omega))) (L3'.mono (by omega)) X3⟩
    simp only [ifS3, tb3, o3, v3, c3, eqA3, scalT, List.getElem?_cons_zero, List.getElem?_cons_succ, k2, decide_false, Bool.false_eq_true, if_false, next3]
    rw [q6]
    clear q6
    refine seq_i fun nx7 q7 => ?_
    by_cases k3 : way = 3
    · subst k3
      simp [list3, seq3, asg3, gn3, ret3, retN3, ifS3, drop3, nev3, next3, v3, c3, o3, u3, neg3, L3.ixT, L3.ixR, cat3, iI, iC, iB, eqA3, scalT, isN3, tb3, and3, or3, not3, andV3, orV3, notV3, if3, ch3, cb3, cons3, nil3, isi3, tyT, subT, tup3, lst3, tsl3, np3, sp3, gtup3, gcons3, gnil3, gsub3, set3, par3, start3, bm3, app3, ext3, len3, abs3, min3, max3, int3, tuple3, list3, all3, any3, aug3, sizeLine_eq, List.getElem?_cons_zero, List.getElem?_cons_succ]
      intro p hp
      have np := L3'.ne hp
      refine h _ _ (ds_lst (off_get gu_same np) ((D3.up (off_ex (ext_new hp))).mono (by omega) (by omega))) ((L3'.new np).mono (by omega)) (X3.trans (ext_new hp))
    simp only [ifS3, tb3, o3, v3, c3, eqA3, scalT, List.getElem?_cons_zero, List.getElem?_cons_succ, k3, decide_false, Bool.false_eq_true, if_false, next3]
    rw [q7]
    clear q7
    refine seq_i fun nx8 q8 => ?_
    have side : ∃ fs : List Int, L2.atI xs (3 * (at_ / 2)) = some (T.tup (fs.map T.int)) ∧ fs.length = m ∧ Bits fs := by
      rw [← hxs]
      by_cases hh : at_ < 2
      · have e : at_ / 2 = 0 := by omega
        rw [e]
        exact ⟨f, rfl, lf, bf⟩
      · have e : at_ / 2 = 1 := by omega
        rw [e]
        exact ⟨s, rfl, ls, bs⟩
    obtain ⟨fs, sx, lfs, bfs⟩ := side
    simp [seq3, asg3, gn3, ret3, retN3, ifS3, drop3, nev3, next3, v3, c3, o3, u3, neg3, L3.ixT, L3.ixR, cat3, iI, iC, iB, eqA3, scalT, isN3, tb3, and3, or3, not3, andV3, orV3, notV3, if3, ch3, cb3, cons3, nil3, isi3, tyT, subT, tup3, lst3, tsl3, np3, sp3, gtup3, gcons3, gnil3, gsub3, set3, par3, start3, bm3, app3, ext3, len3, abs3, min3, max3, int3, tuple3, list3, all3, any3, aug3, sizeLine_eq, List.getElem?_cons_zero, List.getElem?_cons_succ]
    refine ⟨⟨by omega, by omega⟩, cm (by omega) (by omega), ?_⟩
    rw [sx]
    try simp
    rw [q8]
    clear q8
    refine seq_i fun nx9 q9 => ?_
    simp [lfs, seq3, asg3, gn3, ret3, retN3, ifS3, drop3, nev3, next3, v3, c3, o3, u3, neg3, L3.ixT, L3.ixR, cat3, iI, iC, iB, eqA3, scalT, isN3, tb3, and3, or3, not3, andV3, orV3, notV3, if3, ch3, cb3, cons3, nil3, isi3, tyT, subT, tup3, lst3, tsl3, np3, sp3, gtup3, gcons3, gnil3, gsub3, set3, par3, start3, bm3, app3, ext3, len3, abs3, min3, max3, int3, tuple3, list3, all3, any3, aug3, sizeLine_eq, List.getElem?_cons_zero, List.getElem?_cons_succ]
    refine pick_i L3' (by omega) (by omega) (by omega) fun pl G4 b0 b1 L4' E4 => ?_
    have X4 : Ext a G G4 := X3.trans E4
    have dz4 : DS (off a G4) 9 100 z := dz3.up (off_ex E4)
    have D4 : DSs (off a G4) 9 100 xs := D3.up (off_ex E4)
    try simp
    rw [q9]
    clear q9
    have F4 : DSs (off a G4) 9 8 (fs.map T.int) := (dss_ints _ 9 (ns := fs) fun n hn => by have := bfs n hn; omega).mono (Nat.le_refl _) (by omega)
    have d1' := cut_len (fs.map T.int) none (some pl); have d2' := cut_len (fs.map T.int) (some (pl + 1)) none
    have hfl : (fs.map T.int).length = m := by simpa using lfs
    have sm : DS (off a G4) 10 300 (.tup (cut3 (fs.map T.int) none (some pl) ++ (z :: cut3 (fs.map T.int) (some (pl + 1)) none))) :=
      ds_tup (((cut_ds F4 _ _).append (dss_cons dz4 (cut_ds F4 _ _) (Nat.le_refl _))).mono (Nat.le_refl _) (by omega))
    refine seq_i fun nx10 q10 => ?_
    simp [tslA3, slA3, catA3, seq3, asg3, gn3, ret3, retN3, ifS3, drop3, nev3, next3, v3, c3, o3, u3, neg3, L3.ixT, L3.ixR, cat3, iI, iC, iB, eqA3, scalT, isN3, tb3, and3, or3, not3, andV3, orV3, notV3, if3, ch3, cb3, cons3, nil3, isi3, tyT, subT, tup3, lst3, tsl3, np3, sp3, gtup3, gcons3, gnil3, gsub3, set3, par3, start3, bm3, app3, ext3, len3, abs3, min3, max3, int3, tuple3, list3, all3, any3, aug3, sizeLine_eq, List.getElem?_cons_zero, List.getElem?_cons_succ]
    refine ⟨by omega, by omega, ?_⟩
    rw [q10]
    clear q10
    generalize cut3 (fs.map T.int) none (some pl) ++ (z :: cut3 (fs.map T.int) (some (pl + 1)) none) = so at *
    have c1 := cl (some 1) none; have c2 := cl none (some 3)
    have cd4 := fun lo hi => cut_ds D4 lo hi
    by_cases hh : at_ < 2
    · simp [hh, tslA3, slA3, catA3, seq3, asg3, gn3, ret3, retN3, ifS3, drop3, nev3, next3, v3, c3, o3, u3, neg3, L3.ixT, L3.ixR, cat3, iI, iC, iB, eqA3, scalT, isN3, tb3, and3, or3, not3, andV3, orV3, notV3, if3, ch3, cb3, cons3, nil3, isi3, tyT, subT, tup3, lst3, tsl3, np3, sp3, gtup3, gcons3, gnil3, gsub3, set3, par3, start3, bm3, app3, ext3, len3, abs3, min3, max3, int3, tuple3, list3, all3, any3, aug3, sizeLine_eq, List.getElem?_cons_zero, List.getElem?_cons_succ]
      refine ⟨by omega, h _ G4 (DS.mono (ds_tup (dss_cons sm ((cd4 (some 1) none).mono (by omega) (Nat.le_refl _)) (Nat.le_refl _))) (by omega) (by omega)) (L4'.mono (by omega)) X4⟩
    · simp [hh, tslA3, slA3, catA3, seq3, asg3, gn3, ret3, retN3, ifS3, drop3, nev3, next3, v3, c3, o3, u3, neg3, L3.ixT, L3.ixR, cat3, iI, iC, iB, eqA3, scalT, isN3, tb3, and3, or3, not3, andV3, orV3, notV3, if3, ch3, cb3, cons3, nil3, isi3, tyT, subT, tup3, lst3, tsl3, np3, sp3, gtup3, gcons3, gnil3, gsub3, set3, par3, start3, bm3, app3, ext3, len3, abs3, min3, max3, int3, tuple3, list3, all3, any3, aug3, sizeLine_eq, List.getElem?_cons_zero, List.getElem?_cons_succ]
      refine ⟨by omega, h _ G4 (DS.mono (ds_tup (((cd4 none (some 3)).mono (by omega) (Nat.le_refl _)).append (dss_cons sm (dss_nil _ _ 0) (Nat.le_refl _)))) (by omega) (by omega)) (L4'.mono (by omega)) X4⟩
end K55
set_option Elab.async false
set_option linter.all false
set_option maxRecDepth 100000
set_option maxHeartbeats 4000000
namespace K55
open PySem L2 L3 Bk
def Ths (a : Addr) (G : Gp) (xs : List T) : Prop := ∀ t ∈ xs, DS (off a G) 12 1000 t
theorem Ths.up {a : Addr} {G G' : Gp} {xs : List T} (h : Ths a G xs) (E : Ext a G G') : Ths a G' xs := fun t ht => (h t ht).up (off_ex E)
theorem lc_bad {a : Addr} {n : Int} {j : Nat} {t : T} {G : Gp} {q : Q3} (hL : Lf G a n) (hn : n < 1000000) (hj : j ≤ 3) (N : Net j t)
    (h : ∀ ys G' p, ys.length = 5 → Ths a G' ys → Lf G' a (n + 20) → Ext a G G' → G' p = none → q (.ref p) (gu G' p (.lst ys))) :
    lcGo (fun _ => True) (gn3 0) tt3 (cb3 sp_law_bad (cons3 (v3 1) (cons3 (v3 2) nil3))) q (rngT 0 5) [] [none, some (.ref a), some t] G := by
  refine lcGo_inv _ (fun i ys τ G' => ys.length = i ∧ Ths a G' ys ∧ Lf G' a (n + 4 * i) ∧ Ext a G G' ∧ ∃ x0, τ = [x0, some (.ref a), some t]) ⟨rfl, (by intro t ht; cases ht), by simpa using hL, Ext.refl, none, rfl⟩ (fun _ _ _ _ _ _ => True.intro) ?_ ?_
  · rintro i z ys τ G' R hz ⟨e, th, L, E, x0, rfl⟩ hR
    obtain ⟨hi, rfl⟩ := rng_get hz
    simp [tt3, seq3, asg3, gn3, ret3, retN3, ifS3, drop3, nev3, next3, v3, c3, o3, u3, neg3, L3.ixT, L3.ixR, cat3, iI, iC, iB, eqA3, scalT, isN3, tb3, and3, or3, not3, andV3, orV3, notV3, if3, ch3, cb3, cons3, nil3, isi3, tyT, subT, tup3, lst3, tsl3, np3, sp3, gtup3, gcons3, gnil3, gsub3, set3, par3, start3, bm3, app3, ext3, len3, abs3, min3, max3, int3, tuple3, list3, all3, any3, aug3, cut3, HT.sIx, in3, flatT, eqF, sizeLine_eq, List.getElem?_cons_zero, List.getElem?_cons_succ]
    refine ⟨a, _, j, t, rfl, hj, N, L, by omega, fun t' G2 d2 L2' E2 => ⟨by rw [e]; omega, hR _ _ _ ⟨by simp [e], ?_, L2'.mono (by omega), E.trans E2, _, rfl⟩⟩⟩
    intro x hx
    rcases List.mem_append.mp hx with hx | hx
    · exact (th x hx).up (off_ex E2)
    · simp at hx; subst hx; exact d2
  · rintro ys τ G' ⟨e, th, L, E, x0, rfl⟩ p hp
    have l5 : (rngT 0 5).length = 5 := rng_len _ _
    rw [l5] at e L
    exact h ys G' p e th (L.mono (by omega)) E hp
theorem tg_of {G : Gp} {k n : Nat} {t : T} (h : DS G k n t) : Tg G t := let ⟨d, a, _⟩ := h; ⟨d, a⟩
theorem lanes_ix {d : Int} (d0 : 0 ≤ d) (d1 : d < 4) : L2.atI [T.int 2, .int 4, .int 8, .int 16] d = some (.int (2 ^ (d.toNat + 1))) := by
  have : d = 0 ∨ d = 1 ∨ d = 2 ∨ d = 3 := by omega
  rcases this with rfl | rfl | rfl | rfl <;> rfl
theorem four_get {i : Nat} {x : T} (h : [T.int 2, .int 4, .int 8, .int 16][i]? = some x) : i ≤ 3 ∧ x = .int (2 ^ (i + 1)) := by
  match i, h with
  | 0, h => exact ⟨by omega, by simpa using h.symm⟩
  | 1, h => exact ⟨by omega, by simpa using h.symm⟩
  | 2, h => exact ⟨by omega, by simpa using h.symm⟩
  | 3, h => exact ⟨by omega, by simpa using h.symm⟩
  | i + 4, h => simp at h
theorem rd_law : ∀ ts G q, sp_top ts G q → ts.length = 1 ∧ t_law sp_law_left sp_law_pick (sp_law_net 4) sp_law_bad (sp_is_net 4) (sp_law_is_net 4) (ends q) (start3 ["_law_script", "_law_k", "_law_left_here", "_law_lanes", "_law_net_here", "_law_things", "_law_thing", "_law_kept", "_law_some", "_law_found"] ts) G := by
  rintro ts G q ⟨a, ns, rfl, hG, hl, h⟩
  refine ⟨rfl, ?_⟩
  unfold t_law
  refine seq_i fun nx0 q0 => ?_
  simp only [for3, irng3, cons3, nil3, o3, c3, cb3, v3, len3, min3, cat3, start3, List.map, List.length, List.getElem?_cons_zero]
  simp [hG, getL]
  refine ⟨⟨by split <;> omega, by split <;> omega⟩, ?_⟩
  refine forGo_inv _ (fun _ τ G' => G' a = some (.frz (ns.map T.int)) ∧ ∃ x1 x2 x3 x4 x5 x6 x7 x8 x9, τ = [some (.ref a), x1, x2, x3, x4, x5, x6, x7, x8, x9]) ⟨hG, none, none, none, none, none, none, none, none, none, rfl⟩ (fun _ _ _ _ _ => True.intro) ?_ ?_
  · rintro n z τ G' nx hz ⟨gA, x1, x2, x3, x4, x5, x6, x7, x8, x9, rfl⟩ hn
    obtain ⟨hi, rfl⟩ := rng_get hz
    have hn8 : n < 9 := by split at hi <;> omega
    simp only [gn3, List.set_cons_succ, List.set_cons_zero]
    refine seq_i fun nx1 q1 => ?_
    simp [seq3, asg3, gn3, ret3, retN3, ifS3, drop3, nev3, next3, v3, c3, o3, u3, neg3, L3.ixT, L3.ixR, cat3, iI, iC, iB, eqA3, scalT, isN3, tb3, and3, or3, not3, andV3, orV3, notV3, if3, ch3, cb3, cons3, nil3, isi3, tyT, subT, tup3, lst3, tsl3, np3, sp3, gtup3, gcons3, gnil3, gsub3, set3, par3, start3, bm3, app3, ext3, len3, abs3, min3, max3, int3, tuple3, list3, all3, any3, aug3, cut3, HT.sIx, in3, flatT, eqF, sizeLine_eq, List.getElem?_cons_zero, List.getElem?_cons_succ]
    refine ⟨a, n, ns, rfl, gA, hl, by omega, by omega, fun p o c hp ho => ?_⟩
    have pa : a ≠ p := by rintro rfl; rw [gA] at hp; cases hp
    have M0 : Lf (gu G' p (.lst [.int o, .int c, .int 0])) p 0 := ⟨o, c, 0, gu_same, ho, by omega, by omega⟩
    have g0 : (gu G' p (.lst [.int o, .int c, .int 0])) a = some (.frz (ns.map T.int)) := by rw [gu_ne pa]; exact gA
    generalize gu G' p (.lst [.int o, .int c, .int 0]) = G0 at M0 g0
    rw [q1]
    clear q1
    refine seq_i fun nx2 q2 => ?_
    simp [seq3, asg3, gn3, ret3, retN3, ifS3, drop3, nev3, next3, v3, c3, o3, u3, neg3, L3.ixT, L3.ixR, cat3, iI, iC, iB, eqA3, scalT, isN3, tb3, and3, or3, not3, andV3, orV3, notV3, if3, ch3, cb3, cons3, nil3, isi3, tyT, subT, tup3, lst3, tsl3, np3, sp3, gtup3, gcons3, gnil3, gsub3, set3, par3, start3, bm3, app3, ext3, len3, abs3, min3, max3, int3, tuple3, list3, all3, any3, aug3, cut3, HT.sIx, in3, flatT, eqF, sizeLine_eq, List.getElem?_cons_zero, List.getElem?_cons_succ]
    intro p2 hp2
    have n2 := M0.ne hp2
    refine pick_i (M0.new n2) (by omega) (by omega) (by omega) fun d G1 d0 d1 M1 E1 => ?_
    have g2 := getL_lst (E1 _ _ n2 gu_same)
    have X1 : Ext p G0 G1 := (ext_new hp2).trans E1
    simp only [L3.ixR, g2, lanes_ix d0 d1, gn3, List.set_cons_succ, List.set_cons_zero]
    rw [q2]
    clear q2 g2 E1 hp2
    have hd3 : d.toNat ≤ 3 := by omega
    generalize d.toNat = j at hd3
    refine seq_i fun nx3 q3 => ?_
    simp [seq3, asg3, gn3, ret3, retN3, ifS3, drop3, nev3, next3, v3, c3, o3, u3, neg3, L3.ixT, L3.ixR, cat3, iI, iC, iB, eqA3, scalT, isN3, tb3, and3, or3, not3, andV3, orV3, notV3, if3, ch3, cb3, cons3, nil3, isi3, tyT, subT, tup3, lst3, tsl3, np3, sp3, gtup3, gcons3, gnil3, gsub3, set3, par3, start3, bm3, app3, ext3, len3, abs3, min3, max3, int3, tuple3, list3, all3, any3, aug3, cut3, HT.sIx, in3, flatT, eqF, sizeLine_eq, List.getElem?_cons_zero, List.getElem?_cons_succ]
    have cj := cN_le hd3
    refine ⟨p, _, j, rfl, by omega, by omega, M1, by omega, fun t G2 N M2 E2 => ?_⟩
    have M2 := M2.mono (show 0 + 1 + cN j ≤ 61 by omega)
    have X2 := X1.trans E2
    rw [q3]
    clear q3 X1 E2
    refine seq_i fun nx4 q4 => ?_
    simp [lc3, irng3, cap, seq3, asg3, gn3, ret3, retN3, ifS3, drop3, nev3, next3, v3, c3, o3, u3, neg3, L3.ixT, L3.ixR, cat3, iI, iC, iB, eqA3, scalT, isN3, tb3, and3, or3, not3, andV3, orV3, notV3, if3, ch3, cb3, cons3, nil3, isi3, tyT, subT, tup3, lst3, tsl3, np3, sp3, gtup3, gcons3, gnil3, gsub3, set3, par3, start3, bm3, app3, ext3, len3, abs3, min3, max3, int3, tuple3, list3, all3, any3, aug3, cut3, HT.sIx, in3, flatT, eqF, sizeLine_eq, List.getElem?_cons_zero, List.getElem?_cons_succ]
    intro p3 hp3
    have n3 := M2.ne hp3
    refine lc_bad (M2.new n3) (by omega) hd3 N fun ys G3 p4 hy th M3 E3 hp4 => ?_
    have n4 := M3.ne hp4
    have g3 := E3 _ _ n3 gu_same
    have ne34 : p3 ≠ p4 := by rintro rfl; rw [g3] at hp4; cases hp4
    have g3' : gu G3 p4 (.lst ys) p3 = some (.lst [t, .tup [], .non, .int 0, .int 1, .bl true]) := by rw [gu_ne ne34]; exact g3
    have g4' : gu G3 p4 (.lst ys) p4 = some (.lst ys) := gu_same
    have X3 : Ext p G0 (gu G3 p4 (.lst ys)) := X2.trans ((ext_new hp3).trans (E3.trans (ext_new hp4)))
    have th3 := th.up (ext_new (a := p) (ob := .lst ys) hp4)
    have M4 := M3.new n4 (ob := .lst ys)
    generalize gu G3 p4 (.lst ys) = G4 at *
    simp only [cat3, g3', g4']
    refine ⟨by simp [hy, sizeLine_eq], fun p5 hp5 => ?_⟩
    have n5 := M4.ne hp5
    have g5 : gu G4 p5 (.lst ([t, .tup [], .non, .int 0, .int 1, .bl true] ++ ys)) p5 = some (.lst ([t, .tup [], .non, .int 0, .int 1, .bl true] ++ ys)) := gu_same
    have X5 : Ext p G0 (gu G4 p5 (.lst ([t, .tup [], .non, .int 0, .int 1, .bl true] ++ ys))) := X3.trans (ext_new hp5)
    have dt : ∀ G, DS G 12 1000 t := fun G => (N.ds G).mono (by omega) (by
      rcases j with _ | _ | _ | _ | j
      · decide
      · decide
      · decide
      · decide
      · omega)
    have tt : Ths p (gu G4 p5 (.lst ([t, .tup [], .non, .int 0, .int 1, .bl true] ++ ys))) ([t, .tup [], .non, .int 0, .int 1, .bl true] ++ ys) := by
      intro x hx
      rcases List.mem_append.mp hx with hx | hx
      · simp only [List.mem_cons, List.not_mem_nil, or_false] at hx
        rcases hx with rfl | rfl | rfl | rfl | rfl | rfl
        · exact dt _
        · exact ds_tup (dss_nil _ _ _)
        · exact ds_non _ _ _
        · exact ds_int _ _ _ (by omega)
        · exact ds_int _ _ _ (by omega)
        · exact ds_bl _ _ _ _
      · exact (th3 x hx).up (off_ex (ext_new hp5))
    generalize gu G4 p5 (.lst ([t, .tup [], .non, .int 0, .int 1, .bl true] ++ ys)) = G5 at *
    generalize [t, .tup [], .non, .int 0, .int 1, .bl true] ++ ys = things at *
    have g50 : G5 a = some (.frz (ns.map T.int)) := X5 _ _ pa g0
    rw [q4]
    clear q4 hp5 hp4 g3' g4' g3 hp3 X3 th3 th E3 hp
    refine seq_i fun nx5 q5 => ?_
    simp only [for3, iseq3, v3, List.getElem?_cons_zero, List.getElem?_cons_succ, getL_lst g5]
    refine forGo_inv _ (fun _ τ G' => Ex G5 G' ∧ ∃ x6 x7 x8 x9, τ = [some (.ref a), some (.int (n : Int)), some (.ref p), some (.int (2 ^ (j + 1))), some t, some (.ref p5), x6, x7, x8, x9]) ⟨Ex.refl, _, _, _, _, rfl⟩ (fun _ _ _ _ hp => hp.1.getL (getL_lst g5)) ?_ ?_
    · rintro i z τ G6 nx6 hz ⟨E6, y6, y7, y8, y9, rfl⟩ hn6
      have dz : DS G6 12 1000 z := (tt z (List.mem_of_getElem? hz)).up (off_in.trans E6)
      obtain ⟨x, hx⟩ := sh_text (st := true) dz (by omega) (by omega)
      simp only [gn3, List.set_cons_succ, List.set_cons_zero]
      refine seq_i fun nx7 q7 => ?_
      simp only [asg3, cb3, cons3, nil3, v3, show3, gn3, List.getElem?_cons_zero, List.getElem?_cons_succ, List.set_cons_succ, List.set_cons_zero]
      refine hx _ Ex.refl _ ?_
      rw [q7]
      clear q7
      simp only [for3, iseq3, tup3, cons3, nil3, c3]
      refine ⟨by simp [sizeLine_eq], ?_⟩
      refine forGo_inv _ (fun _ τ G' => Ex G6 G' ∧ ∃ x8 x9, τ = [some (.ref a), some (.int (n : Int)), some (.ref p), some (.int (2 ^ (j + 1))), some t, some (.ref p5), some z, some (.str x), x8, x9]) ⟨Ex.refl, _, _, rfl⟩ (fun _ _ _ _ _ => True.intro) ?_ ?_
      · rintro k w τ G7 nx8 hw ⟨E7, z8, z9, rfl⟩ hn8'
        obtain ⟨hk, rfl⟩ := four_get hw
        simp only [gn3, List.set_cons_succ, List.set_cons_zero]
        refine seq_i fun nx9 q9 => ?_
        simp only [asg3, cb3, cons3, nil3, v3, gn3, List.getElem?_cons_zero, List.getElem?_cons_succ, List.set_cons_succ, List.set_cons_zero]
        refine ⟨z, k, rfl, hk, hk, tg_of (dz.up E7), fun G8 E8 => ?_⟩
        rw [q9]
        clear q9
        simp [show3, seq3, asg3, gn3, ret3, retN3, ifS3, drop3, nev3, next3, v3, c3, o3, u3, neg3, L3.ixT, L3.ixR, cat3, iI, iC, iB, eqA3, scalT, isN3, tb3, and3, or3, not3, andV3, orV3, notV3, if3, ch3, cb3, cons3, nil3, isi3, tyT, subT, tup3, lst3, tsl3, np3, sp3, gtup3, gcons3, gnil3, gsub3, set3, par3, start3, bm3, app3, ext3, len3, abs3, min3, max3, int3, tuple3, list3, all3, any3, aug3, sizeLine_eq, List.getElem?_cons_zero, List.getElem?_cons_succ]
        refine ⟨z, k, rfl, hk, hk, tg_of (dz.up (E7.trans E8)), fun G9 E9 => ?_⟩
        simp [seq3, asg3, gn3, ret3, retN3, ifS3, drop3, nev3, next3, v3, c3, o3, u3, neg3, L3.ixT, L3.ixR, cat3, iI, iC, iB, eqA3, scalT, isN3, tb3, and3, or3, not3, andV3, orV3, notV3, if3, ch3, cb3, cons3, nil3, isi3, tyT, subT, tup3, lst3, tsl3, np3, sp3, gtup3, gcons3, gnil3, gsub3, set3, par3, start3, bm3, app3, ext3, len3, abs3, min3, max3, int3, tuple3, list3, all3, any3, aug3, sizeLine_eq, List.getElem?_cons_zero, List.getElem?_cons_succ]
        refine hx _ (E7.trans (E8.trans E9)) _ ?_
        simp
        exact hn8' _ _ ⟨E7.trans (E8.trans E9), _, _, rfl⟩
      · rintro τ G7 ⟨E7, z8, z9, rfl⟩
        exact hn6 _ _ ⟨E6.trans E7, _, _, _, _, rfl⟩
    · rintro τ G6 ⟨E6, y6, y7, y8, y9, rfl⟩
      show nx5 _ _
      rw [q5]
      clear q5
      simp [seq3, asg3, gn3, ret3, retN3, ifS3, drop3, nev3, next3, v3, c3, o3, u3, neg3, L3.ixT, L3.ixR, cat3, iI, iC, iB, eqA3, scalT, isN3, tb3, and3, or3, not3, andV3, orV3, notV3, if3, ch3, cb3, cons3, nil3, isi3, tyT, subT, tup3, lst3, tsl3, np3, sp3, gtup3, gcons3, gnil3, gsub3, set3, par3, start3, bm3, app3, ext3, len3, abs3, min3, max3, int3, tuple3, list3, all3, any3, aug3, sizeLine_eq, List.getElem?_cons_zero, List.getElem?_cons_succ]
      refine ⟨t, j, rfl, by omega, hd3, tg_of (dt _), fun G7 E7 => ?_⟩
      rw [N.b]
      simp [isB3]
      exact hn _ _ ⟨E7 _ _ (E6 _ _ g50), _, _, _, _, _, _, _, _, _, rfl⟩
  · rintro τ G' ⟨gA, x1, x2, x3, x4, x5, x6, x7, x8, x9, rfl⟩
    show nx0 _ _
    rw [q0]
    simp [seq3, asg3, gn3, ret3, retN3, ifS3, drop3, nev3, next3, v3, c3, o3, u3, neg3, L3.ixT, L3.ixR, cat3, iI, iC, iB, eqA3, scalT, isN3, tb3, and3, or3, not3, andV3, orV3, notV3, if3, ch3, cb3, cons3, nil3, isi3, tyT, subT, tup3, lst3, tsl3, np3, sp3, gtup3, gcons3, gnil3, gsub3, set3, par3, start3, bm3, app3, ext3, len3, abs3, min3, max3, int3, tuple3, list3, all3, any3, aug3, cut3, HT.sIx, getL, in3, flatT, eqF, gu, sizeLine_eq, List.getElem?_cons_zero, List.getElem?_cons_succ]
    exact h _
end K55
set_option Elab.async false
set_option linter.all false
set_option maxRecDepth 100000
set_option maxHeartbeats 4000000
namespace K55
open PySem L2 L3 Bk
theorem all_mk {l : PySem.W.OpenLaw} {w : World} {K : PySem.W.Frag} {h : Heap} {mg : Str → Option Value} {fa : Addr} (X : K.In h) (G : h.Ns mainGlobals mg) (hfa : mg "law" = some (.ref fa))
    {f0 : Addr} {od0 an0 : Option Addr} {sl0 : Array (Option Value)} {oc0 kV0 dc0 pm0 cd0 ct0 : Value}
    {f1 : Addr} {od1 an1 : Option Addr} {sl1 : Array (Option Value)} {oc1 kV1 dc1 pm1 cd1 ct1 : Value}
    {f2 : Addr} {od2 an2 : Option Addr} {sl2 : Array (Option Value)} {oc2 kV2 dc2 pm2 cd2 ct2 : Value}
    {f3 : Addr} {od3 an3 : Option Addr} {sl3 : Array (Option Value)} {oc3 kV3 dc3 pm3 cd3 ct3 : Value}
    {f4 : Addr} {od4 an4 : Option Addr} {sl4 : Array (Option Value)} {oc4 kV4 dc4 pm4 cd4 ct4 : Value}
    {f5 : Addr} {od5 an5 : Option Addr} {sl5 : Array (Option Value)} {oc5 kV5 dc5 pm5 cd5 ct5 : Value}
    {f6 : Addr} {od6 an6 : Option Addr} {sl6 : Array (Option Value)} {oc6 kV6 dc6 pm6 cd6 ct6 : Value}
    {f7 : Addr} {od7 an7 : Option Addr} {sl7 : Array (Option Value)} {oc7 kV7 dc7 pm7 cd7 ct7 : Value}
    {f8 : Addr} {od8 an8 : Option Addr} {sl8 : Array (Option Value)} {oc8 kV8 dc8 pm8 cd8 ct8 : Value}
    {f9 : Addr} {od9 an9 : Option Addr} {sl9 : Array (Option Value)} {oc9 kV9 dc9 pm9 cd9 ct9 : Value}
    {f10 : Addr} {od10 an10 : Option Addr} {sl10 : Array (Option Value)} {oc10 kV10 dc10 pm10 cd10 ct10 : Value}
    (a0 : PySem.W.nsIn K mainGlobals "is_number" = some (some (.ref f0))) (l0 : K.lookup f0 = some ⟨oc0, od0, .func (PySem.W.fnOf "is_number" "is_number" (defArgs st_is_number) (defBody st_is_number) (defScope st_is_number) .none kV0 dc0 pm0 an0 cd0 ct0), sl0⟩) (c0 : PySem.W.codeIn K cd0 "is_number" = true) (k0 : PySem.W.keepIn K (.ref f0) = true)
    (a1 : PySem.W.nsIn K mainGlobals "is_number_below" = some (some (.ref f1))) (l1 : K.lookup f1 = some ⟨oc1, od1, .func (PySem.W.fnOf "is_number_below" "is_number_below" (defArgs st_is_number_below) (defBody st_is_number_below) (defScope st_is_number_below) .none kV1 dc1 pm1 an1 cd1 ct1), sl1⟩) (c1 : PySem.W.codeIn K cd1 "is_number_below" = true) (k1 : PySem.W.keepIn K (.ref f1) = true)
    (a2 : PySem.W.nsIn K mainGlobals "are_switches" = some (some (.ref f2))) (l2 : K.lookup f2 = some ⟨oc2, od2, .func (PySem.W.fnOf "are_switches" "are_switches" (defArgs st_are_switches) (defBody st_are_switches) (defScope st_are_switches) .none kV2 dc2 pm2 an2 cd2 ct2), sl2⟩) (c2 : PySem.W.codeIn K cd2 "are_switches" = true) (k2 : PySem.W.keepIn K (.ref f2) = true)
    (a3 : PySem.W.nsIn K mainGlobals "is_net" = some (some (.ref f3))) (l3 : K.lookup f3 = some ⟨oc3, od3, .func (PySem.W.fnOf "is_net" "is_net" (defArgs st_is_net) (defBody st_is_net) (defScope st_is_net) .none kV3 dc3 pm3 an3 cd3 ct3), sl3⟩) (c3 : PySem.W.codeIn K cd3 "is_net" = true) (k3 : PySem.W.keepIn K (.ref f3) = true)
    (a4 : PySem.W.nsIn K mainGlobals "_law_mix" = some (some (.ref f4))) (l4 : K.lookup f4 = some ⟨oc4, od4, .func (PySem.W.fnOf "_law_mix" "_law_mix" (defArgs st_law_mix) (defBody st_law_mix) (defScope st_law_mix) .none kV4 dc4 pm4 an4 cd4 ct4), sl4⟩) (c4 : PySem.W.codeIn K cd4 "_law_mix" = true) (k4 : PySem.W.keepIn K (.ref f4) = true)
    (a5 : PySem.W.nsIn K mainGlobals "_law_left" = some (some (.ref f5))) (l5 : K.lookup f5 = some ⟨oc5, od5, .func (PySem.W.fnOf "_law_left" "_law_left" (defArgs st_law_left) (defBody st_law_left) (defScope st_law_left) .none kV5 dc5 pm5 an5 cd5 ct5), sl5⟩) (c5 : PySem.W.codeIn K cd5 "_law_left" = true) (k5 : PySem.W.keepIn K (.ref f5) = true)
    (a6 : PySem.W.nsIn K mainGlobals "_law_pick" = some (some (.ref f6))) (l6 : K.lookup f6 = some ⟨oc6, od6, .func (PySem.W.fnOf "_law_pick" "_law_pick" (defArgs st_law_pick) (defBody st_law_pick) (defScope st_law_pick) .none kV6 dc6 pm6 an6 cd6 ct6), sl6⟩) (c6 : PySem.W.codeIn K cd6 "_law_pick" = true) (k6 : PySem.W.keepIn K (.ref f6) = true)
    (a7 : PySem.W.nsIn K mainGlobals "_law_net" = some (some (.ref f7))) (l7 : K.lookup f7 = some ⟨oc7, od7, .func (PySem.W.fnOf "_law_net" "_law_net" (defArgs st_law_net) (defBody st_law_net) (defScope st_law_net) .none kV7 dc7 pm7 an7 cd7 ct7), sl7⟩) (c7 : PySem.W.codeIn K cd7 "_law_net" = true) (k7 : PySem.W.keepIn K (.ref f7) = true)
    (a8 : PySem.W.nsIn K mainGlobals "_law_is_net" = some (some (.ref f8))) (l8 : K.lookup f8 = some ⟨oc8, od8, .func (PySem.W.fnOf "_law_is_net" "_law_is_net" (defArgs st_law_is_net) (defBody st_law_is_net) (defScope st_law_is_net) .none kV8 dc8 pm8 an8 cd8 ct8), sl8⟩) (c8 : PySem.W.codeIn K cd8 "_law_is_net" = true) (k8 : PySem.W.keepIn K (.ref f8) = true)
    (a9 : PySem.W.nsIn K mainGlobals "_law_bad" = some (some (.ref f9))) (l9 : K.lookup f9 = some ⟨oc9, od9, .func (PySem.W.fnOf "_law_bad" "_law_bad" (defArgs st_law_bad) (defBody st_law_bad) (defScope st_law_bad) .none kV9 dc9 pm9 an9 cd9 ct9), sl9⟩) (c9 : PySem.W.codeIn K cd9 "_law_bad" = true) (k9 : PySem.W.keepIn K (.ref f9) = true)
    (a10 : PySem.W.nsIn K mainGlobals "law" = some (some (.ref f10))) (l10 : K.lookup f10 = some ⟨oc10, od10, .func (PySem.W.fnOf "law" "law" (defArgs st_law) (defBody st_law) (defScope st_law) .none kV10 dc10 pm10 an10 cd10 ct10), sl10⟩) (c10 : PySem.W.codeIn K cd10 "law" = true) (k10 : PySem.W.keepIn K (.ref f10) = true)
    (z0 : PySem.W.nsIn K mainGlobals "isinstance" = some none)
    (z1 : PySem.W.nsIn K mainGlobals "bool" = some none)
    (z2 : PySem.W.nsIn K mainGlobals "int" = some none)
    (z3 : PySem.W.nsIn K mainGlobals "all" = some none)
    (z4 : PySem.W.nsIn K mainGlobals "len" = some none)
    (z5 : PySem.W.nsIn K mainGlobals "tuple" = some none)
    (z6 : PySem.W.nsIn K mainGlobals "abs" = some none)
    (z7 : PySem.W.nsIn K mainGlobals "range" = some none)
    (z8 : PySem.W.nsIn K mainGlobals "list" = some none)
    (z9 : PySem.W.nsIn K mainGlobals "min" = some none)
    (z10 : PySem.W.nsIn K mainGlobals "str" = some none) :
    ∃ fd : FuncData, (∀ (s : Shared) (v : Value), BindsTo s fd ⟨[v], []⟩ [("_law_script", v)]) ∧ ∀ base : Heap, K.In base → base.Ns mainGlobals mg → FnOk l.prog w K mg base CX0 8 fa fd ["_law_script"] (lSp K sp_top) := by
  have e := hfa.symm.trans (PySem.W.mg_of X G a10)
  cases e
  have F0 := fun_mk (st := st_is_number) l0 c0 k0
  have b0 := F0.binds (ps := ["thing"]) fun _ _ _ _ _ _ us hl => match us, hl with | [_], _ => rfl
  have m0 := PySem.W.mg_of X G a0
  have F1 := fun_mk (st := st_is_number_below) l1 c1 k1
  have b1 := F1.binds (ps := ["thing", "end"]) fun _ _ _ _ _ _ us hl => match us, hl with | [_, _], _ => rfl
  have m1 := PySem.W.mg_of X G a1
  have F2 := fun_mk (st := st_are_switches) l2 c2 k2
  have b2 := F2.binds (ps := ["thing", "many"]) fun _ _ _ _ _ _ us hl => match us, hl with | [_, _], _ => rfl
  have m2 := PySem.W.mg_of X G a2
  have F3 := fun_mk (st := st_is_net) l3 c3 k3
  have b3 := F3.binds (ps := ["thing", "lanes"]) fun _ _ _ _ _ _ us hl => match us, hl with | [_, _], _ => rfl
  have m3 := PySem.W.mg_of X G a3
  have F4 := fun_mk (st := st_law_mix) l4 c4 k4
  have b4 := F4.binds (ps := ["_law_cell", "_law_k"]) fun _ _ _ _ _ _ us hl => match us, hl with | [_, _], _ => rfl
  have m4 := PySem.W.mg_of X G a4
  have F5 := fun_mk (st := st_law_left) l5 c5 k5
  have b5 := F5.binds (ps := ["_law_script", "_law_k"]) fun _ _ _ _ _ _ us hl => match us, hl with | [_, _], _ => rfl
  have m5 := PySem.W.mg_of X G a5
  have F6 := fun_mk (st := st_law_pick) l6 c6 k6
  have b6 := F6.binds (ps := ["_law_left_here", "_law_many"]) fun _ _ _ _ _ _ us hl => match us, hl with | [_, _], _ => rfl
  have m6 := PySem.W.mg_of X G a6
  have F7 := fun_mk (st := st_law_net) l7 c7 k7
  have b7 := F7.binds (ps := ["_law_left_here", "_law_lanes"]) fun _ _ _ _ _ _ us hl => match us, hl with | [_, _], _ => rfl
  have m7 := PySem.W.mg_of X G a7
  have F8 := fun_mk (st := st_law_is_net) l8 c8 k8
  have b8 := F8.binds (ps := ["_law_thing", "_law_lanes"]) fun _ _ _ _ _ _ us hl => match us, hl with | [_, _], _ => rfl
  have m8 := PySem.W.mg_of X G a8
  have F9 := fun_mk (st := st_law_bad) l9 c9 k9
  have b9 := F9.binds (ps := ["_law_left_here", "_law_net_here"]) fun _ _ _ _ _ _ us hl => match us, hl with | [_, _], _ => rfl
  have m9 := PySem.W.mg_of X G a9
  have F10 := fun_mk (st := st_law) l10 c10 k10
  have m10 := PySem.W.mg_of X G a10
  have g_isinstance := PySem.W.mg_none_of X G z0
  have g_bool := PySem.W.mg_none_of X G z1
  have g_int := PySem.W.mg_none_of X G z2
  have g_all := PySem.W.mg_none_of X G z3
  have g_len := PySem.W.mg_none_of X G z4
  have g_tuple := PySem.W.mg_none_of X G z5
  have g_abs := PySem.W.mg_none_of X G z6
  have g_range := PySem.W.mg_none_of X G z7
  have g_list := PySem.W.mg_none_of X G z8
  have g_min := PySem.W.mg_none_of X G z9
  have g_str := PySem.W.mg_none_of X G z10
  refine ⟨PySem.W.fnOf "law" "law" (defArgs st_law) (defBody st_law) (defScope st_law) .none kV10 dc10 pm10 an10 cd10 ct10, fun s v => .of_eq rfl, fun base _ _ => ?_⟩
  have O_is_number := ok_is_number (P := l.prog) (w := w) (base := base) (k := 0) F0 b0 m0  g_isinstance g_bool g_int rd_is_number
  have O_is_number_below := ok_is_number_below (P := l.prog) (w := w) (base := base) (k := 1) F1 b1 m1 O_is_number  rd_is_number_below
  have O_are_switches := ok_are_switches (P := l.prog) (w := w) (base := base) (k := 2) F2 b2 m2 O_is_number_below g_all g_len g_isinstance g_tuple rd_are_switches
  have O_law_mix := ok_law_mix (P := l.prog) (w := w) (base := base) (k := 0) F4 b4 m4   rd_law_mix
  have O_law_left := ok_law_left (P := l.prog) (w := w) (base := base) (k := 0) F5 b5 m5  g_len g_abs rd_law_left
  have O_law_pick := ok_law_pick (P := l.prog) (w := w) (base := base) (k := 1) F6 b6 m6 O_law_mix  rd_law_pick
  have O_law_bad := ok_law_bad (P := l.prog) (w := w) (base := base) (k := 2) F9 b9 m9 O_law_pick g_isinstance g_tuple g_list g_len rd_law_bad
  have O_is_net_0 := fn3_none (P := l.prog) (w := w) (base := base) F3 b3 m3
  have O_is_net_1 := ok_is_net (P := l.prog) (w := w) (base := base) (k := 3) F3 b3 m3 (O_is_number_below.mono (by decide)) O_are_switches (O_is_net_0.mono (by decide)) g_len g_isinstance g_tuple (rd_is_net 0)
  have O_is_net_2 := ok_is_net (P := l.prog) (w := w) (base := base) (k := 4) F3 b3 m3 (O_is_number_below.mono (by decide)) (O_are_switches.mono (by decide)) O_is_net_1 g_len g_isinstance g_tuple (rd_is_net 1)
  have O_is_net_3 := ok_is_net (P := l.prog) (w := w) (base := base) (k := 5) F3 b3 m3 (O_is_number_below.mono (by decide)) (O_are_switches.mono (by decide)) O_is_net_2 g_len g_isinstance g_tuple (rd_is_net 2)
  have O_is_net_4 := ok_is_net (P := l.prog) (w := w) (base := base) (k := 6) F3 b3 m3 (O_is_number_below.mono (by decide)) (O_are_switches.mono (by decide)) O_is_net_3 g_len g_isinstance g_tuple (rd_is_net 3)
  have O_law_net_0 := fn3_none (P := l.prog) (w := w) (base := base) F7 b7 m7
  have O_law_net_1 := ok_law_net (P := l.prog) (w := w) (base := base) (k := 2) F7 b7 m7 O_law_pick (O_law_net_0.mono (by decide)) g_range g_tuple (rd_law_net 0)
  have O_law_net_2 := ok_law_net (P := l.prog) (w := w) (base := base) (k := 3) F7 b7 m7 (O_law_pick.mono (by decide)) O_law_net_1 g_range g_tuple (rd_law_net 1)
  have O_law_net_3 := ok_law_net (P := l.prog) (w := w) (base := base) (k := 4) F7 b7 m7 (O_law_pick.mono (by decide)) O_law_net_2 g_range g_tuple (rd_law_net 2)
  have O_law_net_4 := ok_law_net (P := l.prog) (w := w) (base := base) (k := 5) F7 b7 m7 (O_law_pick.mono (by decide)) O_law_net_3 g_range g_tuple (rd_law_net 3)
  have O_law_is_net_0 := fn3_none (P := l.prog) (w := w) (base := base) F8 b8 m8
  have O_law_is_net_1 := ok_law_is_net (P := l.prog) (w := w) (base := base) (k := 0) F8 b8 m8 O_law_is_net_0 g_isinstance g_bool g_int g_len g_tuple g_all (rd_law_is_net 0)
  have O_law_is_net_2 := ok_law_is_net (P := l.prog) (w := w) (base := base) (k := 1) F8 b8 m8 O_law_is_net_1 g_isinstance g_bool g_int g_len g_tuple g_all (rd_law_is_net 1)
  have O_law_is_net_3 := ok_law_is_net (P := l.prog) (w := w) (base := base) (k := 2) F8 b8 m8 O_law_is_net_2 g_isinstance g_bool g_int g_len g_tuple g_all (rd_law_is_net 2)
  have O_law_is_net_4 := ok_law_is_net (P := l.prog) (w := w) (base := base) (k := 3) F8 b8 m8 O_law_is_net_3 g_isinstance g_bool g_int g_len g_tuple g_all (rd_law_is_net 3)
  exact ok_law (k := 7) F10 (O_law_left.mono (by decide)) (O_law_pick.mono (by decide)) (O_law_net_4.mono (by decide)) (O_law_bad.mono (by decide)) O_is_net_4 (O_law_is_net_4.mono (by decide)) g_len g_min g_range g_str g_isinstance g_bool rd_law
end K55
open PySem PySem.W PyProof.Rows
set_option maxRecDepth 100000 in
set_option maxHeartbeats 0 in
theorem PySem.Challenge.cw_bankwalk_k55_what_nets_are_holds : PySem.Challenge.rw_bankwalk_k55_what_nets_are.Holds := by
  w_on; o_law; k_head; (case hw => w_witness2)
  k_fill
  refine L3.walk3 (l := PySem.Challenge.rw_bankwalk_k55_what_nets_are) (k := 8) (x := "_law_script") rfl rfl ⟨rfl, by decide, by decide, rfl⟩ (fun w h Y => PySem.W.kIn_of Y) ?nol ?F
  case nol => exact fun w => rfl
  case F =>
    intro w mg fa h KX G hmg
    refine' K55.all_mk KX G hmg ?a0 ?l0 ?c0 ?k0 ?a1 ?l1 ?c1 ?k1 ?a2 ?l2 ?c2 ?k2 ?a3 ?l3 ?c3 ?k3 ?a4 ?l4 ?c4 ?k4 ?a5 ?l5 ?c5 ?k5 ?a6 ?l6 ?c6 ?k6 ?a7 ?l7 ?c7 ?k7 ?a8 ?l8 ?c8 ?k8 ?a9 ?l9 ?c9 ?k9 ?a10 ?l10 ?c10 ?k10 ?z0 ?z1 ?z2 ?z3 ?z4 ?z5 ?z6 ?z7 ?z8 ?z9 ?z10
    (case a0 => k_is)
    (case l0 => k_is)
    (case c0 => k_is)
    (case k0 => k_is)
    (case a1 => k_is)
    (case l1 => k_is)
    (case c1 => k_is)
    (case k1 => k_is)
    (case a2 => k_is)
    (case l2 => k_is)
    (case c2 => k_is)
    (case k2 => k_is)
    (case a3 => k_is)
    (case l3 => k_is)
    (case c3 => k_is)
    (case k3 => k_is)
    (case a4 => k_is)
    (case l4 => k_is)
    (case c4 => k_is)
    (case k4 => k_is)
    (case a5 => k_is)
    (case l5 => k_is)
    (case c5 => k_is)
    (case k5 => k_is)
    (case a6 => k_is)
    (case l6 => k_is)
    (case c6 => k_is)
    (case k6 => k_is)
    (case a7 => k_is)
    (case l7 => k_is)
    (case c7 => k_is)
    (case k7 => k_is)
    (case a8 => k_is)
    (case l8 => k_is)
    (case c8 => k_is)
    (case k8 => k_is)
    (case a9 => k_is)
    (case l9 => k_is)
    (case c9 => k_is)
    (case k9 => k_is)
    (case a10 => k_is)
    (case l10 => k_is)
    (case c10 => k_is)
    (case k10 => k_is)
    (case z0 => k_is)
    (case z1 => k_is)
    (case z2 => k_is)
    (case z3 => k_is)
    (case z4 => k_is)
    (case z5 => k_is)
    (case z6 => k_is)
    (case z7 => k_is)
    (case z8 => k_is)
    (case z9 => k_is)
    (case z10 => k_is)
