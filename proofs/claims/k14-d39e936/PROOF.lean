import PyProof.Rows.All
import Wide.All
import OpenK.AllK
import Wide.FinOn
import Lean
import PyProof.EqAt
import PyProof.EqKinds
import PyProof.TupleCall
import PyProof.NeKinds
import PySem.Challenge.RW_bankwalk_k14_starts_of_walks
-- CHANGE: your row's module here,as the last of these rows
set_option Elab.async false
set_option genSizeOf false
set_option genInjectivity false
set_option linter.all false
set_option maxRecDepth 100000
namespace L2
open PySem PySem.Spec PyProof.Rows
noncomputable abbrev Key := Sum Int Str
noncomputable def keyIs : Key → Value → Bool
 | .inl k,v => Value.isInt k v
 | .inr x,v => Value.isStrOf x v
noncomputable def keyH (w : World) : Key → Int
 | .inl k => hashInt k
 | .inr x => hashStr w x
theorem keyIs_shape : ∀ {k : Key} {v : Value},keyIs k v = true → (∃ i t,k = Sum.inl i∧v = Value.int i t) ∨ (∃ x t,k = Sum.inr x∧v = Value.str x t)
 | .inl i,v,h => by
  obtain ⟨t,e⟩ := Value.isInt_shape (k := i) (v := v) h
  exact .inl ⟨i,t,rfl,e⟩
 | .inr x,v,h => by
  obtain ⟨t,e⟩ := Value.isStrOf_shape (x := x) (v := v) h
  exact .inr ⟨x,t,rfl,e⟩
theorem key_ll (a b : Int) : decide ((Sum.inl a : Key) = Sum.inl b) = (a == b) := by
 by_cases e : a = b
 ·subst e;simp
 ·have h : ¬ (Sum.inl a : Key) = Sum.inl b := fun q => e (Sum.inl.inj q)
  rw [decide_eq_false h]
  exact (beq_eq_false_iff_ne.mpr e).symm
theorem key_rr (a b : Str) : decide ((Sum.inr a : Key) = Sum.inr b) = decide (a = b) := by
 by_cases e : a = b
 ·subst e;simp
 ·have h : ¬ (Sum.inr a : Key) = Sum.inr b := fun q => e (Sum.inr.inj q)
  rw [decide_eq_false h,decide_eq_false e]
theorem key_lr (a : Int) (b : Str) : decide ((Sum.inl a : Key) = Sum.inr b) = false := decide_eq_false (fun q => nomatch q)
theorem key_rl (a : Str) (b : Int) : decide ((Sum.inr a : Key) = Sum.inl b) = false := decide_eq_false (fun q => nomatch q)
noncomputable def mixKind (prog : Program) (w : World) : PySem.KeyKind prog w Key where
 is := keyIs
 hash := keyH w
 inj := fun v a b ha hb => by
  rcases keyIs_shape ha with ⟨i,t,rfl,rfl⟩ | ⟨x,t,rfl,rfl⟩
  ·rcases keyIs_shape hb with ⟨j,u,rfl,e⟩ | ⟨y,u,rfl,e⟩
   ·injection e with e1 _;rw [e1]
   ·exact nomatch e
  ·rcases keyIs_shape hb with ⟨j,u,rfl,e⟩ | ⟨y,u,rfl,e⟩
   ·exact nomatch e
   ·injection e with e1 _;rw [e1]
 byValue := fun k v h => by
  rcases keyIs_shape h with ⟨i,t,rfl,rfl⟩ | ⟨x,t,rfl,rfl⟩ <;> rfl
 pyHash := fun hv h => by
  rcases keyIs_shape hv with ⟨i,t,rfl,rfl⟩ | ⟨x,t,rfl,rfl⟩
  ·exact wpAny_pyHash_int h
  ·exact wpAny_pyHash_str h
 eqBool := fun hu hv h => by
  rcases keyIs_shape hu with ⟨i,t,rfl,rfl⟩ | ⟨x,t,rfl,rfl⟩
  ·rcases keyIs_shape hv with ⟨j,u,rfl,rfl⟩ | ⟨y,u,rfl,rfl⟩
   ·rw [key_ll] at h;exact wpAny_eqBool_int h
   ·rw [key_lr] at h;exact SeqAt.EqAt.int_str i t y u _ _ _ _ h
  ·rcases keyIs_shape hv with ⟨j,u,rfl,rfl⟩ | ⟨y,u,rfl,rfl⟩
   ·rw [key_rl] at h;exact SeqAt.EqAt.str_int x t j u _ _ _ _ h
   ·rw [key_rr] at h;exact wpAny_eqBool_str h
 «strs» := fun k x t v h => by
  rcases keyIs_shape h with ⟨i,u,rfl,e⟩ | ⟨y,u,rfl,e⟩
  ·exact nomatch e
  ·injection e with e1 _
   subst e1
   cases v <;> rfl
end L2
namespace L2
open PySem PySem.Spec PyProof.Rows
set_option genInjectivity true in
inductive V where
 | non | bl (b : Bool) | int (i : Int) | str (x : Str) | byt (b : Array UInt8) | flt (b : UInt64) | ref (a : Addr) | ty (n : String)
 deriving DecidableEq
noncomputable def RelV : V → Value → Prop
 | .non,u => u = Value.none
 | .bl b,u => u = Value.bool b
 | .int i,u => ∃ t,u = Value.int i t
 | .str x,u => ∃ t,u = Value.str x t
 | .byt b,u => ∃ t,u = Value.bytes b t
 | .flt b,u => ∃ t,u = Value.float b t
 | .ref a,u => u = Value.ref a
 | .ty n,u => u = Value.type n
noncomputable abbrev Vals : List V → List Value → Prop := Paired RelV
theorem Vals.length {xs : List V} {us : List Value} (r : Vals xs us) : xs.length = us.length := Paired.length r
theorem Vals.get : ∀ {xs : List V} {us : List Value} {i : Nat} {x : V},Vals xs us → xs[i]? = some x → ∃ u,us[i]? = some u∧RelV x u
 | _,_,_,_,.nil,e => by simp at e
 | _,_,0,_,.cons r _,e => by simp at e;subst e;exact ⟨_,rfl,r⟩
 | _,_,i + 1,x,.cons _ t,e => by
  obtain ⟨u,h1,h2⟩ := Vals.get (i := i) (x := x) t (by simpa using e)
  exact ⟨u,by simpa using h1,h2⟩
theorem Vals.set {x : V} {u : Value} (r : RelV x u) : ∀ {xs : List V} {us : List Value} (i : Nat),Vals xs us → Vals (xs.set i x) (us.set i u)
 | _,_,_,.nil => .nil
 | _,_,0,.cons _ t => .cons r t
 | _,_,i + 1,.cons q t => .cons q (Vals.set r i t)
theorem Vals.append : ∀ {xs ys : List V} {us ws : List Value},Vals xs us → Vals ys ws → Vals (xs ++ ys) (us ++ ws)
 | _,_,_,_,.nil,s => s
 | _,_,_,_,.cons r t,s => .cons r (Vals.append t s)
theorem Vals.take : ∀ {xs : List V} {us : List Value} (n : Nat),Vals xs us → Vals (xs.take n) (us.take n)
 | _,_,0,_ => .nil
 | _,_,_ + 1,.nil => .nil
 | _,_,n + 1,.cons r t => .cons r (Vals.take n t)
theorem Vals.drop : ∀ {xs : List V} {us : List Value} (n : Nat),Vals xs us → Vals (xs.drop n) (us.drop n)
 | _,_,0,r => r
 | _,_,_ + 1,.nil => .nil
 | _,_,n + 1,.cons _ t => Vals.drop n t
noncomputable def RelO : Option V → Option Value → Prop
 | some v,some u => RelV v u
 | none,none => True
 | _,_ => False
noncomputable def KV {κ : Type} : List (κ × V) → List (κ × Value) → Prop := Paired fun (p : κ × V) (q : κ × Value) => p.1 = q.1∧RelV p.2 q.2
noncomputable def kV : Key → V
 | .inl i => .int i
 | .inr x => .str x
inductive HO where
 /-- a list -/
 | lst (xs : List V)
 /-- a tuple (never changes) -/
 | tup (xs : List V)
 /-- a dict whose keys are ints and texts;one whose keys are tuples of ints and texts (the empty one is both) -/
 | dK (kvs : List (Key × V)) | dT (kvs : List (List Key × V))
 /-- a set of ints: its members,its size -/
 | set (S : Int → Bool) (n : Nat)
 /-- an instance of the class at C,its dict at dx,its attributes -/
 | ins (C dx : Addr) (fs : List (Str × V))
 /-- the dict of the instance at x -/
 | own (x : Addr)
 /-- the dict of an exception -/
 | xd (fs : List (Str × V))
 /-- a bound method,f of x -/
 | met (f x : Addr)
 /-- a range object lo,lo + 1,.. below hi -/
 | rng (lo hi : Int)
 /-- a thing that is known to the object (the script;a dict while a loop walks it): read,never written while it is so -/
 | frz (o : Obj) (u : HO)
 /-- a code object's table -/
 | tbl (ps : Array Value)
 /-- any other thing,by what is true of its one object (a def of one's own: SetO a S n := HO.ext fun h => ..) -/
 | ext (φ : Heap → Prop)
noncomputable abbrev Hp := Addr → Option HO
noncomputable def upd (H : Hp) (a : Addr) (o : HO) : Hp := fun b => if b = a then some o else H b
theorem upd_same {H : Hp} {a : Addr} {o : HO} : upd H a o a = some o := by unfold upd;rw [if_pos rfl]
theorem upd_ne {H : Hp} {a b : Addr} {o : HO} (h : b ≠ a) : upd H a o b = H b := by unfold upd;rw [if_neg h]
theorem ne_of_none {H : Hp} {a b : Addr} {o : HO} (h : H a = some o) (h' : H b = none) : a ≠ b := by
 intro e;subst e;rw [h] at h';cases h'
section
variable (P : Program) (w : World)
noncomputable def ObjOk (H : Hp) (h : Heap) (a : Addr) : HO → Prop
 | .lst xs => xs.length ≤ sizeLine∧∃ (its : List Value) (n : Nat),Vals xs its∧h.get? a = some { cls := .type "list",data := .seq its.toArray n }
 | .tup xs => xs.length ≤ sizeLine∧∃ its : List Value,Vals xs its∧IsTup h a its.toArray
 | .dK kvs => kvs.length ≤ sizeLine∧(a == sysModules) = false∧∃ vs,KV kvs vs∧h.DictOf (mixKind P w) a vs
 | .dT kvs => kvs.length ≤ sizeLine∧(a == sysModules) = false∧∃ xs : List (List Key × Addr × Value),
   Paired (fun (p : List Key × V) (q : List Key × Addr × Value) => p.1 = q.1∧H q.2.1 = some (.tup (p.1.map kV))∧RelV p.2 q.2.2) kvs xs ∧
   ∃ o es ep,h.get? a = some o∧o.ExactDict∧o.data = .dict es ep∧es.toList = xs.map (entryOfKey (tupleKind (mixKind P w)))∧(xs.map (·.1)).Nodup
 | .set S n => h.SetOf (intKind P w) a S n
 | .ins C dx fs => H dx = some (.own a)∧fs.length ≤ 1000∧dx ≠ a∧h.get? a = some (PySem.W.instObj C dx) ∧
   ∃ mA,h.Ns1 dx mA∧(∀ f,RelO (fs.lookup f) (mA f))∧PySem.Within mA (fs.map (·.1))
 | .own _ => ∃ o,h.get? a = some o
 | .xd fs => ∃ mA,h.Ns1 a mA∧∀ f,RelO (fs.lookup f) (mA f)
 | .rng lo hi => ∃ t u v,h.get? a = some { cls := .type "range",data := .fields #[.int lo t,.int hi u,.int 1 v] }
 | .frz o u => h.get? a = some o∧ObjOk H h a u
 | .tbl ps => h.get? a = some { cls := .none,data := .fields ps }
 | .met f x => h.get? a = some (PySem.W.methodObj (.ref f) (.ref x))
 | .ext φ => φ h∧(∃ o,h.get? a = some o)∧∀ h1 h2 : Heap,φ h1 → (∀ o,h1.get? a = some o → h2.get? a = some o) → φ h2
def HOk (H : Hp) (h : Heap) : Prop := ∀ a o,H a = some o → ObjOk P w H h a o
end
section
variable {P : Program} {w : World} {H H' : Hp} {h h' : Heap} {a : Addr} {o : HO}
theorem ObjOk.lt (x : ObjOk P w H h a o) : a < h.objs.size := by
 cases o with
 | lst xs => obtain ⟨_,_,_,_,e⟩ := x;exact Heap.lt_size e
 | tup xs => obtain ⟨_,_,_,p⟩ := x;exact p.lt
 | dK kvs => obtain ⟨_,_,_,_,o,_,_,e,_⟩ := x;exact Heap.lt_size e
 | dT kvs => obtain ⟨_,_,_,_,o,_,_,e,_⟩ := x;exact Heap.lt_size e
 | set S n => obtain ⟨o,_,_,_,e,_⟩ := x;exact Heap.lt_size e
 | ins C dx fs => obtain ⟨_,_,_,e,_⟩ := x;exact Heap.lt_size e
 | own y => obtain ⟨_,e⟩ := x;exact Heap.lt_size e
 | xd fs => obtain ⟨_,⟨_,_,_,e,_⟩,_⟩ := x;exact Heap.lt_size e
 | rng lo hi => obtain ⟨_,_,_,e⟩ := x;exact Heap.lt_size e
 | frz ob u => obtain ⟨e,_⟩ := x;exact Heap.lt_size e
 | tbl ps => exact Heap.lt_size (show h.get? a = some _ from x)
 | met f y => exact Heap.lt_size (show h.get? a = some _ from x)
 | ext φ => obtain ⟨_,⟨_,e⟩,_⟩ := x;exact Heap.lt_size e
theorem Paired.mapP {α β : Type} {F G : α → β → Prop} : ∀ {l₁ : List α} {l₂ : List β},Paired F l₁ l₂ → (∀ a b,F a b → G a b) → Paired G l₁ l₂
 | _,_,.nil,_ => .nil
 | _,_,.cons r t,f => .cons (f _ _ r) (Paired.mapP t f)
theorem ObjOk.stay (x : ObjOk P w H h a o) (k : ∀ b u,(b = a ∨ H b = some (.own a)) → h.get? b = some u → h'.get? b = some u)
  (ho : ∀ b,H b = some (.own a) → H' b = some (.own a)) (ht : ∀ b xs,H b = some (.tup xs) → H' b = some (.tup xs)) : ObjOk P w H' h' a o := by
 induction o with
 | lst xs => obtain ⟨z,its,n,r,e⟩ := x;exact ⟨z,its,n,r,k _ _ (.inl rfl) e⟩
 | tup xs => obtain ⟨z,its,r,ob,e,c⟩ := x;exact ⟨z,its,r,ob,k _ _ (.inl rfl) e,c⟩
 | dK kvs => obtain ⟨z,y,vs,r,ob,es,ep,e,c⟩ := x;exact ⟨z,y,vs,r,ob,es,ep,k _ _ (.inl rfl) e,c⟩
 | dT kvs =>
  obtain ⟨z,y,xs,r,ob,es,ep,e,c⟩ := x
  exact ⟨z,y,xs,Paired.mapP r fun p q z => ⟨z.1,ht _ _ z.2.1,z.2.2⟩,ob,es,ep,k _ _ (.inl rfl) e,c⟩
 | set S n => obtain ⟨ob,es,ep,t,e,c⟩ := x;exact ⟨ob,es,ep,t,k _ _ (.inl rfl) e,c⟩
 | ins C dx fs =>
  obtain ⟨d,z,ne,e,mA,⟨od,es,ep,e2,c⟩,r⟩ := x
  exact ⟨ho _ d,z,ne,k _ _ (.inl rfl) e,mA,⟨od,es,ep,k _ _ (.inr d) e2,c⟩,r⟩
 | own y => obtain ⟨ob,e⟩ := x;exact ⟨ob,k _ _ (.inl rfl) e⟩
 | xd fs => obtain ⟨mA,⟨od,es,ep,e,c⟩,r⟩ := x;exact ⟨mA,⟨od,es,ep,k _ _ (.inl rfl) e,c⟩,r⟩
 | rng lo hi => obtain ⟨t,u,v,e⟩ := x;exact ⟨t,u,v,k _ _ (.inl rfl) e⟩
 | frz ob u ih => obtain ⟨e,q⟩ := x;exact ⟨k _ _ (.inl rfl) e,ih q⟩
 | tbl ps =>
  have e : h.get? a = some { cls := .none,data := .fields ps } := x
  show h'.get? a = some { cls := .none,data := .fields ps }
  exact k a _ (.inl rfl) e
 | met f y =>
  have e : h.get? a = some (PySem.W.methodObj (.ref f) (.ref y)) := x
  show h'.get? a = some (PySem.W.methodObj (.ref f) (.ref y))
  exact k a _ (.inl rfl) e
 | ext φ => obtain ⟨p,⟨o,e⟩,st⟩ := x;exact ⟨st _ _ p fun o q => k _ _ (.inl rfl) q,⟨o,k _ _ (.inl rfl) e⟩,st⟩
theorem HOk.lt (x : HOk P w H h) (e : H a = some o) : a < h.objs.size := (x a o e).lt
theorem HOk.fresh (x : HOk P w H h) (e : h.objs.size ≤ a) : H a = none := by
 cases q : H a with
 | none => rfl
 | some u => exact absurd (Nat.lt_of_lt_of_le (x.lt q) e) (Nat.lt_irrefl _)
theorem HOk.kept (x : HOk P w H h) (k : ∀ b u,h.get? b = some u → h'.get? b = some u) : HOk P w H h' := fun a o e =>
 (x a o e).stay (fun b u _ q => k b u q) (fun _ q => q) fun _ _ q => q
theorem HOk.laid (x : HOk P w H h) (k : ∀ b u,h.get? b = some u → h'.get? b = some u) (hp : h.objs.size ≤ a) (new : ObjOk P w (upd H a o) h' a o) : HOk P w (upd H a o) h' := fun b u e => by
 have hn := x.fresh hp
 by_cases hb : b = a
 ·subst hb;rw [upd_same] at e;cases e;exact new
 ·rw [upd_ne hb] at e
  exact (x b u e).stay (fun c v _ q => k c v q) (fun c q => by rw [upd_ne (ne_of_none q hn)];exact q) fun c xs q => by rw [upd_ne (ne_of_none q hn)];exact q
end
def Rd (H : Hp) (a : Addr) (u : HO) : Prop := H a = some u ∨ ∃ o,H a = some (.frz o u)
theorem Rd.ok {P : Program} {w : World} {H : Hp} {h : Heap} {a : Addr} {u : HO} (r : Rd H a u) (x : HOk P w H h) : ObjOk P w H h a u := by
 rcases r with r | ⟨o,r⟩
 ·exact x a u r
 ·obtain ⟨_,q⟩ := x a _ r
  exact q
noncomputable def Mut : Option HO → Prop
 | some (.lst _) => True
 | some (.dK _) => True
 | some (.dT _) => True
 | some (.set _ _) => True
 | some (.ins _ _ _) => True
 | some (.ext _) => True
 | _ => False
section
variable {P : Program} {w : World} {H : Hp} {h h' : Heap} {x e : Addr} {o' : HO}
theorem HOk.write (ok : HOk P w H h) (mu : Mut (H x)) (he : e = x ∨ H e = some (.own x)) (k : ∀ b u,b ≠ e → h.get? b = some u → h'.get? b = some u) (heo : ∃ u,h'.get? e = some u)
  (new : ObjOk P w (upd H x o') h' x o') : HOk P w (upd H x o') h' := fun b u q => by
 have nown : ∀ c y,H c = some (.own y) → c ≠ x := fun c y r z => by subst z;rw [r] at mu;exact mu
 have ntup : ∀ c xs,H c = some (.tup xs) → c ≠ x := fun c xs r z => by subst z;rw [r] at mu;exact mu
 by_cases hb : b = x
 ·subst hb;rw [upd_same] at q;cases q;exact new
 ·rw [upd_ne hb] at q
  by_cases hbe : b = e
  ·have q' : H b = some (.own x) := by
    rcases he with z | z
    ·exact absurd (hbe.trans z) hb
    ·rw [hbe];exact z
   rw [q] at q';cases q'
   obtain ⟨v,hv⟩ := heo
   exact ⟨v,by rw [hbe];exact hv⟩
  ·refine (ok b u q).stay (fun c v hc r => k c v ?_ r) (fun c r => by rw [upd_ne (nown c b r)];exact r) fun c xs r => by rw [upd_ne (ntup c xs r)];exact r
   rcases hc with rfl | hc
   ·exact hbe
   ·rintro rfl
    rcases he with z | z
    ·exact nown c b hc z
    ·rw [hc] at z;cases z;exact hb rfl
end
structure Un (fs ex : List Addr) (H H' : Hp) (h h' : Heap) : Prop where
 keep : ∀ b o,h.get? b = some o → H b = none → b ∉ fs → b ∉ ex → h'.get? b = some o
 slot : ∀ b o,h.get? b = some o → H b = none → b ∈ fs → b ∉ ex → ∃ sl,h'.get? b = some { o with slots := sl }
 free : ∀ b o,h.get? b = some o → H b = none → b ∉ ex → H' b = none
 there : ∀ b o,h.get? b = some o → b ∉ ex → ∃ o',h'.get? b = some o'
 tups : ∀ b xs,H b = some (.tup xs) → H' b = some (.tup xs)
 frzs : ∀ b o u,H b = some (.frz o u) → H' b = some (.frz o u)
 tbls : ∀ b ps,H b = some (.tbl ps) → ∃ more,H' b = some (.tbl (ps ++ more))
section
variable {fs fs' ex ex' : List Addr} {H H1 H2 : Hp} {h h1 h2 h' : Heap} {a x e : Addr} {o : HO}
theorem Un.any (u : Un fs ex H H1 h h1) {b : Addr} {ob : Obj} (q : h.get? b = some ob) (n : H b = none) (hx : b ∉ ex) : ∃ sl,h1.get? b = some { ob with slots := sl } := by
 by_cases hb : b ∈ fs
 ·exact u.slot b ob q n hb hx
 ·exact ⟨ob.slots,u.keep b ob q n hb hx⟩
theorem Un.kept (k : ∀ b u,h.get? b = some u → h'.get? b = some u) : Un fs ex H H h h' :=
 ⟨fun b ob q _ _ _ => k b ob q,fun b ob q _ _ _ => ⟨ob.slots,k b ob q⟩,fun _ _ _ n _ => n,fun b ob q _ => ⟨ob,k b ob q⟩,fun _ _ q => q,fun _ _ _ q => q,fun _ ps q => ⟨#[],by rw [q];simp⟩⟩
theorem Un.refl : Un fs ex H H h h := Un.kept fun _ _ q => q
theorem Un.laid (k : ∀ b u,h.get? b = some u → h'.get? b = some u) (hp : h.objs.size ≤ a) (hn : H a = none) : Un fs ex H (upd H a o) h h' where
 keep := fun b u q _ _ _ => k b u q
 slot := fun b u q _ _ _ => ⟨u.slots,k b u q⟩
 free := fun b u q n _ => by rw [upd_ne (Nat.ne_of_lt (Nat.lt_of_lt_of_le (Heap.lt_size q) hp))];exact n
 there := fun b u q _ => ⟨u,k b u q⟩
 tups := fun b xs q => by rw [upd_ne (ne_of_none q hn)];exact q
 frzs := fun b u xs q => by rw [upd_ne (ne_of_none q hn)];exact q
 tbls := fun b ps q => ⟨#[],by rw [upd_ne (ne_of_none q hn),q];simp⟩
theorem Un.write (mu : Mut (H x)) (he : e = x ∨ H e = some (.own x)) (k : ∀ b u,b ≠ e → h.get? b = some u → h'.get? b = some u) (heo : ∃ u,h'.get? e = some u) : Un fs ex H (upd H x o) h h' := by
 have hx : ∀ b,H b = none → b ≠ x := fun b n z => by subst z;rw [n] at mu;exact mu
 have hb : ∀ b,H b = none → b ≠ e := fun b n z => by
  subst z
  rcases he with r | r
  ·exact hx b n r
  ·rw [n] at r;cases r
 have hm : ∀ b u,H b = some u → ¬ Mut (some u) → b ≠ x := fun b u q nm z => by subst z;rw [q] at mu;exact nm mu
 refine ⟨fun b u q n _ _ => k b u (hb b n) q,fun b u q n _ _ => ⟨u.slots,k b u (hb b n) q⟩,fun b u q n _ => by rw [upd_ne (hx b n)];exact n,fun b u q _ => ?_,
  fun b xs q => by rw [upd_ne (hm b _ q fun z => z)];exact q,fun b u xs q => by rw [upd_ne (hm b _ q fun z => z)];exact q,fun b ps q => ⟨#[],by rw [upd_ne (hm b _ q fun z => z),q];simp⟩⟩
 by_cases hbe : b = e
 ·subst hbe;exact heo
 ·exact ⟨u,k b u hbe q⟩
end
noncomputable def trk (h : Heap) (H : Hp) : List Addr := (List.range h.objs.size).filter fun a => (H a).isSome
noncomputable def hidT (h : Heap) (H : Hp) : Heap := PySem.W.hideAll h (trk h H)
theorem hidT_size (h : Heap) (H : Hp) : (hidT h H).objs.size = h.objs.size := PySem.W.hideAll_size _ _
theorem hidT_get {h : Heap} {H : Hp} {b : Addr} {o : Obj} (e : h.get? b = some o) (n : H b = none) : (hidT h H).get? b = some o :=
 PySem.W.hideAll_get _ e fun hm => by
  have q : (H b).isSome = true := (List.mem_filter.mp hm).2
  rw [n] at q;simp at q
theorem of_hidT {h : Heap} {H : Hp} {b : Addr} {o : Obj} (e : (hidT h H).get? b = some o) : h.get? b = some o∧H b = none := by
 have e' : h.get? b = some o := PySem.W.of_hideAll (trk h H) e
 refine ⟨e',?_⟩
 cases q : H b with
 | none => rfl
 | some x =>
  have hm : b ∈ trk h H := List.mem_filter.mpr ⟨List.mem_range.mpr (Heap.lt_size e'),by simp [q]⟩
  have z : (hidT h H).get? b = none := PySem.W.hideAll_none (trk h H) hm
  rw [z] at e;cases e
noncomputable def allNews (g h : Heap) (L : Addr) : List (Addr × Obj) := (List.range h.objs.size).filterMap fun a => if a = L ∨ (g.get? a).isSome = true then none else (h.get? a).map fun o => (a,o)
noncomputable def rest (g h : Heap) (L d : Addr) : List (Addr × Obj) := (allNews g h L).filter fun p => decide (p.1 ≠ d)
end L2
namespace L2
open PySem PySem.Spec PyProof.Rows
structure Mod (K : PySem.W.Frag) (mg : Str → Option Value) (base : Heap) : Prop where
 kin : K.In base
 glob : base.Ns mainGlobals mg
 blt : ∃ mb,base.Ns builtinsNs mb∧∀ x : Str,x ≠ "__name__" → mb x = bootBuiltins x
 nolimit : base.NoLimit
structure Cx where
 prog : Program
 w : World
 K : PySem.W.Frag
 mg : Str → Option Value
 base : Heap
 A : Around
 N : List Str
 s₀ : Shared
 H₀ : Hp
 env : Env
 outer : List Env
 stack : List Env
 ex : List Addr
 fn : Str → Bool
 calm : Bool
 pn : List (Addr × Obj)
 xe : Value → Shared → Prop
noncomputable def frs (l : List Env) : List Addr := l.filterMap (·.frame)
noncomputable abbrev Cx.fs (X : Cx) : List Addr := frs X.outer
def Vis (sc : Scope) (x : Str) : Prop := sc.names.lookup x = some .local ∨ sc.names.lookup x = some .cell ∨ sc.names.lookup x = some .free
def Loc (sc : Scope) (x : Str) : Prop := sc.names.lookup x = some .local ∨ sc.names.lookup x = some .cell
def Look (env : Env) (h : Heap) (m : Str → Option Value) (x : Str) (u : Value) : Prop :=
 (env.kindOf x = some .local∧m x = some u) ∨ ((env.kindOf x = some .cell ∨ env.kindOf x = some .free)∧∃ c,env.cells.lookup x = some c∧h.IsCell c (some u))
structure Cx.Ok (X : Cx) : Prop where
 mod : Mod X.K X.mg X.base
 kind : X.env.scope.kind = .function
 glob : X.env.globals = mainGlobals
 blt : X.env.builtins = builtinsNs
 above : X.s₀.heap.objs.size ≤ X.env.locals
 inj : ∀ x y c,X.env.cells.lookup x = some c → X.env.cells.lookup y = some c → x = y
 has : ∀ x,(X.env.kindOf x = some .cell ∨ X.env.kindOf x = some .free) → ∃ c,X.env.cells.lookup x = some c
 cab : ∀ x c,X.fn x = true → X.env.cells.lookup x = some c → X.s₀.heap.objs.size ≤ c
 hd : X.calm = true → X.A.handled = none
 frames : X.A.frames = some X.stack
 stk : X.stack = X.outer ∨ (X.stack = X.env :: X.outer∧X.env.frame = some X.env.locals)
 exf : ∀ b ∈ X.ex,b ≠ X.env.locals∧∀ x c,X.env.cells.lookup x = some c → c ≠ b
 bs : ∀ b o,X.base.get? b = some o → X.s₀.heap.get? b = some o∧X.H₀ b = none
 bsz : X.base.objs.size ≤ X.s₀.heap.objs.size
 noex : ∀ b o,X.base.get? b = some o → b ∉ X.ex
 exfs : ∀ b ∈ X.ex,b ∉ X.fs
 funs : X.s₀.heap.FunFrames X.base X.outer
 frf : ∀ b ∈ X.fs,X.H₀ b = none
structure Inv (X : Cx) (pins : List (Addr × Obj)) (σ : List (Option V)) (H : Hp) (s : Shared) : Prop where
 ok : X.Ok
 os : s.os = X.s₀.os
 bare : AllBare s.gens
 base : Un X.fs X.ex X.H₀ H X.s₀.heap s.heap
 loc : ∃ m,s.heap.Ns X.env.locals m∧∀ (i : Nat) (x : Str) (v : V),X.N[i]? = some x → σ[i]? = some (some v) → Vis X.env.scope x → ∃ u,RelV v u∧Look X.env s.heap m x u
 cell : ∀ x c,X.env.cells.lookup x = some c → ∃ v,s.heap.IsCell c v
 free : H X.env.locals = none
 freeC : ∀ x c,X.env.cells.lookup x = some c → H c = none
 pin : ∀ p ∈ X.pn ++ pins,s.heap.get? p.1 = some p.2∧H p.1 = none∧p.1 ≠ X.env.locals∧p.1 ∉ X.fs∧∀ v,p.2.data ≠ .cell v
 hok : HOk X.prog X.w H s.heap
 len : σ.length = X.N.length
section
variable {X : Cx} {pins : List (Addr × Obj)} {σ : List (Option V)} {H H' : Hp} {s : Shared} {h' : Heap}
theorem Cx.Ok.nofr (ok : X.Ok) {b : Addr} {o : Obj} (e : X.base.get? b = some o) : b ∉ X.fs := fun hb => by
 have := (ok.funs.mem hb).1
 rw [e] at this;cases this
theorem Inv.bs (I : Inv X pins σ H s) : ∀ b o,X.base.get? b = some o → s.heap.get? b = some o∧H b = none := fun b o e =>
 ⟨I.base.keep b o (I.ok.bs b o e).1 (I.ok.bs b o e).2 (I.ok.nofr e) (I.ok.noex b o e),I.base.free b o (I.ok.bs b o e).1 (I.ok.bs b o e).2 (I.ok.noex b o e)⟩
theorem Inv.bk (I : Inv X pins σ H s) : ∀ b o,X.base.get? b = some o → s.heap.get? b = some o := fun b o e => (I.bs b o e).1
theorem Inv.mod (I : Inv X pins σ H s) : Mod X.K X.mg X.base := I.ok.mod
theorem Inv.kIn (I : Inv X pins σ H s) : X.K.In s.heap := I.ok.mod.kin.keeps I.bk
theorem Inv.nolimit (I : Inv X pins σ H s) : s.heap.NoLimit := I.ok.mod.nolimit.keeps I.bk
theorem Inv.fr (I : Inv X pins σ H s) : ∃ m,Fr X.base X.env.locals s.heap m :=
 let ⟨m,hn,_⟩ := I.loc
 ⟨m,hn,I.bk,Nat.le_trans I.ok.bsz I.ok.above⟩
theorem Inv.lt (I : Inv X pins σ H s) : X.env.locals < s.heap.objs.size := let ⟨_,hn,_⟩ := I.loc;hn.lt
theorem Inv.sz (I : Inv X pins σ H s) : X.s₀.heap.objs.size ≤ s.heap.objs.size := Nat.le_trans I.ok.above (Nat.le_of_lt I.lt)
theorem Inv.nofs (I : Inv X pins σ H s) {a : Addr} (h : s.heap.objs.size ≤ a) : a ∉ X.fs := fun hb => by
 obtain ⟨_,o,ho,_⟩ := I.ok.funs.mem hb
 exact absurd (Nat.lt_of_lt_of_le (Heap.lt_size ho) (Nat.le_trans I.sz h)) (Nat.lt_irrefl _)
theorem Inv.cne (I : Inv X pins σ H s) : ∀ x c,X.env.cells.lookup x = some c → c ≠ X.env.locals := fun x c e z => by
 obtain ⟨v,o,ho,hd⟩ := I.cell x c e
 obtain ⟨m,⟨o',es,ep,ho',hd',_⟩,_⟩ := I.loc
 rw [z,ho'] at ho;cases ho;rw [hd'] at hd;cases hd
theorem Inv.funs (I : Inv X pins σ H s) : s.heap.FunFrames X.base X.outer := by
 have all : ∀ (l : List Env),(∀ b ∈ frs l,b ∈ X.fs) → X.s₀.heap.FunFrames X.base l → s.heap.FunFrames X.base l := by
  intro l
  induction l with
  | nil => intro _ _;trivial
  | cons env r ih =>
   intro hs hl
   obtain ⟨hk,⟨L,o,hf,hn,ho,hd⟩,hr⟩ := hl
   have hL : L ∈ X.fs := hs L (by unfold frs;rw [List.filterMap_cons,hf];exact List.mem_cons_self)
   obtain ⟨sl,e⟩ := I.base.slot L o ho (I.ok.frf L hL) hL fun z => I.ok.exfs L z hL
   exact ⟨hk,⟨L,_,hf,hn,e,hd⟩,ih (fun b hb => hs b (by unfold frs;rw [List.filterMap_cons,hf];exact List.mem_cons_of_mem _ hb)) hr⟩
 exact all X.outer (fun _ hb => hb) I.ok.funs
theorem Inv.stack (I : Inv X pins σ H s) : s.heap.FunFrames X.base X.stack := by
 rcases I.ok.stk with e | ⟨e,hf⟩
 ·rw [e];exact I.funs
 ·rw [e]
  obtain ⟨m,hn,_⟩ := I.loc
  refine .cons (by rw [I.ok.kind];decide) hf hn ?_ I.funs
  exact Heap.get?_none_of_le (Nat.le_trans I.ok.bsz I.ok.above)
theorem Inv.stkSub (I : Inv X pins σ H s) : ∀ b ∈ frs X.stack,b ∈ X.env.locals :: X.fs := fun b hb => by
 rcases I.ok.stk with e | ⟨e,hf⟩
 ·rw [e] at hb;exact List.mem_cons_of_mem _ hb
 ·rw [e] at hb
  unfold frs at hb
  rw [List.filterMap_cons,hf] at hb
  exact hb
theorem Inv.stkFree (I : Inv X pins σ H s) : ∀ b ∈ frs X.stack,H b = none := fun b hb => by
 rcases List.mem_cons.mp (I.stkSub b hb) with e | hb
 ·rw [e];exact I.free
 ·obtain ⟨_,o,ho,_⟩ := I.ok.funs.mem hb
  exact I.base.free b o ho (I.ok.frf b hb) fun z => I.ok.exfs b z hb
theorem Inv.step {g' : Array GenState} {t' : Nat} {d' : Drawn} {ch : List Addr} (I : Inv X pins σ H s)
  (hch : ∀ b ∈ ch,(b ∈ X.ex ∨ X.s₀.heap.objs.size ≤ b)∧b ≠ X.env.locals∧(∀ x c,X.env.cells.lookup x = some c → c ≠ b)∧∀ p ∈ X.pn ++ pins,p.1 ≠ b)
  (keep : ∀ b o,b ≠ X.env.locals → b ∉ X.fs → b ∉ ch → s.heap.get? b = some o → H b = none → h'.get? b = some o)
  (slot : ∀ b o,b ≠ X.env.locals → b ∈ X.fs → b ∉ ch → s.heap.get? b = some o → H b = none → ∃ sl,h'.get? b = some { o with slots := sl }) (free : ∀ b o,b ∉ ch → s.heap.get? b = some o → H b = none → H' b = none)
  (there : ∀ b o,b ∉ ch → s.heap.get? b = some o → ∃ o',h'.get? b = some o')
  (tups : ∀ b xs,H b = some (.tup xs) → H' b = some (.tup xs)) (frzs : ∀ b o u,H b = some (.frz o u) → H' b = some (.frz o u)) (tbls : ∀ b ps,H b = some (.tbl ps) → ∃ more,H' b = some (.tbl (ps ++ more)))
  (ns : ∀ m,s.heap.Ns X.env.locals m → h'.Ns X.env.locals m) (hok : HOk X.prog X.w H' h') (hg : AllBare g') :
  Inv X pins σ H' { s with heap := h',gens := g',drawn := d',toks := t' } := by
 have neL : ∀ b o,X.s₀.heap.get? b = some o → b ≠ X.env.locals := fun b o e => Nat.ne_of_lt (Nat.lt_of_lt_of_le (Heap.lt_size e) I.ok.above)
 have neC : ∀ b o,X.s₀.heap.get? b = some o → b ∉ X.ex → b ∉ ch := fun b o e hx hb => by
  rcases (hch b hb).1 with z | z
  ·exact hx z
  ·exact absurd (Nat.lt_of_lt_of_le (Heap.lt_size e) z) (Nat.lt_irrefl _)
 have cellK : ∀ x c,X.env.cells.lookup x = some c → ∀ v,s.heap.IsCell c v → h'.IsCell c v := fun x c e v ⟨o,ho,hd⟩ => by
  have nch : c ∉ ch := fun z => (hch c z).2.2.1 x c e rfl
  by_cases hc : c ∈ X.fs
  ·obtain ⟨sl,q⟩ := slot c o (I.cne x c e) hc nch ho (I.freeC x c e)
   exact ⟨_,q,hd⟩
  ·exact ⟨o,keep c o (I.cne x c e) hc nch ho (I.freeC x c e),hd⟩
 refine ⟨I.ok,I.os,hg,⟨fun b o e n hb hx => ?_,fun b o e n hb hx => ?_,fun b o e n hx => ?_,fun b o e hx => ?_,fun b xs e => tups b xs (I.base.tups b xs e),fun b o xs e => frzs b o xs (I.base.frzs b o xs e),fun b ps e => ?_⟩,?_,fun x c e => ?_,?_,fun x c e => ?_,fun p hp => ?_,hok,I.len⟩
 ·exact keep b o (neL b o e) hb (neC b o e hx) (I.base.keep b o e n hb hx) (I.base.free b o e n hx)
 ·obtain ⟨sl,e1⟩ := I.base.slot b o e n hb hx
  obtain ⟨sl',e2⟩ := slot b _ (neL b o e) hb (neC b o e hx) e1 (I.base.free b o e n hx)
  exact ⟨sl',e2⟩
 ·obtain ⟨o',e1⟩ := I.base.there b o e hx
  exact free b o' (neC b o e hx) e1 (I.base.free b o e n hx)
 ·obtain ⟨o',e1⟩ := I.base.there b o e hx
  exact there b o' (neC b o e hx) e1
 ·obtain ⟨m1,e1⟩ := I.base.tbls b ps e
  obtain ⟨m2,e2⟩ := tbls b _ e1
  exact ⟨m1 ++ m2,by rw [e2,Array.append_assoc]⟩
 ·obtain ⟨m,hn,hl⟩ := I.loc
  refine ⟨m,ns m hn,fun i x v e1 e2 e3 => ?_⟩
  obtain ⟨u,r,l⟩ := hl i x v e1 e2 e3
  refine ⟨u,r,?_⟩
  rcases l with l | ⟨k,c,e,z⟩
  ·exact .inl l
  ·exact .inr ⟨k,c,e,cellK x c e _ z⟩
 ·obtain ⟨v,z⟩ := I.cell x c e
  exact ⟨v,cellK x c e v z⟩
 ·obtain ⟨m,⟨o,_,_,ho,_⟩,_⟩ := I.loc
  exact free _ o (fun z => (hch _ z).2.1 rfl) ho I.free
 ·obtain ⟨v,o,ho,hd⟩ := I.cell x c e
  exact free c o (fun z => (hch c z).2.2.1 x c e rfl) ho (I.freeC x c e)
 ·obtain ⟨e,n,ne,nf,d⟩ := I.pin p hp
  have nch : p.1 ∉ ch := fun z => (hch p.1 z).2.2.2 p hp rfl
  exact ⟨keep p.1 p.2 ne nf nch e n,free p.1 p.2 nch e n,ne,nf,d⟩
theorem Inv.un {t' : Nat} (I : Inv X pins σ H s) (u : Un X.fs [] H H' s.heap h') (hok : HOk X.prog X.w H' h') : Inv X pins σ H' { s with heap := h',toks := t' } := by
 obtain ⟨m,⟨o,es,ep,ho,r⟩,_⟩ := id I.loc
 obtain ⟨sl,hL⟩ := u.any ho I.free (by simp)
 exact I.step (g' := s.gens) (d' := s.drawn) (ch := []) (fun _ z => nomatch z) (fun b o _ hb _ e n => u.keep b o e n hb (by simp)) (fun b o _ hb _ e n => u.slot b o e n hb (by simp)) (fun b o _ e n => u.free b o e n (by simp)) (fun b o _ e => u.there b o e (by simp)) u.tups u.frzs u.tbls (fun m' hm => by
  obtain ⟨o',es',ep',ho',r'⟩ := hm
  rw [ho] at ho';cases ho'
  exact ⟨_,es',ep',hL,r'⟩) hok I.bare
theorem Inv.call {g' : Array GenState} {t' : Nat} {d' : Drawn} {ch : List Addr} (I : Inv X pins σ H s) (u : Un (frs X.stack) ch H H' s.heap h') (hok : HOk X.prog X.w H' h') (hg : AllBare g')
  (hch : ∀ b ∈ ch,(b ∈ X.ex ∨ X.s₀.heap.objs.size ≤ b)∧b ≠ X.env.locals∧(∀ x c,X.env.cells.lookup x = some c → c ≠ b)∧∀ p ∈ X.pn ++ pins,p.1 ≠ b) :
  Inv X pins σ H' { s with heap := h',gens := g',drawn := d',toks := t' } := by
 obtain ⟨m,⟨o,es,ep,ho,r⟩,_⟩ := id I.loc
 obtain ⟨sl,hL⟩ := u.any ho I.free fun z => (hch _ z).2.1 rfl
 exact I.step (ch := ch) hch (fun b o hL hb hc e n => u.keep b o e n (fun z => (List.mem_cons.mp (I.stkSub b z)).elim hL hb) hc) (fun b o _ _ hc e n => u.any e n hc) (fun b o hc e n => u.free b o e n hc) (fun b o hc e => u.there b o e hc) u.tups u.frzs u.tbls (fun m' hm => by
  obtain ⟨o',es',ep',ho',r'⟩ := hm
  rw [ho] at ho';cases ho'
  exact ⟨_,es',ep',hL,r'⟩) hok hg
theorem Inv.turned {t' : Nat} {it : Addr} (I : Inv X pins σ H s) (k : ∀ b o,b ≠ it → s.heap.get? b = some o → h'.get? b = some o) (hn : H it = none) (hL : it ≠ X.env.locals)
  (h1 : it ∈ X.ex ∨ X.s₀.heap.objs.size ≤ it) (h2 : ∀ x c,X.env.cells.lookup x = some c → c ≠ it) (h3 : ∀ p ∈ X.pn ++ pins,p.1 ≠ it) : Inv X pins σ H { s with heap := h',toks := t' } := by
 have nit : ∀ b u,H b = some u → b ≠ it := fun b u e z => by rw [z,hn] at e;cases e
 refine I.step (g' := s.gens) (d' := s.drawn) (ch := [it]) (fun b hb => ?_) (fun b o _ _ hc e _ => k b o (fun z => hc (by simp [z])) e) (fun b o _ _ hc e _ => ⟨o.slots,k b o (fun z => hc (by simp [z])) e⟩) (fun _ _ _ _ n => n)
  (fun b o hc e => ⟨o,k b o (fun z => hc (by simp [z])) e⟩) (fun _ _ e => e) (fun _ _ _ e => e) (fun b ps e => ⟨#[],by rw [e];simp⟩) (fun m hm => ?_) (fun b u e => ?_) I.bare
 ·have e : b = it := by simpa using hb
  subst e
  exact ⟨h1,hL,h2,h3⟩
 ·obtain ⟨o,es,ep,ho,r⟩ := hm
  exact ⟨o,es,ep,k _ o (Ne.symm hL) ho,r⟩
 ·refine (I.hok b u e).stay (fun c v hc q => k c v ?_ q) (fun _ q => q) fun _ _ q => q
  rcases hc with z | z
  ·rw [z];exact nit b u e
  ·exact nit c _ z
theorem Inv.tok (I : Inv X pins σ H s) (t : Nat) : Inv X pins σ H { s with toks := t } := I.un (h' := s.heap) (t' := t) Un.refl I.hok
theorem Inv.kept {t' : Nat} (I : Inv X pins σ H s) (k : ∀ b u,s.heap.get? b = some u → h'.get? b = some u) : Inv X pins σ H { s with heap := h',toks := t' } := I.un (Un.kept k) (I.hok.kept k)
theorem Inv.laid {a : Addr} {o : HO} {t' : Nat} (I : Inv X pins σ H s) (k : ∀ b u,s.heap.get? b = some u → h'.get? b = some u) (hp : s.heap.objs.size ≤ a) (new : ObjOk X.prog X.w (upd H a o) h' a o) :
  Inv X pins σ (upd H a o) { s with heap := h',toks := t' } := I.un (Un.laid k hp (I.hok.fresh hp)) (I.hok.laid k hp new)
theorem Inv.write {x e : Addr} {o : HO} {t' : Nat} (I : Inv X pins σ H s) (mu : Mut (H x)) (he : e = x ∨ H e = some (.own x)) (k : ∀ b u,b ≠ e → s.heap.get? b = some u → h'.get? b = some u) (heo : ∃ u,h'.get? e = some u)
  (new : ObjOk X.prog X.w (upd H x o) h' x o) : Inv X pins σ (upd H x o) { s with heap := h',toks := t' } := I.un (Un.write mu he k heo) (I.hok.write mu he k heo new)
theorem Inv.pins_of {pins' : List (Addr × Obj)} (I : Inv X pins σ H s) (h : ∀ p ∈ pins',s.heap.get? p.1 = some p.2∧H p.1 = none∧p.1 ≠ X.env.locals∧p.1 ∉ X.fs∧∀ v,p.2.data ≠ .cell v) : Inv X pins' σ H s :=
 ⟨I.ok,I.os,I.bare,I.base,I.loc,I.cell,I.free,I.freeC,fun p hp => (List.mem_append.mp hp).elim (fun z => I.pin p (List.mem_append_left _ z)) (h p),I.hok,I.len⟩
theorem nodup_ix {N : List Str} (hN : N.Nodup) {i j : Nat} {x : Str} (a : N[i]? = some x) (b : N[j]? = some x) : i = j := by
 obtain ⟨h1,e1⟩ := List.getElem?_eq_some_iff.mp a
 obtain ⟨h2,e2⟩ := List.getElem?_eq_some_iff.mp b
 exact (List.getElem_inj hN).mp (e1.trans e2.symm)
theorem store_ok2 {M : Model} {A : Around} {E : Value → Shared → Prop} {i : Nat} {x : Str} {v : V} {u : Value} {Q : Unit → Shared → Prop} (I : Inv X pins σ H s) (hN : X.N.Nodup) (hi : X.N[i]? = some x) (hx : Loc X.env.scope x) (r : RelV v u)
  (h : ∀ s',Inv X pins (σ.set i (some v)) H s' → (∃ a,Heap.SameBut a s.heap s'.heap∧(a = X.env.locals ∨ X.env.cells.lookup x = some a)) → Q () s') (hf : X.fn x = true ∨ X.env.scope.names.lookup x = some .local := by first | exact .inl rfl | exact .inr rfl | assumption) : wpAny M A (storeName X.env x u) Q E s := by
 obtain ⟨m,hn,hl⟩ := id I.loc
 have hcls : (X.env.scope.kind == .class || (X.env.scope.kind == .module && X.env.locals != X.env.globals)) = false := by rw [I.ok.kind];rfl
 have hiσ : i < σ.length := by rw [I.len];exact (List.getElem?_eq_some_iff.mp hi).1
 have cne := I.cne
 have tracked : ∀ {a : Addr} {h' : Heap},(∃ o,s.heap.get? a = some o∧H a = none) → Heap.SameBut a s.heap h' → HOk X.prog X.w H h' := fun {a h'} ha hs b ob e => by
  obtain ⟨_,_,hfree⟩ := ha
  refine (I.hok b ob e).stay (fun c w' hc q => (hs.2 c ?_).trans q) (fun _ q => q) fun _ _ q => q
  rintro rfl
  rcases hc with rfl | hc
  ·rw [hfree] at e;cases e
  ·rw [hfree] at hc;cases hc
 rcases hx with hk | hk
 ·refine wpAny_storeName_local hk hn (fun h' hn' hs => ?_) hcls
  obtain ⟨oL,_,_,hoL,_⟩ := id hn
  refine h _ ⟨I.ok,I.os,I.bare,⟨fun b o e n hb hx => ?_,fun b o e n hb hx => ?_,I.base.free,fun b o e hx => ?_,I.base.tups,I.base.frzs,I.base.tbls⟩,⟨_,hn',fun j y v' e1 e2 e3 => ?_⟩,fun y c e => ?_,I.free,I.freeC,fun p hp => ?_,tracked ⟨oL,hoL,I.free⟩ hs,by simpa using I.len⟩ ⟨_,hs,.inl rfl⟩
  ·exact (hs.2 b (Nat.ne_of_lt (Nat.lt_of_lt_of_le (Heap.lt_size e) I.ok.above))).trans (I.base.keep b o e n hb hx)
  ·obtain ⟨sl,e1⟩ := I.base.slot b o e n hb hx
   exact ⟨sl,(hs.2 b (Nat.ne_of_lt (Nat.lt_of_lt_of_le (Heap.lt_size e) I.ok.above))).trans e1⟩
  ·obtain ⟨o',e1⟩ := I.base.there b o e hx
   exact ⟨o',(hs.2 b (Nat.ne_of_lt (Nat.lt_of_lt_of_le (Heap.lt_size e) I.ok.above))).trans e1⟩
  ·by_cases hj : j = i
   ·subst hj
    rw [hi] at e1;cases e1
    rw [List.getElem?_set_self hiσ] at e2
    cases e2
    exact ⟨u,r,.inl ⟨hk,by simp⟩⟩
   ·rw [List.getElem?_set_ne (Ne.symm hj)] at e2
    obtain ⟨u',r',q⟩ := hl j y v' e1 e2 e3
    refine ⟨u',r',?_⟩
    rcases q with ⟨k,e⟩ | ⟨k,c,e,z⟩
    ·refine .inl ⟨k,?_⟩
     have : y ≠ x := fun e => hj (nodup_ix hN e1 (e ▸ hi))
     simp [this,e]
    ·exact .inr ⟨k,c,e,z.sameBut hs (cne y c e)⟩
  ·obtain ⟨w',z⟩ := I.cell y c e
   exact ⟨w',z.sameBut hs (cne y c e)⟩
  ·obtain ⟨e,n,ne,nf,d⟩ := I.pin p hp
   exact ⟨(hs.2 p.1 ne).trans e,n,ne,nf,d⟩
 ·have hfn : X.fn x = true := by
   rcases hf with z | z
   ·exact z
   ·rw [z] at hk;cases hk
  obtain ⟨c,hc⟩ := I.ok.has x (.inl hk)
  obtain ⟨w',z⟩ := I.cell x c hc
  refine wpAny_storeName_cell I.ok.kind hk hc z (fun h' hc' hs => ?_)
  obtain ⟨oc,hoc,hocd⟩ := id z
  refine h { s with heap := h' } ⟨I.ok,I.os,I.bare,⟨fun b o e n hb hx => ?_,fun b o e n hb hx => ?_,I.base.free,fun b o e hx => ?_,I.base.tups,I.base.frzs,I.base.tbls⟩,⟨m,hn.sameBut hs (Ne.symm (cne x c hc)),fun j y v' e1 e2 e3 => ?_⟩,fun y c' e => ?_,I.free,I.freeC,fun p hp => ?_,tracked ⟨oc,hoc,I.freeC x c hc⟩ hs,by simpa using I.len⟩ ⟨c,hs,.inr hc⟩
  ·exact (hs.2 b (Nat.ne_of_lt (Nat.lt_of_lt_of_le (Heap.lt_size e) (I.ok.cab x c hfn hc)))).trans (I.base.keep b o e n hb hx)
  ·obtain ⟨sl,e1⟩ := I.base.slot b o e n hb hx
   exact ⟨sl,(hs.2 b (Nat.ne_of_lt (Nat.lt_of_lt_of_le (Heap.lt_size e) (I.ok.cab x c hfn hc)))).trans e1⟩
  ·obtain ⟨o',e1⟩ := I.base.there b o e hx
   exact ⟨o',(hs.2 b (Nat.ne_of_lt (Nat.lt_of_lt_of_le (Heap.lt_size e) (I.ok.cab x c hfn hc)))).trans e1⟩
  ·by_cases hj : j = i
   ·subst hj
    rw [hi] at e1;cases e1
    rw [List.getElem?_set_self hiσ] at e2
    cases e2
    exact ⟨u,r,.inr ⟨.inl hk,c,hc,hc'⟩⟩
   ·rw [List.getElem?_set_ne (Ne.symm hj)] at e2
    obtain ⟨u',r',q⟩ := hl j y v' e1 e2 e3
    refine ⟨u',r',?_⟩
    rcases q with q | ⟨k,c',e,z'⟩
    ·exact .inl q
    ·refine .inr ⟨k,c',e,z'.sameBut hs ?_⟩
     rintro rfl
     exact hj (nodup_ix hN e1 (I.ok.inj _ _ _ e hc ▸ hi))
  ·by_cases hcc : c' = c
   ·subst hcc;exact ⟨_,hc'⟩
   ·obtain ⟨w2,z2⟩ := I.cell y c' e
    exact ⟨w2,z2.sameBut hs hcc⟩
  ·obtain ⟨e,n,ne,nf,d⟩ := I.pin p hp
   refine ⟨(hs.2 p.1 ?_).trans e,n,ne,nf,d⟩
   intro q
   rw [q,hoc] at e
   have q' : oc = p.2 := Option.some.inj e
   exact d w' (by rw [← q'];exact hocd)
theorem store_ok {M : Model} {A : Around} {E : Value → Shared → Prop} {i : Nat} {x : Str} {v : V} {u : Value} {Q : Unit → Shared → Prop} (I : Inv X pins σ H s) (hN : X.N.Nodup) (hi : X.N[i]? = some x) (hx : Loc X.env.scope x) (r : RelV v u)
  (h : ∀ s',Inv X pins (σ.set i (some v)) H s' → Q () s') (hf : X.fn x = true ∨ X.env.scope.names.lookup x = some .local := by first | exact .inl rfl | exact .inr rfl | assumption) : wpAny M A (storeName X.env x u) Q E s :=
 store_ok2 I hN hi hx r (fun s' I' _ => h s' I') hf
theorem Inv.call' {s' : Shared} {ch : List Addr} (I : Inv X pins σ H s) (ho : s'.os = s.os) (u : Un (frs X.stack) ch H H' s.heap s'.heap) (hok : HOk X.prog X.w H' s'.heap) (hg : AllBare s'.gens)
  (hch : ∀ b ∈ ch,(b ∈ X.ex ∨ X.s₀.heap.objs.size ≤ b)∧b ≠ X.env.locals∧(∀ x c,X.env.cells.lookup x = some c → c ≠ b)∧∀ p ∈ X.pn ++ pins,p.1 ≠ b) : Inv X pins σ H' s' := by
 obtain ⟨h',g',d',t',o'⟩ := s'
 have e : o' = s.os := ho
 subst e
 exact I.call (g' := g') (t' := t') (d' := d') u hok hg hch
end
noncomputable abbrev XK := Value → Option Addr → Hp → Prop
noncomputable abbrev St := List (Option V)
noncomputable abbrev VK := V → Hp → Prop
noncomputable abbrev TE := St → Hp → VK → Prop
noncomputable abbrev TT := St → Hp → (Bool → Hp → Prop) → Prop
noncomputable abbrev TA := St → Hp → (List V → Hp → Prop) → Prop
structure Ends where
 nx : St → Hp → Prop
 rt : VK
 bk : St → Hp → Prop := fun _ _ => False
 ct : St → Hp → Prop := fun _ _ => False
noncomputable abbrev TS := Ends → St → Hp → Prop
def EP (X : Cx) (pins : List (Addr × Obj)) (σ : St) (Q : VK) (u : Value) (s' : Shared) : Prop := ∃ v H',Inv X pins σ H' s'∧RelV v u∧Q v H'
def TP (X : Cx) (pins : List (Addr × Obj)) (σ : St) (Q : Bool → Hp → Prop) (b : Bool) (s' : Shared) : Prop := ∃ H',Inv X pins σ H' s'∧Q b H'
def AP (X : Cx) (pins : List (Addr × Obj)) (σ : St) (Q : List V → Hp → Prop) (us : List Value) (s' : Shared) : Prop := ∃ vs H',Inv X pins σ H' s'∧Vals vs us∧Q vs H'
def SP (X : Cx) (pins : List (Addr × Obj)) (D : Ends) (f : Flow) (s' : Shared) : Prop :=
 match f with
 | .next => ∃ σ' H',Inv X pins σ' H' s'∧D.nx σ' H'
 | .brk => ∃ σ' H',Inv X pins σ' H' s'∧D.bk σ' H'
 | .cont => ∃ σ' H',Inv X pins σ' H' s'∧D.ct σ' H'
 | .ret u => ∃ v σ' H',Inv X pins σ' H' s'∧RelV v u∧D.rt v H'
def PE (X : Cx) (e : Expr) (t : TE) : Prop :=
 ∀ (pins : List (Addr × Obj)) (s : Shared) (σ : St) (H : Hp) (Q : VK),Inv X pins σ H s → t σ H Q → wpAny (model X.prog X.w) X.A (eval e X.env) (EP X pins σ Q) X.xe s
def PT (X : Cx) (e : Expr) (t : TT) : Prop :=
 ∀ (pins : List (Addr × Obj)) (s : Shared) (σ : St) (H : Hp) (Q : Bool → Hp → Prop),Inv X pins σ H s → t σ H Q → wpAny (model X.prog X.w) X.A (isTrue e X.env (eval e X.env)) (TP X pins σ Q) X.xe s
def PW (X : Cx) (e : Expr) (t : TT) : Prop :=
 ∀ (whole : Sem Value) (pins : List (Addr × Obj)) (s : Shared) (σ : St) (H : Hp) (Q : Bool → Hp → Prop),Inv X pins σ H s → t σ H Q → wpAny (model X.prog X.w) X.A (isTrue e X.env whole) (TP X pins σ Q) X.xe s
theorem PW.pt {X : Cx} {e : Expr} {t : TT} (h : PW X e t) : PT X e t := h _
def PA (X : Cx) (es : List Expr) (t : TA) : Prop :=
 ∀ (pos : Pos) (pins : List (Addr × Obj)) (s : Shared) (σ : St) (H : Hp) (Q : List V → Hp → Prop),Inv X pins σ H s → t σ H Q → wpAny (model X.prog X.w) X.A (spliced (backTo pos (starEach es X.env))) (AP X pins σ Q) X.xe s
def PS (X : Cx) (st : Stmt) (t : TS) : Prop :=
 ∀ (pins : List (Addr × Obj)) (s : Shared) (σ : St) (H : Hp) (D : Ends),Inv X pins σ H s → t D σ H → wpAny (model X.prog X.w) X.A (exec st X.env) (SP X pins D) X.xe s
def PSs (X : Cx) (st : List Stmt) (t : TS) : Prop :=
 ∀ (pins : List (Addr × Obj)) (s : Shared) (σ : St) (H : Hp) (D : Ends),Inv X pins σ H s → t D σ H → wpAny (model X.prog X.w) X.A (execs st X.env) (SP X pins D) X.xe s
theorem thn {α : Type} {t : Sem α} {Q Q' : α → Shared → Prop} {M : Model} {A : Around} {E : Value → Shared → Prop} {s : Shared} (h : wpAny M A t Q E s) (hQ : ∀ a s,Q a s → Q' a s) : wpAny M A t Q' E s := wpAny_mono h hQ fun _ _ x => x
end L2
namespace L2
open PySem PySem.Spec PyProof.Rows
section
variable {X : Cx}
noncomputable def tVar (i : Nat) : TE := fun σ H Q => ∃ v,σ[i]? = some (some v)∧Q v H
noncomputable def tC (v : V) : TE := fun _ H Q => Q v H
theorem pe_var {i : Nat} {x : Str} {pos : Pos} (hN : X.N[i]? = some x) (hv : Vis X.env.scope x) (hd : (x == ("__debug__" : Str)) = false := by decide) (hcd : (x == ("__classdict__" : Str)) = false := by decide) : PE X (.Name x pos) (tVar i) := by
 intro pins s σ H Q I h
 obtain ⟨v,e,h⟩ := h
 obtain ⟨m,hn,hl⟩ := I.loc
 obtain ⟨u,r,l⟩ := hl i x v hN e hv
 have fin : EP X pins σ Q u s := ⟨v,H,I,r,h⟩
 rcases l with ⟨hk,hm⟩ | ⟨hk,c,hc,hcell⟩
 ·exact wpAny_Name (wpAny_loadName_local I.ok.kind hk hn hm fin) hd
 ·rcases hk with hk | hk
  ·exact wpAny_Name (wpAny_loadName_cell I.ok.kind hk hc hcell fin) hd
  ·exact wpAny_Name (wpAny_loadName_free I.ok.kind hk hc hcell fin hcd) hd
theorem pe_int {i j pos} : PE X (.Constant (.int i) j pos) (tC (.int i)) := fun _ _ _ H _ I h => wpAny_Constant_int ⟨.int i,H,I.tok _,⟨_,rfl⟩,h⟩
theorem pe_bl {b j pos} : PE X (.Constant (.bool b) j pos) (tC (.bl b)) := fun _ _ _ H _ I h => Constant_bool ⟨.bl b,H,I,rfl,h⟩
theorem pe_non {j pos} : PE X (.Constant .none j pos) (tC .non) := fun _ _ _ H _ I h => Constant_none ⟨.non,H,I,rfl,h⟩
theorem pe_str {x j pos} : PE X (.Constant (.str x) j pos) (tC (.str x)) := fun _ _ _ H _ I h => Calls.Constant_str ⟨.str x,H,I.tok _,⟨_,rfl⟩,h⟩
def Gl (X : Cx) (x : Str) : Prop := X.env.kindOf x = some .globalImplicit
theorem ld_glob {E : Value → Shared → Prop} {pins : List (Addr × Obj)} {s : Shared} {σ : St} {H : Hp} {x : Str} {u : Value} {pos : Pos} {Q : Value → Shared → Prop} (I : Inv X pins σ H s) (hg : Gl X x) (hm : X.mg x = some u) (h : Q u s)
  (hd : (x == ("__debug__" : Str)) = false := by decide) : wpAny (model X.prog X.w) X.A (eval (.Name x pos) X.env) Q E s :=
 Calls.Name_function_global I.ok.kind hg (Calls.loadGlobal_global (by rw [I.ok.glob];exact I.mod.glob.keeps I.bk) hm h) hd
theorem ld_blt {E : Value → Shared → Prop} {pins : List (Addr × Obj)} {s : Shared} {σ : St} {H : Hp} {x : Str} {u : Value} {pos : Pos} {Q : Value → Shared → Prop} (I : Inv X pins σ H s) (hg : Gl X x) (hm : X.mg x = none) (hv : bootBuiltins x = some u) (h : Q u s)
  (hn : x ≠ "__name__" := by decide) (hd : (x == ("__debug__" : Str)) = false := by decide) : wpAny (model X.prog X.w) X.A (eval (.Name x pos) X.env) Q E s := by
 obtain ⟨mb,h1,h2⟩ := I.mod.blt
 exact Calls.Name_function_global I.ok.kind hg (Calls.loadGlobal_builtin (by rw [I.ok.glob];exact I.mod.glob.keeps I.bk) hm (by rw [I.ok.blt];exact h1.keeps I.bk) ((h2 x hn).trans hv) h) hd
theorem pe_glob {x : Str} {v : V} {u : Value} {pos : Pos} (hg : Gl X x) (hm : X.mg x = some u) (r : RelV v u) (hd : (x == ("__debug__" : Str)) = false := by decide) : PE X (.Name x pos) (tC v) :=
 fun _ _ _ H _ I h => ld_glob I hg hm ⟨v,H,I,r,h⟩ hd
theorem pe_bltn {x : Str} {v : V} {u : Value} {pos : Pos} (hg : Gl X x) (hm : X.mg x = none) (hv : bootBuiltins x = some u) (r : RelV v u) (hn : x ≠ "__name__" := by decide) (hd : (x == ("__debug__" : Str)) = false := by decide) : PE X (.Name x pos) (tC v) :=
 fun _ _ _ H _ I h => ld_blt I hg hm hv ⟨v,H,I,r,h⟩ hn hd
variable {a b : Expr} {ta tb : TE} {pos : Pos}
noncomputable def tB (t : TE) : TT := fun σ H Q => t σ H fun x H1 => ∃ c,x = .bl c∧Q c H1
theorem pt_val {e : Expr} {t : TE} (h : PE X e t) (he : ∀ whole,isTrue e X.env whole = (do let v ← whole;standAt e.pos;holding [v] (truthy v)) := by intro _;rfl) : PT X e (tB t) := by
 intro pins s σ H Q I hw
 refine isTrue_plain (thn (h pins s σ H _ I hw) fun v s1 ⟨x,H1,I1,r1,q1⟩ => ?_) (he _)
 obtain ⟨d,rfl,q⟩ := q1
 cases r1
 exact wpAny_truthy_bool ⟨H1,I1,q⟩
variable {tA tB' : TT} {rest : List Expr}
noncomputable def tOr (t u : TT) : TT := fun σ H Q => t σ H fun c H1 => if c = true then Q true H1 else u σ H1 Q
noncomputable def tNot (t : TT) : TT := fun σ H Q => t σ H fun c H1 => Q (!c) H1
theorem pw_or1 (ha : PT X a tA) : PW X (.BoolOp .Or [a] pos) tA := by
 intro wh pins s σ H Q I h
 refine isTrue_or (thn (ha pins s σ H Q I h) fun c s1 e => ?_)
 cases c with
 | false => exact isTrue_or_nil e
 | true => exact e
theorem pw_or (ha : PT X a tA) (hb : PW X (.BoolOp .Or (b :: rest) pos) tB') : PW X (.BoolOp .Or (a :: b :: rest) pos) (tOr tA tB') := by
 intro wh pins s σ H Q I h
 refine isTrue_or (thn (ha pins s σ H _ I h) fun c s1 ⟨H1,I1,q1⟩ => ?_)
 cases c with
 | true => exact ⟨H1,I1,q1⟩
 | false => exact hb wh pins s1 σ H1 Q I1 q1
theorem pt_not (ha : PT X a tA) : PT X (.UnaryOp .Not a pos) (tNot tA) := by
 intro pins s σ H Q I h
 exact isTrue_not (ha pins s σ H (fun c H1 => Q (!c) H1) I h)
noncomputable def tAndV (ta tb : TE) : TE := fun σ H Q => ta σ H fun x H1 => ∃ c,x = .bl c∧if c = true then tb σ H1 Q else Q (.bl false) H1
noncomputable def tNotV (ta : TE) : TE := fun σ H Q => ta σ H fun x H1 => ∃ c,x = .bl c∧Q (.bl (!c)) H1
theorem pe_one {op} {t : TE} (h : PE X a t) : PE X (.BoolOp op [a] pos) t := fun pins s σ H Q I hw => BoolOp_one (h pins s σ H Q I hw)
theorem pe_and (ha : PE X a ta) (hb : PE X (.BoolOp .And (b :: rest) pos) tb) : PE X (.BoolOp .And (a :: b :: rest) pos) (tAndV ta tb) := by
 intro pins s σ H Q I h
 refine BoolOp_and (thn (ha pins s σ H _ I h) fun v s1 ⟨x,H1,I1,r1,q1⟩ => ?_)
 obtain ⟨c,rfl,q1⟩ := q1
 cases r1
 refine wpAny_truthy_bool ?_
 cases c with
 | true => exact hb pins s1 σ H1 Q I1 q1
 | false => exact ⟨.bl false,H1,I1,rfl,q1⟩
theorem pe_not (ha : PE X a ta) : PE X (.UnaryOp .Not a pos) (tNotV ta) := by
 intro pins s σ H Q I h
 refine UnaryOp_ (thn (ha pins s σ H _ I h) fun v s1 ⟨x,H1,I1,r1,q1⟩ => ?_)
 obtain ⟨c,rfl,q1⟩ := q1
 cases r1
 exact not_of (wpAny_truthy_bool ⟨.bl (!c),H1,I1,rfl,q1⟩)
noncomputable def tIf (t : TT) (ta tb : TE) : TE := fun σ H Q => t σ H fun c H1 => if c = true then ta σ H1 Q else tb σ H1 Q
theorem pe_ifExp {c : Expr} (hc : PT X c tA) (ha : PE X a ta) (hb : PE X b tb) : PE X (.IfExp c a b pos) (tIf tA ta tb) := by
 intro pins s σ H Q I h
 refine wpAny_IfExp (thn (hc pins s σ H _ I h) fun d s1 ⟨H1,I1,q1⟩ => ?_)
 cases d with
 | true => exact ha pins s1 σ H1 Q I1 q1
 | false => exact hb pins s1 σ H1 Q I1 q1
end
end L2
namespace L2
open PySem PySem.Spec PyProof.Rows
def SqL (K : PySem.W.Frag) (H : Hp) (a : Addr) (xs : List V) : Prop :=
 Rd H a (.lst xs) ∨
  ∃ (o : Obj) (its : Array Value) (n : Nat),K.lookup a = some o∧o.cls = .type "list"∧o.dict = none∧o.data = .seq its n∧its.size ≤ sizeLine∧Vals xs its.toList
def SqT (K : PySem.W.Frag) (H : Hp) (a : Addr) (xs : List V) : Prop :=
 Rd H a (.tup xs) ∨
  ∃ (o : Obj) (its : Array Value) (n : Nat),K.lookup a = some o∧o.cls = .type "tuple"∧o.data = .seq its n∧its.size ≤ sizeLine∧Vals xs its.toList
noncomputable def absV : Value → Option V
 | .none => some .non
 | .bool b => some (.bl b)
 | .int i _ => some (.int i)
 | .str x _ => some (.str x)
 | .bytes b _ => some (.byt b)
 | .float b _ => some (.flt b)
 | .ref a => some (.ref a)
 | .type n => some (.ty n)
 | _ => none
theorem RelV.abs {x : V} {u : Value} (r : RelV x u) : absV u = some x := by
 cases x with
 | non => cases r;rfl
 | bl _ => cases r;rfl
 | int _ => obtain ⟨t,rfl⟩ := r;rfl
 | str _ => obtain ⟨t,rfl⟩ := r;rfl
 | byt _ => obtain ⟨t,rfl⟩ := r;rfl
 | flt _ => obtain ⟨t,rfl⟩ := r;rfl
 | ref _ => cases r;rfl
 | ty _ => cases r;rfl
theorem RelV.inj {x y : V} {u : Value} (r : RelV x u) (q : RelV y u) : x = y := Option.some.inj (r.abs.symm.trans q.abs)
theorem Vals.inj : ∀ {xs ys : List V} {us : List Value},Vals xs us → Vals ys us → xs = ys
 | _,_,_,.nil,.nil => rfl
 | _,_,_,.cons r t,.cons r' t' => by rw [r.inj r',Vals.inj t t']
section
variable {X : Cx} {pins : List (Addr × Obj)} {σ : St} {H : Hp} {s : Shared} {a : Addr} {xs ys : List V}
theorem SqL.of {K : PySem.W.Frag} (h : H a = some (.lst xs)) : SqL K H a xs := .inl (.inl h)
theorem SqT.of {K : PySem.W.Frag} (h : H a = some (.tup xs)) : SqT K H a xs := .inl (.inl h)
theorem Inv.list (I : Inv X pins σ H s) (h : SqL X.K H a xs) : ∃ its : List Value,Vals xs its∧PlainL s.heap a its.toArray∧xs.length ≤ sizeLine := by
 rcases h with h | ⟨o,its,n,hk,hc,hd,hs,hz,r⟩
 ·obtain ⟨z,its,n,r,e⟩ := h.ok I.hok
  exact ⟨its,r,⟨_,n,e,rfl,rfl,rfl⟩,z⟩
 ·refine ⟨its.toList,r,⟨o,n,I.kIn a o hk,hc,hd,by simpa using hs⟩,?_⟩
  have e := r.length
  simp only [Array.length_toList] at e
  omega
theorem Inv.tuple (I : Inv X pins σ H s) (h : SqT X.K H a xs) : ∃ its : List Value,Vals xs its∧IsTup s.heap a its.toArray∧xs.length ≤ sizeLine := by
 rcases h with h | ⟨o,its,n,hk,hc,hs,hz,r⟩
 ·obtain ⟨z,its,r,p⟩ := h.ok I.hok
  exact ⟨its,r,p,z⟩
 ·refine ⟨its.toList,r,⟨o,I.kIn a o hk,hc,n,by simpa using hs⟩,?_⟩
  have e := r.length
  simp only [Array.length_toList] at e
  omega
theorem Inv.list_inj (I : Inv X pins σ H s) (h : SqL X.K H a xs) (h' : SqL X.K H a ys) : xs = ys := by
 obtain ⟨its,r,⟨o,n,e,_,_,d⟩,_⟩ := I.list h
 obtain ⟨its',r',⟨o',n',e',_,_,d'⟩,_⟩ := I.list h'
 rw [e] at e';cases e'
 rw [d] at d'
 injection d' with d1 _
 have : its = its' := by simpa using congrArg Array.toList d1
 subst this
 exact r.inj r'
theorem Inv.tuple_inj (I : Inv X pins σ H s) (h : SqT X.K H a xs) (h' : SqT X.K H a ys) : xs = ys := by
 obtain ⟨its,r,⟨o,e,_,n,d⟩,_⟩ := I.tuple h
 obtain ⟨its',r',⟨o',e',_,n',d'⟩,_⟩ := I.tuple h'
 rw [e] at e';cases e'
 rw [d] at d'
 injection d' with d1 _
 have : its = its' := by simpa using congrArg Array.toList d1
 subst this
 exact r.inj r'
end
noncomputable abbrev Cx.wish (X : Cx) (E : Value → Shared → Prop) : Cx := { X with xe := E }
noncomputable abbrev Cx.nox (X : Cx) : Cx := X.wish fun _ _ => False
theorem Cx.Ok.wish {X : Cx} (ok : X.Ok) (E : Value → Shared → Prop) : (X.wish E).Ok :=
 ⟨ok.mod,ok.kind,ok.glob,ok.blt,ok.above,ok.inj,ok.has,ok.cab,ok.hd,ok.frames,ok.stk,ok.exf,ok.bs,ok.bsz,ok.noex,ok.exfs,ok.funs,ok.frf⟩
theorem Cx.Ok.unwish {X : Cx} {E : Value → Shared → Prop} (ok : (X.wish E).Ok) : X.Ok :=
 ⟨ok.mod,ok.kind,ok.glob,ok.blt,ok.above,ok.inj,ok.has,ok.cab,ok.hd,ok.frames,ok.stk,ok.exf,ok.bs,ok.bsz,ok.noex,ok.exfs,ok.funs,ok.frf⟩
section
variable {X : Cx} {pins : List (Addr × Obj)} {σ : St} {H : Hp} {s : Shared} {E : Value → Shared → Prop}
theorem Inv.wish (I : Inv X pins σ H s) (E : Value → Shared → Prop) : Inv (X.wish E) pins σ H s := ⟨I.ok.wish E,I.os,I.bare,I.base,I.loc,I.cell,I.free,I.freeC,I.pin,I.hok,I.len⟩
theorem Inv.unwish (I : Inv (X.wish E) pins σ H s) : Inv X pins σ H s := ⟨I.ok.unwish,I.os,I.bare,I.base,I.loc,I.cell,I.free,I.freeC,I.pin,I.hok,I.len⟩
theorem SP.unwish {D : Ends} {f : Flow} {s' : Shared} (h : SP (X.wish E) pins D f s') : SP X pins D f s' := by
 cases f with
 | next => obtain ⟨σ',H',I,q⟩ := h;exact ⟨σ',H',I.unwish,q⟩
 | brk => obtain ⟨σ',H',I,q⟩ := h;exact ⟨σ',H',I.unwish,q⟩
 | cont => obtain ⟨σ',H',I,q⟩ := h;exact ⟨σ',H',I.unwish,q⟩
 | ret u => obtain ⟨v,σ',H',I,r,q⟩ := h;exact ⟨v,σ',H',I.unwish,r,q⟩
theorem PSs.nox {st : List Stmt} {t : TS} (h : PSs X.nox st t) : PSs X st t := fun pins s σ H D I hw =>
 wpAny_mono (h pins s σ H D (I.wish _) hw) (fun _ _ q => q.unwish) fun _ _ z => False.elim z
end
section
variable {X : Cx} {st : Stmt} {rest : List Stmt} {t u : TS} {e : Expr} {te : TE} {pos : Pos}
noncomputable def tNext : TS := fun D σ H => D.nx σ H
noncomputable def tSeq (t u : TS) : TS := fun D σ H => t { D with nx := u D } σ H
theorem pss_nil : PSs X [] tNext := fun _ _ σ H _ I h => wpAny_execs_nil ⟨σ,H,I,h⟩
theorem pss_cons (h1 : PS X st t) (h2 : PSs X rest u) : PSs X (st :: rest) (tSeq t u) := by
 intro pins s σ H D I h
 refine wpAny_execs_cons (thn (h1 pins s σ H { D with nx := u D } I h) fun f s1 q => ?_)
 cases f with
 | next =>
  obtain ⟨σ',H',I',q⟩ := q
  exact h2 pins s1 σ' H' D I' q
 | ret v => exact q
 | brk => exact q
 | cont => exact q
theorem pss_one (h1 : PS X st t) : PSs X [st] t := by
 intro pins s σ H D I h
 refine wpAny_execs_cons (thn (h1 pins s σ H D I h) fun f s1 q => ?_)
 cases f with
 | next => exact wpAny_execs_nil q
 | ret v => exact q
 | brk => exact q
 | cont => exact q
theorem Inv.quiet {pins : List (Addr × Obj)} {σ : St} {H : Hp} {s : Shared} (I : Inv X pins σ H s) : interactive X.env = false := by simp [interactive,I.ok.kind]
noncomputable def tDrop (te : TE) : TS := fun D σ H => te σ H fun _ H1 => D.nx σ H1
theorem ps_expr (he : PE X e te) (hs : swapsWith e none pos.line X.env = pure false := by rfl) : PS X (.Expr e pos) (tDrop te) := by
 intro pins s σ H D I h
 exact wpAny_Expr_any (thn (he pins s σ H _ I h) fun v s1 ⟨x,H1,I1,r1,q1⟩ => ⟨σ,H1,I1,q1⟩) I.quiet hs
noncomputable def tRet (te : TE) : TS := fun D σ H => te σ H D.rt
theorem ps_ret (he : PE X e te) : PS X (.Return (some e) pos) (tRet te) := by
 intro pins s σ H D I h
 exact wpAny_Return_some (thn (he pins s σ H _ I h) fun v s1 ⟨x,H1,I1,r1,q1⟩ => ⟨x,σ,H1,I1,r1,q1⟩)
noncomputable def tIfS (c : TT) (t u : TS) : TS := fun D σ H => c σ H fun b H1 => if b = true then t D σ H1 else u D σ H1
theorem ps_if {c : Expr} {a b : List Stmt} {tc : TT} (hc : PT X c tc) (ha : PSs X a t) (hb : PSs X b u) : PS X (.If c a b pos) (tIfS tc t u) := by
 intro pins s σ H D I h
 refine wpAny_If (thn (hc pins s σ H _ I h) fun d s1 ⟨H1,I1,q1⟩ => ?_)
 cases d with
 | true => exact ha pins s1 σ H1 D I1 q1
 | false => exact hb pins s1 σ H1 D I1 q1
end
noncomputable abbrev TG := V → St → Hp → (St → Hp → Prop) → Prop
noncomputable abbrev TGs := List V → St → Hp → (St → Hp → Prop) → Prop
def PG (X : Cx) (target : Expr) (t : TG) : Prop :=
 ∀ (pins : List (Addr × Obj)) (s : Shared) (σ : St) (H : Hp) (v : V) (u : Value) (Q : St → Hp → Prop),Inv X pins σ H s → RelV v u → t v σ H Q →
  wpAny (model X.prog X.w) X.A (assign target X.env u) (fun _ s' => ∃ σ' H',Inv X pins σ' H' s'∧Q σ' H') X.xe s
def PGs (X : Cx) (ts : List Expr) (t : TGs) : Prop :=
 ∀ (pins : List (Addr × Obj)) (s : Shared) (σ : St) (H : Hp) (vs : List V) (us : List Value) (Q : St → Hp → Prop),Inv X pins σ H s → Vals vs us → t vs σ H Q →
  wpAny (model X.prog X.w) X.A (assignInOrder ((assignEach ts X.env).map (·.2)) us) (fun _ s' => ∃ σ' H',Inv X pins σ' H' s'∧Q σ' H') X.xe s
noncomputable abbrev TSet := V → V → V → Hp → (Hp → Prop) → Prop
def PSet (X : Cx) (t : TSet) : Prop :=
 ∀ (pins : List (Addr × Obj)) (s : Shared) (σ : St) (H : Hp) (o i v : V) (ov iv u : Value) (Q : Hp → Prop),Inv X pins σ H s → RelV o ov → RelV i iv → RelV v u → t o i v H Q →
  wpAny (model X.prog X.w) X.A (setItem ov iv u) (fun _ s' => ∃ H',Inv X pins σ H' s'∧Q H') X.xe s
section
variable {X : Cx} {pos : Pos}
noncomputable def gName (i : Nat) : TG := fun v σ H Q => Q (σ.set i (some v)) H
theorem pg_name {i : Nat} {x : Str} (hN : X.N.Nodup) (hi : X.N[i]? = some x) (hx : Loc X.env.scope x) (hf : X.fn x = true ∨ X.env.scope.names.lookup x = some .local := by first | exact .inl rfl | exact .inr rfl | assumption) : PG X (.Name x pos) (gName i) := by
 intro pins s σ H v u Q I r h
 exact wpAny_assign_Name (store_ok I hN hi hx r (fun s' I' => ⟨_,H,I',h⟩) hf)
noncomputable def gNil : TGs := fun vs σ H Q => vs = []∧Q σ H
noncomputable def gCons (t : TG) (u : TGs) : TGs := fun vs σ H Q => ∃ v r,vs = v :: r∧t v σ H fun σ' H' => u r σ' H' Q
theorem pgs_nil : PGs X [] gNil := by
 intro pins s σ H vs us Q I r h
 obtain ⟨e,h⟩ := h
 subst e
 cases r
 exact assignInOrder_nil ⟨σ,H,I,h⟩
theorem pgs_cons {e : Expr} {es : List Expr} {t : TG} {u : TGs} (h1 : PG X e t) (h2 : PGs X es u)
  (hs : (assignEach (e :: es) X.env).map (·.2) = assign e X.env :: (assignEach es X.env).map (·.2) := by rfl) : PGs X (e :: es) (gCons t u) := by
 intro pins s σ H vs us Q I r h
 obtain ⟨v,vr,e1,h⟩ := h
 subst e1
 cases r with
 | cons r rr =>
  rw [hs]
  refine assignInOrder_cons (thn (h1 pins s σ H _ _ _ I r h) fun _ s1 ⟨σ1,H1,I1,q1⟩ => ?_)
  exact h2 pins s1 σ1 H1 _ _ Q I1 rr q1
noncomputable def gTup (K : PySem.W.Frag) (n : Nat) (t : TGs) : TG := fun v σ H Q => ∃ a xs,v = .ref a∧SqT K H a xs∧xs.length = n∧t xs σ H Q
theorem pg_tup {es : List Expr} {k : Nat} {t : TGs} {n : Nat} (hc : X.calm = true) (h : PGs X es t)
  (hn : (assignEach es X.env).length = n := by rfl) (hst : (assignEach es X.env).findIdx? (·.1) = none := by rfl) : PG X (.Tuple es k pos) (gTup X.K n t) := by
 intro pins s σ H v u Q I r hw
 obtain ⟨a,xs,e1,hq,hl,hw⟩ := hw
 subst e1
 cases r
 obtain ⟨its,rv,ht,hz⟩ := I.tuple hq
 refine assign_Tuple_tuple (I.ok.hd hc) ht (by simp [hn,← hl,rv.length]) hst fun h' hx => ?_
 have I1 : Inv X pins σ H { s with heap := h' } := I.kept (t' := s.toks) fun b o e => hx b o (Nat.ne_of_lt (Heap.lt_size e)) e
 exact h pins _ σ H xs _ Q I1 (by simpa using rv) hw
noncomputable def gSub (to ti : TE) (t : TSet) : TG := fun v σ H Q => to σ H fun o H1 => ti σ H1 fun i H2 => t o i v H2 fun H3 => Q σ H3
theorem pg_sub {o i : Expr} {to ti : TE} {t : TSet} (ho : PE X o to) (hi : PE X i ti) (hs : PSet X t)
  (ha : ∀ v,assign (.Subscript o i pos) X.env v = (do
   let ov ← holding [v] (eval o X.env)
   let iv ← holding [v,ov] (eval i X.env)
   standAt pos
   holding [v,ov,iv] (setItem ov iv v)
   release [v,ov,iv] []) := by intro _;rfl) : PG X (.Subscript o i pos) (gSub to ti t) := by
 intro pins s σ H v u Q I r h
 rw [ha]
 refine wpAny_bind (wpAny_holding (thn (ho pins s σ H _ I h) fun ov s1 ⟨x,H1,I1,r1,q1⟩ => ?_))
 refine wpAny_bind (wpAny_holding (thn (hi pins s1 σ H1 _ I1 q1) fun iv s2 ⟨y,H2,I2,r2,q2⟩ => ?_))
 refine wpAny_bind (wpAny_standAt (wpAny_bind (wpAny_holding (thn (hs pins s2 σ H2 x y v ov iv u _ I2 r1 r2 r q2) fun _ s3 ⟨H3,I3,q3⟩ => ?_))))
 exact wpAny_release ⟨σ,H3,I3,q3⟩
noncomputable def tAsg (te : TE) (g : TG) : TS := fun D σ H => te σ H fun x H1 => g x σ H1 D.nx
theorem ps_asg {tg e : Expr} {te : TE} {g : TG} (he : PE X e te) (hg : PG X tg g) (hs : swapsWithSole [tg] e pos.line X.env = pure false := by rfl) (hw : swappedStores [tg] e X.env = pure none := by rfl)
  (h1 : (assignEach [tg] X.env).map (·.2) = [assign tg X.env] := by rfl) : PS X (.Assign [tg] e pos) (tAsg te g) := by
 intro pins s σ H D I h
 refine wpAny_Assign_stores (thn (he pins s σ H _ I h) fun v s1 ⟨x,H1,I1,r1,q1⟩ => ?_) hs hw
 rw [h1]
 exact thn (hg pins s1 σ H1 x v _ I1 r1 q1) fun _ s2 q => q
theorem ps_set {i : Nat} {x : Str} {e : Expr} {te : TE} {pos' : Pos} (hN : X.N.Nodup) (hi : X.N[i]? = some x) (hx : Loc X.env.scope x) (he : PE X e te) (hs : swapsWith e (some (.Name x pos')) pos.line X.env = pure false := by rfl) (hf : X.fn x = true ∨ X.env.scope.names.lookup x = some .local := by first | exact .inl rfl | exact .inr rfl | assumption) :
  PS X (.Assign [.Name x pos'] e pos) (tAsg te (gName i)) := by
 intro pins s σ H D I h
 refine wpAny_Assign_Name (thn (he pins s σ H _ I h) fun v s1 ⟨y,H1,I1,r1,q1⟩ => ?_) hs
 exact store_ok I1 hN hi hx r1 (fun s2 I2 => ⟨_,H1,I2,q1⟩) hf
noncomputable def tPar (i j : Nat) (ta : TA) : TS := fun D σ H => ta σ H fun vs H1 => ∃ v w,vs = [v,w]∧D.nx ((σ.set i (some v)).set j (some w)) H1
theorem ps_par {i j : Nat} {x y : Str} {a b : Expr} {ta : TA} {px py pt : Pos} {kt k2 pt2} (hc : X.calm = true) (hN : X.N.Nodup) (hi : X.N[i]? = some x) (hj : X.N[j]? = some y) (hij : i ≠ j)
  (hx : X.env.scope.names.lookup x = some .local) (hy : X.env.scope.names.lookup y = some .local) (ha : PA X [a,b] ta)
  (hw : swappedStores [.Tuple [.Name x px,.Name y py] kt pt] (.Tuple [a,b] k2 pt2) X.env = pure (some [x,y]))
  (hs : swapsWithSole [.Tuple [.Name x px,.Name y py] kt pt] (.Tuple [a,b] k2 pt2) pos.line X.env = pure false := by rfl) :
  PS X (.Assign [.Tuple [.Name x px,.Name y py] kt pt] (.Tuple [a,b] k2 pt2) pos) (tPar i j ta) := by
 intro pins s σ H D I h
 rw [exec_Assign_arm]
 refine wpAny_bind (wpAny_standAt ?_)
 rw [hs]
 refine wpAny_bind (wpAny_pure ?_)
 rw [if_neg (by decide)]
 refine wpAny_bind (Tuple_ (thn (ha _ pins s σ H _ I h) fun us s1 ⟨vs,H1,I1,r1,q1⟩ => ?_))
 obtain ⟨v,w,e1,q1⟩ := q1
 subst e1
 obtain ⟨u1,u2,rfl,rv,rw'⟩ : ∃ u1 u2,us = [u1,u2]∧RelV v u1∧RelV w u2 := by
  cases r1 with
  | cons p q =>
   cases q with
   | cons p' q' =>
    cases q'
    exact ⟨_,_,rfl,p,p'⟩
 refine wpAny_newObj_type ?_ (by show 2 ≤ sizeLine;decide)
 have I2 : Inv X pins σ H1 { s1 with heap := s1.heap.push { cls := .type "tuple",data := .seq [u1,u2].toArray } } := I1.kept (t' := s1.toks) fun b o e => Heap.get?_push_of_some _ e
 rw [hw]
 refine wpAny_bind (wpAny_pure ?_)
 show wpAny (model X.prog X.w) X.A (do rule "assign.swapped-stores";let items ← unpackItems (.ref s1.heap.objs.size) 2 none;assignInOrder [fun v => bindName X.env y v,fun v => bindName X.env x v] items.reverse;pure Flow.next) _ _ _
 refine wpAny_bind (wpAny_rule (wpAny_bind (unpackItems_tuple (items := #[u1,u2]) (I.ok.hd hc) (IsTup.new s1.heap _) fun h' hx' => ?_)))
 have I3 := I2.kept (h' := h') (t' := s1.toks) fun b o e => hx' b o (Nat.ne_of_lt (Heap.lt_size e)) e
 show wpAny _ _ (assignInOrder [fun v => bindName X.env y v,fun v => bindName X.env x v] [u2,u1] >>= fun _ => pure Flow.next) _ _ _
 refine wpAny_bind (assignInOrder_cons (wpAny_bindName (store_ok I3 hN hj (.inl hy) rw' (fun s2 I4 => ?_) (.inr hy))))
 refine assignInOrder_cons (wpAny_bindName (store_ok I4 hN hi (.inl hx) rv (fun s3 I5 => assignInOrder_nil (wpAny_pure ?_)) (.inr hx)))
 rw [List.set_comm _ _ (Ne.symm hij)] at I5
 exact ⟨_,H1,I5,q1⟩
end
section
variable {X : Cx} {pos : Pos}
noncomputable def tWhile (c : TT) (tb : TS) : TS := fun D σ H => ∃ W : Nat → St → Hp → Prop,(∃ m,W m σ H)∧∀ m σ H,W m σ H →
 c σ H fun b H1 => if b = true then ∃ N : St → Hp → Prop,(∀ σ' H',N σ' H' → ∃ m',m' < m∧W m' σ' H')∧tb { D with nx := N,ct := N,bk := D.nx } σ H1 else D.nx σ H1
theorem ps_while {c : Expr} {body : List Stmt} {tc : TT} {tb : TS} (hp : PassesOwn (model X.prog X.w) X.A X.env X.xe) (hc : PT X c tc) (hb : PSs X body tb) : PS X (.While c body [] pos) (tWhile tc tb) := by
 intro pins s σ H D I h
 obtain ⟨W,⟨m0,w0⟩,turn⟩ := h
 refine wpAny_While (codeAny_whileLoop (fun n s' => ∃ σ' H',Inv X pins σ' H' s'∧W n σ' H') ?_ m0 ⟨σ,H,I,w0⟩)
 rintro n s1 ⟨σ1,H1,I1,w1⟩
 refine wpAny_passesOwn hp (thn (hc pins s1 σ1 H1 _ I1 (turn n σ1 H1 w1)) fun b s2 ⟨H2,I2,q2⟩ => ?_)
 cases b with
 | true =>
  obtain ⟨N,hN,q2⟩ := q2
  rw [if_pos rfl]
  refine wpAny_passesOwn hp (thn (hb pins s2 σ1 H2 _ I2 q2) fun f s3 q3 => ?_)
  cases f with
  | next =>
   obtain ⟨σ3,H3,I3,n3⟩ := q3
   obtain ⟨m',hm,w3⟩ := hN σ3 H3 n3
   exact ⟨m',hm,σ3,H3,I3,w3⟩
  | cont =>
   obtain ⟨σ3,H3,I3,n3⟩ := q3
   obtain ⟨m',hm,w3⟩ := hN σ3 H3 n3
   exact ⟨m',hm,σ3,H3,I3,w3⟩
  | brk => exact q3
  | ret v => exact q3
 | false =>
  rw [if_neg Bool.false_ne_true]
  exact wpAny_execs_nil ⟨σ1,H2,I2,q2⟩
end
structure It where
 go : Nat → Hp → Prop
 yld : Nat → Hp → V → Hp → Prop
 stop : Nat → Hp → Prop
def FpOk (X : Cx) (pins : List (Addr × Obj)) (H : Hp) (b : Addr) : Prop :=
 H b = none∧b ≠ X.env.locals∧b ∉ X.fs∧(b ∈ X.ex ∨ X.s₀.heap.objs.size ≤ b)∧(∀ x c,X.env.cells.lookup x = some c → c ≠ b)∧∀ p ∈ X.pn ++ pins,p.1 ≠ b
theorem Inv.fpOk {X : Cx} {pins : List (Addr × Obj)} {σ : St} {H H' : Hp} {s : Shared} {b : Addr} (I : Inv X pins σ H s) (hb : s.heap.objs.size ≤ b) (hn : H' b = none) : FpOk X pins H' b := by
 refine ⟨hn,Nat.ne_of_gt (Nat.lt_of_lt_of_le I.lt hb),I.nofs hb,.inr (Nat.le_trans I.sz hb),fun x c e z => ?_,fun p hp z => ?_⟩
 ·obtain ⟨v,q⟩ := I.cell x c e
  exact absurd (Nat.lt_of_lt_of_le q.lt (by rw [z];exact hb)) (Nat.lt_irrefl _)
 ·exact absurd (Nat.lt_of_lt_of_le (Heap.lt_size (I.pin p hp).1) (by rw [z];exact hb)) (Nat.lt_irrefl _)
structure Turn (P : Program) (w : World) (K : PySem.W.Frag) (tg : Expr) (J : It) (fp : List Addr) (it : Addr) (tn : Nat → Heap → Prop) : Prop where
 mem : it ∈ fp
 obj : ∀ i h,tn i h → ∀ b ∈ fp,∃ o,h.get? b = some o∧∀ v,o.data ≠ .cell v
 keep : ∀ i h h',tn i h → (∀ b ∈ fp,∀ o,h.get? b = some o → h'.get? b = some o) → tn i h'
 item : ∀ (X : Cx),X.prog = P → X.w = w → X.K = K → X.calm = true → ∀ (i : Nat) (pins : List (Addr × Obj)) (s : Shared) (σ : St) (H : Hp) (E : Value → Shared → Prop),Inv X pins σ H s → (∀ b ∈ fp,FpOk X pins H b) → tn i s.heap → J.go i H →
  wpAny (model P w) X.A (pyNext (.ref it)) (fun r s1 => ∃ u,r = some u ∧
   wpAny (model P w) X.A (letOwnedTupleGo tg (.ref it) u) (fun _ s2 => ∃ x H',Inv X pins σ H' s2∧RelV x u∧J.yld i H x H'∧tn (i + 1) s2.heap∧∀ b ∈ fp,H' b = none) E s1) E s
 done : ∀ (X : Cx),X.prog = P → X.w = w → X.K = K → X.calm = true → ∀ (i : Nat) (pins : List (Addr × Obj)) (s : Shared) (σ : St) (H : Hp) (E : Value → Shared → Prop),Inv X pins σ H s → (∀ b ∈ fp,FpOk X pins H b) → tn i s.heap → J.stop i H →
  wpAny (model P w) X.A (pyNext (.ref it)) (fun r s1 => r = none∧Inv X pins σ H s1) E s
 self : ∀ (A : Around) (i : Nat) (s : Shared) (Q : Value → Shared → Prop) (E : Value → Shared → Prop),tn i s.heap → Q (.ref it) s → wpAny (model P w) A (pyIter (.ref it)) Q E s
noncomputable abbrev TI := St → Hp → (It → Hp → Prop) → Prop
def PIE (X : Cx) (pins : List (Addr × Obj)) (σ : St) (tg : Expr) (R : It → Hp → Prop) (itv : Value) (s2 : Shared) : Prop :=
 ∃ (it : Addr) (fp : List Addr) (tn : Nat → Heap → Prop) (J : It) (H' : Hp),itv = .ref it∧Inv X pins σ H' s2∧Turn X.prog X.w X.K tg J fp it tn∧tn 0 s2.heap∧(∀ b ∈ fp,FpOk X pins H' b)∧R J H'
def PI (X : Cx) (tg iter : Expr) (wi : TI) : Prop :=
 ∀ (pins : List (Addr × Obj)) (s : Shared) (σ : St) (H : Hp) (R : It → Hp → Prop),Inv X pins σ H s → wi σ H R →
  wpAny (model X.prog X.w) X.A (eval iter X.env) (fun v s1 => wpAny (model X.prog X.w) X.A (pyIter v) (PIE X pins σ tg R) X.xe s1) X.xe s
theorem go_of {M : Model} {A : Around} {E : Value → Shared → Prop} {s : Shared} {tg : Expr} {it : Addr} {u : Value} {o : Obj} {n : String} {vs : Array Value} {Q : Unit → Shared → Prop} (ho : s.heap.get? it = some o) (hc : o.cls = .type n) (hd : o.data = .fields vs)
    (hn : ["enumerate","zip","dict_itemiterator","dict_reverseitemiterator","odict_iterator","itertools.zip_longest","itertools.pairwise"].contains n = false) (hQ : Q () s) : wpAny M A (letOwnedTupleGo tg (.ref it) u) Q E s := by
  unfold letOwnedTupleGo
  cases tg <;> first
    | exact wpAny_pure hQ
    | (cases u <;> first
        | exact wpAny_pure hQ
        | (refine wpAny_bind (wpAny_load ho ?_)
           rw [hc,hd]
           show wpAny M A (if (["enumerate","zip","dict_itemiterator","dict_reverseitemiterator","odict_iterator","itertools.zip_longest","itertools.pairwise"].contains n && vs[0]? == some (rawInt _)) = true then _ else _) Q E s
           rw [if_neg (by intro h;rw [hn,Bool.false_and] at h;cases h)]
           exact wpAny_pure hQ))
noncomputable def Itl (K : PySem.W.Frag) (a : Addr) : It :=
 ⟨fun i H => ∃ xs x,SqL K H a xs∧xs[i]? = some x,fun i H x H' => H' = H∧∀ xs,SqL K H a xs → xs[i]? = some x,fun i H => ∃ xs,SqL K H a xs∧xs.length ≤ i⟩
noncomputable def Itt (K : PySem.W.Frag) (a : Addr) : It :=
 ⟨fun i H => ∃ xs x,SqT K H a xs∧xs[i]? = some x,fun i H x H' => H' = H∧∀ xs,SqT K H a xs → xs[i]? = some x,fun i H => ∃ xs,SqT K H a xs∧xs.length ≤ i⟩
noncomputable def Itr (lo : Int) (n : Nat) : It := ⟨fun i _ => i < n,fun i H x H' => H' = H∧x = .int (lo + i),fun i _ => n ≤ i⟩
theorem turn_list {P : Program} {w : World} {K : PySem.W.Frag} {tg : Expr} (a it : Addr) : Turn P w K tg (Itl K a) [it] it (fun i h => h.IsListIter it a i) where
 mem := by simp
 obj := fun i h st b hb => by
  have e : b = it := by simpa using hb
  subst e
  obtain ⟨o,e,c,d⟩ := st
  exact ⟨o,e,fun v z => by rw [d] at z;cases z⟩
 keep := fun i h h' st k => st.at fun o e => k it (by simp) o e
 item := by
  intro X hP hw hK hc i pins s σ H E I hf st hg
  subst hP hw hK
  obtain ⟨xs,x,hq,hx⟩ := hg
  obtain ⟨its,rv,p,hz⟩ := I.list hq
  obtain ⟨u,hu,ru⟩ := rv.get hx
  obtain ⟨f0,f1,f2,f3,f4,f5⟩ := hf it (by simp)
  refine wpAny_pyNext_list_item st p.isList (x := u) (by simpa using hu) fun h' st' sb => ?_
  have I1 : Inv X pins σ H { s with heap := h' } := I.turned (t' := s.toks) (fun b o hb e => (sb.2 b hb).trans e) f0 f1 f3 f4 f5
  obtain ⟨o,e,c,d⟩ := id st'
  exact ⟨u,rfl,go_of (s := { s with heap := h' }) e c d (by decide) ⟨x,H,I1,ru,⟨rfl,fun ys hy => by rw [I.list_inj hy hq];exact hx⟩,st',fun b hb => (hf b hb).1⟩⟩
 done := by
  intro X hP hw hK hc i pins s σ H E I hf st hg
  subst hP hw hK
  obtain ⟨xs,hq,hx⟩ := hg
  obtain ⟨its,rv,p,hz⟩ := I.list hq
  obtain ⟨f0,f1,f2,f3,f4,f5⟩ := hf it (by simp)
  have hl := rv.length
  exact wpAny_pyNext_list_end (I.ok.hd hc) st p.isList (by simp;omega) fun h' eb => ⟨rfl,I.turned (t' := s.toks) (fun b o hb e => eb b o hb e) f0 f1 f3 f4 f5⟩
 self := fun _ _ _ _ _ st h => wpAny_pyIter_listiter st h
theorem turn_tuple {P : Program} {w : World} {K : PySem.W.Frag} {tg : Expr} (a it : Addr) : Turn P w K tg (Itt K a) [it] it (fun i h => h.IsTupleIter it a i) where
 mem := by simp
 obj := fun i h st b hb => by
  have e : b = it := by simpa using hb
  subst e
  obtain ⟨o,e,c,d⟩ := st
  exact ⟨o,e,fun v z => by rw [d] at z;cases z⟩
 keep := fun i h h' st k => st.at fun o e => k it (by simp) o e
 item := by
  intro X hP hw hK hc i pins s σ H E I hf st hg
  subst hP hw hK
  obtain ⟨xs,x,hq,hx⟩ := hg
  obtain ⟨its,rv,p,hz⟩ := I.tuple hq
  obtain ⟨u,hu,ru⟩ := rv.get hx
  obtain ⟨f0,f1,f2,f3,f4,f5⟩ := hf it (by simp)
  refine wpAny_pyNext_tuple_item st (show s.heap.IsTuple a its.toArray from p) (x := u) (by simpa using hu) fun h' st' sb => ?_
  have I1 : Inv X pins σ H { s with heap := h' } := I.turned (t' := s.toks) (fun b o hb e => (sb.2 b hb).trans e) f0 f1 f3 f4 f5
  obtain ⟨o,e,c,d⟩ := id st'
  exact ⟨u,rfl,go_of (s := { s with heap := h' }) e c d (by decide) ⟨x,H,I1,ru,⟨rfl,fun ys hy => by rw [I.tuple_inj hy hq];exact hx⟩,st',fun b hb => (hf b hb).1⟩⟩
 done := by
  intro X hP hw hK hc i pins s σ H E I hf st hg
  subst hP hw hK
  obtain ⟨xs,hq,hx⟩ := hg
  obtain ⟨its,rv,p,hz⟩ := I.tuple hq
  obtain ⟨f0,f1,f2,f3,f4,f5⟩ := hf it (by simp)
  have hl := rv.length
  exact wpAny_pyNext_tuple_end (I.ok.hd hc) st (show s.heap.IsTuple a its.toArray from p) (by simp;omega) fun h' eb => ⟨rfl,I.turned (t' := s.toks) (fun b o hb e => eb b o hb e) f0 f1 f3 f4 f5⟩
 self := fun _ _ _ _ _ st h => wpAny_pyIter_tupleiter st h
theorem turn_range {P : Program} {w : World} {K : PySem.W.Frag} {tg : Expr} (it : Addr) (lo : Int) (n : Nat) : Turn P w K tg (Itr lo n) [it] it (fun i h => IsRangeIter h it (lo + (i : Nat) * 1) ((n : Int) - (i : Nat)) 1) where
 mem := by simp
 obj := fun i h st b hb => by
  have e : b = it := by simpa using hb
  subst e
  exact ⟨_,st,fun v z => by
   have z' : Data.fields _ = Data.cell v := z
   cases z'⟩
 keep := fun i h h' st k => k it (by simp) _ st
 item := by
  intro X hP hw hK hc i pins s σ H E I hf st hg
  subst hP hw hK
  obtain ⟨f0,f1,f2,f3,f4,f5⟩ := hf it (by simp)
  have W := Walks.range (prog := X.prog) (w := X.w) (I.ok.hd hc) it lo 1 n
  refine W.item i s _ _ hg st fun v h' tk hv st' kk => ?_
  obtain ⟨t,rfl⟩ := hv
  have I1 : Inv X pins σ H { s with heap := h',toks := tk } := I.turned (fun b o hb e => kk b o (by simpa using hb) e) f0 f1 f3 f4 f5
  refine ⟨_,rfl,go_of (s := { s with heap := h',toks := tk }) (n := "range_iterator") st' rfl rfl (by decide) ⟨.int (lo + i),H,I1,⟨t,?_⟩,⟨rfl,rfl⟩,st',fun b hb => (hf b hb).1⟩⟩
  rw [Int.mul_one]
 done := by
  intro X hP hw hK hc i pins s σ H E I hf st hg
  subst hP hw hK
  obtain ⟨f0,f1,f2,f3,f4,f5⟩ := hf it (by simp)
  exact wpAny_pyNext_range_end (I.ok.hd hc) st (by have : n ≤ i := hg;omega) fun h' eb => ⟨rfl,I.turned (t' := s.toks) (fun b o hb e => eb b o hb e) f0 f1 f3 f4 f5⟩
 self := fun _ _ _ _ _ st h => wpAny_pyIter_rangeiter st h
end L2
namespace L2
open PySem PySem.Spec PyProof.Rows
section
variable {X : Cx} {tg : Expr}
theorem range_it {pins : List (Addr × Obj)} {σ : St} {H : Hp} {s : Shared} {R : It → Hp → Prop} {E : Value → Shared → Prop} {lo hi : Int} {t u v : Tok} {tk : Nat} (I : Inv X pins σ H s) (h1 : -(2 ^ 62) ≤ lo) (h2 : lo < 2 ^ 62) (h3 : -(2 ^ 62) ≤ hi) (h4 : hi < 2 ^ 62)
  (q : R (Itr lo (hi - lo).toNat) H) : wpAny (model X.prog X.w) X.A (pyIter (.ref s.heap.objs.size)) (PIE X pins σ tg R) E { s with heap := s.heap.push { cls := .type "range",data := .fields #[.int lo t,.int hi u,.int 1 v] },toks := tk } := by
 refine wpAny_pyIter_range (IsRange.new ..) (small_one h1 h2 h3 h4) ?_
 have I1 : Inv X pins σ H { s with heap := s.heap.push { cls := .type "range",data := .fields #[.int lo t,.int hi u,.int 1 v] },toks := tk } := I.kept fun b o e => Heap.get?_push_of_some _ e
 refine ⟨(s.heap.push { cls := .type "range",data := .fields #[.int lo t,.int hi u,.int 1 v] }).objs.size,[(s.heap.push { cls := .type "range",data := .fields #[.int lo t,.int hi u,.int 1 v] }).objs.size],_,_,H,rfl,
  I1.kept (t' := tk) fun b o e => Heap.get?_push_of_some _ e,turn_range _ lo (hi - lo).toNat,?_,fun b hb => ?_,q⟩
 ·have e1 : lo + ((0 : Nat) : Int) * 1 = lo := by simp
  have e2 : (((hi - lo).toNat : Nat) : Int) - ((0 : Nat) : Int) = Builtin.Range.rangeSize lo hi 1 := by rw [rangeSize_one];split <;> omega
  show IsRangeIter _ _ (lo + ((0 : Nat) : Int) * 1) ((((hi - lo).toNat : Nat) : Int) - ((0 : Nat) : Int)) 1
  rw [e1,e2]
  exact Heap.get?_push_size _ rfl
 ·have e : b = (s.heap.push { cls := .type "range",data := .fields #[.int lo t,.int hi u,.int 1 v] }).objs.size := by simpa using hb
  subst e
  exact I1.fpOk (Nat.le_refl _) (I1.hok.fresh (Nat.le_refl _))
noncomputable def iRng1 (ta : TA) : TI := fun σ H R => ta σ H fun vs H1 => ∃ j : Int,vs = [.int j]∧-(2 ^ 62) ≤ j∧j < 2 ^ 62∧R (Itr 0 j.toNat) H1
noncomputable def iRng2 (ta : TA) : TI := fun σ H R => ta σ H fun vs H1 => ∃ i j : Int,vs = [.int i,.int j]∧(-(2 ^ 62) ≤ i∧i < 2 ^ 62∧-(2 ^ 62) ≤ j∧j < 2 ^ 62)∧R (Itr i (j - i).toNat) H1
theorem pi_range1 {a : Expr} {ta : TA} {p pos : Pos} (hg : Gl X "range") (hm : X.mg "range" = none) (ha : PA X [a] ta) (hs : starEach [a] X.env = [(false,eval a X.env)] := by rfl) : PI X tg (.Call (.Name "range" p) [a] [] pos) (iRng1 ta) := by
 intro pins s σ H R I h
 refine Call_ (ld_blt I hg hm boot_range (PyProof.Rows.callWith_type1 (thn (ha pos pins s σ H _ I h) fun us s1 ⟨vs,H1,I1,r1,q1⟩ => ?_) hs rfl))
 obtain ⟨j,e,q1,q2,q⟩ := q1
 subst e
 cases r1 with
 | cons r rr =>
  cases rr
  obtain ⟨t,rfl⟩ := r
  exact call_range_1 (range_it I1 (by omega) (by omega) q1 q2 (by simpa using q))
theorem pi_range2 {a b : Expr} {ta : TA} {p pos : Pos} (hg : Gl X "range") (hm : X.mg "range" = none) (ha : PA X [a,b] ta) (hs : starEach [a,b] X.env = [(false,eval a X.env),(false,eval b X.env)] := by rfl) (hs2 : starEach [b] X.env = [(false,eval b X.env)] := by rfl) :
  PI X tg (.Call (.Name "range" p) [a,b] [] pos) (iRng2 ta) := by
 intro pins s σ H R I h
 refine Call_ (ld_blt I hg hm boot_range (PyProof.Rows.callWith_type1 (thn (ha pos pins s σ H _ I h) fun us s1 ⟨vs,H1,I1,r1,q1⟩ => ?_) (by rw [hs,hs2]) (by rw [hs2];rfl)))
 obtain ⟨i,j,e,⟨q1,q2,q3,q4⟩,q⟩ := q1
 subst e
 cases r1 with
 | cons r rr =>
  cases rr with
  | cons r' rr =>
   cases rr
   obtain ⟨t,rfl⟩ := r
   obtain ⟨t',rfl⟩ := r'
   exact call_range_2 (range_it I1 q1 q2 q3 q4 q)
noncomputable def tFor (wi : TI) (g : TG) (tb : TS) : TS := fun D σ H => wi σ H fun J H1 => ∃ W : Nat → Nat → St → Hp → Prop,(∃ m,W 0 m σ H1)∧∀ i m σ H,W i m σ H →
 (J.stop i H∧D.nx σ H) ∨ (J.go i H∧∃ N : St → Hp → Prop,(∀ σ' H',N σ' H' → ∃ m',m' < m∧W (i + 1) m' σ' H')∧∀ x H',J.yld i H x H' → g x σ H' fun σ2 H2 => tb { D with nx := N,ct := N,bk := D.nx } σ2 H2)
noncomputable def pinsAt (fp : List Addr) (h : Heap) : List (Addr × Obj) := fp.filterMap fun b => (h.get? b).map fun o => (b,o)
theorem mem_pinsAt {fp : List Addr} {h : Heap} {b : Addr} {o : Obj} (hb : b ∈ fp) (e : h.get? b = some o) : (b,o) ∈ pinsAt fp h := List.mem_filterMap.mpr ⟨b,hb,by rw [e];rfl⟩
theorem of_pinsAt {fp : List Addr} {h : Heap} {p : Addr × Obj} (hp : p ∈ pinsAt fp h) : p.1 ∈ fp∧h.get? p.1 = some p.2 := by
 obtain ⟨b,hb,e⟩ := List.mem_filterMap.mp hp
 cases q : h.get? b with
 | none => rw [q] at e;cases e
 | some o =>
  rw [q] at e
  have e' : (b,o) = p := Option.some.inj e
  subst e'
  exact ⟨hb,q⟩
theorem Inv.pinned {pins : List (Addr × Obj)} {σ : St} {H : Hp} {s : Shared} {fp : List Addr} (I : Inv X pins σ H s) (hf : ∀ b ∈ fp,FpOk X pins H b) (ho : ∀ b ∈ fp,∃ o,s.heap.get? b = some o∧∀ v,o.data ≠ .cell v) : Inv X (pins ++ pinsAt fp s.heap) σ H s :=
 I.pins_of fun p hp => (List.mem_append.mp hp).elim (fun z => I.pin p (List.mem_append_right _ z)) fun z => by
  obtain ⟨hb,e⟩ := of_pinsAt z
  obtain ⟨f0,f1,f2,_⟩ := hf p.1 hb
  obtain ⟨o,e',d⟩ := ho p.1 hb
  rw [e] at e';cases e'
  exact ⟨e,f0,f1,f2,d⟩
theorem Inv.unpinned {pins pl : List (Addr × Obj)} {σ : St} {H : Hp} {s : Shared} (I : Inv X (pins ++ pl) σ H s) : Inv X pins σ H s := I.pins_of fun p hp => I.pin p (List.mem_append_right _ (List.mem_append_left _ hp))
theorem ps_for {iter : Expr} {body : List Stmt} {wi : TI} {g : TG} {tb : TS} {pos : Pos} (hp : PassesOwn (model X.prog X.w) X.A X.env X.xe) (hc : X.calm = true) (hi : PI X tg iter wi) (hg : PG X tg g) (hb : PSs X body tb)
  (hs : ∀ x,foldedSetIterable iter X.env x = pure x := by intro _;rfl) : PS X (.For tg iter body [] pos) (tFor wi g tb) := by
 intro pins s σ H D I h
 refine wpAny_For (thn (hi pins s σ H _ I h) fun v s1 h1 => thn h1 fun itv s2 h2 => ?_) hs
 obtain ⟨it,fp,tn,J,H2,e,I2,T,st2,f2,W,⟨m0,w0⟩,turn⟩ := h2
 subst e
 -- what stays true of the iterator's objects through the loop
 have stat : ∀ {H' : Hp},(∀ b ∈ fp,H' b = none) → ∀ b ∈ fp,FpOk X pins H' b := fun hn b hb => ⟨hn b hb,(f2 b hb).2⟩
 refine codeAny_forLoop_any (fun n s' => ∃ i σ' H',Inv X pins σ' H' s'∧tn i s'.heap∧(∀ b ∈ fp,H' b = none)∧W i n σ' H') ?_ m0 ⟨0,σ,H2,I2,st2,fun b hb => (f2 b hb).1,w0⟩
 rintro n s3 ⟨i,σ3,H3,I3,st3,fr3,w3⟩
 rcases turn i n σ3 H3 w3 with ⟨stop,qn⟩ | ⟨go,N,hN,step⟩
 ·refine wpAny_passesOwn hp (thn (T.done X rfl rfl rfl hc i pins s3 σ3 H3 X.xe I3 (stat fr3) st3 stop) fun r s4 ⟨hr,I4⟩ => ?_)
  subst hr
  exact wpAny_execs_nil ⟨σ3,H3,I4,qn⟩
 ·refine wpAny_passesOwn hp (thn (T.item X rfl rfl rfl hc i pins s3 σ3 H3 X.xe I3 (stat fr3) st3 go) fun r s4 ⟨u,hr,h4⟩ => ?_)
  subst hr
  refine wpAny_passesOwn hp (thn h4 fun _ s5 ⟨x,H5,I5,r5,y5,st5,fr5⟩ => ?_)
  have I5' := I5.pinned (stat fr5) (T.obj _ _ st5)
  refine wpAny_passesOwn hp (thn (hg _ s5 σ3 H5 x u _ I5' r5 (step x H5 y5)) fun _ s6 ⟨σ6,H6,I6,q6⟩ => ?_)
  refine wpAny_passesOwn hp (thn (hb _ s6 σ6 H6 _ I6 q6) fun f s7 q7 => ?_)
  have again : ∀ {σ7 : St} {H7 : Hp},Inv X (pins ++ pinsAt fp s5.heap) σ7 H7 s7 → N σ7 H7 → ∃ m,m < n∧∃ i σ' H',Inv X pins σ' H' s7∧tn i s7.heap∧(∀ b ∈ fp,H' b = none)∧W i m σ' H' := fun {σ7 H7} I7 n7 => by
   obtain ⟨m',hm,w7⟩ := hN σ7 H7 n7
   refine ⟨m',hm,i + 1,σ7,H7,I7.unpinned,T.keep _ _ _ st5 fun b hb o e => (I7.pin (b,o) (List.mem_append_right _ (List.mem_append_right _ (mem_pinsAt hb e)))).1,fun b hb => ?_,w7⟩
   obtain ⟨o,e,d⟩ := T.obj _ _ st5 b hb
   exact (I7.pin (b,o) (List.mem_append_right _ (List.mem_append_right _ (mem_pinsAt hb e)))).2.1
  cases f with
  | next => obtain ⟨σ7,H7,I7,n7⟩ := q7;exact again I7 n7
  | cont => obtain ⟨σ7,H7,I7,n7⟩ := q7;exact again I7 n7
  | brk => obtain ⟨σ7,H7,I7,q7⟩ := q7;exact ⟨σ7,H7,I7.unpinned,q7⟩
  | ret v => obtain ⟨x7,σ7,H7,I7,r7,q7⟩ := q7;exact ⟨x7,σ7,H7,I7.unpinned,r7,q7⟩
end
end L2
namespace L2
open PySem PySem.Spec PyProof.Rows
noncomputable abbrev R2 := V → V → Hp → VK → Prop
def OpR (X : Cx) (f : Value → Value → Sem Value) (r : R2) : Prop :=
 ∀ (pins : List (Addr × Obj)) (s : Shared) (σ : St) (H : Hp) (x y : V) (v u : Value) (Q : VK),Inv X pins σ H s → RelV x v → RelV y u → r x y H Q →
  wpAny (model X.prog X.w) X.A (f v u) (EP X pins σ Q) X.xe s
def UnR (X : Cx) (f : Value → Sem Value) (r : V → Hp → VK → Prop) : Prop :=
 ∀ (pins : List (Addr × Obj)) (s : Shared) (σ : St) (H : Hp) (x : V) (v : Value) (Q : VK),Inv X pins σ H s → RelV x v → r x H Q →
  wpAny (model X.prog X.w) X.A (f v) (EP X pins σ Q) X.xe s
def CallR (X : Cx) (f : Value) (r : List V → Hp → VK → Prop) : Prop :=
 ∀ (pins : List (Addr × Obj)) (s : Shared) (σ : St) (H : Hp) (xs : List V) (us : List Value) (Q : VK),Inv X pins σ H s → Vals xs us → r xs H Q →
  wpAny (model X.prog X.w) X.A (call f us) (EP X pins σ Q) X.xe s
noncomputable def tOp (r : R2) (ta tb : TE) : TE := fun σ H Q => ta σ H fun x H1 => tb σ H1 fun y H2 => r x y H2 Q
noncomputable def tUn (r : V → Hp → VK → Prop) (ta : TE) : TE := fun σ H Q => ta σ H fun x H1 => r x H1 Q
noncomputable def rI (C : Int → Int → Prop) (g : Int → Int → V) : R2 := fun x y H Q => ∃ i j,x = .int i∧y = .int j∧C i j∧Q (g i j) H
noncomputable def rI0 (g : Int → Int → V) : R2 := fun x y H Q => ∃ i j,x = .int i∧y = .int j∧Q (g i j) H
noncomputable def rU (g : Int → V) : V → Hp → VK → Prop := fun x H Q => ∃ i,x = .int i∧Q (g i) H
section
variable {X : Cx} {a b c : Expr} {ta tb tc : TE} {pos : Pos}
theorem binT (ha : PE X a ta) (hb : PE X b tb) {pins : List (Addr × Obj)} {s : Shared} {σ : St} {H : Hp} {R : V → V → Hp → Prop} (I : Inv X pins σ H s)
  (h : ta σ H fun x H1 => tb σ H1 fun y H2 => R x y H2) {Q : Value → Shared → Prop} {f : Value → Value → Sem Value}
  (hf : ∀ v u s2 x y H2,Inv X pins σ H2 s2 → RelV x v → RelV y u → R x y H2 → wpAny (model X.prog X.w) X.A (f v u) Q X.xe s2) :
  wpAny (model X.prog X.w) X.A (eval a X.env) (fun v s₁ => wpAny (model X.prog X.w) X.A (eval b X.env) (fun u s₂ => wpAny (model X.prog X.w) X.A (f v u) Q X.xe s₂) X.xe s₁) X.xe s := by
 refine thn (ha pins s σ H _ I h) fun v s1 ⟨x,H1,I1,r1,q1⟩ => ?_
 refine thn (hb pins s1 σ H1 _ I1 q1) fun u s2 ⟨y,H2,I2,r2,q2⟩ => ?_
 exact hf v u s2 x y H2 I2 r1 r2 q2
theorem pe_op {op : Operator} {r : R2} (ho : OpR X (binaryOp op) r) (ha : PE X a ta) (hb : PE X b tb) : PE X (.BinOp a op b pos) (tOp r ta tb) := by
 intro pins s σ H Q I h
 exact wpAny_BinOp (binT ha hb I h fun v u s2 x y H2 I2 rx ry q => ho pins s2 σ H2 x y v u Q I2 rx ry q)
theorem pe_un {op : UnaryOp} {r : V → Hp → VK → Prop} (ho : UnR X (unaryOp op) r) (ha : PE X a ta) : PE X (.UnaryOp op a pos) (tUn r ta) := by
 intro pins s σ H Q I h
 exact UnaryOp_ (thn (ha pins s σ H _ I h) fun v s1 ⟨x,H1,I1,r1,q1⟩ => ho pins s1 σ H1 x v Q I1 r1 q1)
theorem opI {f : Value → Value → Sem Value} {C : Int → Int → Prop} {g : Int → Int → Int}
  (rule : ∀ (i j : Int) (t u : Tok) (s : Shared) (Q : Value → Shared → Prop) (E : Value → Shared → Prop),C i j → Q (.int (g i j) s.toks) { s with toks := s.toks + 1 } → wpAny (model X.prog X.w) X.A (f (.int i t) (.int j u)) Q E s) :
  OpR X f (rI C fun i j => .int (g i j)) := by
 intro pins s σ H x y v u Q I rx ry h
 obtain ⟨i,j,rfl,rfl,hc,q⟩ := h
 obtain ⟨t,rfl⟩ := rx
 obtain ⟨t',rfl⟩ := ry
 exact rule i j t t' s _ _ hc ⟨.int (g i j),H,I.tok _,⟨_,rfl⟩,q⟩
theorem opI0 {f : Value → Value → Sem Value} {g : Int → Int → Int}
  (rule : ∀ (i j : Int) (t u : Tok) (s : Shared) (Q : Value → Shared → Prop) (E : Value → Shared → Prop),Q (.int (g i j) s.toks) { s with toks := s.toks + 1 } → wpAny (model X.prog X.w) X.A (f (.int i t) (.int j u)) Q E s) :
  OpR X f (rI0 fun i j => .int (g i j)) := by
 intro pins s σ H x y v u Q I rx ry h
 obtain ⟨i,j,rfl,rfl,q⟩ := h
 obtain ⟨t,rfl⟩ := rx
 obtain ⟨t',rfl⟩ := ry
 exact rule i j t t' s _ _ ⟨.int (g i j),H,I.tok _,⟨_,rfl⟩,q⟩
theorem opB0 {f : Value → Value → Sem Value} {g : Int → Int → Bool}
  (rule : ∀ (i j : Int) (t u : Tok) (s : Shared) (Q : Value → Shared → Prop) (E : Value → Shared → Prop),Q (.bool (g i j)) s → wpAny (model X.prog X.w) X.A (f (.int i t) (.int j u)) Q E s) :
  OpR X f (rI0 fun i j => .bl (g i j)) := by
 intro pins s σ H x y v u Q I rx ry h
 obtain ⟨i,j,rfl,rfl,q⟩ := h
 obtain ⟨t,rfl⟩ := rx
 obtain ⟨t',rfl⟩ := ry
 exact rule i j t t' s _ _ ⟨.bl (g i j),H,I,rfl,q⟩
def CDiv (i j : Int) : Prop := 0 < j∧j < 1073741824
def CPow (i j : Int) : Prop := 0 ≤ j∧j ≤ 1000000∧i.natAbs < 2 ^ 64
def CMul (i j : Int) : Prop := (-(2 ^ 64) < i∧i < 2 ^ 64) ∨ (-(2 ^ 64) < j∧j < 2 ^ 64)
theorem CMul.ok {i j : Int} (h : CMul i j) : IntMulOk i j := by
 rcases h with ⟨h1,h2⟩ | ⟨h1,h2⟩
 ·exact .of_left (intBits_le_64 h1 h2)
 ·exact .of_right (intBits_le_64 h1 h2)
theorem op_add : OpR X (binaryOp .Add) (rI0 fun i j => .int (i + j)) := opI0 fun _ _ _ _ _ _ _ q => add_int q
theorem op_sub : OpR X (binaryOp .Sub) (rI0 fun i j => .int (i - j)) := opI0 fun _ _ _ _ _ _ _ q => sub_int q
theorem op_mul : OpR X (binaryOp .Mult) (rI CMul fun i j => .int (i * j)) := opI fun _ _ _ _ _ _ _ hc q => mul_int q hc.ok
theorem op_fdiv : OpR X (binaryOp .FloorDiv) (rI CDiv fun i j => .int (i / j)) := opI fun i j _ _ _ _ _ hc q => by
 have h1 : (0 : Int) < j := hc.1
 have h2 : j < 1073741824 := hc.2
 exact floordiv_int (by omega) (by rw [Int.fdiv_eq_ediv_of_nonneg i (by omega)];exact q) (.inl (PyProof.noPylong_small (by omega)))
theorem op_mod : OpR X (binaryOp .Mod) (rI (fun _ j => 0 < j) fun i j => .int (i % j)) := opI fun i j _ _ _ _ _ hc q => by
 have h1 : (0 : Int) < j := hc
 exact mod_int' (by omega) (by rw [Int.fmod_eq_emod_of_nonneg i (by omega)];exact q)
theorem op_pow : OpR X (binaryOp .Pow) (rI CPow fun i j => .int (i ^ j.toNat)) := opI fun _ _ _ _ _ _ _ hc q => pow_int_small hc.1 hc.2.1 hc.2.2 q
theorem op_shl : OpR X (binaryOp .LShift) (rI CPow fun i j => .int (i * 2 ^ j.toNat)) := opI fun _ _ _ _ _ _ _ hc q => lshift_int_small hc.1 hc.2.1 hc.2.2 q
theorem unI {f : Value → Sem Value} {g : Int → Int}
  (rule : ∀ (i : Int) (t : Tok) (s : Shared) (Q : Value → Shared → Prop) (E : Value → Shared → Prop),Q (.int (g i) s.toks) { s with toks := s.toks + 1 } → wpAny (model X.prog X.w) X.A (f (.int i t)) Q E s) :
  UnR X f (rU fun i => .int (g i)) := by
 intro pins s σ H x v Q I rx h
 obtain ⟨i,rfl,q⟩ := h
 obtain ⟨t,rfl⟩ := rx
 exact rule i t s _ _ ⟨.int (g i),H,I.tok _,⟨_,rfl⟩,q⟩
theorem un_neg : UnR X (unaryOp .USub) (rU fun i => .int (-i)) := unI fun _ _ _ _ _ q => neg_int q
end
noncomputable def scal : V → V → Bool
 | .non,.non => true | .non,.int _ => true | .int _,.non => true | .non,.bl _ => true | .bl _,.non => true | .non,.str _ => true | .str _,.non => true
 | .int _,.int _ => true | .bl _,.bl _ => true | .str _,.str _ => true | .byt _,.byt _ => true
 | .int _,.str _ => true | .str _,.int _ => true | .bl _,.str _ => true | .str _,.bl _ => true
 | _,_ => false
noncomputable def rEq : R2 := fun x y H Q => scal x y = true∧Q (.bl (decide (x = y))) H
noncomputable def rNe : R2 := fun x y H Q => scal x y = true∧Q (.bl (!decide (x = y))) H
theorem dec_int {i j : Int} : decide (V.int i = V.int j) = (i == j) := by
 rw [Bool.eq_iff_iff]
 simp
theorem dec_bl {i j : Bool} : decide (V.bl i = V.bl j) = (i == j) := by
 rw [Bool.eq_iff_iff]
 simp
theorem dec_str {i j : Str} : decide (V.str i = V.str j) = (i == j) := by
 rw [Bool.eq_iff_iff]
 simp
theorem dec_byt {i j : Array UInt8} : decide (V.byt i = V.byt j) = (i.toList == j.toList) := by
 rw [Bool.eq_iff_iff]
 cases i
 cases j
 simp
section
variable {X : Cx} {a b c : Expr} {ta tb tc : TE} {pos : Pos}
theorem fin_bl {pins : List (Addr × Obj)} {σ : St} {H : Hp} {s : Shared} {Q : VK} {k k' : Bool} (I : Inv X pins σ H s) (q : Q (.bl k) H) (e : k = k') : EP X pins σ Q (.bool k') s := by
 subst e
 exact ⟨.bl k,H,I,rfl,q⟩
theorem op_eq : OpR X (compareOp .Eq) rEq := by
 intro pins s σ H x y v u Q I rx ry h
 obtain ⟨hs,q⟩ := h
 cases x with
 | non =>
  cases rx
  cases y with
  | non => cases ry;exact PySem.EqNone.eq_none_none (fin_bl I q (by simp))
  | bl j => cases ry;exact PySem.EqNone.eq_none_bool (fin_bl I q (by simp))
  | int j => obtain ⟨t',rfl⟩ := ry;exact PySem.EqNone.eq_none_int (fin_bl I q (by simp))
  | str j => obtain ⟨t',rfl⟩ := ry;exact PySem.EqNone.eq_none_str (fin_bl I q (by simp))
  | _ => exact absurd (show false = true from hs) Bool.false_ne_true
 | bl i =>
  cases rx
  cases y with
  | non => cases ry;exact PySem.EqNone.eq_bool_none (fin_bl I q (by simp))
  | bl j => cases ry;exact eq_bool (fin_bl I q dec_bl)
  | str j => obtain ⟨t',rfl⟩ := ry;exact PySem.EqMixed.eq_bool_str (fin_bl I q (by simp))
  | _ => exact absurd (show false = true from hs) Bool.false_ne_true
 | int i =>
  obtain ⟨t,rfl⟩ := rx
  cases y with
  | non => cases ry;exact PySem.EqNone.eq_int_none (fin_bl I q (by simp))
  | int j => obtain ⟨t',rfl⟩ := ry;exact eq_int (fin_bl I q dec_int)
  | str j => obtain ⟨t',rfl⟩ := ry;exact PySem.EqMixed.eq_int_str (fin_bl I q (by simp))
  | _ => exact absurd (show false = true from hs) Bool.false_ne_true
 | str i =>
  obtain ⟨t,rfl⟩ := rx
  cases y with
  | non => cases ry;exact PySem.EqNone.eq_str_none (fin_bl I q (by simp))
  | bl j => cases ry;exact PySem.EqMixed.eq_str_bool (fin_bl I q (by simp))
  | int j => obtain ⟨t',rfl⟩ := ry;exact PySem.EqMixed.eq_str_int (fin_bl I q (by simp))
  | str j => obtain ⟨t',rfl⟩ := ry;exact eq_str (fin_bl I q dec_str)
  | _ => exact absurd (show false = true from hs) Bool.false_ne_true
 | byt i =>
  obtain ⟨t,rfl⟩ := rx
  cases y with
  | byt j => obtain ⟨t',rfl⟩ := ry;exact PySem.W.eq_bytes (fin_bl I q dec_byt)
  | _ => exact absurd (show false = true from hs) Bool.false_ne_true
 | _ => cases y <;> exact absurd (show false = true from hs) Bool.false_ne_true
theorem op_ne : OpR X (compareOp .NotEq) rNe := by
 intro pins s σ H x y v u Q I rx ry h
 obtain ⟨hs,q⟩ := h
 cases x with
 | non =>
  cases rx
  cases y with
  | non => cases ry;exact PySem.EqNone.ne_none_none (fin_bl I q (by simp))
  | bl j => cases ry;exact PySem.EqNone.ne_none_bool (fin_bl I q (by simp))
  | int j => obtain ⟨t',rfl⟩ := ry;exact PySem.EqNone.ne_none_int (fin_bl I q (by simp))
  | str j => obtain ⟨t',rfl⟩ := ry;exact PySem.EqNone.ne_none_str (fin_bl I q (by simp))
  | _ => exact absurd (show false = true from hs) Bool.false_ne_true
 | bl i =>
  cases rx
  cases y with
  | non => cases ry;exact PySem.EqNone.ne_bool_none (fin_bl I q (by simp))
  | bl j => cases ry;exact ne_bool (fin_bl I q (congrArg not dec_bl))
  | str j => obtain ⟨t',rfl⟩ := ry;exact PySem.EqMixed.ne_bool_str (fin_bl I q (by simp))
  | _ => exact absurd (show false = true from hs) Bool.false_ne_true
 | int i =>
  obtain ⟨t,rfl⟩ := rx
  cases y with
  | non => cases ry;exact PySem.EqNone.ne_int_none (fin_bl I q (by simp))
  | int j => obtain ⟨t',rfl⟩ := ry;exact ne_int (fin_bl I q (congrArg not dec_int))
  | str j => obtain ⟨t',rfl⟩ := ry;exact PySem.EqMixed.ne_int_str (fin_bl I q (by simp))
  | _ => exact absurd (show false = true from hs) Bool.false_ne_true
 | str i =>
  obtain ⟨t,rfl⟩ := rx
  cases y with
  | non => cases ry;exact PySem.EqNone.ne_str_none (fin_bl I q (by simp))
  | bl j => cases ry;exact PySem.EqMixed.ne_str_bool (fin_bl I q (by simp))
  | int j => obtain ⟨t',rfl⟩ := ry;exact PySem.EqMixed.ne_str_int (fin_bl I q (by simp))
  | str j => obtain ⟨t',rfl⟩ := ry;exact ne_str (fin_bl I q (congrArg not dec_str))
  | _ => exact absurd (show false = true from hs) Bool.false_ne_true
 | byt i =>
  obtain ⟨t,rfl⟩ := rx
  cases y with
  | byt j => obtain ⟨t',rfl⟩ := ry;exact PySem.W.ne_bytes (fin_bl I q (congrArg not dec_byt))
  | _ => exact absurd (show false = true from hs) Bool.false_ne_true
 | _ => cases y <;> exact absurd (show false = true from hs) Bool.false_ne_true
theorem op_lt : OpR X (compareOp .Lt) (rI0 fun i j => .bl (decide (i < j))) := opB0 fun _ _ _ _ _ _ _ q => lt_int q
theorem op_le : OpR X (compareOp .LtE) (rI0 fun i j => .bl (decide (i ≤ j))) := opB0 fun _ _ _ _ _ _ _ q => le_int q
theorem op_gt : OpR X (compareOp .Gt) (rI0 fun i j => .bl (decide (j < i))) := opB0 fun _ _ _ _ _ _ _ q => gt_int q
theorem op_ge : OpR X (compareOp .GtE) (rI0 fun i j => .bl (decide (j ≤ i))) := opB0 fun _ _ _ _ _ _ _ q => ge_int q
theorem op_isN : OpR X (compareOp .Is) (fun x y H Q => y = .non∧Q (.bl (decide (x = .non))) H) := by
 intro pins s σ H x y v u Q I rx ry h
 obtain ⟨rfl,q⟩ := h
 cases ry
 refine is_none_gen (fin_bl I q ?_)
 cases x <;> first
  | (cases rx;rfl)
  | (obtain ⟨t,rfl⟩ := rx;rfl)
theorem OpR.or {f : Value → Value → Sem Value} {r r' : R2} (h : OpR X f r) (h' : OpR X f r') : OpR X f (fun x y H Q => r x y H Q ∨ r' x y H Q) := by
 intro pins s σ H x y v u Q I rx ry q
 rcases q with q | q
 ·exact h pins s σ H x y v u Q I rx ry q
 ·exact h' pins s σ H x y v u Q I rx ry q
theorem nomark (b : Expr) {op : CmpOp} (h : op ≠ .In := by decide) (h2 : op ≠ .NotIn := by decide) : behindInMarks op b = false := by
 have e1 : (op == CmpOp.In) = false := by cases op <;> first | rfl | exact absurd rfl h
 have e2 : (op == CmpOp.NotIn) = false := by cases op <;> first | rfl | exact absurd rfl h2
 cases b <;> simp [behindInMarks,e1,e2]
theorem pe_cmpR {op : CmpOp} {r : R2} (ho : OpR X (compareOp op) r) (ha : PE X a ta) (hb : PE X b tb) (hm : behindInMarks op b = false) : PE X (.Compare a [op] [b] pos) (tOp r ta tb) := by
 intro pins s σ H Q I h
 exact wpAny_Compare1 (binT ha hb I h fun v u s2 x y H2 I2 rx ry q => ho pins s2 σ H2 x y v u Q I2 rx ry q) hm
noncomputable def tTest (t : TE) : TT := fun σ H Q => t σ H fun x H' => ∃ k,x = .bl k∧Q k H'
theorem pt_cmpR {op : CmpOp} {r : R2} (ho : OpR X (compareOp op) r) (ha : PE X a ta) (hb : PE X b tb) (hm : behindInMarks op b = false) : PT X (.Compare a [op] [b] pos) (tTest (tOp r ta tb)) := by
 intro pins s σ H Q I h
 refine wpAny_isTrue_Compare1 (thn (ha pins s σ H _ I h) fun v s1 ⟨x,H1,I1,r1,q1⟩ => thn (hb pins s1 σ H1 _ I1 q1) fun u s2 ⟨y,H2,I2,r2,q2⟩ =>
  thn (ho pins s2 σ H2 x y v u _ I2 r1 r2 q2) fun c s3 ⟨z,H3,I3,r3,k,e,q3⟩ => ?_) hm
 subst e
 cases r3
 exact wpAny_truthy_bool ⟨H3,I3,q3⟩
noncomputable def tChain (r r' : R2) (ta tb tc : TE) : TE := fun σ H Q => ta σ H fun x H1 => tb σ H1 fun y H2 => r x y H2 fun z H3 => ∃ k,z = .bl k ∧
 (if k = true then tc σ H3 fun w' H4 => r' y w' H4 Q else Q (.bl false) H3)
theorem pt_chain {op op' : CmpOp} {r r' : R2} (ho : OpR X (compareOp op) r) (ho' : OpR X (compareOp op') r') (ha : PE X a ta) (hb : PE X b tb) (hc : PE X c tc)
  (hm : lastMarks [op,op'] [b,c] = false := by with_unfolding_all rfl) : PT X (.Compare a [op,op'] [b,c] pos) (tTest (tChain r r' ta tb tc)) := by
 intro pins s σ H Q I h
 refine isTrue_chain (thn (ha pins s σ H _ I h) fun v s1 ⟨x,H1,I1,r1,q1⟩ => test_link (thn (hb pins s1 σ H1 _ I1 q1) fun u s2 ⟨y,H2,I2,r2,q2⟩ =>
  thn (ho pins s2 σ H2 x y v u _ I2 r1 r2 q2) fun d s3 ⟨z,H3,I3,r3,k,e,q3⟩ => ?_)) hm
 subst e
 cases r3
 refine wpAny_truthy_bool ?_
 cases k with
 | false =>
  obtain ⟨k',e',q'⟩ := q3
  cases e'
  exact ite_ff ⟨H3,I3,q'⟩
 | true =>
  refine ite_tt (test_last (thn (hc pins s3 σ H3 _ I3 q3) fun w' s4 ⟨z',H4,I4,r4,q4⟩ => thn (ho' pins s4 σ H4 y z' u w' _ I4 r2 r4 q4) fun d' s5 ⟨z2,H5,I5,r5,k2,e2,q5⟩ => ?_))
  subst e2
  cases r5
  exact wpAny_truthy_bool ⟨H5,I5,q5⟩
theorem line63 : (sizeLine : Nat) < 2 ^ 63 := by rw [sizeLine_eq];decide
theorem vals1 {x : V} {us : List Value} (r : Vals [x] us) : ∃ u,us = [u]∧RelV x u := by
 cases r with
 | cons r1 r2 => cases r2;exact ⟨_,rfl,r1⟩
theorem vals2 {x y : V} {us : List Value} (r : Vals [x,y] us) : ∃ u w',us = [u,w']∧RelV x u∧RelV y w' := by
 cases r with
 | cons r1 r2 =>
  cases r2 with
  | cons r3 r4 => cases r4;exact ⟨_,_,rfl,r1,r3⟩
theorem call_abs : CallR X (.builtin "abs") (fun xs H Q => ∃ i,xs = [.int i]∧Q (.int (if i < 0 then -i else i)) H) := by
 intro pins s σ H xs us Q I r h
 obtain ⟨i,rfl,q⟩ := h
 obtain ⟨u,rfl,t,rfl⟩ := vals1 r
 exact call_abs_int fun u tk => ⟨.int (if i < 0 then -i else i),H,I.tok _,⟨_,rfl⟩,q⟩
theorem call_min2 (hc : X.calm = true) : CallR X (.builtin "min") (fun xs H Q => ∃ i j,xs = [.int i,.int j]∧Q (.int (if j < i then j else i)) H) := by
 intro pins s σ H xs us Q I r h
 obtain ⟨i,j,rfl,q⟩ := h
 obtain ⟨u,w',rfl,⟨t,rfl⟩,⟨t',rfl⟩⟩ := vals2 r
 refine min_two_ints (I.ok.hd hc) fun h' tk k => ⟨_,H,I.kept k,?_,q⟩
 by_cases hj : j < i
 ·rw [if_pos hj,if_pos hj];exact ⟨_,rfl⟩
 ·rw [if_neg hj,if_neg hj];exact ⟨_,rfl⟩
theorem call_int1 : CallR X (.type "int") (fun xs H Q => (∃ i,xs = [.int i]∧Q (.int i) H) ∨ ∃ k,xs = [.bl k]∧Q (.int (if k then 1 else 0)) H) := by
 intro pins s σ H xs us Q I r h
 rcases h with ⟨i,rfl,q⟩ | ⟨k,rfl,q⟩
 ·obtain ⟨u,rfl,t,rfl⟩ := vals1 r
  exact call_int_int ⟨.int i,H,I,⟨_,rfl⟩,q⟩
 ·obtain ⟨u,rfl,r1⟩ := vals1 r
  cases r1
  exact call_int_bool ⟨.int (if k then 1 else 0),H,I.tok _,⟨_,rfl⟩,q⟩
def LenV (K : PySem.W.Frag) (x : V) (H : Hp) (n : Nat) : Prop :=
 match x with
 | .str y => y.length ≤ sizeLine∧n = y.length
 | .byt y => y.size ≤ sizeLine∧n = y.size
 | .ref p => (∃ xs,SqL K H p xs∧n = xs.length) ∨ ∃ xs,SqT K H p xs∧n = xs.length
 | _ => False
theorem call_len : CallR X (.builtin "len") (fun xs H Q => ∃ x n,xs = [x]∧LenV X.K x H n∧Q (.int n) H) := by
 intro pins s σ H xs us Q I r h
 obtain ⟨x,n,rfl,e,q⟩ := h
 obtain ⟨u,rfl,rx⟩ := vals1 r
 have hl := line63
 have hs : sizeLine = 16777216 := sizeLine_eq
 cases x with
 | str y =>
  obtain ⟨t,rfl⟩ := rx
  obtain ⟨hy,e'⟩ : y.length ≤ sizeLine∧n = y.length := e
  subst e'
  exact len_str (by omega) ⟨.int _,H,I.tok _,⟨_,rfl⟩,q⟩
 | byt y =>
  obtain ⟨t,rfl⟩ := rx
  obtain ⟨hy,e'⟩ : y.size ≤ sizeLine∧n = y.size := e
  subst e'
  exact PySem.W.len_bytes (by omega) ⟨.int _,H,I.tok _,⟨_,rfl⟩,q⟩
 | ref p =>
  cases rx
  have e' : (∃ xs,SqL X.K H p xs∧n = xs.length) ∨ ∃ xs,SqT X.K H p xs∧n = xs.length := e
  rcases e' with ⟨xs,hx,e'⟩ | ⟨xs,hx,e'⟩
  ·subst e'
   obtain ⟨its,r',pl,hz⟩ := I.list hx
   have hlen := r'.length
   exact Calls.call_len_list pl.isList (by simp only [List.size_toArray];omega) ⟨.int xs.length,H,I.tok _,⟨_,by simp only [List.size_toArray];rw [hlen]⟩,q⟩
  ·subst e'
   obtain ⟨its,r',pl,hz⟩ := I.tuple hx
   have hlen := r'.length
   exact len_tuple pl (by simp only [List.size_toArray];omega) ⟨.int xs.length,H,I.tok _,⟨_,by simp only [List.size_toArray];rw [hlen]⟩,q⟩
 | _ => exact (show False from e).elim
end
end L2
namespace L2
open PySem PySem.Spec PyProof.Rows
section
variable {prog : Program} {w : World} {A : Around} {E : Value → Shared → Prop} {s : Shared} {K : PySem.W.Frag} {x dx C f : Addr} {mA : Str → Option Value} {name : Str} {v : Value}
end
section
variable {P : Program} {w : World} {H H' : Hp} {h h' : Heap} {a C dx : Addr} {fs fs' : List (Str × V)}
end
section
variable {X : Cx} {pins : List (Addr × Obj)} {σ : St} {H : Hp} {s : Shared} {a C dx : Addr} {fs : List (Str × V)} {f : Str} {v : V} {A : Around} {E : Value → Shared → Prop}
end
section
variable {X : Cx} {o e value : Expr} {f : Str} {pos pos' tpos : Pos} {ta tv : TE}
end
section
variable {X : Cx} {pins : List (Addr × Obj)} {σ : St} {H : Hp} {s : Shared} {A : Around} {E : Value → Shared → Prop} {Q : Value → Shared → Prop} {c : Value} {b : Bool}
end
end L2
namespace L2
open PySem PySem.Spec PyProof.Rows
structure Room (k : Nat) (A : Around) : Prop where
 hd : A.handled = none
 dp : A.depth + 3 * k + 5 < recursionLimit
 un : A.units + 16 * k + 200 < cLine
 gd : A.guards = some []
theorem Room.mono {j k : Nat} {A : Around} (r : Room k A) (h : j ≤ k) : Room j A := ⟨r.hd,by have := r.dp;omega,by have := r.un;omega,r.gd⟩
theorem Room.deeper {k : Nat} {A : Around} (r : Room (k + 1) A) (env : Env) : Room k (A.deeper env) :=
 ⟨r.hd,by have := r.dp;show A.depth + 1 + 3 * k + 5 < _;omega,by have := r.un;show A.units + 3 + 16 * k + 200 < _;omega,r.gd⟩
theorem Room.in1 {k : Nat} {A : Around} (r : Room (k + 1) A) : Room k A.in1 :=
 ⟨r.hd,by have := r.dp;show A.depth + 3 * k + 5 < _;omega,by have := r.un;show A.units + 1 + 16 * k + 200 < _;omega,r.gd⟩
theorem Room.depth {k : Nat} {A : Around} (r : Room k A) : A.depth < recursionLimit := by have := r.dp;omega
theorem Room.units {k : Nat} {A : Around} (r : Room k A) : A.units + 64 < cLine := by have := r.un;omega
noncomputable def tNil : TA := fun _ H Q => Q [] H
noncomputable def tCons (ta : TE) (tr : TA) : TA := fun σ H Q => ta σ H fun x H1 => tr σ H1 fun xs H2 => Q (x :: xs) H2
section
variable {X : Cx} {e : Expr} {es : List Expr} {te : TE} {t : TA} {pos : Pos}
theorem pa_nil : PA X [] tNil := fun _ _ _ _ H Q I h => Calls.spliced_nil ⟨[],H,I,.nil,h⟩
theorem pa_cons (ha : PE X e te) (hr : PA X es t) (hs : starEach (e :: es) X.env = (false,eval e X.env) :: starEach es X.env := by rfl) : PA X (e :: es) (tCons te t) := by
 intro pos pins s σ H Q I h
 rw [hs]
 show wpAny _ _ (spliced ((false,eval e X.env) :: backTo pos (starEach es X.env))) _ _ s
 refine Calls.spliced_cons (thn (ha pins s σ H _ I h) fun u s1 ⟨x,H1,I1,r1,q1⟩ => ?_)
 exact thn (hr pos pins s1 σ H1 _ I1 q1) fun us s2 ⟨xs,H2,I2,r2,q2⟩ => ⟨x :: xs,H2,I2,.cons r1 r2,q2⟩
noncomputable def tTup (t : TA) : TE := fun σ H Q => t σ H fun xs H1 => xs.length ≤ sizeLine∧∀ p,H1 p = none → Q (.ref p) (upd H1 p (.tup xs))
noncomputable def tLst (t : TA) : TE := fun σ H Q => t σ H fun xs H1 => xs.length ≤ sizeLine∧∀ p,H1 p = none → Q (.ref p) (upd H1 p (.lst xs))
theorem pe_tup {x1} (h : PA X es t) : PE X (.Tuple es x1 pos) (tTup t) := by
 intro pins s σ H Q I hq
 refine wpAny_Tuple_spliced (thn (h pos pins s σ H _ I hq) fun us s1 ⟨xs,H1,I1,r,z,q⟩ => ⟨by rw [← r.length];exact z,?_⟩)
 have hf : H1 s1.heap.objs.size = none := I1.hok.fresh (Nat.le_refl _)
 refine ⟨.ref s1.heap.objs.size,upd H1 s1.heap.objs.size (.tup xs),I1.laid (t' := s1.toks) (fun b u e => Heap.get?_push_of_some _ e) (Nat.le_refl _) ?_,rfl,q _ hf⟩
 exact ⟨z,us,r,⟨_,Heap.get?_push_size _ rfl,rfl,_,rfl⟩⟩
theorem pe_lst (h : PA X es t) : PE X (.List es pos) (tLst t) := by
 intro pins s σ H Q I hq
 refine wpAny_List_spliced (thn (h pos pins s σ H _ I hq) fun us s1 ⟨xs,H1,I1,r,z,q⟩ => ⟨by rw [← r.length];exact z,?_⟩)
 have hf : H1 s1.heap.objs.size = none := I1.hok.fresh (Nat.le_refl _)
 refine ⟨.ref s1.heap.objs.size,upd H1 s1.heap.objs.size (.lst xs),I1.laid (t' := s1.toks) (fun b u e => Heap.get?_push_of_some _ e) (Nat.le_refl _) ?_,rfl,q _ hf⟩
 exact ⟨z,us,0,r,Heap.get?_push_size _ rfl⟩
end
noncomputable abbrev Sp := List V → Hp → VK → XK → Prop
noncomputable abbrev CXT := List Env → Hp → Shared → XK → Value → Shared → Prop
structure Env0 (P : Program) (w : World) (K : PySem.W.Frag) (mg : Str → Option Value) (base : Heap) (A : Around) (outer : List Env) (s : Shared) (H : Hp) : Prop where
 frames : A.frames = some outer
 mod : Mod K mg base
 bs : ∀ b o,base.get? b = some o → s.heap.get? b = some o∧H b = none
 bsz : base.objs.size ≤ s.heap.objs.size
 funs : s.heap.FunFrames base outer
 frf : ∀ b ∈ frs outer,H b = none
 hok : HOk P w H s.heap
 bare : AllBare s.gens
def CE (outer : List Env) (P : Program) (w : World) (H : Hp) (s : Shared) (Q : VK) (u : Value) (s' : Shared) : Prop :=
 ∃ v H',s'.os = s.os∧AllBare s'.gens∧Un (frs outer) [] H H' s.heap s'.heap∧HOk P w H' s'.heap∧RelV v u∧Q v H'
def CR (CX : CXT) (outer : List Env) (P : Program) (w : World) (H : Hp) (s : Shared) (Q : VK) (E : XK) (r : Result) (s' : Shared) : Prop :=
 match r with
 | .ok (.ret u) => CE outer P w H s Q u s'
 | .ok _ => False
 | .error e => CX outer H s E e s'
structure FnOk (P : Program) (w : World) (K : PySem.W.Frag) (mg : Str → Option Value) (base : Heap) (CX : CXT) (k : Nat) (f : Addr) (fd : FuncData) (ps : List Str) (sp : Sp) : Prop where
 len : ∀ vs H Q E,sp vs H Q E → vs.length = ps.length
 run : ∀ (A : Around) (outer : List Env) (s : Shared) (H : Hp) (args : Args) (us : List Value) (vs : List V) (Q : VK) (E : XK),Room k A → Env0 P w K mg base A outer s H → BindsTo s fd args (ps.zip us) → Vals vs us → sp vs H Q E →
  codeAny (model P w) A (.call (.ref f) args) (CR CX outer P w H s Q E) s
theorem FnOk.mono {P : Program} {w : World} {K : PySem.W.Frag} {mg : Str → Option Value} {base : Heap} {CX : CXT} {j k : Nat} {f : Addr} {fd : FuncData} {ps : List Str} {sp : Sp} (F : FnOk P w K mg base CX j f fd ps sp) (h : j ≤ k) :
  FnOk P w K mg base CX k f fd ps sp := ⟨F.len,fun A outer s H args us vs Q E hr => F.run A outer s H args us vs Q E (hr.mono h)⟩
theorem FnOk.imp {P : Program} {w : World} {K : PySem.W.Frag} {mg : Str → Option Value} {base : Heap} {CX : CXT} {k : Nat} {f : Addr} {fd : FuncData} {ps : List Str} {sp sp' : Sp} (F : FnOk P w K mg base CX k f fd ps sp)
  (h : ∀ vs H Q E,sp' vs H Q E → sp vs H Q E) : FnOk P w K mg base CX k f fd ps sp' :=
 ⟨fun vs H Q E q => F.len vs H Q E (h _ _ _ _ q),fun A outer s H args us vs Q E hr he hb hv hs => F.run A outer s H args us vs Q E hr he hb hv (h _ _ _ _ hs)⟩
theorem Env0.in1 {P : Program} {w : World} {K : PySem.W.Frag} {mg : Str → Option Value} {base : Heap} {A : Around} {outer : List Env} {s : Shared} {H : Hp} (e : Env0 P w K mg base A outer s H) :
  Env0 P w K mg base A.in1 outer s H := ⟨e.frames,e.mod,e.bs,e.bsz,e.funs,e.frf,e.hok,e.bare⟩
section
variable {X : Cx} {pins : List (Addr × Obj)} {σ : St} {H : Hp} {s s' : Shared}
theorem Inv.env0 (I : Inv X pins σ H s) : Env0 X.prog X.w X.K X.mg X.base X.A X.stack s H :=
 ⟨I.ok.frames,I.ok.mod,I.bs,Nat.le_trans I.ok.bsz I.sz,I.stack,I.stkFree,I.hok,I.bare⟩
theorem Inv.after {Q : VK} {u : Value} (I : Inv X pins σ H s) (h : CE X.stack X.prog X.w H s Q u s') : EP X pins σ Q u s' := by
 obtain ⟨v,H',os,bare,un,hok,r,q⟩ := h
 obtain ⟨hh,g,d,t,os'⟩ := s'
 obtain rfl : os' = s.os := os
 exact ⟨v,H',I.call (h' := hh) (g' := g) (d' := d) (t' := t) (ch := []) un hok bare (fun b z => absurd z (by simp)),r,q⟩
end
noncomputable def tCall (sp : Sp) (dvs : List V) (E : XK) (t : TA) : TE := fun σ H Q => t σ H fun vs H1 => sp (vs ++ dvs) H1 Q E
def Binds (K : PySem.W.Frag) (fd : FuncData) (ps : List Str) (ds : List Value) : Prop :=
 ∀ (s : Shared) (us : List Value),K.In s.heap → (us ++ ds).length = ps.length → BindsTo s fd ⟨us,[]⟩ (ps.zip (us ++ ds))
theorem Binds.all {K : PySem.W.Frag} {fd : FuncData} {ps : List Str} (h : ∀ us : List Value,us.length = ps.length → bindArgs fd ⟨us,[]⟩ = pure (ps.zip us)) : Binds K fd ps [] := fun s us _ hl => by
 rw [List.append_nil] at hl ⊢
 exact .of_eq (h us hl)
def Passes (CX : CXT) (X : Cx) (E : XK) : Prop := ∀ (pins : List (Addr × Obj)) (σ : St) (H : Hp) (s : Shared) (e : Value) (s' : Shared),Inv X pins σ H s → CX X.stack H s E e s' → X.xe e s'
section
variable {X : Cx} {CX : CXT} {k : Nat} {f C : Addr} {fd : FuncData} {ps : List Str} {sp : Sp} {dvs : List V} {ds : List Value} {E : XK} {x m : Str} {p pos apos : Pos} {e o : Expr} {es : List Expr} {ta : TE} {t : TA}
theorem run_fn {pins : List (Addr × Obj)} {σ : St} {H : Hp} {s : Shared} {Q : VK} {us : List Value} {vs : List V} (F : FnOk X.prog X.w X.K X.mg X.base CX k f fd ps sp) (hr : Room k X.A) (hb : Binds X.K fd ps ds) (hd : Vals dvs ds) (hx : Passes CX X E)
  (I : Inv X pins σ H s) (r : Vals vs us) (h : sp (vs ++ dvs) H Q E) : wpAny (model X.prog X.w) X.A (call (.ref f) us) (EP X pins σ Q) X.xe s := by
 have r2 : Vals (vs ++ dvs) (us ++ ds) := r.append hd
 have hl : (us ++ ds).length = ps.length := by rw [← r2.length];exact F.len _ _ _ _ h
 refine wpAny_call (codeAny_mono (F.run X.A X.stack s H ⟨us,[]⟩ (us ++ ds) (vs ++ dvs) Q E hr I.env0 (hb s us I.kIn hl) r2 h) fun r s' hq => ?_)
 cases r with
 | error e => exact hx pins σ H s e s' I hq
 | ok fl =>
  cases fl with
  | ret u => exact I.after hq
  | next => exact False.elim hq
  | brk => exact False.elim hq
  | cont => exact False.elim hq
theorem pe_call (F : FnOk X.prog X.w X.K X.mg X.base CX k f fd ps sp) (hr : Room k X.A) (hg : Gl X x) (hm : X.mg x = some (.ref f)) (hk : PySem.W.keepIn X.K (.ref f) = true) (hb : Binds X.K fd ps ds) (hd : Vals dvs ds) (hx : Passes CX X E)
  (ha : PA X (e :: es) t) (hdb : (x == ("__debug__" : Str)) = false := by decide) (he : starEach (e :: es) X.env = (false,eval e X.env) :: starEach es X.env := by rfl) (hpl : (backTo pos (starEach es X.env)).any (·.1) = false := by rfl) :
  PE X (.Call (.Name x p) (e :: es) [] pos) (tCall sp dvs E t) := by
 intro pins s σ H Q I h
 refine wpAny_Call_Name_kw (ld_glob I hg hm ?_ hdb)
 refine PySem.W.callWith_K (h₀ := X.base) I.ok.mod.kin hk (thn (ha pos pins s σ H _ I h) fun us s1 ⟨vs,H1,I1,r,q⟩ => ⟨I1.kIn,?_⟩) he hpl
 exact run_fn F hr hb hd hx I1 r q
end
section
variable {X : Cx} {CX : CXT} {k : Nat} {f C : Addr} {fd : FuncData} {ps ks : List Str} {sp : Sp} {E : XK} {x m : Str} {p pos apos kpos : Pos} {e o : Expr} {es : List Expr} {kws : List Keyword} {te ta : TE} {t tk : TA} {nm : Option Str}
variable {g : List Value → List Value → List Value} {gV : List V → List V → List V}
end
structure FnScope (N P : List Str) (sc : Scope) : Prop where
 kind : sc.kind = .function
 co : sc.isCoroutine = false
 gen : sc.isGenerator = false
 nd : N.Nodup
 pre : N.take P.length = P
 par : ∀ x ∈ P,sc.names.lookup x = some .local ∨ sc.names.lookup x = some .cell
 nofree : ∀ y ∈ sc.names,y.2 ≠ .free
theorem bindL_out {kindOf : Str → Option NameKind} {x : Str} : ∀ {binds : List (Str × Value)} {m : Str → Option Value},(∀ v,(x,v) ∉ binds) → bindL kindOf binds m x = m x
 | [],_,_ => rfl
 | (n,v) :: r,m,h => by
  unfold bindL
  rw [bindL_out fun w hw => h w (List.mem_cons_of_mem _ hw)]
  split
  ·have : x ≠ n := by rintro rfl;exact h v List.mem_cons_self
   simp [this]
  ·rfl
theorem bindC_out {kindOf : Str → Option NameKind} {x : Str} : ∀ {binds : List (Str × Value)} {m : Str → Option Value},(∀ v,(x,v) ∉ binds) → bindC kindOf binds m x = m x
 | [],_,_ => rfl
 | (n,v) :: r,m,h => by
  unfold bindC
  rw [bindC_out fun w hw => h w (List.mem_cons_of_mem _ hw)]
  split
  ·rfl
  ·have : x ≠ n := by rintro rfl;exact h v List.mem_cons_self
   simp [this]
theorem bindL_get {kindOf : Str → Option NameKind} {x : Str} {v : Value} : ∀ {P : List Str} {vs : List Value} {i : Nat} {m : Str → Option Value},P.Nodup → P[i]? = some x → vs[i]? = some v → kindOf x = some .local →
  bindL kindOf (P.zip vs) m x = some v
 | [],_,_,_,_,h,_,_ => by simp at h
 | _ :: _,[],_,_,_,_,h,_ => by simp at h
 | p :: P,w :: vs,0,m,nd,h1,h2,hk => by
  simp at h1 h2;subst h1;subst h2
  show bindL kindOf ((p,w) :: P.zip vs) m p = _
  unfold bindL
  rw [bindL_out fun v hv => (List.nodup_cons.mp nd).1 (List.of_mem_zip hv).1,if_pos hk]
  simp
 | p :: P,w :: vs,i + 1,m,nd,h1,h2,hk => by
  show bindL kindOf ((p,w) :: P.zip vs) m x = _
  unfold bindL
  exact bindL_get (i := i) (List.nodup_cons.mp nd).2 (by simpa using h1) (by simpa using h2) hk
theorem bindC_get {kindOf : Str → Option NameKind} {x : Str} {v : Value} : ∀ {P : List Str} {vs : List Value} {i : Nat} {m : Str → Option Value},P.Nodup → P[i]? = some x → vs[i]? = some v → kindOf x ≠ some .local →
  bindC kindOf (P.zip vs) m x = some v
 | [],_,_,_,_,h,_,_ => by simp at h
 | _ :: _,[],_,_,_,_,h,_ => by simp at h
 | p :: P,w :: vs,0,m,nd,h1,h2,hk => by
  simp at h1 h2;subst h1;subst h2
  show bindC kindOf ((p,w) :: P.zip vs) m p = _
  unfold bindC
  rw [bindC_out fun v hv => (List.nodup_cons.mp nd).1 (List.of_mem_zip hv).1,if_neg hk]
  simp
 | p :: P,w :: vs,i + 1,m,nd,h1,h2,hk => by
  show bindC kindOf ((p,w) :: P.zip vs) m x = _
  unfold bindC
  exact bindC_get (i := i) (List.nodup_cons.mp nd).2 (by simpa using h1) (by simpa using h2) hk
noncomputable def start (N : List Str) (vs : List V) : St := vs.map some ++ List.replicate (N.length - vs.length) none
noncomputable def cxOf (CX : CXT) (P : Program) (w : World) (K : PySem.W.Frag) (mg : Str → Option Value) (base : Heap) (N : List Str) (qual : Str) (scope : Scope) (f : Addr) (cd : Value) (A : Around) (outer : List Env) (s : Shared) (H : Hp) (E : XK) : Cx where
 prog := P
 w := w
 K := K
 mg := mg
 base := base
 A := A.deeper (envOfC qual scope s.heap.objs.size f cd)
 N := N
 s₀ := s
 H₀ := H
 env := envOfC qual scope s.heap.objs.size f cd
 outer := outer
 stack := envOfC qual scope s.heap.objs.size f cd :: outer
 ex := []
 calm := true
 fn := fun _ => true
 pn := []
 xe := fun e s' => wpAny (model P w) (A.deeper (envOfC qual scope s.heap.objs.size f cd)) (leaving (envOfC qual scope s.heap.objs.size f cd) e) (fun _ s'' => CX outer H s E e s'') (fun e' s'' => CX outer H s E e' s'') s'
theorem cell_has {sc : Scope} {n : Nat} {x : Str} (h : sc.names.lookup x = some .cell) : ∃ c,(cellsFrom n sc.names []).lookup x = some c := by
 have q := PySem.W.cellsFrom_some sc.names n [] (.inl h)
 exact Option.isSome_iff_exists.mp q
theorem inv_start {CX : CXT} {P : Program} {w : World} {K : PySem.W.Frag} {mg : Str → Option Value} {base : Heap} {N ps : List Str} {qual : Str} {scope : Scope} {f : Addr} {cd : Value} {A : Around} {outer : List Env} {s s1 : Shared} {H : Hp} {E : XK} {us : List Value} {vs : List V}
  (S : FnScope N ps scope) (hd : A.handled = none) (e0 : Env0 P w K mg base A outer s H) (hl : vs.length = ps.length) (r : Vals vs us)
  (x : InCallC s s.heap.objs.size (bindL (envOfC qual scope s.heap.objs.size f cd).kindOf (ps.zip us) fun _ => none) (cellsFrom (s.heap.objs.size + 1) scope.names []) (bindC (envOfC qual scope s.heap.objs.size f cd).kindOf (ps.zip us) fun _ => none) s1) :
  Inv (cxOf CX P w K mg base N qual scope f cd A outer s H E) [] (start N vs) H s1 := by
 have hpl : ps.length ≤ N.length := by have := congrArg List.length S.pre;rw [List.length_take] at this;omega
 obtain ⟨h1,tk,rfl,hk⟩ := x.done
 have noA : ∀ b : Addr,b ∉ (cxOf CX P w K mg base N qual scope f cd A outer s H E).ex := fun b z => absurd (show b ∈ ([] : List Addr) from z) (by simp)
 refine ⟨⟨e0.mod,S.kind,rfl,rfl,Nat.le_refl _,fun y z c h1 h2 => ?_,fun y hy => ?_,fun y c _ h => ?_,fun _ => hd,Around.frames_deeper e0.frames,.inr ⟨rfl,rfl⟩,fun b z => absurd z (noA b),e0.bs,e0.bsz,fun b _ _ => noA b,fun b z => absurd z (noA b),e0.funs,e0.frf⟩,
  rfl,e0.bare,Un.kept hk,⟨_,x.toInCall.ns,fun i y v h1 h2 h3 => ?_⟩,fun y c h => ⟨_,x.cell y c h⟩,e0.hok.fresh (Nat.le_refl _),fun y c h => ?_,fun p hp => absurd (show p ∈ ([] : List (Addr × Obj)) from hp) (by simp),e0.hok.kept hk,?_⟩
 ·exact name_of_addr x.apart (PySem.mem_of_lookup h1) (PySem.mem_of_lookup h2)
 ·have hy : scope.names.lookup y = some .cell ∨ scope.names.lookup y = some .free := hy
  rcases hy with hy | hy
  ·exact cell_has hy
  ·exact absurd rfl (S.nofree _ (PySem.mem_of_lookup hy))
 ·exact Nat.le_of_lt (x.above y c (PySem.mem_of_lookup h))
 ·have hi : i < vs.length := by
   unfold start at h2
   by_cases hi : i < vs.length
   ·exact hi
   ·rw [List.getElem?_append_right (by simpa using hi)] at h2
    rw [List.getElem?_replicate] at h2
    split at h2 <;> cases h2
  have ha : vs[i]? = some v := by
   unfold start at h2
   rw [List.getElem?_append_left (by simpa using hi),List.getElem?_map] at h2
   cases e : vs[i]? with
   | none => rw [e] at h2;cases h2
   | some a => rw [e] at h2;cases h2;rfl
  obtain ⟨u,hu,rv⟩ := r.get ha
  have hp : ps[i]? = some y := by
   rw [← S.pre,List.getElem?_take_of_lt (by omega)];exact h1
  have ndP : ps.Nodup := by rw [← S.pre];exact S.nd.sublist (List.take_sublist _ _)
  refine ⟨u,rv,?_⟩
  rcases S.par y (List.mem_of_getElem? hp) with k | k
  ·exact .inl ⟨k,bindL_get ndP hp hu k⟩
  ·obtain ⟨c,e⟩ := cell_has (n := s.heap.objs.size + 1) k
   refine .inr ⟨.inl k,c,e,?_⟩
   have q := x.cell y c e
   rw [bindC_get ndP hp hu (by show scope.names.lookup y ≠ _;rw [k];decide)] at q
   exact q
 ·exact e0.hok.fresh (Nat.le_of_lt (x.above y c (PySem.mem_of_lookup h)))
 ·unfold start
  show _ = N.length
  rw [List.length_append,List.length_map,List.length_replicate]
  omega
theorem fn_of {CX : CXT} {P : Program} {w : World} {K : PySem.W.Frag} {mg : Str → Option Value} {base : Heap} {k : Nat} {f : Addr} {name qual : Str} {params : Arguments} {body : List Stmt} {scope : Scope} {dV kV doc pm cdv ct oc : Value} {an od : Option Addr}
  {osl : Array (Option Value)} {N ps : List Str} {sp : Sp} (lk : K.lookup f = some ⟨oc,od,.func (PySem.W.fnOf name qual params body scope dV kV doc pm an cdv ct),osl⟩) (hcd : PySem.W.codeIn K cdv qual = true) (S : FnScope N ps scope)
  (len : ∀ vs H Q E,sp vs H Q E → vs.length = ps.length)
  (hbody : ∀ (A : Around) (outer : List Env) (s : Shared) (H : Hp) (vs : List V) (Q : VK) (E : XK),Room k (A.deeper (envOfC qual scope s.heap.objs.size f cdv)) → sp vs H Q E →
   ∃ t,PSs (cxOf CX P w K mg base N qual scope f cdv A outer s H E) body t∧t { nx := fun _ H' => Q .non H',rt := Q } (start N vs) H) :
  FnOk P w K mg base CX (k + 1) f (PySem.W.fnOf name qual params body scope dV kV doc pm an cdv ct) ps sp := by
 refine ⟨len,fun A outer s H args us vs Q E hr e0 hb r hsp => ?_⟩
 have hl := len _ _ _ _ hsp
 have KX : K.In s.heap := e0.mod.kin.keeps fun b o e => (e0.bs b o e).1
 have lim : s.heap.NoLimit := e0.mod.nolimit.keeps fun b o e => (e0.bs b o e).1
 have hkind : ∀ y ∈ ps.zip us,scope.names.lookup y.1 = some .local ∨ (scope.names.lookup y.1 = some .cell∧((cellsFrom (s.heap.objs.size + 1) scope.names []).lookup y.1).isSome = true) := fun ⟨n,v⟩ hy => by
  rcases S.par n (List.of_mem_zip hy).1 with q | q
  ·exact .inl q
  ·exact .inr ⟨q,PySem.W.cellsFrom_some _ _ _ (.inl q)⟩
 refine codeAny_call_function hr.depth (KX _ _ lk) rfl S.co S.gen rfl (PySem.W.codeRec_of KX hcd) (hb _ _ _ _ ?_)
 refine wpAny_newFunctionEnv_cells S.kind hkind fun env he s1 x => ?_
 subst he
 refine ⟨lim.keeps x.toInCall.keep,codeAny_func ?_⟩
 obtain ⟨t,ht,hq⟩ := hbody A outer s H vs Q E (hr.deeper _) hsp
 have I : Inv (cxOf CX P w K mg base N qual scope f cdv A outer s H E) [] (start N vs) H s1 := inv_start S hr.hd e0 hl r x
 refine wpAny_mono (ht [] s1 (start N vs) H _ I hq) (fun fl s' hs => ?_) fun e s' hs => hs
 have fin : ∀ {σ' : St} {H' : Hp} {v : V} {u : Value},Inv (cxOf CX P w K mg base N qual scope f cdv A outer s H E) [] σ' H' s' → RelV v u → Q v H' → CE outer P w H s Q u s' :=
  fun {σ' H' v u} J rv q => ⟨v,H',J.os,J.bare,J.base,J.hok,rv,q⟩
 cases fl with
 | ret u =>
  obtain ⟨v,σ',H',J,rv,q⟩ := hs
  exact fin J rv q
 | next =>
  obtain ⟨σ',H',J,q⟩ := hs
  exact fin (v := V.non) (u := Value.none) J rfl q
 | brk =>
  obtain ⟨_,_,_,q⟩ := hs
  exact False.elim q
 | cont =>
  obtain ⟨_,_,_,q⟩ := hs
  exact False.elim q
end L2
namespace L2
open PySem PySem.Spec PyProof.Rows
section
variable {X : Cx} {x : Str} {p pos : Pos} {e : Expr} {es : List Expr} {t : TA} {id T : String} {r : List V → Hp → VK → Prop}
noncomputable def tCB (r : List V → Hp → VK → Prop) (t : TA) : TE := fun σ H Q => t σ H fun vs H1 => r vs H1 Q
theorem pe_callB (hc : CallR X (.builtin id) r) (hg : Gl X x) (hm : X.mg x = none) (hv : bootBuiltins x = some (.builtin id)) (ha : PA X (e :: es) t) (hn : x ≠ "__name__" := by decide) (hdb : (x == ("__debug__" : Str)) = false := by decide)
  (he : starEach (e :: es) X.env = (false,eval e X.env) :: starEach es X.env := by rfl) (hpl : (backTo pos (starEach es X.env)).any (·.1) = false := by rfl) : PE X (.Call (.Name x p) (e :: es) [] pos) (tCB r t) := by
 intro pins s σ H Q I h
 refine wpAny_Call_Name_kw (ld_blt I hg hm hv ?_ hn hdb)
 exact PyProof.Rows.callWith_builtin1 (thn (ha pos pins s σ H _ I h) fun us s1 ⟨vs,H1,I1,r1,q1⟩ => hc pins s1 σ H1 vs us Q I1 r1 q1) he hpl
theorem pe_callTy (hc : CallR X (.type T) r) (hg : Gl X x) (hm : X.mg x = none) (hv : bootBuiltins x = some (.type T)) (ha : PA X (e :: es) t) (hn : x ≠ "__name__" := by decide) (hdb : (x == ("__debug__" : Str)) = false := by decide)
  (he : starEach (e :: es) X.env = (false,eval e X.env) :: starEach es X.env := by rfl) (hpl : (backTo pos (starEach es X.env)).any (·.1) = false := by rfl) : PE X (.Call (.Name x p) (e :: es) [] pos) (tCB r t) := by
 intro pins s σ H Q I h
 refine wpAny_Call_Name_kw (ld_blt I hg hm hv ?_ hn hdb)
 exact PyProof.Rows.callWith_type1 (thn (ha pos pins s σ H _ I h) fun us s1 ⟨vs,H1,I1,r1,q1⟩ => hc pins s1 σ H1 vs us Q I1 r1 q1) he hpl
end
end L2
namespace HT
open PySem PyProof.Rows
section
open PySem.SeqAt
open PySem.AutoSeq1 (wpAny_loadPart')
open PySem.MeetsSeq PySem.MeetsSeq2 PySem.MeetsSeq3
end
section
variable {prog : Program} {w : World} {A : Around} {E : Value → Shared → Prop} {s : Shared}
theorem cat_tup {t b : Addr} {vs ws : List Value} {Q : Value → Shared → Prop} (ht : IsTup s.heap t vs.toArray) (hb : IsTup s.heap b ws.toArray) (hv : vs ≠ [])
  (h1 : ws = [] → Q (.ref t) s) (h2 : ws ≠ [] → Q (.ref s.heap.objs.size) { s with heap := s.heap.push { cls := .type "tuple",data := .seq (vs ++ ws).toArray } })
  (hsz : vs.length + ws.length ≤ sizeLine) : wpAny (model prog w) A (binaryOp .Add (.ref t) (.ref b)) Q E s := by
 obtain ⟨⟨cls,dd,data,sl⟩,ho,hc,n,hd⟩ := id ht
 obtain ⟨⟨cls2,dd2,data2,sl2⟩,ho2,hc2,n2,hd2⟩ := id hb
 simp only at hc hd hc2 hd2
 subst hc hd hc2 hd2
 have e : vs.toArray ++ ws.toArray = (vs ++ ws).toArray := by simp
 by_cases hw : ws = []
 ·exact concat_meets ⟨_,ho,rfl⟩ ⟨_,ho2,rfl⟩ noFill_tuple_add seq_tuple_add PySem.F.slot_tuple_add PySem.F.entry_tuple_add (PySem.F.args_tuple_add_2 _ _)
   (tuple_addW1 t b vs.toArray ws.toArray n n2 dd dd2 sl sl2 (by simpa using hv) (by simp [hw])) ⟨ho,ho2,h1 hw⟩
 ·refine concat_meets ⟨_,ho,rfl⟩ ⟨_,ho2,rfl⟩ noFill_tuple_add seq_tuple_add PySem.F.slot_tuple_add PySem.F.entry_tuple_add (PySem.F.args_tuple_add_2 _ _)
   (tuple_addW2 t b vs.toArray ws.toArray n n2 dd dd2 sl sl2 (by simpa using hv) (by simpa using hw) (by rw [List.size_toArray,List.size_toArray];exact hsz)) ⟨ho,ho2,?_⟩
  rw [e]
  exact h2 hw
noncomputable def sIx (n d : Nat) : Option Int → Nat
 | none => d
 | some v => if v < 0 then (v + (n : Int)).toNat else min v.toNat n
theorem sIx_le (n d : Nat) (hd : d ≤ n) (o : Option Int) : sIx n d o ≤ n := by
 cases o with
 | none => exact hd
 | some v =>
  show (if v < 0 then (v + (n : Int)).toNat else min v.toNat n) ≤ n
  by_cases hv : v < 0
  ·rw [if_pos hv];omega
  ·rw [if_neg hv];exact Nat.min_le_right _ _
theorem clip_eq (v : Int) (n d : Nat) : (if v < 0 then max (v + (n : Int)) 0 else min v (n : Int)) = ((sIx n d (some v) : Nat) : Int) := by
 show (if v < 0 then max (v + (n : Int)) 0 else min v (n : Int)) = (((if v < 0 then (v + (n : Int)).toNat else min v.toNat n) : Nat) : Int)
 by_cases hv : v < 0
 ·simp only [if_pos hv];omega
 ·simp only [if_neg hv];omega
theorem adjust_gen (lo hi : Option Int) (n : Nat) : Builtin.Slice.sliceAdjust lo hi 1 (n : Int) = (((sIx n 0 lo : Nat) : Int),((sIx n n hi : Nat) : Int)) := by
 have h1 : ¬ ((1 : Int) < 0) := by omega
 unfold Builtin.Slice.sliceAdjust
 simp only [h1,if_false]
 refine Prod.ext ?_ ?_
 ·cases lo with
  | none => rfl
  | some v => exact clip_eq v n 0
 ·cases hi with
  | none => rfl
  | some v => exact clip_eq v n n
theorem places_gen (i j : Nat) : Builtin.Slice.slicePlaces (i : Int) (j : Int) 1 = j - i := by
 unfold Builtin.Slice.slicePlaces
 have h1 : (1 : Int) > 0 := by omega
 simp only [h1,if_true,Int.ediv_one]
 split <;> omega
theorem slicePart_ {v : Value} {o : Option Int} {Q : Option Int → Shared → Prop} (p : IsPart v o) (h : Q o s) : wpAny (model prog w) A (Builtin.Slice.slicePartIndex v) Q E s := by
 cases p with
 | none => exact slicePart_none h
 | int i t => exact slicePart_int h
theorem sliceApplied_gen {sl : Addr} {vl vu : Value} {lo hi : Option Int} {n : Nat} {Q : Int × Int × Nat → Shared → Prop} (hs : s.heap.IsSliceOf sl vl vu .none) (pl : IsPart vl lo) (pu : IsPart vu hi)
  (h : Q (((sIx n 0 lo : Nat) : Int),1,sIx n n hi - sIx n 0 lo) s) : wpAny (model prog w) A (Builtin.Slice.sliceApplied (.ref sl) (pure (n : Int))) Q E s := by
 obtain ⟨os,hos,hcs,hds⟩ := id hs
 unfold Builtin.Slice.sliceApplied Builtin.Slice.sliceFields
 refine wpAny_bind (wpAny_bind (wpAny_field hos hds (x := vl) rfl (wpAny_bind (wpAny_field hos hds (x := vu) rfl (wpAny_bind (wpAny_field hos hds (x := .none) rfl (wpAny_pure ?_)))))))
 refine wpAny_bind (slicePart_none ?_)
 show wpAny _ _ (if ((1 : Int) == 0) = true then _ else _) _ _ s
 rw [if_neg (by decide)]
 refine wpAny_bind (slicePart_ pl (wpAny_bind (slicePart_ pu (wpAny_bind (wpAny_pure ?_)))))
 show wpAny _ _ (match Builtin.Slice.sliceAdjust lo hi 1 (n : Int) with | (lo,hi) => pure (lo,(1 : Int),Builtin.Slice.slicePlaces lo hi 1)) _ _ s
 rw [adjust_gen lo hi n]
 show wpAny _ _ (pure (((sIx n 0 lo : Nat) : Int),(1 : Int),Builtin.Slice.slicePlaces ((sIx n 0 lo : Nat) : Int) ((sIx n n hi : Nat) : Int) 1)) _ _ s
 rw [places_gen]
 exact wpAny_pure h
theorem pick_gen (xs : Array Value) (i k : Nat) : ((List.range k).filterMap fun (m : Nat) => xs[((i : Int) + (m : Int) * 1).toNat]?).toArray = ((xs.toList.drop i).take k).toArray := by
 have e : (fun (m : Nat) => xs[((i : Int) + (m : Int) * 1).toNat]?) = fun m => xs[i + m]? := by
  funext m
  have : ((i : Int) + (m : Int) * 1).toNat = i + m := by omega
  rw [this]
 rw [e]
 have := pick_run xs i k
 rw [List.filterMap_map] at this
 have e2 : ((fun x => xs[x]?) ∘ fun x => i + x) = fun m => xs[i + m]? := rfl
 rw [e2] at this
 rw [this]
theorem getItem_tuple_cut {t sl : Addr} {items : Array Value} {vl vu : Value} {lo hi : Option Int} {Q : Value → Shared → Prop} (ht : IsTup s.heap t items) (hs : s.heap.IsSliceOf sl vl vu .none) (pl : IsPart vl lo) (pu : IsPart vu hi)
  (hw : ¬ (sIx items.size 0 lo = 0∧sIx items.size items.size hi = items.size))
  (h : Q (.ref s.heap.objs.size) { s with heap := s.heap.push { cls := .type "tuple",data := .seq ((items.toList.drop (sIx items.size 0 lo)).take (sIx items.size items.size hi - sIx items.size 0 lo)).toArray } })
  (hsz : items.size ≤ sizeLine) : wpAny (model prog w) A (getItem (.ref t) (.ref sl)) Q E s := by
 have htake : sizeOk (.seq ((items.toList.drop (sIx items.size 0 lo)).take (sIx items.size items.size hi - sIx items.size 0 lo)).toArray) := by
  show ((items.toList.drop (sIx items.size 0 lo)).take (sIx items.size items.size hi - sIx items.size 0 lo)).toArray.size ≤ sizeLine
  rw [List.size_toArray,List.length_take,List.length_drop,Array.length_toList]
  omega
 have hj : sIx items.size items.size hi ≤ items.size := sIx_le _ _ (Nat.le_refl _) hi
 obtain ⟨os,hos,hcs,hds⟩ := id hs
 have hTs : s.TypeIs (.ref sl) "slice" := ⟨os,hos,hcs⟩
 unfold getItem
 try with_reducible refine wpAny_holding ?_
 first | refine wpAny_bind (wpAny_pure ?_) | skip
 refine wpAny_bind (wpAny_sequenceKey ht.typeIs (by decide) ?_)
 refine wpAny_bind (wpAny_callSpecial?_slot (name := Str.ofString "__getitem__") ht.typeIs PyProof.Rows.slot_tuple_getitem
  (wpAny_call_entry PyProof.Rows.slot_tuple_getitem ht.typeIs entry_tuple_getitem ?_ (args_tuple_getitem _ _)))
 show wpAny _ _ (Builtin.Tuple.tupleItemsOf (.ref t) >>= _) _ _ s
 refine wpAny_bind (tupleItemsOf_ ht ?_)
 refine wpAny_bind (wpAny_typeOf hTs ?_)
 rw [if_pos (by decide)]
 refine wpAny_bind (sliceApplied_gen hs pl pu ?_)
 have hno : ¬ ((((sIx items.size 0 lo : Nat) : Int) == 0 && (1 : Int) == 1 && (sIx items.size items.size hi - sIx items.size 0 lo) == items.size) = true) := by
  intro q
  rw [Bool.and_eq_true,Bool.and_eq_true] at q
  have q1 : ((sIx items.size 0 lo : Nat) : Int) = 0 := eq_of_beq q.1.1
  have q2 : sIx items.size items.size hi - sIx items.size 0 lo = items.size := eq_of_beq q.2
  exact hw ⟨by omega,by omega⟩
 show wpAny _ _ (if (((sIx items.size 0 lo : Nat) : Int) == 0 && (1 : Int) == 1 && (sIx items.size items.size hi - sIx items.size 0 lo) == items.size) = true then _ else _) _ _ s
 rw [if_neg hno,pick_gen]
 first
  | exact wpAny_bind (m := Builtin.Tuple.tupleExact _) (wpAny_newObj_type (wpAny_pure ⟨_,rfl,wpAny_pure h⟩) htake)
  | exact wpAny_bind (m := Builtin.Tuple.tupleExact _) (wpAny_newObj_type (wpAny_bind (wpAny_pure (wpAny_pure ⟨_,rfl,wpAny_pure h⟩))) htake)
  | exact wpAny_bind (wpAny_bind (m := Builtin.Tuple.tupleExact _) (wpAny_newObj_type (wpAny_pure (wpAny_pure ⟨_,rfl,wpAny_pure h⟩)) htake))
  | exact wpAny_bind (wpAny_bind (m := Builtin.Tuple.tupleExact _) (wpAny_newObj_type (wpAny_pure ⟨_,rfl,wpAny_pure h⟩) htake))
end
end HT
namespace L2
open PySem PySem.Spec PyProof.Rows
noncomputable abbrev TO := St → Hp → (Option Int → Hp → Prop) → Prop
def PO (X : Cx) (e : Option Expr) (t : TO) : Prop :=
 ∀ (pins : List (Addr × Obj)) (s : Shared) (σ : St) (H : Hp) (Q : Option Int → Hp → Prop),Inv X pins σ H s → t σ H Q →
  wpAny (model X.prog X.w) X.A (evalPart e X.env) (fun u s' => ∃ o H',Inv X pins σ H' s'∧IsPart u o∧Q o H') X.xe s
noncomputable def tPart (t : TE) : TO := fun σ H Q => t σ H fun x H1 => ∃ i,x = .int i∧Q (some i) H1
section
variable {X : Cx} {e : Expr} {te : TE} {lo hi : Option Expr} {tl th : TO} {pos p2 : Pos}
theorem po_some (h : PE X e te) : PO X (some e) (tPart te) := by
 intro pins s σ H Q I hw
 rw [evalPart_some]
 refine thn (h pins s σ H _ I hw) fun u s1 ⟨x,H1,I1,r1,q1⟩ => ?_
 obtain ⟨i,rfl,q⟩ := q1
 obtain ⟨t,rfl⟩ := r1
 exact ⟨some i,H1,I1,.int i t,q⟩
def SlR (X : Cx) (r : V → Option Int → Option Int → Hp → VK → Prop) : Prop :=
 ∀ (pins : List (Addr × Obj)) (s : Shared) (σ : St) (H : Hp) (x : V) (v vl vu : Value) (lo hi : Option Int) (sl : Addr) (Q : VK),Inv X pins σ H s → RelV x v → s.heap.IsSliceOf sl vl vu .none → IsPart vl lo → IsPart vu hi → r x lo hi H Q →
  ∃ T id,typeLookup (.type T) "__getitem__" = pure (some (.builtin id))∧s.TypeIs v T∧wpAny (model X.prog X.w) X.A (getItem v (.ref sl)) (EP X pins σ Q) X.xe s
theorem SlR.or {r r' : V → Option Int → Option Int → Hp → VK → Prop} (h : SlR X r) (h' : SlR X r') : SlR X (fun x lo hi H Q => r x lo hi H Q ∨ r' x lo hi H Q) := by
 intro pins s σ H x v vl vu lo hi sl Q I rx hs pl pu q
 rcases q with q | q
 ·exact h pins s σ H x v vl vu lo hi sl Q I rx hs pl pu q
 ·exact h' pins s σ H x v vl vu lo hi sl Q I rx hs pl pu q
noncomputable def tSl (r : V → Option Int → Option Int → Hp → VK → Prop) (te : TE) (tl th : TO) : TE := fun σ H Q => te σ H fun x H1 => tl σ H1 fun l H2 => th σ H2 fun u H3 => r x l u H3 Q
theorem pe_slice {r : V → Option Int → Option Int → Hp → VK → Prop} (hr : SlR X r) (he : PE X e te) (hl : PO X lo tl) (hu : PO X hi th) : PE X (.Subscript e (.Slice lo hi none p2) pos) (tSl r te tl th) := by
 intro pins s σ H Q I h
 refine Subscript_ (thn (he pins s σ H _ I h) fun v s1 ⟨x,H1,I1,r1,q1⟩ => ?_)
 refine wpAny_Slice (thn (hl pins s1 σ H1 _ I1 q1) fun vl s2 ⟨l,H2,I2,pl,q2⟩ => thn (hu pins s2 σ H2 _ I2 q2) fun vu s3 ⟨u,H3,I3,pu,q3⟩ => ?_)
 rw [evalPart_none]
 refine wpAny_pure ?_
 have I4 : Inv X pins σ H3 { s3 with heap := s3.heap.push { cls := .type "slice",data := .fields #[vl,vu,.none] } } := I3.kept (t' := s3.toks) fun b ob q => Heap.get?_push_of_some _ q
 obtain ⟨T,id,hT,ht,hg⟩ := hr pins { s3 with heap := s3.heap.push { cls := .type "slice",data := .fields #[vl,vu,.none] } } σ H3 x v vl vu l u s3.heap.objs.size Q I4 r1 (Heap.IsSliceOf.new ..) pl pu q3
 show wpAny (model X.prog X.w) X.A (subscriptTail e (.Slice lo hi none p2) v (.ref s3.heap.objs.size)) (EP X pins σ Q) X.xe { s3 with heap := s3.heap.push { cls := .type "slice",data := .fields #[vl,vu,.none] } }
 exact tail_any (ops := [.ref s3.heap.objs.size,v]) ht hT hg (by with_unfolding_all rfl)
noncomputable def cutV (xs : List V) (lo hi : Option Int) : List V := (xs.drop (HT.sIx xs.length 0 lo)).take (HT.sIx xs.length xs.length hi - HT.sIx xs.length 0 lo)
theorem cutV_length (xs : List V) (lo hi : Option Int) : (cutV xs lo hi).length ≤ xs.length := by
 unfold cutV
 rw [List.length_take,List.length_drop]
 omega
noncomputable def rSlT (K : PySem.W.Frag) : V → Option Int → Option Int → Hp → VK → Prop := fun x lo hi H Q => ∃ a xs,x = .ref a∧SqT K H a xs ∧
 ¬ (HT.sIx xs.length 0 lo = 0∧HT.sIx xs.length xs.length hi = xs.length)∧∀ p,H p = none → Q (.ref p) (upd H p (.tup (cutV xs lo hi)))
theorem sl_tup : SlR X (rSlT X.K) := by
 intro pins s σ H x v vl vu lo hi sl Q I rx hs pl pu h
 obtain ⟨a,xs,rfl,hx,hw,q⟩ := h
 cases rx
 obtain ⟨its,r,ht,hz⟩ := I.tuple hx
 have hlen : its.toArray.size = xs.length := by rw [List.size_toArray];exact r.length.symm
 refine ⟨"tuple",_,PyProof.Rows.slot_tuple_getitem.lookup,ht.typeIs,?_⟩
 refine HT.getItem_tuple_cut ht hs pl pu (by rw [hlen];exact hw) ?_ (by rw [hlen];exact hz)
 rw [hlen]
 refine ⟨.ref s.heap.objs.size,_,I.laid (t' := s.toks) (o := .tup (cutV xs lo hi)) (fun b ob q => Heap.get?_push_of_some _ q) (Nat.le_refl _) ?_,rfl,q _ (I.hok.fresh (Nat.le_refl _))⟩
 exact ⟨Nat.le_trans (cutV_length xs lo hi) hz,_,(r.drop (HT.sIx xs.length 0 lo)).take (HT.sIx xs.length xs.length hi - HT.sIx xs.length 0 lo),IsTup.new _ _⟩
noncomputable def rCatT (K : PySem.W.Frag) : R2 := fun x y H Q => ∃ a b xs ys,x = .ref a∧y = .ref b∧SqT K H a xs∧SqT K H b ys∧xs ≠ []∧xs.length + ys.length ≤ sizeLine ∧
 (ys = [] → Q (.ref a) H)∧(ys ≠ [] → ∀ p,H p = none → Q (.ref p) (upd H p (.tup (xs ++ ys))))
theorem Vals.nil_iff {xs : List V} {us : List Value} (r : Vals xs us) : us = [] ↔ xs = [] := by
 cases r with
 | nil => simp
 | cons _ _ => simp
theorem op_catT : OpR X (binaryOp .Add) (rCatT X.K) := by
 intro pins s σ H x y v u Q I rx ry h
 obtain ⟨a,b,xs,ys,rfl,rfl,ha,hb,hx,hz,q1,q2⟩ := h
 cases rx
 cases ry
 obtain ⟨its,r1,p1,_⟩ := I.tuple ha
 obtain ⟨its2,r2,p2,_⟩ := I.tuple hb
 refine HT.cat_tup p1 p2 (fun z => hx (r1.nil_iff.mp z)) (fun z => ⟨.ref a,H,I,rfl,q1 (r2.nil_iff.mp z)⟩) (fun z => ?_) (by rw [← r1.length,← r2.length];exact hz)
 refine ⟨.ref s.heap.objs.size,_,I.laid (t' := s.toks) (o := .tup (xs ++ ys)) (fun b ob q => Heap.get?_push_of_some _ q) (Nat.le_refl _) ?_,rfl,q2 (fun w => z (r2.nil_iff.mpr w)) _ (I.hok.fresh (Nat.le_refl _))⟩
 exact ⟨by rw [List.length_append];exact hz,_,r1.append r2,IsTup.new _ _⟩
end
end L2
namespace L2
open PySem PySem.Spec PyProof.Rows
noncomputable def ixN (n : Nat) (i : Int) : Option Nat := if 0 ≤ i then (if i < n then some i.toNat else none) else if -(n : Int) ≤ i then some (i + n).toNat else none
noncomputable def atI {α : Type} (xs : List α) (i : Int) : Option α := (ixN xs.length i).bind fun j => xs[j]?
theorem ixN_seq {n : Nat} {i : Int} {j : Nat} (h : ixN n i = some j) : seqIndex? i n = some j∧j < n∧-(n : Int) ≤ i∧i < n := by
 unfold ixN at h
 by_cases h0 : 0 ≤ i
 ·rw [if_pos h0] at h
  by_cases h1 : i < n
  ·rw [if_pos h1] at h
   have e : i.toNat = j := Option.some.inj h
   exact ⟨by rw [seqIndex_of h0 h1,e],by omega,by omega,h1⟩
  ·rw [if_neg h1] at h;cases h
 ·rw [if_neg h0] at h
  by_cases h1 : -(n : Int) ≤ i
  ·rw [if_pos h1] at h
   have e : (i + n).toNat = j := Option.some.inj h
   exact ⟨by rw [seqIndex_neg (by omega) h1,e],by omega,h1,by omega⟩
  ·rw [if_neg h1] at h;cases h
theorem atI_get {α : Type} {xs : List α} {i : Int} {v : α} (h : atI xs i = some v) : ∃ j,seqIndex? i xs.length = some j∧xs[j]? = some v∧j < xs.length∧-(xs.length : Int) ≤ i∧i < xs.length := by
 unfold atI at h
 cases e : ixN xs.length i with
 | none => rw [e] at h;cases h
 | some j =>
  rw [e] at h
  obtain ⟨h1,h2,h3,h4⟩ := ixN_seq e
  exact ⟨j,h1,h,h2,h3,h4⟩
def PlainIx (b : Expr) : Prop := ∀ o i,subscripted b false o i = operate [o,i] (getItem o i)
def IxR (X : Cx) (r : R2) : Prop :=
 ∀ (value slice : Expr) (pins : List (Addr × Obj)) (s : Shared) (σ : St) (H : Hp) (x y : V) (v u : Value) (Q : VK),Inv X pins σ H s → RelV x v → RelV y u → r x y H Q →
  subscripted slice false v u = operate [v,u] (getItem v u) → wpAny (model X.prog X.w) X.A (subscriptTail value slice v u) (EP X pins σ Q) X.xe s
def MtR (X : Cx) (id : String) (r : V → List V → Hp → VK → Prop) : Prop :=
 ∀ (pins : List (Addr × Obj)) (s : Shared) (σ : St) (H : Hp) (x : V) (xs : List V) (v : Value) (us : List Value) (Q : VK),Inv X pins σ H s → RelV x v → Vals xs us → r x xs H Q →
  wpAny (model X.prog X.w) X.A (call (.builtin id) (v :: us)) (EP X pins σ Q) X.xe s
section
variable {X : Cx} {a b : Expr} {ta tb : TE} {pos : Pos}
theorem IxR.or {r r' : R2} (h : IxR X r) (h' : IxR X r') : IxR X (fun x y H Q => r x y H Q ∨ r' x y H Q) := by
 intro value slice pins s σ H x y v u Q I rx ry q hs
 rcases q with q | q
 ·exact h value slice pins s σ H x y v u Q I rx ry q hs
 ·exact h' value slice pins s σ H x y v u Q I rx ry q hs
theorem pe_ix {r : R2} (hr : IxR X r) (ha : PE X a ta) (hb : PE X b tb) (hs : PlainIx b) : PE X (.Subscript a b pos) (tOp r ta tb) := by
 intro pins s σ H Q I h
 exact Subscript_ (binT ha hb I h fun v u s2 x y H2 I2 rx ry q => hr a b pins s2 σ H2 x y v u Q I2 rx ry q (hs _ _))
noncomputable def rIxL (K : PySem.W.Frag) : R2 := fun x y H Q => ∃ p xs i v,x = .ref p∧y = .int i∧SqL K H p xs∧atI xs i = some v∧Q v H
noncomputable def rIxT (K : PySem.W.Frag) : R2 := fun x y H Q => ∃ p xs i v,x = .ref p∧y = .int i∧SqT K H p xs∧atI xs i = some v∧Q v H
noncomputable def rIxS : R2 := fun x y H Q => ∃ z i c,x = .str z∧y = .int i∧z.length ≤ sizeLine∧atI z.cps.toList i = some c∧Q (.str ⟨#[c]⟩) H
theorem ix_list : IxR X (rIxL X.K) := by
 intro value slice pins s σ H x y v u Q I rx ry h hs
 obtain ⟨p,xs,i,z,rfl,rfl,hq,he,q⟩ := h
 cases rx
 obtain ⟨t,rfl⟩ := ry
 obtain ⟨its,r,pl,hz⟩ := I.list hq
 obtain ⟨j,h1,h2,h3,h4,h5⟩ := atI_get he
 obtain ⟨w,ew,rw'⟩ := r.get h2
 have hl := r.length
 have hn := line63
 have fin : EP X pins σ Q w s := ⟨z,H,I,rw',q⟩
 by_cases h0 : 0 ≤ i
 ·have hj : i.toNat = j := by
   rw [seqIndex_of h0 h5] at h1
   exact Option.some.inj h1
  exact item_listR pl.isList h0 (by omega) (by rw [hj];simpa using ew) fin hs
 ·have hj : (i + (its.toArray.size : Int)).toNat = j := by
   rw [seqIndex_neg (by omega) h4] at h1
   rw [List.size_toArray,← hl]
   exact Option.some.inj h1
  exact subscriptTail_builtinR (x := w) pl.isList.typeIs slot_list_getitem.lookup
   (wpAny_getItem_list_neg (Q := fun r s' => r = w∧EP X pins σ Q r s') pl.isList (by omega) (by rw [List.size_toArray] <;> omega) (by omega) (by rw [hj];simpa using ew) ⟨rfl,fin⟩) hs
theorem ix_tup : IxR X (rIxT X.K) := by
 intro value slice pins s σ H x y v u Q I rx ry h hs
 obtain ⟨p,xs,i,z,rfl,rfl,hq,he,q⟩ := h
 cases rx
 obtain ⟨t,rfl⟩ := ry
 obtain ⟨its,r,pl,hz⟩ := I.tuple hq
 obtain ⟨j,h1,h2,h3,h4,h5⟩ := atI_get he
 obtain ⟨w,ew,rw'⟩ := r.get h2
 have hl := r.length
 have hn := line63
 have fin : EP X pins σ Q w s := ⟨z,H,I,rw',q⟩
 exact subscriptTail_builtinR (x := w) pl.typeIs slot_tuple_getitem.lookup
  (getItem_tuple (j := j) (Q := fun r s' => r = w∧EP X pins σ Q r s') pl (by omega) (by omega) (by rw [List.size_toArray,← hl];exact h1) (by simpa using ew) ⟨rfl,fin⟩) hs
theorem ix_str : IxR X rIxS := by
 intro value slice pins s σ H x y v u Q I rx ry h hs
 obtain ⟨z,i,c,rfl,rfl,hz,he,q⟩ := h
 obtain ⟨t,rfl⟩ := rx
 obtain ⟨t',rfl⟩ := ry
 obtain ⟨j,h1,h2,h3,h4,h5⟩ := atI_get he
 have hl : z.cps.toList.length = z.length := by simp [Str.length]
 rw [hl] at h1 h4 h5
 have hn := line63
 exact tail_any (typeIs_str s z t) slot_str_getitem.lookup (getItem_str (c := c) (by
  have e1 : decide (i < -(2 ^ 63 : Int)) = false := decide_eq_false (by omega)
  have e2 : decide (i ≥ 2 ^ 63) = false := decide_eq_false (by omega)
  rw [e1,e2,Bool.or_false]) (by rw [h1];simpa using h2) ⟨.str ⟨#[c]⟩,H,I.tok _,⟨_,rfl⟩,q⟩) hs
noncomputable def rIx (K : PySem.W.Frag) : R2 := fun x y H Q => rIxL K x y H Q ∨ rIxT K x y H Q ∨ rIxS x y H Q
theorem ix_seq : IxR X (rIx X.K) := ix_list.or (ix_tup.or ix_str)
theorem mapSeq_set (its : List Value) (n j : Nat) (u : Value) : Obj.mapSeq (·.setIfInBounds j u) { cls := .type "list",data := .seq its.toArray n } = { cls := .type "list",data := .seq (its.set j u).toArray n } := by
 simp [Obj.mapSeq]
theorem Inv.lst {pins : List (Addr × Obj)} {σ : St} {H : Hp} {s : Shared} {p : Addr} {xs : List V} (I : Inv X pins σ H s) (h : H p = some (.lst xs)) :
  ∃ (its : List Value) (n : Nat),Vals xs its∧s.heap.get? p = some { cls := .type "list",data := .seq its.toArray n }∧xs.length ≤ sizeLine := by
 obtain ⟨z,its,n,r,e⟩ := I.hok p _ h
 exact ⟨its,n,r,e,z⟩
theorem Inv.lstUpd {pins : List (Addr × Obj)} {σ : St} {H : Hp} {s : Shared} {p : Addr} {xs ys : List V} {its its' : List Value} {n n' : Nat} {f : Obj → Obj} (I : Inv X pins σ H s) (h : H p = some (.lst xs))
  (ho : s.heap.get? p = some { cls := .type "list",data := .seq its.toArray n }) (hf : f { cls := .type "list",data := .seq its.toArray n } = { cls := .type "list",data := .seq its'.toArray n' }) (r : Vals ys its') (hz : ys.length ≤ sizeLine) (t : Nat) :
  Inv X pins σ (upd H p (.lst ys)) { s with heap := s.heap.update p f,toks := t } := by
 have e : (s.heap.update p f).get? p = some { cls := .type "list",data := .seq its'.toArray n' } := by
  rw [Heap.get?_update_self f ho (by rw [hf] <;> rfl),hf]
 refine I.write (x := p) (e := p) (by rw [h];trivial) (.inl rfl) (fun b u hb q => (Heap.get?_update_other _ _ (Ne.symm hb)).trans q) ⟨_,e⟩ ?_
 exact ⟨hz,its',n',r,e⟩
noncomputable def rSetL : V → V → V → Hp → (Hp → Prop) → Prop := fun o i v H Q => ∃ p xs k j,o = .ref p∧i = .int k∧H p = some (.lst xs)∧ixN xs.length k = some j∧Q (upd H p (.lst (xs.set j v)))
theorem set_list : PSet X rSetL := by
 intro pins s σ H o i v ov iv u Q I ro ri rv h
 obtain ⟨p,xs,k,j,rfl,rfl,hp,hj,q⟩ := h
 cases ro
 obtain ⟨t,rfl⟩ := ri
 obtain ⟨its,n,r,ho,hz⟩ := I.lst hp
 obtain ⟨h1,h2,h3,h4⟩ := ixN_seq hj
 have hl := r.length
 have hn := line63
 have I' : Inv X pins σ (upd H p (.lst (xs.set j v))) { s with heap := s.heap.update p (Obj.mapSeq (·.setIfInBounds j u)) } :=
  I.lstUpd hp ho (mapSeq_set its n j u) (r.set rv j) (by rw [List.length_set];exact hz) s.toks
 by_cases h0 : 0 ≤ k
 ·have hk : k.toNat = j := by
   rw [seqIndex_of h0 h4] at h1
   exact Option.some.inj h1
  exact PySem.W.ki_setAt ho h0 (by omega) (by rw [List.size_toArray,← hl];exact h4) (by rw [hk];exact ⟨_,I',q⟩)
 ·have hk : (k + (its.toArray.size : Int)).toNat = j := by
   rw [seqIndex_neg (by omega) h3] at h1
   rw [List.size_toArray,← hl]
   exact Option.some.inj h1
  exact PySem.W.ki_setBack ho (by omega) (by rw [List.size_toArray,← hl];exact h3) (by omega) (by rw [hk];exact ⟨_,I',q⟩)
theorem slice_bounds (lo hi : Option Int) (n : Nat) : (sliceBounds lo hi none n).1 = ((HT.sIx n 0 lo : Nat) : Int)∧(sliceBounds lo hi none n).2.1 = ((HT.sIx n n hi : Nat) : Int)∧(sliceBounds lo hi none n).2.2 = 1 := by
 refine ⟨?_,?_,rfl⟩
 ·cases lo with
  | none => simp [sliceBounds,HT.sIx]
  | some i =>
   simp only [sliceBounds,HT.sIx,Option.getD_none,show (1 : Int) > 0 by decide,if_true]
   by_cases h : i < 0
   ·simp only [h,if_true] <;> omega
   ·simp only [h,if_false] <;> omega
 ·cases hi with
  | none => simp [sliceBounds,HT.sIx]
  | some i =>
   simp only [sliceBounds,HT.sIx,Option.getD_none,show (1 : Int) > 0 by decide,if_true]
   by_cases h : i < 0
   ·simp only [h,if_true] <;> omega
   ·simp only [h,if_false] <;> omega
theorem slicePick_cut (its : List Value) (lo hi : Option Int) : slicePick its.toArray lo hi none = ((its.drop (HT.sIx its.length 0 lo)).take (HT.sIx its.length its.length hi - HT.sIx its.length 0 lo)).toArray := by
 obtain ⟨h1,h2,h3⟩ := slice_bounds lo hi its.toArray.size
 unfold slicePick
 rw [h1,h2,h3]
 simp only [sliceRange_one,pick_run,List.size_toArray] <;> rfl
noncomputable def rSlL (K : PySem.W.Frag) : V → Option Int → Option Int → Hp → VK → Prop := fun x lo hi H Q => ∃ a xs,x = .ref a∧SqL K H a xs∧∀ p,H p = none → Q (.ref p) (upd H p (.lst (cutV xs lo hi)))
theorem sl_list : SlR X (rSlL X.K) := by
 intro pins s σ H x v vl vu lo hi sl Q I rx hs pl pu h
 obtain ⟨a,xs,rfl,hx,q⟩ := h
 cases rx
 obtain ⟨its,r,ht,hz⟩ := I.list hx
 have hlen := r.length
 refine ⟨"list",_,slot_list_getitem.lookup,ht.isList.typeIs,?_⟩
 refine wpAny_getItem_list_slice ht.isList hs pl pu .none (by simp) ?_ (by rw [List.size_toArray] <;> omega)
 rw [slicePick_cut,← hlen]
 refine ⟨.ref s.heap.objs.size,_,I.laid (t' := s.toks) (o := .lst (cutV xs lo hi)) (fun b ob q => Heap.get?_push_of_some _ q) (Nat.le_refl _) ?_,rfl,q _ (I.hok.fresh (Nat.le_refl _))⟩
 exact ⟨Nat.le_trans (cutV_length xs lo hi) hz,_,0,(r.drop (HT.sIx xs.length 0 lo)).take (HT.sIx xs.length xs.length hi - HT.sIx xs.length 0 lo),Heap.get?_push_size _ rfl⟩
noncomputable def flatV : V → Bool
 | .non => true
 | .bl _ => true
 | .int _ => true
 | .str _ => true
 | _ => false
noncomputable def eqV : V → V → Bool
 | .non,.non => true
 | .bl a,.bl b => a == b
 | .bl a,.int b => (if a then 1 else 0) == b
 | .int a,.bl b => a == (if b then 1 else 0)
 | .int a,.int b => a == b
 | .str a,.str b => a == b
 | _,_ => false
theorem eqAt_V {A : Around} {s : Shared} {y x : V} {u v : Value} (ry : RelV y u) (rx : RelV x v) (fy : flatV y = true) (fx : flatV x = true) : SeqAt.EqAt A s u v (eqV y x) := by
 cases y with
 | non =>
  cases ry
  cases x with
  | non => cases rx;exact SeqAt.EqAt.same _
  | bl b => cases rx;exact SeqAt.EqAt.none_bool b
  | int b => obtain ⟨t,rfl⟩ := rx;exact SeqAt.EqAt.none_int b t
  | str b => obtain ⟨t,rfl⟩ := rx;exact SeqAt.EqAt.none_str b t
  | _ => exact absurd (show false = true from fx) Bool.false_ne_true
 | bl a =>
  cases ry
  cases x with
  | non => cases rx;exact SeqAt.EqAt.bool_none a
  | bl b => cases rx;exact SeqAt.EqAt.bool_bool a b
  | int b => obtain ⟨t,rfl⟩ := rx;exact SeqAt.EqAt.bool_int a b t
  | str b => obtain ⟨t,rfl⟩ := rx;exact SeqAt.EqAt.bool_str a b t
  | _ => exact absurd (show false = true from fx) Bool.false_ne_true
 | int a =>
  obtain ⟨t',rfl⟩ := ry
  cases x with
  | non => cases rx;exact SeqAt.EqAt.int_none a t'
  | bl b => cases rx;exact SeqAt.EqAt.int_bool a t' b
  | int b => obtain ⟨t,rfl⟩ := rx;exact SeqAt.EqAt.int_int a t' b t
  | str b => obtain ⟨t,rfl⟩ := rx;exact SeqAt.EqAt.int_str a t' b t
  | _ => exact absurd (show false = true from fx) Bool.false_ne_true
 | str a =>
  obtain ⟨t',rfl⟩ := ry
  cases x with
  | non => cases rx;exact SeqAt.EqAt.str_none a t'
  | bl b => cases rx;exact SeqAt.EqAt.str_bool a t' b
  | int b => obtain ⟨t,rfl⟩ := rx;exact SeqAt.EqAt.str_int a t' b t
  | str b => obtain ⟨t,rfl⟩ := rx;exact SeqAt.EqAt.str_str a t' b t
  | _ => exact absurd (show false = true from fx) Bool.false_ne_true
 | _ => exact absurd (show false = true from fy) Bool.false_ne_true
noncomputable def eqU (x : V) (u : Value) : Bool := match u with
 | .none => eqV .non x
 | .bool b => eqV (.bl b) x
 | .int i _ => eqV (.int i) x
 | .str z _ => eqV (.str z) x
 | _ => false
theorem eqU_of {x y : V} {u : Value} (r : RelV y u) (f : flatV y = true) : eqU x u = eqV y x := by
 cases y with
 | non => cases r;rfl
 | bl b => cases r;rfl
 | int i => obtain ⟨t,rfl⟩ := r;rfl
 | str z => obtain ⟨t,rfl⟩ := r;rfl
 | _ => exact absurd (show false = true from f) Bool.false_ne_true
theorem any_eqU {x : V} : ∀ {xs : List V} {us : List Value},Vals xs us → xs.all flatV = true → us.any (eqU x) = xs.any fun y => eqV y x
 | _,_,.nil,_ => rfl
 | y :: xs,u :: us,.cons r t,f => by
  rw [List.all_cons,Bool.and_eq_true] at f
  rw [List.any_cons,List.any_cons,eqU_of r f.1,any_eqU t f.2]
theorem mem_eqAt {A : Around} {s : Shared} {x : V} {v : Value} (rx : RelV x v) (fx : flatV x = true) : ∀ {xs : List V} {us : List Value},Vals xs us → xs.all flatV = true → ∀ u ∈ us,SeqAt.EqAt A s u v (eqU x u)
 | _,_,.nil,_ => fun u hu => by cases hu
 | y :: xs,u :: us,.cons r t,f => fun u' hu => by
  rw [List.all_cons,Bool.and_eq_true] at f
  rcases List.mem_cons.mp hu with rfl | hu
  ·rw [eqU_of r f.1];exact eqAt_V r rx f.1 fx
  ·exact mem_eqAt rx fx t f.2 u' hu
noncomputable def inV (x : V) (xs : List V) : Bool := xs.any fun y => eqV y x
noncomputable def rIn (K : PySem.W.Frag) (neg : Bool) : R2 := fun x y H Q => ∃ p xs,y = .ref p∧(SqL K H p xs ∨ SqT K H p xs)∧flatV x = true∧xs.all flatV = true∧Q (.bl (if neg then !inV x xs else inV x xs)) H
theorem op_in_seq : OpR X (compareOp .In) (rIn X.K false) := by
 intro pins s σ H x y v u Q I rx ry h
 obtain ⟨p,xs,rfl,hq,fx,fs,q⟩ := h
 cases ry
 rcases hq with hq | hq
 ·obtain ⟨its,r,pl,hz⟩ := I.list hq
  refine SeqAt.in_listAt (eqU x) pl.isList (fun w hw => mem_eqAt rx fx r fs w (by simpa using hw)) ⟨.bl _,H,I,rfl,?_⟩
  rw [show its.toArray.any (eqU x) = its.any (eqU x) by simp,any_eqU r fs]
  exact q
 ·obtain ⟨its,r,pl,hz⟩ := I.tuple hq
  refine SeqAt.in_tupleAt (eqU x) pl (fun w hw => mem_eqAt rx fx r fs w (by simpa using hw)) ⟨.bl _,H,I,rfl,?_⟩
  rw [show its.toArray.any (eqU x) = its.any (eqU x) by simp,any_eqU r fs]
  exact q
theorem call_list_of : CallR X (.type "list") (fun xs H Q => ∃ p ys,xs = [.ref p]∧(SqL X.K H p ys ∨ SqT X.K H p ys)∧∀ l,H l = none → Q (.ref l) (upd H l (.lst ys))) := by
 intro pins s σ H xs us Q I r h
 obtain ⟨p,ys,rfl,hq,q⟩ := h
 obtain ⟨u,rfl,rx⟩ := vals1 r
 cases rx
 have fin : ∀ (its : List Value),Vals ys its → ys.length ≤ sizeLine → ∀ (h' : Heap) (c' : Nat),(∀ b o',s.heap.get? b = some o' → h'.get? b = some o') →
   h'.get? s.heap.objs.size = some { cls := .type "list",dict := none,data := .seq its.toArray c',slots := #[] } → EP X pins σ Q (.ref s.heap.objs.size) { s with heap := h' } := fun its r' hz h' c' kp e =>
  ⟨.ref s.heap.objs.size,_,I.laid (t' := s.toks) kp (Nat.le_refl _) (show ObjOk X.prog X.w _ h' _ (.lst ys) from ⟨hz,its,c',r',e⟩),rfl,q _ (I.hok.fresh (Nat.le_refl _))⟩
 rcases hq with hq | hq
 ·obtain ⟨its,r',pl,hz⟩ := I.list hq
  have hlen := r'.length
  obtain ⟨o,ho,hc,n,hd⟩ := pl.isList
  exact call_list_seq p (.inl rfl) ho hc hd (fun h' c' kp e => fin its r' hz h' c' kp e) (by simp only [List.size_toArray] <;> omega)
 ·obtain ⟨its,r',pl,hz⟩ := I.tuple hq
  have hlen := r'.length
  obtain ⟨o,ho,hc,n,hd⟩ := pl
  exact call_list_seq p (.inr rfl) ho hc hd (fun h' c' kp e => fin its r' hz h' c' kp e) (by simp only [List.size_toArray] <;> omega)
theorem call_tuple_of : CallR X (.type "tuple") (fun xs H Q => ∃ p ys,xs = [.ref p]∧((SqL X.K H p ys∧∀ l,H l = none → Q (.ref l) (upd H l (.tup ys))) ∨ (SqT X.K H p ys∧Q (.ref p) H))) := by
 intro pins s σ H xs us Q I r h
 obtain ⟨p,ys,rfl,h⟩ := h
 obtain ⟨u,rfl,rx⟩ := vals1 r
 cases rx
 rcases h with ⟨hq,q⟩ | ⟨hq,q⟩
 ·obtain ⟨its,r',pl,hz⟩ := I.list hq
  have hlen := r'.length
  refine call_tuple_list pl.isList (fun h' kp => ?_) (by simp only [List.size_toArray] <;> omega)
  have I1 : Inv X pins σ H { s with heap := h' } := I.kept (t' := s.toks) kp
  have I2 : Inv X pins σ (upd H h'.objs.size (.tup ys)) { s with heap := h'.push { cls := .type "tuple",data := .seq its.toArray } } :=
   I1.laid (t' := s.toks) (fun b o e => Heap.get?_push_of_some _ e) (Nat.le_refl _) (show ObjOk X.prog X.w _ _ _ (.tup ys) from ⟨hz,its,r',IsTup.new _ _⟩)
  exact ⟨.ref h'.objs.size,_,I2,rfl,q _ (I1.hok.fresh (Nat.le_refl _))⟩
 ·obtain ⟨its,r',pl,hz⟩ := I.tuple hq
  exact call_tuple_same pl ⟨.ref p,H,I,rfl,q⟩
def tyV (K : PySem.W.Frag) (T : String) (x : V) (H : Hp) : Prop := match x with
 | .str _ => T = "str"
 | .int _ => T = "int"
 | .ref p => (T = "list"∧∃ xs,SqL K H p xs) ∨ (T = "tuple"∧∃ o,K.lookup p = some o∧o.cls = .type "tuple"∧o.dict = none) ∨
   (T = "dict"∧((∃ kvs,H p = some (.dK kvs)) ∨ ∃ kvs,H p = some (.dT kvs))) ∨ (T = "set"∧∃ S n,H p = some (.set S n))
 | _ => False
theorem tyV_is {pins : List (Addr × Obj)} {σ : St} {H : Hp} {s : Shared} {T : String} {x : V} {v : Value} (I : Inv X pins σ H s) (r : RelV x v) (ty : tyV X.K T x H) :
  s.TypeIs v T∧∀ a,v = .ref a → ∃ ob,s.heap.get? a = some ob∧ob.dict = none := by
 cases x with
 | str z =>
  obtain ⟨t,rfl⟩ := r
  cases (show T = "str" from ty)
  exact ⟨typeIs_str s z t,fun _ e => nomatch e⟩
 | int i =>
  obtain ⟨t,rfl⟩ := r
  cases (show T = "int" from ty)
  exact ⟨typeIs_int s i t,fun _ e => nomatch e⟩
 | ref p =>
  cases r
  rcases ty with ⟨rfl,xs,hq⟩ | ⟨rfl,o,hk,hc,hd⟩ | ⟨rfl,hk⟩ | ⟨rfl,S,n,hk⟩
  ·obtain ⟨its,_,pl,_⟩ := I.list hq
   refine ⟨pl.isList.typeIs,fun a e => ?_⟩
   cases e
   obtain ⟨o,n,e,c,hd,_⟩ := pl
   exact ⟨o,e,hd⟩
  ·refine ⟨⟨o,I.kIn p o hk,hc⟩,fun a e => ?_⟩
   cases e
   exact ⟨o,I.kIn _ o hk,hd⟩
  ·have z : ∃ o,s.heap.get? p = some o∧o.ExactDict := by
    rcases hk with ⟨kvs,hk⟩ | ⟨kvs,hk⟩
    ·obtain ⟨_,_,_,_,o,_,_,e,ex,_⟩ := I.hok p _ hk
     exact ⟨o,e,ex⟩
    ·obtain ⟨_,_,_,_,o,_,_,e,ex,_⟩ := I.hok p _ hk
     exact ⟨o,e,ex⟩
   obtain ⟨o,e,ex⟩ := z
   refine ⟨⟨o,e,ex.1⟩,fun a e2 => ?_⟩
   cases e2
   exact ⟨o,e,ex.2.1⟩
  ·obtain ⟨o,_,_,_,e,ex,_⟩ := I.hok p _ hk
   refine ⟨⟨o,e,ex.1⟩,fun a e2 => ?_⟩
   cases e2
   exact ⟨o,e,ex.2.1⟩
 | _ => exact False.elim ty
noncomputable def tBM0 (K : PySem.W.Frag) (T : String) (r : V → List V → Hp → VK → Prop) (to : TE) : TE := fun σ H Q => to σ H fun x H1 => tyV K T x H1∧r x [] H1 Q
noncomputable def tBM (K : PySem.W.Frag) (T : String) (r : V → List V → Hp → VK → Prop) (to : TE) (t : TA) : TE := fun σ H Q => to σ H fun x H1 => tyV K T x H1∧t σ H1 fun xs H2 => r x xs H2 Q
variable {o e : Expr} {es : List Expr} {to : TE} {t : TA} {name : Str} {apos cpos : Pos} {T id : String} {r : V → List V → Hp → VK → Prop}
theorem pe_bm0 (pa : PlainAttrs T) (slot : Slot T name id) (hty : typeOf (.builtin id) = pure (.type "method_descriptor")) (hm : MtR X id r) (ho : PE X o to)
  (hbase : attributeBase o name X.env (eval o X.env) = eval o X.env := by rfl) (hline : (apos.endLine == cpos.line) = true := by rfl) : PE X (.Call (.Attribute o name apos) [] [] cpos) (tBM0 X.K T r to) := by
 intro pins s σ H Q I h
 refine wpAny_Call_method0_late hbase hline (thn (ho pins s σ H _ I h) fun v s1 ⟨x,H1,I1,r1,ty,q1⟩ => ?_)
 obtain ⟨h1,h2⟩ := tyV_is I1 r1 ty
 exact ⟨T,id,pa,slot,hty,h1,h2,Calls.callWith_builtin rfl (PySem.evalArgs_none (hm pins s1 σ H1 x [] v [] Q I1 r1 .nil q1))⟩
theorem pe_bm (pa : PlainAttrs T) (slot : Slot T name id) (hty : typeOf (.builtin id) = pure (.type "method_descriptor")) (hm : MtR X id r) (ho : PE X o to) (ha : PA X (e :: es) t)
  (hbase : attributeBase o name X.env (eval o X.env) = eval o X.env := by rfl)
  (hfew : ((backTo cpos (starEach (e :: es) X.env)).all (fun x => !x.1) && (backToKw cpos (keywordEach [] X.env)).all (fun x => x.1.isSome)
   && decide ((e :: es).length + ([] : List Keyword).length + (if ([] : List Keyword).isEmpty then 0 else 1) < 30)) = true := by rfl)
  (hline : (apos.endLine == cpos.line) = true := by rfl) (hs : starEach (e :: es) X.env = (false,eval e X.env) :: starEach es X.env := by rfl) (hplain : (backTo cpos (starEach es X.env)).any (·.1) = false := by rfl) :
  PE X (.Call (.Attribute o name apos) (e :: es) [] cpos) (tBM X.K T r to t) := by
 intro pins s σ H Q I h
 refine wpAny_Call_method_late hbase hfew hline rfl (thn (ho pins s σ H _ I h) fun v s1 ⟨x,H1,I1,r1,ty,q1⟩ => ?_)
 obtain ⟨h1,h2⟩ := tyV_is I1 r1 ty
 refine ⟨T,id,pa,slot,hty,h1,h2,?_⟩
 have hA := ha cpos pins s1 σ H1 _ I1 q1
 rw [hs] at hA ⊢
 refine Calls.callWith_builtin (by show (false || (backTo cpos (starEach es X.env)).any (·.1)) = false;rw [hplain] <;> rfl) (Calls.evalArgs_plain ?_)
 exact thn hA fun us s2 ⟨vs,H2,I2,r2,q2⟩ => hm pins s2 σ H2 x vs v us Q I2 r1 r2 q2
end
end L2
namespace L2
open PySem PySem.Spec PyProof.Rows
def MtM (X : Cx) (id : String) (r : V → List V → Hp → VK → Prop) : Prop :=
 ∀ (pins : List (Addr × Obj)) (s : Shared) (σ : St) (H : Hp) (x : V) (xs : List V) (v : Value) (us : List Value) (Q : VK),Inv X pins σ H s → RelV x v → Vals xs us → r x xs H Q →
  wpAny (model X.prog X.w) X.A (call (.builtin id) (v :: us)) (EP X pins σ Q) X.xe s
theorem Vals.one : ∀ {x : V} {us : List Value},Vals [x] us → ∃ u,us = [u]∧RelV x u
 | _,_,.cons r .nil => ⟨_,rfl,r⟩
theorem Vals.zero : ∀ {us : List Value},Vals [] us → us = []
 | _,.nil => rfl
theorem Vals.reverse {xs : List V} {us : List Value} (h : Vals xs us) : Vals xs.reverse us.reverse := by
 induction h with
 | nil => exact .nil
 | cons r t ih => rw [List.reverse_cons,List.reverse_cons];exact Vals.append ih (.cons r .nil)
section
variable {X : Cx} {pins : List (Addr × Obj)} {σ : St} {H : Hp} {s : Shared} {l b : Addr} {xs ys zs : List V}
theorem Inv.lset {its its' : List Value} {n : Nat} {f : Array Value → Array Value} {t' : Nat} (I : Inv X pins σ H s) (hH : H l = some (.lst xs))
  (e : s.heap.get? l = some { cls := .type "list",data := .seq its.toArray n }) (hf : f its.toArray = its'.toArray) (hv : Vals ys its') (hz : ys.length ≤ sizeLine) :
  Inv X pins σ (upd H l (.lst ys)) { s with heap := s.heap.update l (Obj.mapSeq f),toks := t' } := by
 have q := PySem.IsL.update e f
 rw [hf] at q
 refine I.write (x := l) (e := l) (by rw [hH];exact trivial) (.inl rfl) (fun b' u hb hu => (Heap.get?_update_other s.heap (Obj.mapSeq f) (Ne.symm hb)).trans hu) ⟨_,q⟩ ?_
 exact ⟨hz,its',_,hv,q⟩
theorem Inv.lnew {its : List Value} {t' : Nat} (I : Inv X pins σ H s) (hv : Vals ys its) (hz : ys.length ≤ sizeLine) :
  Inv X pins σ (upd H s.heap.objs.size (.lst ys)) { s with heap := s.heap.push { cls := .type "list",data := .seq its.toArray },toks := t' } :=
 I.laid (fun _ _ q => Heap.get?_push_of_some _ q) (Nat.le_refl _) ⟨hz,its,0,hv,Heap.get?_push_size _ rfl⟩
theorem Inv.fresh (I : Inv X pins σ H s) : H s.heap.objs.size = none := I.hok.fresh (Nat.le_refl _)
theorem Inv.lstM (I : Inv X pins σ H s) (hH : H l = some (.lst xs)) : xs.length ≤ sizeLine∧∃ (its : List Value) (n : Nat),Vals xs its∧xs.length = its.length∧s.heap.get? l = some { cls := .type "list",data := .seq its.toArray n } := by
 obtain ⟨z,its,n,r,e⟩ := I.hok l _ hH
 exact ⟨z,its,n,r,r.length,e⟩
theorem notLongL {n : Nat} (h : n ≤ sizeLine) : Builtin.List.listTooLong n = false := by
 unfold Builtin.List.listTooLong
 exact decide_eq_false (by omega)
end
section
variable {X : Cx}
noncomputable def rAppend : V → List V → Hp → VK → Prop := fun x vs H Q => ∃ l xs y,x = .ref l∧vs = [y]∧H l = some (.lst xs)∧xs.length < sizeLine∧Q .non (upd H l (.lst (xs ++ [y])))
theorem mt_append : MtM X "list.append" rAppend := by
 intro pins s σ H x vs v us Q I rx rv h
 obtain ⟨l,xs,y,rfl,rfl,hH,hz,q⟩ := h
 cases rx
 obtain ⟨u,rfl,ru⟩ := rv.one
 obtain ⟨z,its,n,r,hl,e⟩ := I.lstM hH
 refine call_meets F.slot_list_append ⟨_,e,rfl⟩ F.entry_list_append (F.args_list_append_2 _ _) (PySem.list_append l its.toArray n u (by rw [List.size_toArray];omega)) ⟨e,?_⟩
 refine ⟨.non,_,I.lset (its' := its ++ [u]) hH e (by simp) (r.append (.cons ru .nil)) ?_,rfl,q⟩
 rw [List.length_append,List.length_singleton]
 omega
noncomputable def rExtend : V → List V → Hp → VK → Prop := fun x vs H Q => ∃ l b xs zs,x = .ref l∧vs = [.ref b]∧H l = some (.lst xs)∧H b = some (.lst zs)∧xs.length + zs.length ≤ sizeLine∧Q .non (upd H l (.lst (xs ++ zs)))
theorem mt_extend : MtM X "list.extend" rExtend := by
 intro pins s σ H x vs v us Q I rx rv h
 obtain ⟨l,b,xs,zs,rfl,rfl,hH,hB,hz,q⟩ := h
 cases rx
 obtain ⟨u,rfl,ru⟩ := rv.one
 cases ru
 obtain ⟨z,its,n,r,hl,e⟩ := I.lstM hH
 obtain ⟨z2,its2,n2,r2,hl2,e2⟩ := I.lstM hB
 have hsz : its.toArray.size + its2.toArray.size ≤ sizeLine := by rw [List.size_toArray,List.size_toArray];omega
 have hlong : ¬ (!its.toArray.isEmpty && Builtin.List.listTooLong (its.toArray.size + its2.toArray.size)) = true := by
  rw [notLongL hsz,Bool.and_false]
  exact Bool.false_ne_true
 refine call_meets F.slot_list_extend ⟨_,e,rfl⟩ F.entry_list_extend (F.args_list_extend_2 _ _)
  (AutoSeq1.list_extend_list_list_0 l its.toArray n b its2.toArray n2 hlong (by rw [List.size_toArray];omega) (by omega)) ⟨e,e2,?_⟩
 refine ⟨.non,_,I.lset (its' := its ++ its2) hH e (by simp) (r.append r2) ?_,rfl,q⟩
 rw [List.length_append]
 omega
noncomputable def rReverse : V → List V → Hp → VK → Prop := fun x vs H Q => ∃ l xs,x = .ref l∧vs = []∧H l = some (.lst xs)∧Q .non (upd H l (.lst xs.reverse))
theorem mt_reverse : MtM X "list.reverse" rReverse := by
 intro pins s σ H x vs v us Q I rx rv h
 obtain ⟨l,xs,rfl,rfl,hH,q⟩ := h
 cases rx
 have hus := rv.zero
 subst hus
 obtain ⟨z,its,n,r,hl,e⟩ := I.lstM hH
 refine call_meets F.slot_list_reverse ⟨_,e,rfl⟩ F.entry_list_reverse (F.args_list_reverse_1 _) (AutoSeq1.list_reverse_list_0 l its.toArray n (by rw [List.size_toArray];omega)) ⟨e,?_⟩
 refine ⟨.non,_,I.lset (its' := its.reverse) hH e (by simp) r.reverse ?_,rfl,q⟩
 rw [List.length_reverse]
 omega
noncomputable def rCat : R2 := fun x y H Q => ∃ l b xs zs,x = .ref l∧y = .ref b∧H l = some (.lst xs)∧H b = some (.lst zs)∧xs.length + zs.length ≤ sizeLine∧∀ p,H p = none → Q (.ref p) (upd H p (.lst (xs ++ zs)))
theorem op_cat : OpR X (binaryOp .Add) rCat := by
 intro pins s σ H x y v u Q I rx ry h
 obtain ⟨l,b,xs,zs,rfl,rfl,hH,hB,hz,q⟩ := h
 cases rx
 cases ry
 obtain ⟨z,its,n,r,hl,e⟩ := I.lstM hH
 obtain ⟨z2,its2,n2,r2,hl2,e2⟩ := I.lstM hB
 refine PySem.P.add_list e e2 ?_ (by rw [List.size_toArray,List.size_toArray];omega)
 have ea : its.toArray ++ its2.toArray = (its ++ its2).toArray := by simp
 rw [ea]
 exact ⟨.ref _,_,I.lnew (t' := s.toks) (r.append r2) (by rw [List.length_append];omega),rfl,q _ I.fresh⟩
end
section
variable {prog : Program} {w : World} {A : Around} {E : Value → Shared → Prop} {s : Shared}
end
section
variable {X : Cx}
end
end L2
namespace Att
open PySem PySem.W PySem.Calls PyProof.Rows
theorem ints_of_wellAll {P : Params} {h : Heap} : ∀ (ns : List Int) (vs : List Value),WellAll P h vs (ns.map WData.int) → IntsAre vs ns := by
 intro ns
 induction ns with
 | nil =>
  intro vs w
  rw [List.map_nil] at w
  cases w
  exact .nil
 | cons n ns ih =>
  intro vs w
  rw [List.map_cons] at w
  cases w with
  | cons a b =>
   cases a
   exact .cons _ _ (ih _ b)
theorem script_of {l : OpenLaw} {n : Nat} (hn : l.most = some n) {P : Params} {h : Heap} {args : List WData} {vals : List Value}
  (hpre : l.row.toRowW.claim.pre args = true) (hwl : WellAll P h vals args) :
  ∃ a vs ns,vals = [Value.ref a]∧args = [WData.list (ns.map WData.int)]∧h.get? a = some { cls := .type "list",data := .seq vs.toArray }∧IntsAre vs ns∧ns.length ≤ n := by
 have hsh : WShape.hasAll [] args [.list .int] = true := (pre_splitW hpre).1
 have hc : l.pre.holds [] { args := args } = true := (pre_splitW hpre).2
 obtain ⟨d,r,rfl,h1,h2⟩ := hasAllW_cons hsh
 obtain rfl := hasAllW_nil h2
 obtain ⟨xs,rfl,h3⟩ := hasW_list h1
 obtain ⟨ns,rfl⟩ := items_int h3
 have hlen : ns.length ≤ n := by
  unfold OpenLaw.pre at hc
  have h4 : (WTm.not (.lt (.lit (.int (n : Int))) (.len (.arg 0)))).holds [] { args := [.list (ns.map .int)] } = true := by
   have h4 := (holds_andW hc).1
   rw [hn] at h4
   exact h4
  have h5 := condW_of h4 (w_not (w_lt w_lit (w_len_list (w_arg rfl))))
  rw [List.length_map] at h5
  refine Nat.le_of_not_lt fun q => ?_
  have q' : (n : Int) < ((ns.length : Nat) : Int) := by omega
  first
   | (rw [decide_eq_true q'] at h5;exact absurd h5 (by decide))
   | (simp at h5;omega)
 cases hwl with
 | cons w1 w2 =>
  cases w2
  cases w1 with
  | list ho hall => exact ⟨_,_,ns,rfl,rfl,ho,ints_of_wellAll ns _ hall,hlen⟩
theorem post_true (l : OpenLaw) (args : List WData) : l.row.toRowW.claim.post args (.bool true) args = true :=
 postW_of (r := l.row.toRowW) (X := (true == true))
  (show WShape.has [] (.bool true) .bool = true by first | rfl | decide | simp [WShape.has,WShape.arms,WShape.armsAll])
  (show (WTm.eq .res (.lit (.bool true))).value [] { args := args,res := some (.bool true),after := args } = some (.bool (true == true)) from w_eq_bool (w_res rfl) w_lit) rfl
theorem attach_call {l : OpenLaw} {n : Nat} {q : Program} {loose : List Str} {XP : (Str → Option Value) → Heap → Prop} {YP : World → Heap → Prop} {d : DefRec}
  (hn : l.most = some n) (hdf : d.params.defaults = [])
  (call : ∀ (w : World) (s₀ s₁ : Shared) (mg mb : Str → Option Value) (fa : Addr) (o : Obj) (pm cd doc : Value) (a : Addr) (vs : List Value) (ns : List Int),
   Ground q loose [] XP w s₀ mg mb s₁.heap → YP w s₁.heap →
   s₁.heap.get? fa = some o → o.data = .func (docDef d.name d.params d.body d.scope pm cd doc) → s₁.heap.CodeRec cd d.name → mg d.name = some (.ref fa) →
   s₁.heap.get? a = some { cls := .type "list",data := .seq vs.toArray } → IntsAre vs ns → ns.length ≤ n → s₁.gens = #[] →
   codeAny (model l.prog w) callerA (.call (.ref fa) ⟨[.ref a],[]⟩) (fun r s' => r = .ok (.ret (.bool true))∧OldK s₁.heap s'.heap∧s'.os = s₁.os∧AllBare s'.gens) s₁) :
  WalkO q loose XP YP l.row.toRowW d [] (fun f vs => PySem.call f vs) := by
 intro w s₀ s₁ mg mb G Y fa o pm cd doc dV kV ho hd hcd hD hmg hg args vals as hpre hlay hrd hwl hlo
 obtain rfl : dV = .none := Dflts.none hD hdf
 obtain rfl : kV = .none := Dflts.noKw hD
 obtain ⟨a,vs,ns,rfl,rfl,hobj,hints,hlen⟩ := script_of hn hpre hwl
 refine enter_call (codeAny_mono (call w s₀ s₁ mg mb fa o pm cd doc a vs ns G Y ho (fd_plain hd) hcd hmg hobj hints hlen hg) fun r s' hq => ?_)
 obtain ⟨rfl,h2,h3,h4⟩ := hq
 exact ⟨.inl ⟨.bool true,.bool true,[],rfl,fun _ => rfl,.bool true,post_true l _,fun _ => ⟨List.Pairwise.nil,fun _ hm => (nomatch hm)⟩⟩,h2,h3,h4⟩
section
variable {prog : Program} {w : World} {A : Around} {E : Value → Shared → Prop} {s : Shared} {K : Frag}
end
end Att
namespace L2
open PySem PySem.Spec PyProof.Rows
theorem vals_ints : ∀ {vs : List Value} {ns : List Int},IntsAre vs ns → Vals (ns.map V.int) vs
 | _,_,.nil => .nil
 | _,_,.cons n t h => .cons ⟨t,rfl⟩ (vals_ints h)
def Only (H : Hp) : Prop := ∀ b,H b = none ∨ ∃ o xs,H b = some (.frz o (.lst xs))
theorem law_call {P : Program} {w : World} {K : PySem.W.Frag} {mg mb : Str → Option Value} {CX : CXT} {k : Nat} {fa a : Addr} {fd : FuncData} {x : Str} {sp : Sp} {s₁ : Shared} {vs : List Value} {ns : List Int}
  (KX : K.In s₁.heap) (hns : s₁.heap.Ns mainGlobals mg) (hb : s₁.heap.Ns builtinsNs mb) (hbb : ∀ x : Str,x ≠ "__name__" → mb x = bootBuiltins x) (hlim : s₁.heap.NoLimit) (hg : s₁.gens = #[])
  (ha : s₁.heap.get? a = some { cls := .type "list",data := .seq vs.toArray }) (hi : IntsAre vs ns) (hl : ns.length ≤ sizeLine) (hr : Room k callerA)
  (F : ∀ base : Heap,K.In base → base.Ns mainGlobals mg → FnOk P w K mg base CX k fa fd [x] sp) (hbind : ∀ (s : Shared) (u : Value),BindsTo s fd ⟨[u],[]⟩ [(x,u)])
  (hsp : ∀ H : Hp,Only H → SqL K H a (ns.map V.int) → sp [.ref a] H (fun v _ => v = .bl true) fun _ _ _ => False)
  (hCX : ∀ H e s',CX [] H s₁ (fun _ _ _ => False) e s' → False) :
  codeAny (model P w) callerA (.call (.ref fa) ⟨[.ref a],[]⟩) (fun r s' => r = .ok (.ret (.bool true))∧OldK s₁.heap s'.heap∧s'.os = s₁.os∧AllBare s'.gens) s₁ := by
 have rv := vals_ints hi
 have lenV := hi.length
 -- from an abstract heap in which nothing but the script may be tracked
 have core : ∀ H : Hp,Only H → SqL K H a (ns.map V.int) → HOk P w H s₁.heap → (∀ b,H b ≠ none → b = a) → (H a ≠ none → K.lookup a = none) →
   codeAny (model P w) callerA (.call (.ref fa) ⟨[.ref a],[]⟩) (fun r s' => r = .ok (.ret (.bool true))∧OldK s₁.heap s'.heap∧s'.os = s₁.os∧AllBare s'.gens) s₁ := by
  intro H hO hS hok hA hK
  have base_of : ∀ {b : Addr} {o : Obj},s₁.heap.get? b = some o → H b = none → (hidT s₁.heap H).get? b = some o := fun e n => hidT_get e n
  have noA : ∀ {b : Addr} {o : Obj} {es : Array DictEntry} {ep : Nat},s₁.heap.get? b = some o → o.data = .dict es ep → H b = none := fun {b o es ep} e d => by
   cases q : H b with
   | none => rfl
   | some u =>
    have e' : b = a := hA b (by rw [q];simp)
    subst e'
    rw [ha] at e;cases e
    have d' : Data.seq vs.toArray _ = Data.dict es ep := d
    cases d'
  have nsK : ∀ {b : Addr} {m : Str → Option Value},s₁.heap.Ns b m → (hidT s₁.heap H).Ns b m := fun {b m} ⟨o,es,ep,e,d,r⟩ => ⟨o,es,ep,base_of e (noA e d),d,r⟩
  have hKb : K.In (hidT s₁.heap H) := fun b o e => base_of (KX b o e) (by
   cases q : H b with
   | none => rfl
   | some u =>
    have e' : b = a := hA b (by rw [q];simp)
    subst e'
    rw [hK (by rw [q];simp)] at e;cases e)
  have hM : Mod K mg (hidT s₁.heap H) := ⟨hKb,nsK hns,⟨mb,nsK hb,hbb⟩,let ⟨mc,h1,h2⟩ := hlim;⟨mc,nsK h1,h2⟩⟩
  have e0 : Env0 P w K mg (hidT s₁.heap H) callerA [] s₁ H := ⟨rfl,hM,fun b o e => of_hidT e,Nat.le_of_eq (hidT_size _ _),trivial,fun b hb => absurd (show b ∈ ([] : List Addr) from hb) (by simp),hok,.of_eq hg⟩
  refine codeAny_mono ((F _ hKb (nsK hns)).run callerA [] s₁ H ⟨[.ref a],[]⟩ [.ref a] [.ref a] _ _ hr e0 (hbind s₁ (.ref a)) (.cons rfl .nil) (hsp H hO hS)) fun r s' h => ?_
  cases r with
  | error e => exact (hCX H e s' h).elim
  | ok fl =>
   cases fl with
   | next => exact False.elim h
   | brk => exact False.elim h
   | cont => exact False.elim h
   | ret u =>
    obtain ⟨v,H',os,bare,un,hok',r',q⟩ := h
    have q' : v = .bl true := q
    subst q'
    obtain rfl : u = Value.bool true := r'
    refine ⟨rfl,OldK.of_keep fun b o e => ?_,os,bare⟩
    cases q : H b with
    | none => exact un.keep b o e q (by intro z;exact absurd (show b ∈ ([] : List Addr) from z) (by simp)) (by simp)
    | some u =>
     rcases hO b with z | ⟨ob,xs,z⟩
     ·rw [q] at z;cases z
     ·have z2 := un.frzs b ob _ z
      obtain ⟨e1,_⟩ := hok b _ z
      obtain ⟨e2,_⟩ := hok' b _ z2
      rw [e] at e1;cases e1
      exact e2
 cases hk : K.lookup a with
 | some o =>
  -- the script is one of the module's own objects
  have e := KX a o hk
  rw [ha] at e
  cases e
  refine core (fun _ => none) (fun _ => .inl rfl) (.inr ⟨_,vs.toArray,_,hk,rfl,rfl,rfl,by rw [List.size_toArray,lenV];exact hl,by simpa using rv⟩) (fun b u z => by have z' : (none : Option HO) = some u := z;cases z') (fun b z => absurd rfl z) fun z => absurd rfl z
 | none =>
  refine core (fun b => if b = a then some (.frz { cls := .type "list",data := .seq vs.toArray } (.lst (ns.map V.int))) else none) (fun b => ?_) (.inl (.inr ⟨{ cls := .type "list",data := .seq vs.toArray },if_pos rfl⟩)) (fun b u z => ?_) (fun b z => ?_) fun _ => hk
  ·by_cases hb : b = a
   ·exact .inr ⟨_,_,if_pos hb⟩
   ·exact .inl (if_neg hb)
  ·by_cases hb : b = a
   ·have z' := (if_pos hb).symm.trans z
    cases z'
    subst hb
    exact ⟨ha,by rw [List.length_map];exact hl,vs,_,rv,ha⟩
   ·have z' := (if_neg hb).symm.trans z
    cases z'
  ·by_cases hb : b = a
   ·exact hb
   ·exact absurd (if_neg hb) z
end L2
namespace L2
open PySem PySem.Spec PyProof.Rows
theorem walk_of {l : PySem.W.OpenLaw} {n k : Nat} {q : Program} {loose : List Str} {XP : (Str → Option Value) → Heap → Prop} {YP : World → Heap → Prop} {d : DefRec} {K : Params → PySem.W.Frag} {CX : World → CXT} {sp : World → Sp} {x : Str}
  (hn : l.most = some n) (hn2 : n ≤ sizeLine) (hdf : d.params.defaults = []) (hr : Room k callerA)
  (hY : ∀ (w : World) (h : Heap),YP w h → (K w.params).In h)
  (F : ∀ (w : World) (mg : Str → Option Value) (fa : Addr) (h : Heap),(K w.params).In h → h.Ns mainGlobals mg → mg d.name = some (.ref fa) →
   ∃ fd : FuncData,(∀ (s : Shared) (u : Value),BindsTo s fd ⟨[u],[]⟩ [(x,u)]) ∧
    ∀ base : Heap,(K w.params).In base → base.Ns mainGlobals mg → FnOk l.prog w (K w.params) mg base (CX w) k fa fd [x] (sp w))
  (hsp : ∀ (w : World) (H : Hp) (a : Addr) (ns : List Int),ns.length ≤ n → Only H → SqL (K w.params) H a (ns.map V.int) → sp w [.ref a] H (fun v _ => v = .bl true) fun _ _ _ => False)
  (hCX : ∀ (w : World) (H : Hp) (s : Shared) (e : Value) (s' : Shared),CX w [] H s (fun _ _ _ => False) e s' → False) :
  PySem.W.WalkO q loose XP YP l.row.toRowW d [] (fun f vs => PySem.call f vs) := by
 refine Att.attach_call hn hdf fun w s₀ s₁ mg mb fa o pm cd doc a vs ns G Y ho hd hcd hmg hobj hints hlen hg => ?_
 have KX := hY w _ Y
 obtain ⟨fd,hb,hF⟩ := F w mg fa _ KX G.T.g hmg
 exact law_call KX G.T.g G.T.b G.T.builtins G.T.nolimit hg hobj hints (Nat.le_trans hlen hn2) hr hF hb (fun H hO hS => hsp w H a ns hlen hO hS) fun H e s' => hCX w H s₁ e s'
end L2
namespace L2
open PySem PySem.Spec PyProof.Rows
noncomputable def defArgs (s : Stmt) : Arguments := match s with
 | .FunctionDef _ a _ _ _ _ _ _ _ _ => a
 | _ => { posonlyargs := [],args := [],vararg := none,kwonlyargs := [],kw_defaults := [],kwarg := none,defaults := [] }
noncomputable def defBody (s : Stmt) : List Stmt := match s with
 | .FunctionDef _ _ b _ _ _ _ _ _ _ => b
 | _ => []
noncomputable def defScope (s : Stmt) : Scope := match s with
 | .FunctionDef _ _ _ _ _ _ sc _ _ _ => sc
 | _ => { kind := .function,names := [],isGenerator := false,isCoroutine := false }
noncomputable abbrev CX0 : CXT := fun _ _ _ _ _ _ => False
noncomputable abbrev E0 : XK := fun _ _ _ => False
theorem pass0 {X : Cx} : Passes CX0 X E0 := fun _ _ _ _ _ _ _ h => h.elim
structure Fun (K : PySem.W.Frag) (x qual : Str) (st : Stmt) (f : Addr) (fd : FuncData) : Prop where
 ex : ∃ (oc : Value) (od : Option Addr) (kV doc pm : Value) (an : Option Addr) (cdv ct : Value) (osl : Array (Option Value)),
  fd = PySem.W.fnOf x qual (defArgs st) (defBody st) (defScope st) .none kV doc pm an cdv ct∧K.lookup f = some ⟨oc,od,.func fd,osl⟩∧PySem.W.codeIn K cdv qual = true
 kp : PySem.W.keepIn K (.ref f) = true
section
variable {P : Program} {w : World} {K : PySem.W.Frag} {mg : Str → Option Value} {base : Heap}
theorem Fun.ok {x qual : Str} {st : Stmt} {f : Addr} {fd : FuncData} {N ps : List Str} {k : Nat} {sp : Sp} (F : Fun K x qual st f fd) (S : FnScope N ps (defScope st)) (len : ∀ vs H Q E,sp vs H Q E → vs.length = ps.length)
  (hbody : ∀ (cdv : Value) (A : Around) (outer : List Env) (s : Shared) (H : Hp) (vs : List V) (Q : VK) (E : XK),Room k (A.deeper (envOfC qual (defScope st) s.heap.objs.size f cdv)) → sp vs H Q E →
   ∃ t,PSs (cxOf CX0 P w K mg base N qual (defScope st) f cdv A outer s H E).nox (defBody st) t∧t { nx := fun _ H' => Q .non H',rt := Q } (start N vs) H) : FnOk P w K mg base CX0 (k + 1) f fd ps sp := by
 obtain ⟨oc,od,kV,doc,pm,an,cdv,ct,osl,rfl,lk,hcd⟩ := F.ex
 refine fn_of lk hcd S len fun A outer s H vs Q E hr hsp => ?_
 obtain ⟨t,h,q⟩ := hbody cdv A outer s H vs Q E hr hsp
 exact ⟨t,h.nox,q⟩
theorem Fun.binds {x qual : Str} {st : Stmt} {f : Addr} {fd : FuncData} {ps : List Str} (F : Fun K x qual st f fd)
  (h : ∀ (kV doc pm : Value) (an : Option Addr) (cdv ct : Value) (us : List Value),us.length = ps.length → bindArgs (PySem.W.fnOf x qual (defArgs st) (defBody st) (defScope st) .none kV doc pm an cdv ct) ⟨us,[]⟩ = pure (ps.zip us)) : Binds K fd ps [] := by
 obtain ⟨oc,od,kV,doc,pm,an,cdv,ct,osl,rfl,lk,hcd⟩ := F.ex
 exact .all (h kV doc pm an cdv ct)
theorem fun_mk {x qual : Str} {st : Stmt} {f : Addr} {oc : Value} {od an : Option Addr} {osl : Array (Option Value)} {kV doc pm cdv ct : Value} (l : K.lookup f = some ⟨oc,od,.func (PySem.W.fnOf x qual (defArgs st) (defBody st) (defScope st) .none kV doc pm an cdv ct),osl⟩)
  (c : PySem.W.codeIn K cdv qual = true) (k : PySem.W.keepIn K (.ref f) = true) : Fun K x qual st f (PySem.W.fnOf x qual (defArgs st) (defBody st) (defScope st) .none kV doc pm an cdv ct) := ⟨⟨oc,od,kV,doc,pm,an,cdv,ct,osl,rfl,l,c⟩,k⟩
end
section
variable {X : Cx}
end
theorem iteF {A B : Prop} (h : B) : if false = true then A else B := by
 rw [if_neg Bool.false_ne_true]
 exact h
theorem iteT {A B : Prop} (h : A) : if true = true then A else B := by
 rw [if_pos rfl]
 exact h
def Same (H H' : Hp) : Prop := ∀ b o,H b = some o → H' b = some o
theorem Same.seq {K : PySem.W.Frag} {H H' : Hp} {a : Addr} {xs : List V} (e : Same H H') (h : SqL K H a xs) : SqL K H' a xs := by
 rcases h with (h | ⟨o,h⟩) | h
 ·exact .inl (.inl (e _ _ h))
 ·exact .inl (.inr ⟨o,e _ _ h⟩)
 ·exact .inr h
end L2
set_option maxHeartbeats 4000000
namespace L3
open PySem PySem.Spec PyProof.Rows L2
inductive T where
 | non | bl (b : Bool) | int (i : Int) | str (x : Str) | tup (xs : List T) | ref (a : Addr)
inductive O where
 | lst (xs : List T)
 | frz (xs : List T)
noncomputable abbrev Gp := Addr → Option O
noncomputable def gu (G : Gp) (a : Addr) (o : O) : Gp := fun b => if b = a then some o else G b
theorem gu_same {G : Gp} {a : Addr} {o : O} : gu G a o a = some o := by unfold gu;rw [if_pos rfl]
theorem gu_ne {G : Gp} {a b : Addr} {o : O} (h : b ≠ a) : gu G a o b = G b := by unfold gu;rw [if_neg h]
mutual
inductive Rp (K : PySem.W.Frag) (H : Hp) : T → V → Prop
 | non : Rp K H .non .non
 | bl (b : Bool) : Rp K H (.bl b) (.bl b)
 | int (i : Int) : Rp K H (.int i) (.int i)
 | str (x : Str) : Rp K H (.str x) (.str x)
 | ref (a : Addr) : Rp K H (.ref a) (.ref a)
 | tup {xs : List T} {a : Addr} {vs : List V} : SqT K H a vs → Rps K H xs vs → Rp K H (.tup xs) (.ref a)
inductive Rps (K : PySem.W.Frag) (H : Hp) : List T → List V → Prop
 | nil : Rps K H [] []
 | cons {x : T} {v : V} {xs : List T} {vs : List V} : Rp K H x v → Rps K H xs vs → Rps K H (x :: xs) (v :: vs)
end
noncomputable def OR (K : PySem.W.Frag) (H : Hp) (a : Addr) : O → Prop
 | .lst xs => ∃ vs,H a = some (.lst vs)∧Rps K H xs vs
 | .frz xs => ∃ vs,(∃ o,H a = some (.frz o (.lst vs)))∧Rps K H xs vs
def HR (K : PySem.W.Frag) (G : Gp) (H : Hp) : Prop := ∀ a o,G a = some o → OR K H a o
def Kp (G : Gp) (H : Hp) (G' : Gp) (H' : Hp) : Prop := ∀ a o,H a = some o → G a = none → H' a = some o∧G' a = none
theorem Kp.refl {G : Gp} {H : Hp} : Kp G H G H := fun _ _ h g => ⟨h,g⟩
theorem Kp.trans {G G1 G2 : Gp} {H H1 H2 : Hp} (a : Kp G H G1 H1) (b : Kp G1 H1 G2 H2) : Kp G H G2 H2 := fun x o h g =>
 let ⟨h1,g1⟩ := a x o h g;b x o h1 g1
section
variable {K : PySem.W.Frag} {G G' : Gp} {H H' : Hp}
theorem HR.noneT (hr : HR K G H) {a : Addr} {vs : List V} (h : Rd H a (.tup vs)) : G a = none := by
 cases e : G a with
 | none => rfl
 | some o =>
  have q := hr a o e
  cases o with
  | lst xs =>
   obtain ⟨us,q1,_⟩ := q
   rcases h with h | ⟨ob,h⟩ <;> (rw [q1] at h;cases h)
  | frz xs =>
   obtain ⟨us,⟨o1,q1⟩,_⟩ := q
   rcases h with h | ⟨ob,h⟩ <;> (rw [q1] at h;cases h)
theorem sqT_keep (hr : HR K G H) (k : Kp G H G' H') {a : Addr} {vs : List V} (h : SqT K H a vs) : SqT K H' a vs := by
 rcases h with h | h
 ·have g := hr.noneT h
  rcases h with h | ⟨o,h⟩
  ·exact .inl (.inl (k a _ h g).1)
  ·exact .inl (.inr ⟨o,(k a _ h g).1⟩)
 ·exact .inr h
mutual
theorem Rp.keep (hr : HR K G H) (k : Kp G H G' H') : ∀ {x : T} {v : V},Rp K H x v → Rp K H' x v
 | _,_,.non => .non
 | _,_,.bl b => .bl b
 | _,_,.int i => .int i
 | _,_,.str x => .str x
 | _,_,.ref a => .ref a
 | _,_,.tup h hs => .tup (sqT_keep hr k h) (Rps.keep hr k hs)
theorem Rps.keep (hr : HR K G H) (k : Kp G H G' H') : ∀ {x : List T} {v : List V},Rps K H x v → Rps K H' x v
 | _,_,.nil => .nil
 | _,_,.cons a b => .cons (Rp.keep hr k a) (Rps.keep hr k b)
end
theorem Rps.length : ∀ {xs : List T} {vs : List V},Rps K H xs vs → xs.length = vs.length
 | _,_,.nil => rfl
 | _,_,.cons _ b => by simp [Rps.length b]
theorem Rps.get : ∀ {xs : List T} {vs : List V} {i : Nat} {x : T},Rps K H xs vs → xs[i]? = some x → ∃ v,vs[i]? = some v∧Rp K H x v
 | _,_,_,_,.nil,e => by simp at e
 | _,_,0,_,.cons r _,e => by simp at e;subst e;exact ⟨_,rfl,r⟩
 | _,_,i + 1,x,.cons _ t,e => by
  obtain ⟨u,h1,h2⟩ := Rps.get (i := i) (x := x) t (by simpa using e)
  exact ⟨u,by simpa using h1,h2⟩
theorem Rps.append : ∀ {xs ys : List T} {vs us : List V},Rps K H xs vs → Rps K H ys us → Rps K H (xs ++ ys) (vs ++ us)
 | _,_,_,_,.nil,s => s
 | _,_,_,_,.cons r t,s => .cons r (Rps.append t s)
theorem Rps.take : ∀ {xs : List T} {vs : List V} (n : Nat),Rps K H xs vs → Rps K H (xs.take n) (vs.take n)
 | _,_,0,_ => .nil
 | _,_,_ + 1,.nil => .nil
 | _,_,n + 1,.cons r t => .cons r (Rps.take n t)
theorem Rps.drop : ∀ {xs : List T} {vs : List V} (n : Nat),Rps K H xs vs → Rps K H (xs.drop n) (vs.drop n)
 | _,_,0,r => r
 | _,_,_ + 1,.nil => .nil
 | _,_,n + 1,.cons _ t => Rps.drop n t
theorem Rps.set {x : T} {v : V} (r : Rp K H x v) : ∀ {xs : List T} {vs : List V} (i : Nat),Rps K H xs vs → Rps K H (xs.set i x) (vs.set i v)
 | _,_,_,.nil => .nil
 | _,_,0,.cons _ t => .cons r t
 | _,_,i + 1,.cons q t => .cons q (Rps.set r i t)
theorem Rps.ints : ∀ (ns : List Int),Rps K H (ns.map T.int) (ns.map V.int)
 | [] => .nil
 | n :: r => .cons (.int n) (Rps.ints r)
theorem Kp.laid {p : Addr} {ho : HO} (hp : H p = none) : Kp G H G (upd H p ho) := fun a o h g => ⟨by rw [upd_ne (ne_of_none h hp)];exact h,g⟩
theorem HR.free (hr : HR K G H) {p : Addr} (hp : H p = none) : G p = none := by
 cases e : G p with
 | none => rfl
 | some o =>
  have q := hr p o e
  cases o with
  | lst xs => obtain ⟨us,q1,_⟩ := q;rw [hp] at q1;cases q1
  | frz xs => obtain ⟨us,⟨o1,q1⟩,_⟩ := q;rw [hp] at q1;cases q1
theorem OR.keep (hr : HR K G H) (k : Kp G H G' H') {a : Addr} {o : O} (h : OR K H a o) (e : ∀ u,H a = some u → H' a = some u) : OR K H' a o := by
 cases o with
 | lst xs => obtain ⟨vs,h1,h2⟩ := h;exact ⟨vs,e _ h1,h2.keep hr k⟩
 | frz xs => obtain ⟨vs,⟨o,h1⟩,h2⟩ := h;exact ⟨vs,⟨o,e _ h1⟩,h2.keep hr k⟩
theorem HR.laid (hr : HR K G H) {p : Addr} {ho : HO} (hp : H p = none) : HR K G (upd H p ho) := fun a o e =>
 (hr a o e).keep hr (Kp.laid hp) fun u h => by rw [upd_ne (ne_of_none h hp)];exact h
theorem Kp.newL {p : Addr} {ho : HO} {o' : O} (hp : H p = none) : Kp G H (gu G p o') (upd H p ho) := fun a o h g =>
 ⟨by rw [upd_ne (ne_of_none h hp)];exact h,by rw [gu_ne (ne_of_none h hp)];exact g⟩
theorem HR.newL (hr : HR K G H) {p : Addr} {xs : List T} {vs : List V} (hp : H p = none) (r : Rps K H xs vs) : HR K (gu G p (.lst xs)) (upd H p (.lst vs)) := fun a o e => by
 by_cases ha : a = p
 ·subst ha
  rw [gu_same] at e;cases e
  exact ⟨vs,upd_same,r.keep hr (Kp.laid hp)⟩
 ·rw [gu_ne ha] at e
  exact (hr a o e).keep hr (Kp.laid hp) fun u h => by rw [upd_ne ha];exact h
theorem Kp.wr {p : Addr} {ho : HO} {o o' : O} (g : G p = some o) : Kp G H (gu G p o') (upd H p ho) := fun a ob h ga => by
 have ha : a ≠ p := by intro e;subst e;rw [g] at ga;cases ga
 exact ⟨by rw [upd_ne ha];exact h,by rw [gu_ne ha];exact ga⟩
theorem HR.wr (hr : HR K G H) {p : Addr} {ys xs : List T} {vs : List V} (g : G p = some (.lst ys)) (r : Rps K H xs vs) : HR K (gu G p (.lst xs)) (upd H p (.lst vs)) := fun a o e => by
 have k : Kp G H (gu G p (.lst xs)) (upd H p (.lst vs)) := Kp.wr g
 by_cases ha : a = p
 ·subst ha
  rw [gu_same] at e;cases e
  exact ⟨vs,upd_same,r.keep hr k⟩
 ·rw [gu_ne ha] at e
  exact (hr a o e).keep hr k fun u h => by rw [upd_ne ha];exact h
end
noncomputable abbrev St3 := List (Option T)
structure Rel (K : PySem.W.Frag) (τ : St3) (G : Gp) (σ : L2.St) (H : Hp) : Prop where
 hp : HR K G H
 len : τ.length = σ.length
 st : ∀ (i : Nat) (t : T),τ[i]? = some (some t) → ∃ v,σ[i]? = some (some v)∧Rp K H t v
theorem Rel.next {K : PySem.W.Frag} {τ : St3} {G G' : Gp} {σ : L2.St} {H H' : Hp} (r : Rel K τ G σ H) (hr : HR K G' H') (k : Kp G H G' H') : Rel K τ G' σ H' :=
 ⟨hr,r.len,fun i t e => let ⟨v,h1,h2⟩ := r.st i t e;⟨v,h1,h2.keep r.hp k⟩⟩
theorem Rel.set {K : PySem.W.Frag} {τ : St3} {G : Gp} {σ : L2.St} {H : Hp} {t : T} {v : V} (r : Rel K τ G σ H) (i : Nat) (h : Rp K H t v) : Rel K (τ.set i (some t)) G (σ.set i (some v)) H := by
 refine ⟨r.hp,by simp [r.len],fun j u e => ?_⟩
 by_cases hij : i = j
 ·subst hij
  rw [List.getElem?_set_self'] at e
  have hl : i < τ.length := by
   cases q : τ[i]? with
   | none => rw [q] at e;cases e
   | some z => exact (List.getElem?_eq_some_iff.mp q).1
  rw [List.getElem?_eq_getElem hl] at e
  have e' : t = u := by simpa using e
  subst e'
  exact ⟨v,by rw [List.getElem?_set_self (by rw [← r.len];exact hl)],h⟩
 ·rw [List.getElem?_set_ne hij] at e
  obtain ⟨w,h1,h2⟩ := r.st j u e
  exact ⟨w,by rw [List.getElem?_set_ne hij];exact h1,h2⟩
noncomputable abbrev Q3 := T → Gp → Prop
noncomputable abbrev TE3 := St3 → Gp → Q3 → Prop
noncomputable abbrev TT3 := St3 → Gp → (Bool → Gp → Prop) → Prop
noncomputable abbrev TA3 := St3 → Gp → (List T → Gp → Prop) → Prop
def Aft (K : PySem.W.Frag) (G : Gp) (H : Hp) (q : Q3) (Q : VK) : Prop := ∀ x G',q x G' → ∀ v H',Rp K H' x v → HR K G' H' → Kp G H G' H' → Q v H'
def AftB (K : PySem.W.Frag) (G : Gp) (H : Hp) (q : Bool → Gp → Prop) (Q : Bool → Hp → Prop) : Prop := ∀ x G',q x G' → ∀ H',HR K G' H' → Kp G H G' H' → Q x H'
def AftA (K : PySem.W.Frag) (G : Gp) (H : Hp) (q : List T → Gp → Prop) (Q : List V → Hp → Prop) : Prop := ∀ x G',q x G' → ∀ v H',Rps K H' x v → HR K G' H' → Kp G H G' H' → Q v H'
noncomputable def lE (K : PySem.W.Frag) (t : TE3) : TE := fun σ H Q => ∃ τ G q,Rel K τ G σ H∧t τ G q∧Aft K G H q Q
noncomputable def lT (K : PySem.W.Frag) (t : TT3) : TT := fun σ H Q => ∃ τ G q,Rel K τ G σ H∧t τ G q∧AftB K G H q Q
noncomputable def lA (K : PySem.W.Frag) (t : TA3) : TA := fun σ H Q => ∃ τ G q,Rel K τ G σ H∧t τ G q∧AftA K G H q Q
abbrev E3 (X : Cx) (e : Expr) (t : TE3) : Prop := PE X e (lE X.K t)
abbrev C3 (X : Cx) (e : Expr) (t : TT3) : Prop := PT X e (lT X.K t)
abbrev W3 (X : Cx) (e : Expr) (t : TT3) : Prop := PW X e (lT X.K t)
abbrev A3 (X : Cx) (es : List Expr) (t : TA3) : Prop := PA X es (lA X.K t)
theorem Aft.back {K : PySem.W.Frag} {G G1 : Gp} {H H1 : Hp} {q : Q3} {Q : VK} (a : Aft K G H q Q) (k : Kp G H G1 H1) : Aft K G1 H1 q Q := fun x G' h v H' r hr k' => a x G' h v H' r hr (k.trans k')
theorem AftB.back {K : PySem.W.Frag} {G G1 : Gp} {H H1 : Hp} {q : Bool → Gp → Prop} {Q : Bool → Hp → Prop} (a : AftB K G H q Q) (k : Kp G H G1 H1) : AftB K G1 H1 q Q := fun x G' h H' hr k' => a x G' h H' hr (k.trans k')
theorem pe_w {X : Cx} {e : Expr} {t t' : TE} (h : PE X e t) (w : ∀ σ H Q,t' σ H Q → t σ H Q) : PE X e t' := fun pins s σ H Q I q => h pins s σ H Q I (w σ H Q q)
theorem pt_w {X : Cx} {e : Expr} {t t' : TT} (h : PT X e t) (w : ∀ σ H Q,t' σ H Q → t σ H Q) : PT X e t' := fun pins s σ H Q I q => h pins s σ H Q I (w σ H Q q)
theorem pw_w {X : Cx} {e : Expr} {t t' : TT} (h : PW X e t) (w : ∀ σ H Q,t' σ H Q → t σ H Q) : PW X e t' := fun wh pins s σ H Q I q => h wh pins s σ H Q I (w σ H Q q)
theorem pa_w {X : Cx} {e : List Expr} {t t' : TA} (h : PA X e t) (w : ∀ σ H Q,t' σ H Q → t σ H Q) : PA X e t' := fun pos pins s σ H Q I q => h pos pins s σ H Q I (w σ H Q q)
theorem lE_seq {K : PySem.W.Frag} {ta : TE3} {τ : St3} {G : Gp} {σ : L2.St} {H : Hp} {q : Q3} {Q : VK} (r : Rel K τ G σ H) (h : ta τ G q)
  (n : ∀ x G1,q x G1 → ∀ v H1,Rp K H1 x v → HR K G1 H1 → Kp G H G1 H1 → Rel K τ G1 σ H1 → Q v H1) : lE K ta σ H Q :=
 ⟨τ,G,q,r,h,fun x G1 hq v H1 rx hr k => n x G1 hq v H1 rx hr k (r.next hr k)⟩
theorem lT_seq {K : PySem.W.Frag} {ta : TT3} {τ : St3} {G : Gp} {σ : L2.St} {H : Hp} {q : Bool → Gp → Prop} {Q : Bool → Hp → Prop} (r : Rel K τ G σ H) (h : ta τ G q)
  (n : ∀ x G1,q x G1 → ∀ H1,HR K G1 H1 → Kp G H G1 H1 → Rel K τ G1 σ H1 → Q x H1) : lT K ta σ H Q :=
 ⟨τ,G,q,r,h,fun x G1 hq H1 hr k => n x G1 hq H1 hr k (r.next hr k)⟩
theorem lA_seq {K : PySem.W.Frag} {ta : TA3} {τ : St3} {G : Gp} {σ : L2.St} {H : Hp} {q : List T → Gp → Prop} {Q : List V → Hp → Prop} (r : Rel K τ G σ H) (h : ta τ G q)
  (n : ∀ x G1,q x G1 → ∀ v H1,Rps K H1 x v → HR K G1 H1 → Kp G H G1 H1 → Rel K τ G1 σ H1 → Q v H1) : lA K ta σ H Q :=
 ⟨τ,G,q,r,h,fun x G1 hq v H1 rx hr k => n x G1 hq v H1 rx hr k (r.next hr k)⟩
section
variable {X : Cx} {a b c : Expr} {ta tb tc : TE3} {pos : Pos}
noncomputable def v3 (i : Nat) : TE3 := fun τ G q => match τ[i]? with | some (some t) => q t G | _ => False
theorem e_var (i : Nat) {x : Str} {pos : Pos} (hN : X.N[i]? = some x := by rfl) (hv : Vis X.env.scope x := by first | exact Or.inl rfl | exact Or.inr (Or.inl rfl) | exact Or.inr (Or.inr rfl)) (hd : (x == ("__debug__" : Str)) = false := by decide)
  (hcd : (x == ("__classdict__" : Str)) = false := by decide) : E3 X (.Name x pos) (v3 i) := by
 refine pe_w (pe_var (i := i) hN hv hd hcd) fun σ H Q ⟨τ,G,q,r,h,af⟩ => ?_
 unfold v3 at h
 split at h
 ·rename_i t e
  obtain ⟨v,e2,rv⟩ := r.st i t e
  exact ⟨v,e2,af t G h v H rv r.hp Kp.refl⟩
 ·exact h.elim
noncomputable def c3 (t : T) : TE3 := fun _ G q => q t G
theorem e_c {t : T} {v : V} {e : Expr} (h : PE X e (tC v)) (hr : ∀ H,Rp X.K H t v) : E3 X e (c3 t) := pe_w h fun σ H Q ⟨τ,G,q,r,h,af⟩ => af t G h v H (hr H) r.hp Kp.refl
theorem e_int {i : Int} {j pos} : E3 X (.Constant (.int i) j pos) (c3 (.int i)) := e_c pe_int fun _ => .int i
theorem e_bl {b : Bool} {j pos} : E3 X (.Constant (.bool b) j pos) (c3 (.bl b)) := e_c pe_bl fun _ => .bl b
theorem e_non {j pos} : E3 X (.Constant .none j pos) (c3 .non) := e_c pe_non fun _ => .non
theorem e_str {x : Str} {j pos} : E3 X (.Constant (.str x) j pos) (c3 (.str x)) := e_c pe_str fun _ => .str x
noncomputable def n3 : TE3 := fun _ _ _ => False
noncomputable abbrev R3 := T → T → Gp → Q3 → Prop
def Ref2 (K : PySem.W.Frag) (r3 : R3) (r : R2) : Prop := ∀ x y v u G H q Q,HR K G H → Rp K H x v → Rp K H y u → r3 x y G q → Aft K G H q Q → r v u H Q
noncomputable def o3 (r : R3) (ta tb : TE3) : TE3 := fun τ G q => ta τ G fun x G1 => tb τ G1 fun y G2 => r x y G2 q
theorem lE_op {K : PySem.W.Frag} {r3 : R3} {r : R2} (hr : Ref2 K r3 r) {σ : L2.St} {H : Hp} {Q : VK} (h : lE K (o3 r3 ta tb) σ H Q) : tOp r (lE K ta) (lE K tb) σ H Q := by
 obtain ⟨τ,G,q,rl,h,af⟩ := h
 refine lE_seq rl h fun x G1 h1 v H1 rx hr1 k1 rl1 => lE_seq rl1 h1 fun y G2 h2 u H2 ry hr2 k2 rl2 => ?_
 exact hr x y v u G2 H2 q Q hr2 (rx.keep hr1 k2) ry h2 (af.back (k1.trans k2))
theorem e_op {op : Operator} {r3 : R3} {r : R2} (ho : OpR X (binaryOp op) r) (hr : Ref2 X.K r3 r) (ha : E3 X a ta) (hb : E3 X b tb) : E3 X (.BinOp a op b pos) (o3 r3 ta tb) :=
 pe_w (pe_op ho ha hb) fun _ _ _ h => lE_op hr h
theorem e_cmp {op : CmpOp} {r3 : R3} {r : R2} (ho : OpR X (compareOp op) r) (hr : Ref2 X.K r3 r) (ha : E3 X a ta) (hb : E3 X b tb) (hm : behindInMarks op b = false) : E3 X (.Compare a [op] [b] pos) (o3 r3 ta tb) :=
 pe_w (pe_cmpR ho ha hb hm) fun _ _ _ h => lE_op hr h
noncomputable def tb3 (t : TE3) : TT3 := fun τ G q => t τ G fun x G' => match x with | .bl k => q k G' | _ => False
theorem lT_tb {K : PySem.W.Frag} {t : TE3} {t2 : TE} (hw : ∀ σ H Q,lE K t σ H Q → t2 σ H Q) {σ : L2.St} {H : Hp} {Q : Bool → Hp → Prop} (h : lT K (tb3 t) σ H Q) : tTest t2 σ H Q := by
 obtain ⟨τ,G,q,rl,h,af⟩ := h
 refine hw _ _ _ (lE_seq rl h fun x G1 h1 v H1 rx hr1 k1 rl1 => ?_)
 cases x with
 | bl k => cases rx;exact ⟨k,rfl,af k G1 h1 H1 hr1 k1⟩
 | _ => exact h1.elim
theorem t_cmp {op : CmpOp} {r3 : R3} {r : R2} (ho : OpR X (compareOp op) r) (hr : Ref2 X.K r3 r) (ha : E3 X a ta) (hb : E3 X b tb) (hm : behindInMarks op b = false) : C3 X (.Compare a [op] [b] pos) (tb3 (o3 r3 ta tb)) :=
 pt_w (pt_cmpR ho ha hb hm) fun _ _ _ h => lT_tb (fun _ _ _ => lE_op hr) h
noncomputable def ch3 (r r' : R3) (ta tb tc : TE3) : TE3 := fun τ G q => ta τ G fun x G1 => tb τ G1 fun y G2 => r x y G2 fun z G3 => match z with
 | .bl k => if k = true then tc τ G3 fun w G4 => r' y w G4 q else q (.bl false) G3
 | _ => False
theorem lE_ch {K : PySem.W.Frag} {r3 r3' : R3} {r r' : R2} (hr : Ref2 K r3 r) (hr' : Ref2 K r3' r') {σ : L2.St} {H : Hp} {Q : VK} (h : lE K (ch3 r3 r3' ta tb tc) σ H Q) : tChain r r' (lE K ta) (lE K tb) (lE K tc) σ H Q := by
 obtain ⟨τ,G,q,rl,h,af⟩ := h
 refine lE_seq rl h fun x G1 h1 v H1 rx hr1 k1 rl1 => lE_seq rl1 h1 fun y G2 h2 u H2 ry hr2 k2 rl2 => ?_
 refine hr x y v u G2 H2 _ _ hr2 (rx.keep hr1 k2) ry h2 fun z G3 h3 w H3 rz hr3 k3 => ?_
 cases z with
 | bl k =>
  cases rz
  refine ⟨k,rfl,?_⟩
  cases k with
  | false =>
   rw [if_neg Bool.false_ne_true]
   rw [show (match T.bl false with | .bl k => if k = true then tc τ G3 fun w G4 => r3' y w G4 q else q (.bl false) G3 | _ => False) = q (.bl false) G3 from by simp] at h3
   exact af _ G3 h3 _ H3 (.bl false) hr3 ((k1.trans k2).trans k3)
  | true =>
   rw [if_pos rfl]
   refine lE_seq (rl2.next hr3 k3) (show tc τ G3 fun w G4 => r3' y w G4 q from by simpa using h3) fun w G4 h4 w' H4 rw' hr4 k4 rl4 => ?_
   exact hr' y w _ _ G4 H4 q Q hr4 ((ry.keep hr2 k3).keep hr3 k4) rw' h4 (af.back (((k1.trans k2).trans k3).trans k4))
 | _ => exact h3.elim
theorem t_chain {op op' : CmpOp} {r3 r3' : R3} {r r' : R2} (ho : OpR X (compareOp op) r) (hr : Ref2 X.K r3 r) (ho' : OpR X (compareOp op') r') (hr' : Ref2 X.K r3' r') (ha : E3 X a ta) (hb : E3 X b tb) (hc : E3 X c tc)
  (hm : lastMarks [op,op'] [b,c] = false := by with_unfolding_all rfl) : C3 X (.Compare a [op,op'] [b,c] pos) (tb3 (ch3 r3 r3' ta tb tc)) :=
 pt_w (pt_chain ho ho' ha hb hc hm) fun _ _ _ h => lT_tb (fun _ _ _ => lE_ch hr hr') h
def Ref1 (K : PySem.W.Frag) (r3 : T → Gp → Q3 → Prop) (r : V → Hp → VK → Prop) : Prop := ∀ x v G H q Q,HR K G H → Rp K H x v → r3 x G q → Aft K G H q Q → r v H Q
noncomputable def u3 (r : T → Gp → Q3 → Prop) (ta : TE3) : TE3 := fun τ G q => ta τ G fun x G1 => r x G1 q
theorem e_un {op : UnaryOp} {r3 : T → Gp → Q3 → Prop} {r : V → Hp → VK → Prop} (ho : UnR X (unaryOp op) r) (hr : Ref1 X.K r3 r) (ha : E3 X a ta) : E3 X (.UnaryOp op a pos) (u3 r3 ta) :=
 pe_w (pe_un ho ha) fun _ _ _ ⟨τ,G,q,rl,h,af⟩ => lE_seq rl h fun x G1 h1 v H1 rx hr1 k1 rl1 => hr x v G1 H1 q _ hr1 rx h1 (af.back k1)
noncomputable def neg3 : T → Gp → Q3 → Prop := fun x G q => match x with | .int i => q (.int (-i)) G | _ => False
theorem ref_neg {K : PySem.W.Frag} : Ref1 K neg3 (rU fun i => .int (-i)) := fun x v G H q Q hr rx h af => by
 cases x with
 | int i => cases rx;exact ⟨i,rfl,af _ G h _ H (.int _) hr Kp.refl⟩
 | _ => exact h.elim
noncomputable def iI (f : Int → Int → Int) : R3 := fun x y G q => match x,y with | .int i,.int j => q (.int (f i j)) G | _,_ => False
noncomputable def iC (C : Int → Int → Prop) (f : Int → Int → Int) : R3 := fun x y G q => match x,y with | .int i,.int j => C i j∧q (.int (f i j)) G | _,_ => False
noncomputable def iB (f : Int → Int → Bool) : R3 := fun x y G q => match x,y with | .int i,.int j => q (.bl (f i j)) G | _,_ => False
theorem ref_iI {K : PySem.W.Frag} {f : Int → Int → Int} : Ref2 K (iI f) (rI0 fun i j => .int (f i j)) := fun x y v u G H q Q hr rx ry h af => by
 cases x <;> try exact h.elim
 cases y <;> try exact h.elim
 cases rx;cases ry
 exact ⟨_,_,rfl,rfl,af _ G h _ H (.int _) hr Kp.refl⟩
theorem ref_iC {K : PySem.W.Frag} {C : Int → Int → Prop} {f : Int → Int → Int} : Ref2 K (iC C f) (rI C fun i j => .int (f i j)) := fun x y v u G H q Q hr rx ry h af => by
 cases x <;> try exact h.elim
 cases y <;> try exact h.elim
 cases rx;cases ry
 exact ⟨_,_,rfl,rfl,h.1,af _ G h.2 _ H (.int _) hr Kp.refl⟩
theorem ref_iB {K : PySem.W.Frag} {f : Int → Int → Bool} : Ref2 K (iB f) (rI0 fun i j => .bl (f i j)) := fun x y v u G H q Q hr rx ry h af => by
 cases x <;> try exact h.elim
 cases y <;> try exact h.elim
 cases rx;cases ry
 exact ⟨_,_,rfl,rfl,af _ G h _ H (.bl _) hr Kp.refl⟩
theorem e_sub (ha : E3 X a ta) (hb : E3 X b tb) : E3 X (.BinOp a .Sub b pos) (o3 (iI (· - ·)) ta tb) := e_op op_sub ref_iI ha hb
theorem e_mul (ha : E3 X a ta) (hb : E3 X b tb) : E3 X (.BinOp a .Mult b pos) (o3 (iC CMul (· * ·)) ta tb) := e_op op_mul ref_iC ha hb
theorem e_mod (ha : E3 X a ta) (hb : E3 X b tb) : E3 X (.BinOp a .Mod b pos) (o3 (iC (fun _ j => 0 < j) (· % ·)) ta tb) := e_op op_mod ref_iC ha hb
theorem e_div (ha : E3 X a ta) (hb : E3 X b tb) : E3 X (.BinOp a .FloorDiv b pos) (o3 (iC CDiv (· / ·)) ta tb) := e_op op_fdiv ref_iC ha hb
theorem e_pow (ha : E3 X a ta) (hb : E3 X b tb) : E3 X (.BinOp a .Pow b pos) (o3 (iC CPow (fun i j => i ^ j.toNat)) ta tb) := e_op op_pow ref_iC ha hb
theorem e_shl (ha : E3 X a ta) (hb : E3 X b tb) : E3 X (.BinOp a .LShift b pos) (o3 (iC CPow (fun i j => i * 2 ^ j.toNat)) ta tb) := e_op op_shl ref_iC ha hb
theorem e_neg (ha : E3 X a ta) : E3 X (.UnaryOp .USub a pos) (u3 neg3 ta) := e_un un_neg ref_neg ha
noncomputable def scalT : T → T → Option Bool
 | .non,.non => some true | .non,.int _ => some false | .int _,.non => some false | .non,.bl _ => some false | .bl _,.non => some false | .non,.str _ => some false | .str _,.non => some false
 | .int i,.int j => some (decide (i = j)) | .bl i,.bl j => some (decide (i = j)) | .str i,.str j => some (decide (i = j))
 | .int _,.str _ => some false | .str _,.int _ => some false | .bl _,.str _ => some false | .str _,.bl _ => some false
 | _,_ => none
theorem scalT_ok {K : PySem.W.Frag} {H : Hp} {x y : T} {v u : V} {k : Bool} (rx : Rp K H x v) (ry : Rp K H y u) (h : scalT x y = some k) : scal v u = true∧decide (v = u) = k := by
 cases rx <;> cases ry <;> simp [scalT] at h <;> subst h <;> refine ⟨rfl,?_⟩ <;> simp
noncomputable def isN3 (neg : Bool) : R3 := fun x y G q => match y with | .non => q (.bl (match x with | .non => !neg | _ => neg)) G | _ => False
theorem rp_non {K : PySem.W.Frag} {H : Hp} {x : T} {v : V} (rx : Rp K H x v) : decide (v = .non) = (match x with | .non => true | _ => false) := by
 cases rx <;> simp
theorem ref_isN {K : PySem.W.Frag} : Ref2 K (isN3 false) (fun x y H Q => y = .non∧Q (.bl (decide (x = .non))) H) := fun x y v u G H q Q hr rx ry h af => by
 cases y <;> try exact h.elim
 cases ry
 refine ⟨rfl,?_⟩
 rw [rp_non rx]
 refine af _ G h _ H ?_ hr Kp.refl
 cases x <;> exact .bl _
variable {tA tB : TT3} {rest : List Expr}
noncomputable def and3 (t u : TT3) : TT3 := fun τ G q => t τ G fun k G1 => if k = true then u τ G1 q else q false G1
noncomputable def or3 (t u : TT3) : TT3 := fun τ G q => t τ G fun k G1 => if k = true then q true G1 else u τ G1 q
noncomputable def not3 (t : TT3) : TT3 := fun τ G q => t τ G fun k G1 => q (!k) G1
theorem t_or1 (ha : C3 X a tA) : W3 X (.BoolOp .Or [a] pos) tA := pw_or1 ha
theorem t_or (ha : C3 X a tA) (hb : W3 X (.BoolOp .Or (b :: rest) pos) tB) : W3 X (.BoolOp .Or (a :: b :: rest) pos) (or3 tA tB) :=
 pw_w (pw_or ha hb) fun _ _ _ ⟨τ,G,q,rl,h,af⟩ => lT_seq rl h fun k G1 h1 H1 hr1 k1 rl1 => by
  cases k with
  | true => rw [if_pos rfl] at h1 ⊢;exact af _ G1 h1 H1 hr1 k1
  | false => rw [if_neg Bool.false_ne_true] at h1 ⊢;exact ⟨τ,G1,q,rl1,h1,af.back k1⟩
theorem t_not (ha : C3 X a tA) : C3 X (.UnaryOp .Not a pos) (not3 tA) :=
 pt_w (pt_not ha) fun _ _ _ ⟨τ,G,q,rl,h,af⟩ => lT_seq rl h fun k G1 h1 H1 hr1 k1 rl1 => af _ G1 h1 H1 hr1 k1
theorem t_val {e : Expr} {t : TE3} (h : E3 X e t) (he : ∀ whole,isTrue e X.env whole = (do let v ← whole;standAt e.pos;holding [v] (truthy v)) := by intro _;rfl) : C3 X e (tb3 t) :=
 pt_w (pt_val h he) fun _ _ _ h => lT_tb (fun _ _ _ h => h) h
noncomputable def andV3 (ta tb : TE3) : TE3 := fun τ G q => ta τ G fun x G1 => match x with | .bl k => if k = true then tb τ G1 q else q (.bl false) G1 | _ => False
noncomputable def orV3 (ta tb : TE3) : TE3 := fun τ G q => ta τ G fun x G1 => match x with | .bl k => if k = true then q (.bl true) G1 else tb τ G1 q | _ => False
noncomputable def notV3 (ta : TE3) : TE3 := fun τ G q => ta τ G fun x G1 => match x with | .bl k => q (.bl (!k)) G1 | _ => False
theorem e_one {op} (h : E3 X a ta) : E3 X (.BoolOp op [a] pos) ta := pe_one h
theorem e_and (ha : E3 X a ta) (hb : E3 X (.BoolOp .And (b :: rest) pos) tb) : E3 X (.BoolOp .And (a :: b :: rest) pos) (andV3 ta tb) :=
 pe_w (pe_and ha hb) fun _ _ _ ⟨τ,G,q,rl,h,af⟩ => lE_seq rl h fun x G1 h1 v H1 rx hr1 k1 rl1 => by
  cases x with
  | bl k =>
   cases rx
   refine ⟨k,rfl,?_⟩
   cases k with
   | true => rw [if_pos rfl];exact ⟨τ,G1,q,rl1,(show tb τ G1 q from by simpa using h1),af.back k1⟩
   | false => rw [if_neg Bool.false_ne_true];exact af _ G1 (by simpa using h1) _ H1 (.bl false) hr1 k1
  | _ => exact h1.elim
theorem e_not (ha : E3 X a ta) : E3 X (.UnaryOp .Not a pos) (notV3 ta) :=
 pe_w (pe_not ha) fun _ _ _ ⟨τ,G,q,rl,h,af⟩ => lE_seq rl h fun x G1 h1 v H1 rx hr1 k1 rl1 => by
  cases x with
  | bl k => cases rx;exact ⟨k,rfl,af _ G1 h1 _ H1 (.bl _) hr1 k1⟩
  | _ => exact h1.elim
noncomputable def if3 (t : TT3) (ta tb : TE3) : TE3 := fun τ G q => t τ G fun k G1 => if k = true then ta τ G1 q else tb τ G1 q
theorem e_if {c : Expr} (hc : C3 X c tA) (ha : E3 X a ta) (hb : E3 X b tb) : E3 X (.IfExp c a b pos) (if3 tA ta tb) :=
 pe_w (pe_ifExp hc ha hb) fun _ _ _ ⟨τ,G,q,rl,h,af⟩ => lT_seq rl h fun k G1 h1 H1 hr1 k1 rl1 => by
  cases k with
  | true => rw [if_pos rfl] at h1 ⊢;exact ⟨τ,G1,q,rl1,h1,af.back k1⟩
  | false => rw [if_neg Bool.false_ne_true] at h1 ⊢;exact ⟨τ,G1,q,rl1,h1,af.back k1⟩
variable {e : Expr} {es : List Expr} {te : TE3} {t : TA3}
noncomputable def nil3 : TA3 := fun _ G q => q [] G
noncomputable def cons3 (ta : TE3) (tr : TA3) : TA3 := fun τ G q => ta τ G fun x G1 => tr τ G1 fun xs G2 => q (x :: xs) G2
theorem a_nil : A3 X [] nil3 := pa_w pa_nil fun _ H _ ⟨τ,G,q,rl,h,af⟩ => af _ G h _ H .nil rl.hp Kp.refl
theorem a_cons (ha : E3 X e te) (hr : A3 X es t) (hs : starEach (e :: es) X.env = (false,eval e X.env) :: starEach es X.env := by rfl) : A3 X (e :: es) (cons3 te t) :=
 pa_w (pa_cons ha hr hs) fun _ _ _ ⟨τ,G,q,rl,h,af⟩ => lE_seq rl h fun x G1 h1 v H1 rx hr1 k1 rl1 => lA_seq rl1 h1 fun xs G2 h2 vs H2 rs hr2 k2 rl2 =>
  af _ G2 h2 _ H2 (.cons (rx.keep hr1 k2) rs) hr2 (k1.trans k2)
noncomputable def tup3 (t : TA3) : TE3 := fun τ G q => t τ G fun xs G1 => xs.length ≤ sizeLine∧q (.tup xs) G1
noncomputable def lst3 (t : TA3) : TE3 := fun τ G q => t τ G fun xs G1 => xs.length ≤ sizeLine∧∀ p,G1 p = none → q (.ref p) (gu G1 p (.lst xs))
theorem e_tup {x1} (h : A3 X es t) : E3 X (.Tuple es x1 pos) (tup3 t) :=
 pe_w (pe_tup h) fun _ _ _ ⟨τ,G,q,rl,h,af⟩ => lA_seq rl h fun xs G1 h1 vs H1 rs hr1 k1 rl1 => ⟨by rw [← rs.length];exact h1.1,fun p hp =>
  af _ G1 h1.2 _ _ (.tup (SqT.of upd_same) (rs.keep hr1 (Kp.laid hp))) (hr1.laid hp) (k1.trans (Kp.laid hp))⟩
theorem e_lst (h : A3 X es t) : E3 X (.List es pos) (lst3 t) :=
 pe_w (pe_lst h) fun _ _ _ ⟨τ,G,q,rl,h,af⟩ => lA_seq rl h fun xs G1 h1 vs H1 rs hr1 k1 rl1 => ⟨by rw [← rs.length];exact h1.1,fun p hp =>
  af _ _ (h1.2 p (hr1.free hp)) _ _ (.ref p) (hr1.newL hp rs) (k1.trans (Kp.newL hp))⟩
def RefC (K : PySem.W.Frag) (r3 : List T → Gp → Q3 → Prop) (r : List V → Hp → VK → Prop) : Prop := ∀ xs vs G H q Q,HR K G H → Rps K H xs vs → r3 xs G q → Aft K G H q Q → r vs H Q
noncomputable def cb3 (r : List T → Gp → Q3 → Prop) (t : TA3) : TE3 := fun τ G q => t τ G fun xs G1 => r xs G1 q
theorem lA_cb {K : PySem.W.Frag} {r3 : List T → Gp → Q3 → Prop} {r : List V → Hp → VK → Prop} (hr : RefC K r3 r) {σ : L2.St} {H : Hp} {Q : VK} (h : lE K (cb3 r3 t) σ H Q) : tCB r (lA K t) σ H Q := by
 obtain ⟨τ,G,q,rl,h,af⟩ := h
 exact lA_seq rl h fun xs G1 h1 vs H1 rs hr1 k1 rl1 => hr xs vs G1 H1 q Q hr1 rs h1 (af.back k1)
theorem e_callB {x : Str} {p : Pos} {id : String} {r3 : List T → Gp → Q3 → Prop} {r : List V → Hp → VK → Prop} (hc : CallR X (.builtin id) r) (hr : RefC X.K r3 r) (hg : Gl X x) (hm : X.mg x = none) (hv : bootBuiltins x = some (.builtin id)) (ha : A3 X (e :: es) t) (hn : x ≠ "__name__" := by decide) (hdb : (x == ("__debug__" : Str)) = false := by decide)
  (he : starEach (e :: es) X.env = (false,eval e X.env) :: starEach es X.env := by rfl) (hpl : (backTo pos (starEach es X.env)).any (·.1) = false := by rfl) : E3 X (.Call (.Name x p) (e :: es) [] pos) (cb3 r3 t) :=
 pe_w (pe_callB hc hg hm hv ha hn hdb he hpl) fun _ _ _ h => lA_cb hr h
theorem e_callTy {x : Str} {p : Pos} {ty : String} {r3 : List T → Gp → Q3 → Prop} {r : List V → Hp → VK → Prop} (hc : CallR X (.type ty) r) (hr : RefC X.K r3 r) (hg : Gl X x) (hm : X.mg x = none) (hv : bootBuiltins x = some (.type ty)) (ha : A3 X (e :: es) t) (hn : x ≠ "__name__" := by decide) (hdb : (x == ("__debug__" : Str)) = false := by decide)
  (he : starEach (e :: es) X.env = (false,eval e X.env) :: starEach es X.env := by rfl) (hpl : (backTo pos (starEach es X.env)).any (·.1) = false := by rfl) : E3 X (.Call (.Name x p) (e :: es) [] pos) (cb3 r3 t) :=
 pe_w (pe_callTy hc hg hm hv ha hn hdb he hpl) fun _ _ _ h => lA_cb hr h
end
end L3
namespace L3
open PySem PySem.Spec PyProof.Rows L2
noncomputable def getL (G : Gp) (p : Addr) : Option (List T) := match G p with | some (.lst xs) => some xs | some (.frz xs) => some xs | none => none
section
variable {K : PySem.W.Frag} {G G' : Gp} {H H' : Hp}
theorem getL_sq (hr : HR K G H) {p : Addr} {xs : List T} (h : getL G p = some xs) : ∃ vs,SqL K H p vs∧Rps K H xs vs := by
 unfold getL at h
 split at h
 ·rename_i ys e;cases h
  obtain ⟨vs,h1,h2⟩ := hr p _ e
  exact ⟨vs,SqL.of h1,h2⟩
 ·rename_i ys e;cases h
  obtain ⟨vs,⟨o,h1⟩,h2⟩ := hr p _ e
  exact ⟨vs,.inl (.inr ⟨o,h1⟩),h2⟩
 ·cases h
theorem HR.lst (hr : HR K G H) {p : Addr} {xs : List T} (h : G p = some (.lst xs)) : ∃ vs,H p = some (.lst vs)∧Rps K H xs vs := hr p _ h
theorem Rps.atI {xs : List T} {vs : List V} {i : Int} {x : T} (r : Rps K H xs vs) (h : atI xs i = some x) : ∃ v,L2.atI vs i = some v∧Rp K H x v := by
 unfold L2.atI at h ⊢
 rw [← r.length]
 cases e : ixN xs.length i with
 | none => rw [e] at h;cases h
 | some j =>
  rw [e] at h
  exact r.get (by simpa using h)
end
noncomputable def ix3 : R3 := fun x y G q => match x,y with
 | .tup xs,.int i => (match atI xs i with | some z => q z G | none => False)
 | .ref p,.int i => (match getL G p with | some xs => (match atI xs i with | some z => q z G | none => False) | none => False)
 | _,_ => False
section
variable {X : Cx} {a b c e : Expr} {es : List Expr} {ta tb tc te : TE3} {t : TA3} {pos : Pos}
theorem ref_ix {K : PySem.W.Frag} : Ref2 K ix3 (rIx K) := fun x y v u G H q Q hr rx ry h af => by
 cases x <;> try exact h.elim
 case tup xs =>
  cases y <;> try exact h.elim
  case int i =>
   unfold ix3 at h
   simp only at h
   split at h
   ·rename_i z e
    cases ry
    cases rx with
    | tup hs rs =>
     obtain ⟨w,e2,rw'⟩ := rs.atI e
     exact .inr (.inl ⟨_,_,i,w,rfl,rfl,hs,e2,af z G h w H rw' hr Kp.refl⟩)
   ·exact h.elim
 case ref p =>
  cases y <;> try exact h.elim
  case int i =>
   unfold ix3 at h
   simp only at h
   split at h
   ·rename_i xs e0
    split at h
    ·rename_i z e
     cases ry
     cases rx
     obtain ⟨vs,hs,rs⟩ := getL_sq hr e0
     obtain ⟨w,e2,rw'⟩ := rs.atI e
     exact .inl ⟨p,vs,i,w,rfl,rfl,hs,e2,af z G h w H rw' hr Kp.refl⟩
    ·exact h.elim
   ·exact h.elim
theorem e_ix (ha : E3 X a ta) (hb : E3 X b tb) (hs : PlainIx b := by intro _ _;rfl) : E3 X (.Subscript a b pos) (o3 ix3 ta tb) := pe_w (pe_ix ix_seq ha hb hs) fun _ _ _ h => lE_op ref_ix h
noncomputable def cut3 {α : Type} (xs : List α) (lo hi : Option Int) : List α := (xs.drop (HT.sIx xs.length 0 lo)).take (HT.sIx xs.length xs.length hi - HT.sIx xs.length 0 lo)
theorem Rps.cut {K : PySem.W.Frag} {H : Hp} {xs : List T} {vs : List V} (r : Rps K H xs vs) (lo hi : Option Int) : Rps K H (cut3 xs lo hi) (cutV vs lo hi) := by
 unfold cut3 cutV
 rw [r.length]
 exact (r.drop _).take _
noncomputable abbrev TO3 := St3 → Gp → (Option Int → Gp → Prop) → Prop
noncomputable def lO (K : PySem.W.Frag) (t : TO3) : TO := fun σ H Q => ∃ τ G q,Rel K τ G σ H∧t τ G q∧∀ x G',q x G' → ∀ H',HR K G' H' → Kp G H G' H' → Q x H'
abbrev P3 (X : Cx) (e : Option Expr) (t : TO3) : Prop := PO X e (lO X.K t)
noncomputable def np3 : TO3 := fun _ G q => q none G
noncomputable def sp3 (t : TE3) : TO3 := fun τ G q => t τ G fun x G1 => match x with | .int i => q (some i) G1 | _ => False
theorem po_w {X : Cx} {e : Option Expr} {t t' : TO} (h : PO X e t) (w : ∀ σ H Q,t' σ H Q → t σ H Q) : PO X e t' := fun pins s σ H Q I q => h pins s σ H Q I (w σ H Q q)
theorem p_some (h : E3 X e te) : P3 X (some e) (sp3 te) := po_w (po_some h) fun _ _ _ ⟨τ,G,q,rl,h,af⟩ => lE_seq rl h fun x G1 h1 v H1 rx hr1 k1 rl1 => by
 cases x <;> try exact h1.elim
 cases rx
 exact ⟨_,rfl,af _ G1 h1 H1 hr1 k1⟩
noncomputable def sl3 : T → Option Int → Option Int → Gp → Q3 → Prop := fun x lo hi G q => match x with
 | .tup xs => ¬ (HT.sIx xs.length 0 lo = 0∧HT.sIx xs.length xs.length hi = xs.length)∧q (.tup (cut3 xs lo hi)) G
 | .ref p => (match getL G p with | some xs => ∀ a,G a = none → q (.ref a) (gu G a (.lst (cut3 xs lo hi))) | none => False)
 | _ => False
noncomputable def tsl3 (te : TE3) (tl th : TO3) : TE3 := fun τ G q => te τ G fun x G1 => tl τ G1 fun l G2 => th τ G2 fun u G3 => sl3 x l u G3 q
theorem e_slice {lo hi : Option Expr} {tl th : TO3} {p2 : Pos} (he : E3 X e te) (hl : P3 X lo tl) (hu : P3 X hi th) : E3 X (.Subscript e (.Slice lo hi none p2) pos) (tsl3 te tl th) :=
 pe_w (pe_slice (sl_tup.or sl_list) he hl hu) fun _ _ _ ⟨τ,G,q,rl,h,af⟩ => lE_seq rl h fun x G1 h1 v H1 rx hr1 k1 rl1 =>
  ⟨τ,G1,_,rl1,h1,fun l G2 h2 H2 hr2 k2 => ⟨τ,G2,_,rl1.next hr2 k2,h2,fun u G3 h3 H3 hr3 k3 => by
   have kk := (k1.trans k2).trans k3
   have rx3 := (rx.keep hr1 k2).keep hr2 k3
   cases x <;> try exact h3.elim
   case tup xs =>
    cases rx3 with
    | tup hs rs =>
     refine .inl ⟨_,_,rfl,hs,by rw [← rs.length];exact h3.1,fun p hp => ?_⟩
     exact af _ G3 h3.2 _ _ (.tup (SqT.of upd_same) ((rs.cut _ _).keep hr3 (Kp.laid hp))) (hr3.laid hp) (kk.trans (Kp.laid hp))
   case ref p =>
    unfold sl3 at h3
    simp only at h3
    split at h3
    ·rename_i xs e0
     cases rx3
     obtain ⟨vs,hs,rs⟩ := getL_sq hr3 e0
     refine .inr ⟨p,vs,rfl,hs,fun a ha => ?_⟩
     exact af _ _ (h3 a (hr3.free ha)) _ _ (.ref a) (hr3.newL ha (rs.cut _ _)) (kk.trans (Kp.newL ha))
    ·exact h3.elim⟩⟩
theorem rps_nil {K : PySem.W.Frag} {H : Hp} {xs : List T} {vs : List V} (r : Rps K H xs vs) : vs = [] ↔ xs = [] := by
 cases r <;> simp
noncomputable def cat3 : R3 := fun x y G q => match x,y with
 | .tup xs,.tup ys => xs ≠ []∧xs.length + ys.length ≤ sizeLine∧q (.tup (xs ++ ys)) G
 | .ref a,.ref b => (match G a,G b with | some (.lst xs),some (.lst ys) => xs.length + ys.length ≤ sizeLine∧∀ p,G p = none → q (.ref p) (gu G p (.lst (xs ++ ys))) | _,_ => False)
 | .int i,.int j => q (.int (i + j)) G
 | _,_ => False
theorem ref_cat {K : PySem.W.Frag} : Ref2 K cat3 (fun x y H Q => (rI0 (fun i j => .int (i + j)) x y H Q ∨ rCatT K x y H Q) ∨ rCat x y H Q) := fun x y v u G H q Q hr rx ry h af => by
 cases x <;> try exact h.elim
 case int i =>
  cases y <;> try exact h.elim
  cases rx;cases ry
  exact .inl (.inl ⟨_,_,rfl,rfl,af _ G h _ H (.int _) hr Kp.refl⟩)
 case tup xs =>
  cases y <;> try exact h.elim
  case tup ys =>
   obtain ⟨h1,h2,h3⟩ := h
   cases rx with
   | tup hs rs =>
    cases ry with
    | tup hs' rs' =>
     refine .inl (.inr ⟨_,_,_,_,rfl,rfl,hs,hs',fun z => h1 ((rps_nil rs).mp z),by rw [← rs.length,← rs'.length];exact h2,fun z => ?_,fun z p hp => ?_⟩)
     ·have e := (rps_nil rs').mp z
      subst e
      rw [List.append_nil] at h3
      exact af _ G h3 _ H (.tup hs rs) hr Kp.refl
     ·exact af _ G h3 _ _ (.tup (SqT.of upd_same) ((rs.append rs').keep hr (Kp.laid hp))) (hr.laid hp) (Kp.laid hp)
 case ref a =>
  cases y <;> try exact h.elim
  case ref b =>
   unfold cat3 at h
   simp only at h
   split at h
   ·rename_i xs ys e1 e2
    cases rx;cases ry
    obtain ⟨vs,g1,r1⟩ := hr.lst e1
    obtain ⟨us,g2,r2⟩ := hr.lst e2
    refine .inr ⟨a,b,vs,us,rfl,rfl,g1,g2,by rw [← r1.length,← r2.length];exact h.1,fun p hp => ?_⟩
    exact af _ _ (h.2 p (hr.free hp)) _ _ (.ref p) (hr.newL hp (r1.append r2)) (Kp.newL hp)
   ·exact h.elim
theorem e_plus (ha : E3 X a ta) (hb : E3 X b tb) : E3 X (.BinOp a .Add b pos) (o3 cat3 ta tb) := e_op ((op_add.or op_catT).or op_cat) ref_cat ha hb
noncomputable def flatT : T → Bool
 | .non => true | .bl _ => true | .int _ => true | .str _ => true | _ => false
noncomputable def eqF : T → T → Bool
 | .non,.non => true
 | .bl a,.bl b => a == b
 | .bl a,.int b => (if a then 1 else 0) == b
 | .int a,.bl b => a == (if b then 1 else 0)
 | .int a,.int b => a == b
 | .str a,.str b => a == b
 | _,_ => false
theorem flat_ok {K : PySem.W.Frag} {H : Hp} {x : T} {v : V} (r : Rp K H x v) (h : flatT x = true) : flatV v = true := by
 cases r <;> first | rfl | (cases h)
theorem flats_ok {K : PySem.W.Frag} {H : Hp} : ∀ {x : List T} {v : List V},Rps K H x v → x.all flatT = true → v.all flatV = true
 | _,_,.nil,_ => rfl
 | _,_,.cons a b,h => by
  rw [List.all_cons,Bool.and_eq_true] at h ⊢
  exact ⟨flat_ok a h.1,flats_ok b h.2⟩
theorem eqF_ok {K : PySem.W.Frag} {H : Hp} {x y : T} {v u : V} (r : Rp K H x v) (s : Rp K H y u) (h : flatT x = true) (h' : flatT y = true) : eqV v u = eqF x y := by
 cases r <;> first | (cases h;done) | (cases s <;> first | rfl | (cases h';done))
theorem inF_ok {K : PySem.W.Frag} {H : Hp} {x : T} {v : V} (r : Rp K H x v) (h : flatT x = true) : ∀ {ys : List T} {us : List V},Rps K H ys us → ys.all flatT = true → inV v us = ys.any fun y => eqF y x
 | _,_,.nil,_ => rfl
 | _,_,.cons a b,h' => by
  rw [List.all_cons,Bool.and_eq_true] at h'
  unfold inV
  rw [List.any_cons,List.any_cons,eqF_ok a r h'.1 h]
  congr 1
  exact inF_ok r h b h'.2
noncomputable def in3 (neg : Bool) : R3 := fun x y G q => flatT x = true∧match y with
 | .tup ys => ys.all flatT = true∧q (.bl (if neg then !(ys.any fun y => eqF y x) else (ys.any fun y => eqF y x))) G
 | .ref p => (match getL G p with | some ys => ys.all flatT = true∧q (.bl (if neg then !(ys.any fun y => eqF y x) else (ys.any fun y => eqF y x))) G | none => False)
 | _ => False
theorem ref_in {K : PySem.W.Frag} {neg : Bool} : Ref2 K (in3 neg) (rIn K neg) := fun x y v u G H q Q hr rx ry h af => by
 obtain ⟨hf,h⟩ := h
 cases y <;> try exact h.elim
 case tup ys =>
  cases ry with
  | tup hs rs =>
   refine ⟨_,_,rfl,.inr hs,flat_ok rx hf,flats_ok rs h.1,?_⟩
   rw [inF_ok rx hf rs h.1]
   exact af _ G h.2 _ H (.bl _) hr Kp.refl
 case ref p =>
  simp only at h
  split at h
  ·rename_i ys e
   cases ry
   obtain ⟨us,hs,rs⟩ := getL_sq hr e
   refine ⟨_,_,rfl,.inl hs,flat_ok rx hf,flats_ok rs h.1,?_⟩
   rw [inF_ok rx hf rs h.1]
   exact af _ G h.2 _ H (.bl _) hr Kp.refl
  ·exact h.elim
noncomputable def len3 : List T → Gp → Q3 → Prop := fun xs G q => match xs with
 | [.tup ys] => q (.int ys.length) G
 | [.str y] => y.length ≤ sizeLine∧q (.int y.length) G
 | [.ref p] => (match getL G p with | some ys => q (.int ys.length) G | none => False)
 | _ => False
theorem rps1 {K : PySem.W.Frag} {H : Hp} {x : T} {vs : List V} (r : Rps K H [x] vs) : ∃ v,vs = [v]∧Rp K H x v := by
 cases r with
 | cons a b => cases b;exact ⟨_,rfl,a⟩
theorem rps2 {K : PySem.W.Frag} {H : Hp} {x y : T} {vs : List V} (r : Rps K H [x,y] vs) : ∃ v u,vs = [v,u]∧Rp K H x v∧Rp K H y u := by
 cases r with
 | cons a b => cases b with | cons c d => cases d;exact ⟨_,_,rfl,a,c⟩
theorem ref_len {K : PySem.W.Frag} : RefC K len3 (fun xs H Q => ∃ x n,xs = [x]∧LenV K x H n∧Q (.int n) H) := fun xs vs G H q Q hr rs h af => by
 unfold len3 at h
 split at h
 ·obtain ⟨v,rfl,r⟩ := rps1 rs
  cases r with
  | tup hs r2 => exact ⟨_,_,rfl,.inr ⟨_,hs,rfl⟩,by rw [← r2.length];exact af _ G h _ H (.int _) hr Kp.refl⟩
 ·obtain ⟨v,rfl,r⟩ := rps1 rs
  cases r
  exact ⟨_,_,rfl,⟨h.1,rfl⟩,af _ G h.2 _ H (.int _) hr Kp.refl⟩
 ·obtain ⟨v,rfl,r⟩ := rps1 rs
  split at h
  ·rename_i ys e
   cases r
   obtain ⟨us,hs,r2⟩ := getL_sq hr e
   exact ⟨_,_,rfl,.inl ⟨_,hs,rfl⟩,by rw [← r2.length];exact af _ G h _ H (.int _) hr Kp.refl⟩
  ·exact h.elim
 ·exact h.elim
noncomputable def abs3 : List T → Gp → Q3 → Prop := fun xs G q => match xs with | [.int i] => q (.int (if i < 0 then -i else i)) G | _ => False
theorem ref_abs {K : PySem.W.Frag} : RefC K abs3 (fun xs H Q => ∃ i,xs = [.int i]∧Q (.int (if i < 0 then -i else i)) H) := fun xs vs G H q Q hr rs h af => by
 unfold abs3 at h
 split at h
 ·obtain ⟨v,rfl,r⟩ := rps1 rs
  cases r
  exact ⟨_,rfl,af _ G h _ H (.int _) hr Kp.refl⟩
 ·exact h.elim
noncomputable def min3 : List T → Gp → Q3 → Prop := fun xs G q => match xs with | [.int i,.int j] => q (.int (if j < i then j else i)) G | _ => False
theorem ref_min {K : PySem.W.Frag} : RefC K min3 (fun xs H Q => ∃ i j,xs = [.int i,.int j]∧Q (.int (if j < i then j else i)) H) := fun xs vs G H q Q hr rs h af => by
 unfold min3 at h
 split at h
 ·obtain ⟨v,u,rfl,r,r'⟩ := rps2 rs
  cases r;cases r'
  exact ⟨_,_,rfl,af _ G h _ H (.int _) hr Kp.refl⟩
 ·exact h.elim
noncomputable def max3 : List T → Gp → Q3 → Prop := fun xs G q => match xs with | [.int i,.int j] => q (.int (if j > i then j else i)) G | _ => False
noncomputable def int3 : List T → Gp → Q3 → Prop := fun xs G q => match xs with | [.int i] => q (.int i) G | [.bl k] => q (.int (if k then 1 else 0)) G | _ => False
theorem ref_int {K : PySem.W.Frag} : RefC K int3 (fun xs H Q => (∃ i,xs = [.int i]∧Q (.int i) H) ∨ ∃ k,xs = [.bl k]∧Q (.int (if k then 1 else 0)) H) := fun xs vs G H q Q hr rs h af => by
 unfold int3 at h
 split at h
 ·obtain ⟨v,rfl,r⟩ := rps1 rs
  cases r
  exact .inl ⟨_,rfl,af _ G h _ H (.int _) hr Kp.refl⟩
 ·obtain ⟨v,rfl,r⟩ := rps1 rs
  cases r
  exact .inr ⟨_,rfl,af _ G h _ H (.int _) hr Kp.refl⟩
 ·exact h.elim
noncomputable def tuple3 : List T → Gp → Q3 → Prop := fun xs G q => match xs with
 | [.tup ys] => q (.tup ys) G
 | [.ref p] => (match getL G p with | some ys => q (.tup ys) G | none => False)
 | _ => False
theorem ref_tuple {K : PySem.W.Frag} : RefC K tuple3 (fun xs H Q => ∃ p ys,xs = [.ref p]∧((SqL K H p ys∧∀ l,H l = none → Q (.ref l) (upd H l (.tup ys))) ∨ (SqT K H p ys∧Q (.ref p) H))) := fun xs vs G H q Q hr rs h af => by
 unfold tuple3 at h
 split at h
 ·obtain ⟨v,rfl,r⟩ := rps1 rs
  cases r with
  | tup hs r2 => exact ⟨_,_,rfl,.inr ⟨hs,af _ G h _ H (.tup hs r2) hr Kp.refl⟩⟩
 ·obtain ⟨v,rfl,r⟩ := rps1 rs
  split at h
  ·rename_i ys e
   cases r
   obtain ⟨us,hs,r2⟩ := getL_sq hr e
   exact ⟨_,_,rfl,.inl ⟨hs,fun l hl => af _ G h _ _ (.tup (SqT.of upd_same) (r2.keep hr (Kp.laid hl))) (hr.laid hl) (Kp.laid hl)⟩⟩
  ·exact h.elim
 ·exact h.elim
noncomputable def list3 : List T → Gp → Q3 → Prop := fun xs G q => match xs with
 | [.tup ys] => ∀ p,G p = none → q (.ref p) (gu G p (.lst ys))
 | [.ref p] => (match getL G p with | some ys => ∀ p,G p = none → q (.ref p) (gu G p (.lst ys)) | none => False)
 | _ => False
theorem ref_list {K : PySem.W.Frag} : RefC K list3 (fun xs H Q => ∃ p ys,xs = [.ref p]∧(SqL K H p ys ∨ SqT K H p ys)∧∀ l,H l = none → Q (.ref l) (upd H l (.lst ys))) := fun xs vs G H q Q hr rs h af => by
 unfold list3 at h
 split at h
 ·obtain ⟨v,rfl,r⟩ := rps1 rs
  cases r with
  | tup hs r2 => exact ⟨_,_,rfl,.inr hs,fun l hl => af _ _ (h l (hr.free hl)) _ _ (.ref l) (hr.newL hl r2) (Kp.newL hl)⟩
 ·obtain ⟨v,rfl,r⟩ := rps1 rs
  split at h
  ·rename_i ys e
   cases r
   obtain ⟨us,hs,r2⟩ := getL_sq hr e
   exact ⟨_,_,rfl,.inl hs,fun l hl => af _ _ (h l (hr.free hl)) _ _ (.ref l) (hr.newL hl r2) (Kp.newL hl)⟩
  ·exact h.elim
 ·exact h.elim
noncomputable def ext3 : T → List T → Gp → Q3 → Prop := fun x xs G q => match x,xs with
 | .ref l,[.ref b] => (match G l,G b with | some (.lst ys),some (.lst zs) => ys.length + zs.length ≤ sizeLine∧q .non (gu G l (.lst (ys ++ zs))) | _,_ => False)
 | _,_ => False
noncomputable def app3 : T → List T → Gp → Q3 → Prop := fun x xs G q => match x,xs with
 | .ref l,[y] => (match G l with | some (.lst ys) => ys.length < sizeLine∧q .non (gu G l (.lst (ys ++ [y]))) | _ => False)
 | _,_ => False
def RefM (K : PySem.W.Frag) (r3 : T → List T → Gp → Q3 → Prop) (r : V → List V → Hp → VK → Prop) : Prop := ∀ x xs v vs G H q Q,HR K G H → Rp K H x v → Rps K H xs vs → r3 x xs G q → Aft K G H q Q → r v vs H Q
theorem ref_ext {K : PySem.W.Frag} : RefM K ext3 rExtend := fun x xs v vs G H q Q hr rx rs h af => by
 unfold ext3 at h
 split at h
 ·rename_i l b
  split at h
  ·rename_i ys zs e1 e2
   cases rx
   obtain ⟨u,rfl,r⟩ := rps1 rs
   cases r
   obtain ⟨vs,g1,r1⟩ := hr.lst e1
   obtain ⟨us,g2,r2⟩ := hr.lst e2
   exact ⟨l,b,vs,us,rfl,rfl,g1,g2,by rw [← r1.length,← r2.length];exact h.1,af _ _ h.2 _ _ .non (hr.wr e1 (r1.append r2)) (Kp.wr e1)⟩
  ·exact h.elim
 ·exact h.elim
theorem ref_app {K : PySem.W.Frag} : RefM K app3 rAppend := fun x xs v vs G H q Q hr rx rs h af => by
 unfold app3 at h
 split at h
 ·rename_i l y
  split at h
  ·rename_i ys e1
   cases rx
   obtain ⟨u,rfl,r⟩ := rps1 rs
   obtain ⟨vs,g1,r1⟩ := hr.lst e1
   exact ⟨l,vs,u,rfl,rfl,g1,by rw [← r1.length];exact h.1,af _ _ h.2 _ _ .non (hr.wr e1 (r1.append (.cons r .nil))) (Kp.wr e1)⟩
  ·exact h.elim
 ·exact h.elim
noncomputable def bm3 (r : T → List T → Gp → Q3 → Prop) (to : TE3) (t : TA3) : TE3 := fun τ G q => to τ G fun x G1 => (match x with | .ref p => (getL G1 p).isSome = true | _ => False)∧t τ G1 fun xs G2 => r x xs G2 q
theorem e_bm {o : Expr} {to : TE3} {name : Str} {apos cpos : Pos} {id : String} {r3 : T → List T → Gp → Q3 → Prop} {r : V → List V → Hp → VK → Prop} (slot : Slot "list" name id) (hty : typeOf (.builtin id) = pure (.type "method_descriptor")) (hm : MtR X id r) (hr : RefM X.K r3 r) (ho : E3 X o to) (ha : A3 X (e :: es) t)
  (hbase : attributeBase o name X.env (eval o X.env) = eval o X.env := by rfl)
  (hfew : ((backTo cpos (starEach (e :: es) X.env)).all (fun x => !x.1) && (backToKw cpos (keywordEach [] X.env)).all (fun x => x.1.isSome)
   && decide ((e :: es).length + ([] : List Keyword).length + (if ([] : List Keyword).isEmpty then 0 else 1) < 30)) = true := by rfl)
  (hline : (apos.endLine == cpos.line) = true := by rfl) (hs : starEach (e :: es) X.env = (false,eval e X.env) :: starEach es X.env := by rfl) (hplain : (backTo cpos (starEach es X.env)).any (·.1) = false := by rfl) :
  E3 X (.Call (.Attribute o name apos) (e :: es) [] cpos) (bm3 r3 to t) :=
 pe_w (pe_bm PySem.F.plainAttrs_list slot hty hm ho ha hbase hfew hline hs hplain) fun _ _ _ ⟨τ,G,q,rl,h,af⟩ => lE_seq rl h fun x G1 h1 v H1 rx hr1 k1 rl1 => by
  obtain ⟨hp,h1⟩ := h1
  cases x <;> try exact hp.elim
  case ref p =>
   cases rx
   have hp' : (getL G1 p).isSome = true := hp
   obtain ⟨ys,e⟩ := Option.isSome_iff_exists.mp hp'
   obtain ⟨us,hs,r2⟩ := getL_sq hr1 e
   exact ⟨.inl ⟨rfl,us,hs⟩,lA_seq rl1 h1 fun xs G2 h2 vs H2 rs hr2 k2 rl2 => hr _ xs _ vs G2 H2 q _ hr2 (.ref p) rs h2 (af.back (k1.trans k2))⟩
theorem e_append {o : Expr} {to : TE3} {apos cpos : Pos} (ho : E3 X o to) (ha : A3 X [e] t)
  (hbase : attributeBase o "append" X.env (eval o X.env) = eval o X.env := by rfl)
  (hfew : ((backTo cpos (starEach [e] X.env)).all (fun x => !x.1) && (backToKw cpos (keywordEach [] X.env)).all (fun x => x.1.isSome)
   && decide (([e] : List Expr).length + ([] : List Keyword).length + (if ([] : List Keyword).isEmpty then 0 else 1) < 30)) = true := by rfl)
  (hline : (apos.endLine == cpos.line) = true := by rfl) (hs : starEach [e] X.env = (false,eval e X.env) :: starEach [] X.env := by rfl) (hplain : (backTo cpos (starEach [] X.env)).any (·.1) = false := by rfl) :
  E3 X (.Call (.Attribute o "append" apos) [e] [] cpos) (bm3 app3 to t) := e_bm PySem.F.slot_list_append PySem.F.type_list_append mt_append ref_app ho ha hbase hfew hline hs hplain
theorem e_extend {o : Expr} {to : TE3} {apos cpos : Pos} (ho : E3 X o to) (ha : A3 X [e] t)
  (hbase : attributeBase o "extend" X.env (eval o X.env) = eval o X.env := by rfl)
  (hfew : ((backTo cpos (starEach [e] X.env)).all (fun x => !x.1) && (backToKw cpos (keywordEach [] X.env)).all (fun x => x.1.isSome)
   && decide (([e] : List Expr).length + ([] : List Keyword).length + (if ([] : List Keyword).isEmpty then 0 else 1) < 30)) = true := by rfl)
  (hline : (apos.endLine == cpos.line) = true := by rfl) (hs : starEach [e] X.env = (false,eval e X.env) :: starEach [] X.env := by rfl) (hplain : (backTo cpos (starEach [] X.env)).any (·.1) = false := by rfl) :
  E3 X (.Call (.Attribute o "extend" apos) [e] [] cpos) (bm3 ext3 to t) := e_bm PySem.F.slot_list_extend PySem.F.type_list_extend mt_extend ref_ext ho ha hbase hfew hline hs hplain
end
end L3
namespace L3
open PySem PySem.Spec PyProof.Rows L2
noncomputable def tyT (G : Gp) : T → Option String
 | .non => some "NoneType" | .bl _ => some "bool" | .int _ => some "int" | .str _ => some "str" | .tup _ => some "tuple"
 | .ref p => if (getL G p).isSome then some "list" else none
noncomputable def subT (t c : String) : Bool := t == c || (t == "bool" && c == "int")
theorem kit_ints (K : PySem.W.Frag) : ∀ t ∈ ["NoneType","bool","int","str","tuple","list"],∀ c ∈ ["bool","int","str","tuple","list"],PySem.W.kitOne K (.type t) (.type c) = some (subT t c) := by
 intro t ht c hc
 simp only [List.mem_cons,List.not_mem_nil,or_false] at ht hc
 rcases ht with rfl | rfl | rfl | rfl | rfl | rfl <;> rcases hc with rfl | rfl | rfl | rfl | rfl <;> kernel_rfl
section
variable {X : Cx} {a b c e : Expr} {es : List Expr} {ta tb tc te : TE3} {t : TA3} {pos : Pos}
def TyS (K : PySem.W.Frag) (H : Hp) (x : V) (t : String) : Prop := match x with
 | .non => t = "NoneType" | .bl _ => t = "bool" | .int _ => t = "int" | .str _ => t = "str"
 | .ref a => (t = "tuple"∧∃ vs,SqT K H a vs) ∨ (t = "list"∧∃ vs,SqL K H a vs)
 | _ => False
theorem TyS.mem {K : PySem.W.Frag} {H : Hp} {x : V} {t : String} (h : TyS K H x t) : t ∈ ["NoneType","bool","int","str","tuple","list"] := by
 cases x <;> simp [TyS] at h <;> first | (subst h;decide) | (rcases h with ⟨rfl,_⟩ | ⟨rfl,_⟩ <;> decide)
theorem TyS.kitx {pins : List (Addr × Obj)} {σ : L2.St} {H : Hp} {s : Shared} {x : V} {u : Value} {t : String} (I : Inv X pins σ H s) (rx : RelV x u) (h : TyS X.K H x t) :
  ∃ HH : Heap → Prop,PySem.W.KitX X.K u (.type t) HH∧HH s.heap∧u ≠ .builtin "__main__.__loader__#opaque" := by
 cases x with
 | non => cases (show u = Value.none from rx);cases (show t = _ from h);exact ⟨_,PySem.W.kitx_none,True.intro,fun z => nomatch z⟩
 | bl y => cases (show u = Value.bool y from rx);cases (show t = _ from h);exact ⟨_,PySem.W.kitx_bool,True.intro,fun z => nomatch z⟩
 | int i => obtain ⟨tk,q⟩ := (show ∃ t,u = Value.int i t from rx);cases q;cases (show t = _ from h);exact ⟨_,PySem.W.kitx_int,True.intro,fun z => nomatch z⟩
 | str y => obtain ⟨tk,q⟩ := (show ∃ t,u = Value.str y t from rx);cases q;cases (show t = _ from h);exact ⟨_,PySem.W.kitx_str,True.intro,fun z => nomatch z⟩
 | ref a =>
  cases (show u = Value.ref a from rx)
  rcases (show (t = "tuple"∧∃ vs,SqT X.K H a vs) ∨ (t = "list"∧∃ vs,SqL X.K H a vs) from h) with ⟨rfl,vs,hs⟩ | ⟨rfl,vs,hs⟩
  ·obtain ⟨its,_,p,_⟩ := I.tuple hs
   obtain ⟨o,h1,h2,_⟩ := p
   exact ⟨_,PySem.W.kitx_tuple,⟨o,h1,h2⟩,fun z => nomatch z⟩
  ·obtain ⟨its,_,p,_⟩ := I.list hs
   obtain ⟨o,n,h1,h2,_⟩ := p
   exact ⟨_,PySem.W.kitx_list,⟨o,h1,h2⟩,fun z => nomatch z⟩
 | _ => exact False.elim h
noncomputable abbrev tyNames : List String := ["bool","int","str","tuple","list"]
theorem call_isi : CallR X (.builtin "isinstance") (fun xs H Q => ∃ x t c,xs = [x,.ty c]∧TyS X.K H x t∧c ∈ tyNames∧Q (.bl (subT t c)) H) := by
 intro pins s σ H xs us Q I r h
 obtain ⟨x,t,c,rfl,ht,hc,q⟩ := h
 obtain ⟨u,w,rfl,rx,rc⟩ := vals2 r
 cases (show w = Value.type c from rc)
 obtain ⟨HH,kx,hh,ne⟩ := ht.kitx I rx
 exact PySem.W.kia_one kx I.kIn hh (kit_ints X.K t ht.mem c hc) ne fun tk => ⟨.bl _,H,I.tok tk,rfl,q⟩
theorem kit_any2 (K : PySem.W.Frag) {t c d : String} (ht : t ∈ ["NoneType","bool","int","str","tuple","list"]) (hc : c ∈ tyNames) (hd : d ∈ tyNames) : PySem.W.kitAny K (.type t) [.type c,.type d] = some (subT t c || subT t d) := by
 unfold PySem.W.kitAny
 rw [kit_ints K t ht c hc]
 cases subT t c with
 | true => rfl
 | false =>
  show PySem.W.kitAny K (.type t) [.type d] = _
  unfold PySem.W.kitAny
  rw [kit_ints K t ht d hd]
  cases subT t d <;> rfl
theorem call_isi2 : CallR X (.builtin "isinstance") (fun xs H Q => ∃ x t c d p,xs = [x,.ref p]∧H p = some (.tup [.ty c,.ty d])∧TyS X.K H x t∧c ∈ tyNames∧d ∈ tyNames∧Q (.bl (subT t c || subT t d)) H) := by
 intro pins s σ H xs us Q I r h
 obtain ⟨x,t,c,d,p,rfl,hp,ht,hc,hd,q⟩ := h
 obtain ⟨u,w,rfl,rx,rc⟩ := vals2 r
 cases (show w = Value.ref p from rc)
 obtain ⟨HH,kx,hh,ne⟩ := ht.kitx I rx
 obtain ⟨_,its,rv,⟨o,ho,hcl,n,hda⟩⟩ := (show ObjOk X.prog X.w H s.heap p (.tup [.ty c,.ty d]) from I.hok p _ hp)
 obtain ⟨u1,u2,rfl,r1,r2⟩ := vals2 rv
 cases (show u1 = Value.type c from r1)
 cases (show u2 = Value.type d from r2)
 obtain ⟨cl,dd,da,sl⟩ := o
 cases (show cl = _ from hcl)
 cases (show da = _ from hda)
 exact PySem.W.kia_tup kx I.kIn hh ho (kit_any2 X.K ht.mem hc hd) ne fun tk => ⟨.bl _,H,I.tok tk,rfl,q⟩
theorem tyT_ok {K : PySem.W.Frag} {G : Gp} {H : Hp} (hr : HR K G H) {x : T} {v : V} {t : String} (r : Rp K H x v) (h : tyT G x = some t) : TyS K H v t := by
 cases r with
 | non => cases h;rfl
 | bl _ => cases h;rfl
 | int _ => cases h;rfl
 | str _ => cases h;rfl
 | tup hs rs => cases h;exact .inl ⟨rfl,_,hs⟩
 | ref a =>
  have h : (if (getL G a).isSome then some "list" else none) = some t := h
  split at h
  ·rename_i e
   cases h
   obtain ⟨ys,e⟩ := Option.isSome_iff_exists.mp e
   obtain ⟨us,hs,_⟩ := getL_sq hr e
   exact .inr ⟨rfl,us,hs⟩
  ·cases h
noncomputable def isi3 (f : String → Bool) (te : TE3) : TE3 := fun τ G q => te τ G fun x G1 => match tyT G1 x with | some t => q (.bl (f t)) G1 | none => False
theorem e_isi {tn : Str} {ty : String} {p p2 : Pos} (he : E3 X e te) (hg : Gl X "isinstance") (hm : X.mg "isinstance" = none) (hg2 : Gl X tn) (hm2 : X.mg tn = none) (hv : bootBuiltins tn = some (.type ty)) (hmem : ty ∈ tyNames := by decide) (hn : tn ≠ "__name__" := by decide) (hdb : (tn == ("__debug__" : Str)) = false := by decide)
  (hs : starEach [e,.Name tn p2] X.env = (false,eval e X.env) :: starEach [.Name tn p2] X.env := by rfl) (hs2 : starEach [.Name tn p2] X.env = (false,eval (.Name tn p2) X.env) :: starEach [] X.env := by rfl) (hpl : (backTo pos (starEach [.Name tn p2] X.env)).any (·.1) = false := by rfl) :
  E3 X (.Call (.Name "isinstance" p) [e,.Name tn p2] [] pos) (isi3 (fun t => subT t ty) te) :=
 pe_w (pe_callB call_isi hg hm PyProof.Rows.boot_isinstance (pa_cons he (pa_cons (pe_bltn (v := .ty ty) hg2 hm2 hv rfl hn hdb) pa_nil hs2) hs) (by decide) (by decide) hs hpl)
  fun _ _ _ ⟨τ,G,q,rl,h,af⟩ => lE_seq rl h fun x G1 h1 v H1 rx hr1 k1 rl1 => by
   split at h1
   ·rename_i t e1
    exact ⟨_,t,ty,rfl,tyT_ok hr1 rx e1,hmem,af _ G1 h1 _ H1 (.bl _) hr1 k1⟩
   ·exact h1.elim
theorem e_isi2 {tn tn' : Str} {ty ty' : String} {p p2 p3 p4 : Pos} {x1} (he : E3 X e te) (hg : Gl X "isinstance") (hm : X.mg "isinstance" = none) (hg2 : Gl X tn) (hm2 : X.mg tn = none) (hv : bootBuiltins tn = some (.type ty)) (hg3 : Gl X tn') (hm3 : X.mg tn' = none) (hv3 : bootBuiltins tn' = some (.type ty'))
  (hmem : ty ∈ tyNames := by decide) (hn : tn ≠ "__name__" := by decide) (hdb : (tn == ("__debug__" : Str)) = false := by decide) (hmem3 : ty' ∈ tyNames := by decide) (hn3 : tn' ≠ "__name__" := by decide) (hdb3 : (tn' == ("__debug__" : Str)) = false := by decide)
  (hs : starEach [e,.Tuple [.Name tn p2,.Name tn' p3] x1 p4] X.env = (false,eval e X.env) :: starEach [.Tuple [.Name tn p2,.Name tn' p3] x1 p4] X.env := by rfl) (hs2 : starEach [.Tuple [.Name tn p2,.Name tn' p3] x1 p4] X.env = (false,eval (.Tuple [.Name tn p2,.Name tn' p3] x1 p4) X.env) :: starEach [] X.env := by rfl)
  (hs3 : starEach [.Name tn p2,.Name tn' p3] X.env = (false,eval (.Name tn p2) X.env) :: starEach [.Name tn' p3] X.env := by rfl) (hs4 : starEach [.Name tn' p3] X.env = (false,eval (.Name tn' p3) X.env) :: starEach [] X.env := by rfl)
  (hpl : (backTo pos (starEach [.Tuple [.Name tn p2,.Name tn' p3] x1 p4] X.env)).any (·.1) = false := by rfl) :
  E3 X (.Call (.Name "isinstance" p) [e,.Tuple [.Name tn p2,.Name tn' p3] x1 p4] [] pos) (isi3 (fun t => subT t ty || subT t ty') te) :=
 pe_w (pe_callB call_isi2 hg hm PyProof.Rows.boot_isinstance (pa_cons he (pa_cons (pe_tup (pa_cons (pe_bltn (v := .ty ty) hg2 hm2 hv rfl hn hdb) (pa_cons (pe_bltn (v := .ty ty') hg3 hm3 hv3 rfl hn3 hdb3) pa_nil hs4) hs3)) pa_nil hs2) hs) (by decide) (by decide) hs hpl)
  fun _ _ _ ⟨τ,G,q,rl,h,af⟩ => lE_seq rl h fun x G1 h1 v H1 rx hr1 k1 rl1 => by
   refine ⟨by show 2 ≤ sizeLine;decide,fun pp hp => ?_⟩
   split at h1
   ·rename_i t e1
    have hr2 := hr1.laid (ho := .tup [.ty ty,.ty ty']) hp
    have kk : Kp G1 H1 G1 (upd H1 pp (.tup [.ty ty,.ty ty'])) := Kp.laid hp
    exact ⟨_,t,ty,ty',pp,rfl,upd_same,tyT_ok hr2 (rx.keep hr1 kk) e1,hmem,hmem3,af _ G1 h1 _ _ (.bl _) hr2 (k1.trans kk)⟩
   ·exact h1.elim
structure Ends3 where
 nx : St3 → Gp → Prop
 rt : Q3
 bk : St3 → Gp → Prop := fun _ _ => False
 ct : St3 → Gp → Prop := fun _ _ => False
noncomputable abbrev TS3 := Ends3 → St3 → Gp → Prop
def AftS (K : PySem.W.Frag) (G : Gp) (H : Hp) (q : St3 → Gp → Prop) (Q : L2.St → Hp → Prop) : Prop := ∀ τ G',q τ G' → ∀ σ H',Rel K τ G' σ H' → Kp G H G' H' → Q σ H'
structure AftD (K : PySem.W.Frag) (G : Gp) (H : Hp) (d : Ends3) (D : Ends) : Prop where
 nx : AftS K G H d.nx D.nx
 rt : Aft K G H d.rt D.rt
 bk : AftS K G H d.bk D.bk
 ct : AftS K G H d.ct D.ct
theorem AftS.back {K : PySem.W.Frag} {G G1 : Gp} {H H1 : Hp} {q : St3 → Gp → Prop} {Q : L2.St → Hp → Prop} (a : AftS K G H q Q) (k : Kp G H G1 H1) : AftS K G1 H1 q Q := fun x G' h v H' r k' => a x G' h v H' r (k.trans k')
theorem AftD.back {K : PySem.W.Frag} {G G1 : Gp} {H H1 : Hp} {d : Ends3} {D : Ends} (a : AftD K G H d D) (k : Kp G H G1 H1) : AftD K G1 H1 d D := ⟨a.nx.back k,a.rt.back k,a.bk.back k,a.ct.back k⟩
noncomputable def lS (K : PySem.W.Frag) (t : TS3) : TS := fun D σ H => ∃ τ G d,Rel K τ G σ H∧t d τ G∧AftD K G H d D
abbrev S3 (X : Cx) (st : Stmt) (t : TS3) : Prop := PS X st (lS X.K t)
abbrev B3 (X : Cx) (st : List Stmt) (t : TS3) : Prop := PSs X st (lS X.K t)
theorem ps_w {X : Cx} {st : Stmt} {t t' : TS} (h : PS X st t) (w : ∀ D σ H,t' D σ H → t D σ H) : PS X st t' := fun pins s σ H D I q => h pins s σ H D I (w D σ H q)
theorem pss_w {X : Cx} {st : List Stmt} {t t' : TS} (h : PSs X st t) (w : ∀ D σ H,t' D σ H → t D σ H) : PSs X st t' := fun pins s σ H D I q => h pins s σ H D I (w D σ H q)
variable {st : Stmt} {rest : List Stmt} {t1 t2 : TS3} {tA : TT3}
noncomputable def next3 : TS3 := fun d τ G => d.nx τ G
noncomputable def seq3 (t u : TS3) : TS3 := fun d τ G => t { d with nx := u d } τ G
theorem b_nil : B3 X [] next3 := pss_w pss_nil fun _ σ H ⟨τ,G,d,rl,h,af⟩ => af.nx τ G h σ H rl Kp.refl
theorem b_cons (h1 : S3 X st t1) (h2 : B3 X rest t2) : B3 X (st :: rest) (seq3 t1 t2) := pss_w (pss_cons h1 h2) fun D σ H ⟨τ,G,d,rl,h,af⟩ =>
 ⟨τ,G,{ d with nx := t2 d },rl,h,⟨fun τ' G' h' σ' H' rl' k' => ⟨τ',G',d,rl',h',af.back k'⟩,af.rt,af.bk,af.ct⟩⟩
theorem b_one (h1 : S3 X st t1) : B3 X [st] t1 := pss_one h1
noncomputable def drop3 (te : TE3) : TS3 := fun d τ G => te τ G fun _ G1 => d.nx τ G1
theorem s_expr (he : E3 X e te) (hs : swapsWith e none pos.line X.env = pure false := by rfl) : S3 X (.Expr e pos) (drop3 te) := ps_w (ps_expr he hs) fun _ σ H ⟨τ,G,d,rl,h,af⟩ =>
 lE_seq rl h fun x G1 h1 v H1 rx hr1 k1 rl1 => af.nx τ G1 h1 σ H1 rl1 k1
noncomputable def ret3 (te : TE3) : TS3 := fun d τ G => te τ G d.rt
theorem s_ret (he : E3 X e te) : S3 X (.Return (some e) pos) (ret3 te) := ps_w (ps_ret he) fun _ σ H ⟨τ,G,d,rl,h,af⟩ => ⟨τ,G,d.rt,rl,h,af.rt⟩
noncomputable def retN3 : TS3 := fun d _ G => d.rt .non G
noncomputable def ifS3 (c : TT3) (t u : TS3) : TS3 := fun d τ G => c τ G fun k G1 => if k = true then t d τ G1 else u d τ G1
theorem s_if {c : Expr} {ba bb : List Stmt} (hc : C3 X c tA) (ha : B3 X ba t1) (hb : B3 X bb t2) : S3 X (.If c ba bb pos) (ifS3 tA t1 t2) := ps_w (ps_if hc ha hb) fun _ σ H ⟨τ,G,d,rl,h,af⟩ =>
 lT_seq rl h fun k G1 h1 H1 hr1 k1 rl1 => by
  cases k with
  | true => rw [if_pos rfl] at h1 ⊢;exact ⟨τ,G1,d,rl1,h1,af.back k1⟩
  | false => rw [if_neg Bool.false_ne_true] at h1 ⊢;exact ⟨τ,G1,d,rl1,h1,af.back k1⟩
noncomputable def nev3 : TS3 := fun _ _ _ => False
noncomputable abbrev TG3 := T → St3 → Gp → (St3 → Gp → Prop) → Prop
noncomputable abbrev TGs3 := List T → St3 → Gp → (St3 → Gp → Prop) → Prop
noncomputable def lG (K : PySem.W.Frag) (t : TG3) : TG := fun v σ H Q => ∃ x τ G q,Rp K H x v∧Rel K τ G σ H∧t x τ G q∧AftS K G H q Q
noncomputable def lGs (K : PySem.W.Frag) (t : TGs3) : TGs := fun v σ H Q => ∃ x τ G q,Rps K H x v∧Rel K τ G σ H∧t x τ G q∧AftS K G H q Q
abbrev G3 (X : Cx) (e : Expr) (t : TG3) : Prop := PG X e (lG X.K t)
abbrev Gs3 (X : Cx) (es : List Expr) (t : TGs3) : Prop := PGs X es (lGs X.K t)
theorem pg_w {X : Cx} {e : Expr} {t t' : TG} (h : PG X e t) (w : ∀ v σ H Q,t' v σ H Q → t v σ H Q) : PG X e t' := fun pins s σ H v u Q I r q => h pins s σ H v u Q I r (w v σ H Q q)
theorem pgs_w {X : Cx} {e : List Expr} {t t' : TGs} (h : PGs X e t) (w : ∀ v σ H Q,t' v σ H Q → t v σ H Q) : PGs X e t' := fun pins s σ H v u Q I r q => h pins s σ H v u Q I r (w v σ H Q q)
noncomputable def gn3 (i : Nat) : TG3 := fun x τ G q => q (τ.set i (some x)) G
theorem g_name {i : Nat} {x : Str} (hN : X.N.Nodup) (hi : X.N[i]? = some x := by rfl) (hx : Loc X.env.scope x := by first | exact Or.inl rfl | exact Or.inr rfl) (hf : X.fn x = true ∨ X.env.scope.names.lookup x = some .local := by first | exact .inl rfl | exact .inr rfl) : G3 X (.Name x pos) (gn3 i) :=
 pg_w (pg_name hN hi hx hf) fun v σ H Q ⟨x,τ,G,q,rx,rl,h,af⟩ => af _ G h _ H (rl.set i rx) Kp.refl
noncomputable def gnil3 : TGs3 := fun xs τ G q => match xs with | [] => q τ G | _ => False
noncomputable def gcons3 (t : TG3) (u : TGs3) : TGs3 := fun xs τ G q => match xs with | x :: r => t x τ G fun τ' G' => u r τ' G' q | [] => False
theorem g_nil : Gs3 X [] gnil3 := pgs_w pgs_nil fun v σ H Q ⟨x,τ,G,q,rx,rl,h,af⟩ => by
 cases rx with
 | nil => exact ⟨rfl,af _ G h _ H rl Kp.refl⟩
 | cons _ _ => exact h.elim
theorem g_cons {tg : TG3} {tgs : TGs3} (h1 : G3 X e tg) (h2 : Gs3 X es tgs) (hs : (assignEach (e :: es) X.env).map (·.2) = assign e X.env :: (assignEach es X.env).map (·.2) := by rfl) : Gs3 X (e :: es) (gcons3 tg tgs) := pgs_w (pgs_cons h1 h2 hs) fun v σ H Q ⟨x,τ,G,q,rx,rl,h,af⟩ => by
 cases rx with
 | nil => exact h.elim
 | cons r rs => exact ⟨_,_,rfl,_,τ,G,_,r,rl,h,fun τ' G' h' σ' H' rl' k' => ⟨_,τ',G',q,rs.keep rl.hp k',rl',h',af.back k'⟩⟩
noncomputable def gtup3 (n : Nat) (t : TGs3) : TG3 := fun x τ G q => match x with | .tup xs => xs.length = n∧t xs τ G q | _ => False
theorem g_tup {k : Nat} {tgs : TGs3} {n : Nat} (hc : X.calm = true) (h : Gs3 X es tgs) (hn : (assignEach es X.env).length = n := by rfl) (hst : (assignEach es X.env).findIdx? (·.1) = none := by rfl) : G3 X (.Tuple es k pos) (gtup3 n tgs) :=
 pg_w (pg_tup hc h hn hst) fun v σ H Q ⟨x,τ,G,q,rx,rl,h,af⟩ => by
  cases x <;> try exact h.elim
  case tup xs =>
   cases rx with
   | tup hs rs => exact ⟨_,_,rfl,hs,by rw [← rs.length];exact h.1,_,τ,G,q,rs,rl,h.2,af⟩
noncomputable def set3 : T → T → T → Gp → (Gp → Prop) → Prop := fun o i v G q => match o,i with
 | .ref p,.int k => (match G p with | some (.lst xs) => (match ixN xs.length k with | some j => q (gu G p (.lst (xs.set j v))) | none => False) | _ => False)
 | _,_ => False
noncomputable def gsub3 (to ti : TE3) : TG3 := fun x τ G q => to τ G fun o G1 => ti τ G1 fun i G2 => set3 o i x G2 fun G3 => q τ G3
theorem g_sub {o i : Expr} {to ti : TE3} (ho : E3 X o to) (hi : E3 X i ti) (ha : ∀ v,assign (.Subscript o i pos) X.env v = (do
      let ov ← holding [v] (eval o X.env)
      let iv ← holding [v,ov] (eval i X.env)
      standAt pos
      holding [v,ov,iv] (setItem ov iv v)
      release [v,ov,iv] []) := by intro _;rfl) : G3 X (.Subscript o i pos) (gsub3 to ti) :=
  pg_w (pg_sub ho hi set_list ha) fun v σ H Q ⟨x,τ,G,q,rx,rl,h,af⟩ => lE_seq rl h fun y G1 h1 u H1 ry hr1 k1 rl1 => lE_seq rl1 h1 fun z G2 h2 w H2 rz hr2 k2 rl2 => by
    have rx2 := (rx.keep rl.hp k1).keep hr1 k2
    have ry2 := ry.keep hr1 k2
    unfold set3 at h2
    split at h2
    · rename_i p k
      split at h2
      · rename_i xs e
        split at h2
        · rename_i j ej
          cases ry2;cases rz
          obtain ⟨vs,g1,r1⟩ := hr2.lst e
          have kk : Kp G2 H2 (gu G2 p (.lst (xs.set j x))) (upd H2 p (.lst (vs.set j v))) := Kp.wr e
          exact ⟨p,vs,k,j,rfl,rfl,g1,by rw [← r1.length];exact ej,af τ _ h2 σ _ (rl2.next (hr2.wr e (r1.set rx2 j)) kk) ((k1.trans k2).trans kk)⟩
        · exact h2.elim
      · exact h2.elim
    · exact h2.elim
noncomputable def asg3 (te : TE3) (g : TG3) : TS3 := fun d τ G => te τ G fun x G1 => g x τ G1 d.nx
theorem s_asg {tg e : Expr} {g : TG3} (he : E3 X e te) (hg : G3 X tg g) (hs : swapsWithSole [tg] e pos.line X.env = pure false := by rfl) (hw : swappedStores [tg] e X.env = pure none := by rfl)
  (h1 : (assignEach [tg] X.env).map (·.2) = [assign tg X.env] := by rfl) : S3 X (.Assign [tg] e pos) (asg3 te g) := ps_w (ps_asg he hg hs hw h1) fun _ σ H ⟨τ,G,d,rl,h,af⟩ =>
 lE_seq rl h fun x G1 h1 v H1 rx hr1 k1 rl1 => ⟨x,τ,G1,d.nx,rx,rl1,h1,af.nx.back k1⟩
theorem s_set (i : Nat) {x : Str} {e : Expr} {pos' : Pos} (hN : X.N.Nodup) (he : E3 X e te) (hi : X.N[i]? = some x := by rfl) (hx : Loc X.env.scope x := by first | exact Or.inl rfl | exact Or.inr rfl) (hs : swapsWith e (some (.Name x pos')) pos.line X.env = pure false := by rfl) (hf : X.fn x = true ∨ X.env.scope.names.lookup x = some .local := by first | exact .inl rfl | exact .inr rfl) :
  S3 X (.Assign [.Name x pos'] e pos) (asg3 te (gn3 i)) := ps_w (ps_set hN hi hx he hs hf) fun _ σ H ⟨τ,G,d,rl,h,af⟩ =>
 lE_seq rl h fun x G1 h1 v H1 rx hr1 k1 rl1 => af.nx _ G1 h1 _ H1 (rl1.set i rx) k1
noncomputable def par3 (i j : Nat) (ta : TA3) : TS3 := fun d τ G => ta τ G fun xs G1 => match xs with | [x,y] => d.nx ((τ.set i (some x)).set j (some y)) G1 | _ => False
theorem s_par {i j : Nat} {x y : Str} {a b : Expr} {tt : TA3} {px py pt : Pos} {kt k2 pt2} (hc : X.calm = true) (hN : X.N.Nodup) (hi : X.N[i]? = some x) (hj : X.N[j]? = some y) (hij : i ≠ j)
  (hx : X.env.scope.names.lookup x = some .local) (hy : X.env.scope.names.lookup y = some .local) (ha : A3 X [a,b] tt)
  (hw : swappedStores [.Tuple [.Name x px,.Name y py] kt pt] (.Tuple [a,b] k2 pt2) X.env = pure (some [x,y]) := by rfl)
  (hs : swapsWithSole [.Tuple [.Name x px,.Name y py] kt pt] (.Tuple [a,b] k2 pt2) pos.line X.env = pure false := by rfl) :
  S3 X (.Assign [.Tuple [.Name x px,.Name y py] kt pt] (.Tuple [a,b] k2 pt2) pos) (par3 i j tt) := ps_w (ps_par hc hN hi hj hij hx hy ha hw hs) fun _ σ H ⟨τ,G,d,rl,h,af⟩ =>
 lA_seq rl h fun xs G1 h1 vs H1 rs hr1 k1 rl1 => by
  split at h1
  ·obtain ⟨v,u,rfl,r,r'⟩ := rps2 rs
   exact ⟨v,u,rfl,af.nx _ G1 h1 _ H1 ((rl1.set i r).set j r') k1⟩
  ·exact h1.elim
end
end L3
namespace L3
open PySem PySem.Spec PyProof.Rows L2
noncomputable abbrev TI3 := St3 → Gp → (List T → (Gp → Prop) → Gp → Prop) → Prop
def ItOk (K : PySem.W.Frag) (J : It) (items : List T) (stay : Gp → Prop) (G0 : Gp) (H0 : Hp) : Prop := ∀ G H,HR K G H → Kp G0 H0 G H → stay G →
 (∀ i x,items[i]? = some x → J.go i H)∧(∀ i x v H',items[i]? = some x → J.yld i H v H' → Rp K H' x v∧HR K G H'∧Kp G H G H')∧J.stop items.length H
noncomputable def lI (K : PySem.W.Frag) (wi : TI3) : TI := fun σ H R => ∃ τ G r,Rel K τ G σ H∧wi τ G r∧∀ items stay G',r items stay G' → ∀ J H',HR K G' H' → Kp G H G' H' → ItOk K J items stay G' H' → R J H'
abbrev I3 (X : Cx) (tg iter : Expr) (wi : TI3) : Prop := PI X tg iter (lI X.K wi)
theorem pi_w {X : Cx} {tg e : Expr} {t t' : TI} (h : PI X tg e t) (w : ∀ σ H R,t' σ H R → t σ H R) : PI X tg e t' := fun pins s σ H R I q => h pins s σ H R I (w σ H R q)
section
variable {X : Cx} {a b c e l tg : Expr} {es : List Expr} {ta tb tc te : TE3} {t : TA3} {pos : Pos}
theorem pi_seq {tl : TE} (hl : PE X l tl) : PI X tg l (fun σ H R => tl σ H fun x H1 => ∃ a,x = .ref a∧(((∃ xs,SqL X.K H1 a xs)∧R (Itl X.K a) H1) ∨ ((∃ xs,SqT X.K H1 a xs)∧R (Itt X.K a) H1))) := by
 intro pins s σ H R I h
 refine thn (hl pins s σ H _ I h) fun v s1 ⟨x,H1,I1,r1,q1⟩ => ?_
 obtain ⟨a,e,⟨⟨xs,hq⟩,q⟩ | ⟨⟨xs,hq⟩,q⟩⟩ := q1
 ·subst e
  cases r1
  obtain ⟨its,rv,p,hz⟩ := I1.list hq
  refine wpAny_pyIter_list p.isList ?_
  refine ⟨s1.heap.objs.size,[s1.heap.objs.size],_,_,H1,rfl,I1.kept (t' := s1.toks) fun b o e => Heap.get?_push_of_some _ e,turn_list a _,⟨_,Heap.get?_push_size _ rfl,rfl,rfl⟩,fun b hb => ?_,q⟩
  have e : b = s1.heap.objs.size := by simpa using hb
  subst e
  exact I1.fpOk (Nat.le_refl _) (I1.hok.fresh (Nat.le_refl _))
 ·subst e
  cases r1
  obtain ⟨its,rv,p,hz⟩ := I1.tuple hq
  refine wpAny_pyIter_tuple (show s1.heap.IsTuple a its.toArray from p) ?_
  refine ⟨s1.heap.objs.size,[s1.heap.objs.size],_,_,H1,rfl,I1.kept (t' := s1.toks) fun b o e => Heap.get?_push_of_some _ e,turn_tuple a _,⟨_,Heap.get?_push_size _ rfl,rfl,rfl⟩,fun b hb => ?_,q⟩
  have e : b = s1.heap.objs.size := by simpa using hb
  subst e
  exact I1.fpOk (Nat.le_refl _) (I1.hok.fresh (Nat.le_refl _))
noncomputable def iseq3 (tl : TE3) : TI3 := fun τ G r => tl τ G fun x G1 => match x with
 | .tup xs => r xs (fun _ => True) G1
 | .ref p => (match getL G1 p with | some xs => r xs (fun G => getL G p = some xs) G1 | none => False)
 | _ => False
theorem itl_ok {K : PySem.W.Frag} {p : Addr} {xs : List T} {G0 : Gp} {H0 : Hp} : ItOk K (Itl K p) xs (fun G => getL G p = some xs) G0 H0 := by
 intro G H hr _ hs
 obtain ⟨vs,sq,rs⟩ := getL_sq hr hs
 refine ⟨fun i x hi => ?_,fun i x v H' hi y => ?_,⟨vs,sq,by rw [rs.length];exact Nat.le_refl _⟩⟩
 ·obtain ⟨v,hv,_⟩ := rs.get hi
  exact ⟨vs,v,sq,hv⟩
 ·obtain ⟨e,y⟩ := y
  subst e
  obtain ⟨w,hw,rw'⟩ := rs.get hi
  have e2 := (y vs sq).symm.trans hw
  cases e2
  exact ⟨rw',hr,Kp.refl⟩
theorem itt_ok {K : PySem.W.Frag} {p : Addr} {xs : List T} {vs : List V} {G0 : Gp} {H0 : Hp} (hr0 : HR K G0 H0) (sq0 : SqT K H0 p vs) (rs0 : Rps K H0 xs vs) : ItOk K (Itt K p) xs (fun _ => True) G0 H0 := by
 intro G H hr k _
 have sq := sqT_keep hr0 k sq0
 have rs := rs0.keep hr0 k
 refine ⟨fun i x hi => ?_,fun i x v H' hi y => ?_,⟨vs,sq,by rw [rs.length];exact Nat.le_refl _⟩⟩
 ·obtain ⟨v,hv,_⟩ := rs.get hi
  exact ⟨vs,v,sq,hv⟩
 ·obtain ⟨e,y⟩ := y
  subst e
  obtain ⟨w,hw,rw'⟩ := rs.get hi
  have e2 := (y vs sq).symm.trans hw
  cases e2
  exact ⟨rw',hr,Kp.refl⟩
theorem i_seq (hl : E3 X l te) : I3 X tg l (iseq3 te) := pi_w (pi_seq hl) fun σ H R ⟨τ,G,r,rl,h,af⟩ => lE_seq rl h fun x G1 h1 v H1 rx hr1 k1 rl1 => by
 cases x <;> try exact h1.elim
 case tup xs =>
  cases rx with
  | tup hs rs => exact ⟨_,rfl,.inr ⟨⟨_,hs⟩,af _ _ G1 h1 _ H1 hr1 k1 (itt_ok hr1 hs rs)⟩⟩
 case ref p =>
  simp only at h1
  split at h1
  ·rename_i xs e0
   cases rx
   obtain ⟨vs,hs,rs⟩ := getL_sq hr1 e0
   exact ⟨_,rfl,.inl ⟨⟨_,hs⟩,af _ _ G1 h1 _ H1 hr1 k1 itl_ok⟩⟩
  ·exact h1.elim
noncomputable def rngT (lo : Int) (n : Nat) : List T := (List.range n).map fun (i : Nat) => T.int (lo + (i : Int))
theorem itr_ok {K : PySem.W.Frag} {lo : Int} {n : Nat} {G0 : Gp} {H0 : Hp} : ItOk K (Itr lo n) (rngT lo n) (fun _ => True) G0 H0 := by
 intro G H hr k _
 have hl : (rngT lo n).length = n := by simp [rngT]
 refine ⟨fun i x hi => ?_,fun i x v H' hi y => ?_,(show n ≤ (rngT lo n).length by rw [hl];exact Nat.le_refl n)⟩
 ·have := (List.getElem?_eq_some_iff.mp hi).1
  rw [hl] at this
  exact this
 ·obtain ⟨e,y⟩ := y
  subst e
  subst y
  have h1 := (List.getElem?_eq_some_iff.mp hi).1
  rw [hl] at h1
  unfold rngT at hi
  rw [List.getElem?_map,List.getElem?_range h1] at hi
  have e : T.int (lo + (i : Int)) = x := by simpa using hi
  subst e
  exact ⟨.int _,hr,Kp.refl⟩
noncomputable def irng3 (ta : TA3) : TI3 := fun τ G r => ta τ G fun xs G1 => match xs with
 | [.int j] => (-(2 ^ 62) ≤ j∧j < 2 ^ 62)∧r (rngT 0 j.toNat) (fun _ => True) G1
 | [.int i,.int j] => (-(2 ^ 62) ≤ i∧i < 2 ^ 62∧-(2 ^ 62) ≤ j∧j < 2 ^ 62)∧r (rngT i (j - i).toNat) (fun _ => True) G1
 | _ => False
theorem i_range1 {p : Pos} (hg : Gl X "range") (hm : X.mg "range" = none) (ha : A3 X [a] t) (hs : starEach [a] X.env = [(false,eval a X.env)] := by rfl) (h1 : ∀ τ G q,t τ G q → t τ G fun xs G => q xs G∧xs.length = 1) : I3 X tg (.Call (.Name "range" p) [a] [] pos) (irng3 t) :=
 pi_w (pi_range1 hg hm ha hs) fun σ H R ⟨τ,G,r,rl,h,af⟩ => lA_seq rl (h1 _ _ _ h) fun xs G1 h1 vs H1 rs hr1 k1 rl1 => by
  obtain ⟨h1,hl⟩ := h1
  simp only at h1
  split at h1
  ·obtain ⟨v,rfl,r1⟩ := rps1 rs
   cases r1
   exact ⟨_,rfl,h1.1.1,h1.1.2,af _ _ G1 h1.2 _ H1 hr1 k1 itr_ok⟩
  ·simp at hl
  ·exact h1.elim
theorem i_range2 {p : Pos} (hg : Gl X "range") (hm : X.mg "range" = none) (ha : A3 X [a,b] t) (hs : starEach [a,b] X.env = [(false,eval a X.env),(false,eval b X.env)] := by rfl) (hs2 : starEach [b] X.env = [(false,eval b X.env)] := by rfl) (h1 : ∀ τ G q,t τ G q → t τ G fun xs G => q xs G∧xs.length = 2) : I3 X tg (.Call (.Name "range" p) [a,b] [] pos) (irng3 t) :=
 pi_w (pi_range2 hg hm ha hs hs2) fun σ H R ⟨τ,G,r,rl,h,af⟩ => lA_seq rl (h1 _ _ _ h) fun xs G1 h1 vs H1 rs hr1 k1 rl1 => by
  obtain ⟨h1,hl⟩ := h1
  simp only at h1
  split at h1
  ·simp at hl
  ·obtain ⟨v,u,rfl,r1,r2⟩ := rps2 rs
   cases r1;cases r2
   exact ⟨_,_,rfl,h1.1,af _ _ G1 h1.2 _ H1 hr1 k1 itr_ok⟩
  ·exact h1.elim
noncomputable def forGo (stay : Gp → Prop) (g : TG3) (tb : TS3) (d : Ends3) : List T → St3 → Gp → Prop
 | [],τ,G => stay G∧d.nx τ G
 | x :: r,τ,G => stay G∧g x τ G fun τ2 G2 => tb { d with nx := forGo stay g tb d r,ct := forGo stay g tb d r,bk := d.nx } τ2 G2
noncomputable def for3 (wi : TI3) (g : TG3) (tb : TS3) : TS3 := fun d τ G => wi τ G fun items stay G1 => forGo stay g tb d items τ G1
theorem s_for {iter : Expr} {body : List Stmt} {wi : TI3} {g : TG3} {tb : TS3} (hp : PassesOwn (model X.prog X.w) X.A X.env X.xe) (hc : X.calm = true) (hi : I3 X tg iter wi) (hg : G3 X tg g) (hb : B3 X body tb)
  (hs : ∀ x,foldedSetIterable iter X.env x = pure x := by intro _;rfl) : S3 X (.For tg iter body [] pos) (for3 wi g tb) :=
 ps_w (ps_for hp hc hi hg hb hs) fun D σ H ⟨τ,G,d,rl,h,af⟩ => by
  refine ⟨τ,G,_,rl,h,fun items stay G1 h1 J H1 hr1 k1 ok => ?_⟩
  refine ⟨fun i m σ' H' => m = items.length - i∧i ≤ items.length∧∃ τ' G',Rel X.K τ' G' σ' H'∧Kp G1 H1 G' H'∧forGo stay g tb d (items.drop i) τ' G',⟨_,rfl,Nat.zero_le _,τ,G1,rl.next hr1 k1,Kp.refl,by simpa using h1⟩,?_⟩
  rintro i m σ' H' ⟨rfl,hi,τ',G',rl',k',h'⟩
  by_cases hlt : i < items.length
  ·rw [List.drop_eq_getElem_cons hlt] at h'
   obtain ⟨hst,h'⟩ := h'
   obtain ⟨go,yld,_⟩ := ok G' H' rl'.hp k' hst
   have hx : items[i]? = some items[i] := List.getElem?_eq_getElem hlt
   refine .inr ⟨go i _ hx,fun σ2 H2 => ∃ τ2 G2,Rel X.K τ2 G2 σ2 H2∧Kp G1 H1 G2 H2∧forGo stay g tb d (items.drop (i + 1)) τ2 G2,fun σ2 H2 h2 => ⟨_,by omega,rfl,hlt,h2⟩,fun v H2 y => ?_⟩
   obtain ⟨rv,hr2,k2⟩ := yld i _ v H2 hx y
   have k3 : Kp G1 H1 G' H2 := k'.trans k2
   refine ⟨_,τ',G',_,rv,rl'.next hr2 k2,h',fun τ3 G3 h3 σ3 H3 rl3 k4 => ?_⟩
   have k5 : Kp G H G3 H3 := (k1.trans k3).trans k4
   refine ⟨τ3,G3,_,rl3,h3,⟨fun τ4 G4 h4 σ4 H4 rl4 k6 => ⟨τ4,G4,rl4,(k3.trans k4).trans k6,h4⟩,af.rt.back k5,af.nx.back k5,fun τ4 G4 h4 σ4 H4 rl4 k6 => ⟨τ4,G4,rl4,(k3.trans k4).trans k6,h4⟩⟩⟩
  ·have e : i = items.length := by omega
   subst e
   rw [List.drop_length] at h'
   obtain ⟨_,_,stop⟩ := ok G' H' rl'.hp k' h'.1
   exact .inl ⟨stop,af.nx τ' G' h'.2 σ' H' rl' (k1.trans k')⟩
theorem forGo_inv {stay : Gp → Prop} {g : TG3} {tb : TS3} {d : Ends3} (items : List T) (Pv : Nat → St3 → Gp → Prop) {τ : St3} {G : Gp} (h0 : Pv 0 τ G) (hst : ∀ i τ G,i ≤ items.length → Pv i τ G → stay G)
  (hs : ∀ i x τ G (nx : St3 → Gp → Prop),items[i]? = some x → Pv i τ G → (∀ τ G,Pv (i + 1) τ G → nx τ G) → g x τ G fun τ2 G2 => tb { d with nx := nx,ct := nx,bk := d.nx } τ2 G2)
  (hd : ∀ τ G,Pv items.length τ G → d.nx τ G) : forGo stay g tb d items τ G := by
 have key : ∀ (r : List T) (i : Nat) τ G,items.drop i = r → i ≤ items.length → Pv i τ G → forGo stay g tb d r τ G := by
  intro r
  induction r with
  | nil =>
   intro i τ G e hi p
   have : i = items.length := by have := congrArg List.length e;simp at this;omega
   subst this
   exact ⟨hst _ τ G hi p,hd τ G p⟩
  | cons x r ih =>
   intro i τ G e hi p
   have hl : i < items.length := by
    apply Classical.byContradiction
    intro z
    rw [List.drop_eq_nil_of_le (by omega)] at e
    cases e
   have e' := List.drop_eq_getElem_cons hl
   rw [e] at e'
   injection e' with e1 e2
   refine ⟨hst i τ G hi p,hs i x τ G _ (by rw [List.getElem?_eq_getElem hl,e1]) p fun τ2 G2 p2 => ih (i + 1) τ2 G2 e2.symm hl p2⟩
 exact key items 0 τ G (by simp) (Nat.zero_le _) h0
noncomputable def while3 (c : TT3) (tb : TS3) : TS3 := fun d τ G => ∃ W : Nat → St3 → Gp → Prop,(∃ m,W m τ G)∧∀ m τ G,W m τ G →
 c τ G fun b G1 => if b = true then ∃ N : St3 → Gp → Prop,(∀ τ' G',N τ' G' → ∃ m',m' < m∧W m' τ' G')∧tb { d with nx := N,ct := N,bk := d.nx } τ G1 else d.nx τ G1
theorem s_while {c : Expr} {body : List Stmt} {tc : TT3} {tb : TS3} (hp : PassesOwn (model X.prog X.w) X.A X.env X.xe) (hc : C3 X c tc) (hb : B3 X body tb) : S3 X (.While c body [] pos) (while3 tc tb) :=
 ps_w (ps_while hp hc hb) fun D σ H ⟨τ,G,d,rl,⟨W,⟨m0,w0⟩,turn⟩,af⟩ => by
  refine ⟨fun m σ' H' => ∃ τ' G',Rel X.K τ' G' σ' H'∧Kp G H G' H'∧W m τ' G',⟨m0,τ,G,rl,Kp.refl,w0⟩,?_⟩
  rintro m σ' H' ⟨τ',G',rl',k',w'⟩
  refine lT_seq rl' (turn m τ' G' w') fun b G1 h1 H1 hr1 k1 rl1 => ?_
  cases b with
  | true =>
   rw [if_pos rfl] at h1 ⊢
   obtain ⟨N,hN,h1⟩ := h1
   refine ⟨fun σ2 H2 => ∃ τ2 G2,Rel X.K τ2 G2 σ2 H2∧Kp G H G2 H2∧N τ2 G2,fun σ2 H2 ⟨τ2,G2,r2,k2,n2⟩ => ?_,τ',G1,_,rl1,h1,⟨fun τ2 G2 h2 σ2 H2 r2 k2 => ⟨τ2,G2,r2,(k'.trans k1).trans k2,h2⟩,af.rt.back (k'.trans k1),af.nx.back (k'.trans k1),fun τ2 G2 h2 σ2 H2 r2 k2 => ⟨τ2,G2,r2,(k'.trans k1).trans k2,h2⟩⟩⟩
   obtain ⟨m',hm,w2⟩ := hN τ2 G2 n2
   exact ⟨m',hm,τ2,G2,r2,k2,w2⟩
  | false =>
   rw [if_neg Bool.false_ne_true] at h1 ⊢
   exact af.nx τ' G1 h1 σ' H1 rl1 (k'.trans k1)
noncomputable abbrev Sp3 := List T → Gp → Q3 → Prop
noncomputable def lSp (K : PySem.W.Frag) (sp : Sp3) : Sp := fun vs H Q _ => ∃ ts G q,HR K G H∧Rps K H ts vs∧sp ts G q∧Aft K G H q Q
def Fn3 (P : Program) (w : World) (K : PySem.W.Frag) (mg : Str → Option Value) (base : Heap) (k : Nat) (x : Str) (sp : Sp3) : Prop :=
 ∃ f fd ps,FnOk P w K mg base CX0 k f fd ps (lSp K sp)∧Binds K fd ps []∧PySem.W.keepIn K (.ref f) = true∧mg x = some (.ref f)
theorem Fn3.mono {P : Program} {w : World} {K : PySem.W.Frag} {mg : Str → Option Value} {base : Heap} {j k : Nat} {x : Str} {sp : Sp3} (F : Fn3 P w K mg base j x sp) (h : j ≤ k) : Fn3 P w K mg base k x sp :=
 let ⟨f,fd,ps,a,b,c,d⟩ := F;⟨f,fd,ps,a.mono h,b,c,d⟩
theorem Fn3.imp {P : Program} {w : World} {K : PySem.W.Frag} {mg : Str → Option Value} {base : Heap} {k : Nat} {x : Str} {sp sp' : Sp3} (F : Fn3 P w K mg base k x sp) (h : ∀ ts G q,sp' ts G q → sp ts G q) : Fn3 P w K mg base k x sp' :=
 let ⟨f,fd,ps,a,b,c,d⟩ := F;⟨f,fd,ps,a.imp fun vs H Q E ⟨ts,G,q,h1,h2,h3,h4⟩ => ⟨ts,G,q,h1,h2,h _ _ _ h3,h4⟩,b,c,d⟩
theorem e_call {k : Nat} {x : Str} {p : Pos} {sp : Sp3} (F : Fn3 X.prog X.w X.K X.mg X.base k x sp) (hr : Room k X.A) (hg : Gl X x) (ha : A3 X (e :: es) t) (hdb : (x == ("__debug__" : Str)) = false := by decide)
  (he : starEach (e :: es) X.env = (false,eval e X.env) :: starEach es X.env := by rfl) (hpl : (backTo pos (starEach es X.env)).any (·.1) = false := by rfl) : E3 X (.Call (.Name x p) (e :: es) [] pos) (cb3 sp t) := by
 obtain ⟨f,fd,ps,F,b,kp,m⟩ := F
 refine pe_w (pe_call F hr hg m kp b .nil pass0 ha hdb he hpl) fun σ H Q ⟨τ,G,q,rl,h,af⟩ => lA_seq rl h fun xs G1 h1 vs H1 rs hr1 k1 rl1 => ?_
 rw [List.append_nil]
 exact ⟨xs,G1,q,hr1,rs,h1,af.back k1⟩
noncomputable def start3 (N : List Str) (ts : List T) : St3 := ts.map some ++ List.replicate (N.length - ts.length) none
theorem rel_start {K : PySem.W.Frag} {N : List Str} {G : Gp} {H : Hp} {ts : List T} {vs : List V} (hr : HR K G H) (rs : Rps K H ts vs) : Rel K (start3 N ts) G (L2.start N vs) H := by
 refine ⟨hr,by simp [start3,L2.start,rs.length],fun i t e => ?_⟩
 unfold start3 at e
 by_cases hi : i < ts.length
 ·rw [List.getElem?_append_left (by simpa using hi),List.getElem?_map] at e
  cases q : ts[i]? with
  | none => rw [q] at e;cases e
  | some z =>
   rw [q] at e
   have e' : z = t := by simpa using e
   subst e'
   obtain ⟨v,hv,r⟩ := rs.get q
   refine ⟨v,?_,r⟩
   unfold L2.start
   rw [List.getElem?_append_left (by rw [List.length_map,← rs.length];exact hi),List.getElem?_map,hv]
   rfl
 ·rw [List.getElem?_append_right (by simpa using hi),List.getElem?_replicate] at e
  split at e <;> cases e
theorem fn3_of {P : Program} {w : World} {K : PySem.W.Frag} {mg : Str → Option Value} {base : Heap} {x qual : Str} {st : Stmt} {f : Addr} {fd : FuncData} {N ps : List Str} {k : Nat} {sp : Sp3} {t3 : TS3} (F : Fun K x qual st f fd) (S : FnScope N ps (defScope st)) (bd : Binds K fd ps []) (hm : mg x = some (.ref f))
  (body : ∀ (cdv : Value) (A : Around) (outer : List Env) (s : Shared) (H : Hp) (E : XK),Room k (A.deeper (envOfC qual (defScope st) s.heap.objs.size f cdv)) →
   B3 (cxOf CX0 P w K mg base N qual (defScope st) f cdv A outer s H E).nox (defBody st) t3)
  (read : ∀ ts G q,sp ts G q → ts.length = ps.length∧t3 { nx := fun _ G' => q .non G',rt := q } (start3 N ts) G) : Fn3 P w K mg base (k + 1) x sp := by
 refine ⟨f,fd,ps,F.ok S (fun vs H Q E ⟨ts,G,q,h1,h2,h3,h4⟩ => by rw [← h2.length];exact (read ts G q h3).1) fun cdv A outer s H vs Q E hr ⟨ts,G,q,h1,h2,h3,h4⟩ => ?_,bd,F.kp,hm⟩
 refine ⟨_,body cdv A outer s H E hr,start3 N ts,G,_,rel_start h1 h2,(read ts G q h3).2,⟨fun τ' G' h' σ' H' rl' k' => h4 _ G' h' _ H' .non rl'.hp k',h4,fun _ _ z => z.elim,fun _ _ z => z.elim⟩⟩
noncomputable def allB (xs : List T) : Option Bool := match xs with
 | [] => some true
 | .bl k :: r => (match allB r with | some j => some (k && j) | none => none)
 | _ => none
noncomputable def anyB (xs : List T) : Option Bool := match xs with
 | [] => some false
 | .bl k :: r => (match anyB r with | some j => some (k || j) | none => none)
 | _ => none
theorem truth_of {P : Program} {w : World} {A : Around} {its : List Value} {ks : List Bool} (h : its = ks.map Value.bool) : TruthOf P w A (fun i v => its.toArray[i]? = some v) (fun i => ks.getD i true) := by
 intro i v s Q E hp hq
 subst h
 have hp' : ks[i]?.map Value.bool = some v := by simpa using hp
 cases e : ks[i]? with
 | none => rw [e] at hp';cases hp'
 | some k =>
  rw [e] at hp'
  cases hp'
  have : ks.getD i true = k := by rw [List.getD_eq_getElem?_getD,e];rfl
  have hq : Q (ks.getD i true) s := hq
  rw [this] at hq
  exact wpAny_truthy_bool hq
theorem vals_bools : ∀ {ks : List Bool} {us : List Value},Vals (ks.map V.bl) us → us = ks.map Value.bool
 | [],_,r => by cases r;rfl
 | k :: ks,_,r => by
  cases r with
  | cons a b => rw [show _ = Value.bool k from a,vals_bools b];rfl
theorem range_all (ks : List Bool) : ((List.range ks.length).all fun i => ks.getD i true) = ks.all id := by
 induction ks with
 | nil => rfl
 | cons k ks ih =>
  rw [List.length_cons,List.range_succ_eq_map,List.all_cons,List.all_map,List.all_cons]
  congr 1
theorem call_all_bools (hc : X.calm = true) : CallR X (.builtin "all") (fun xs H Q => ∃ (p : Addr) (ks : List Bool),xs = [.ref p]∧SqL X.K H p (ks.map V.bl)∧Q (.bl (ks.all id)) H) := by
 intro pins s σ H xs us Q I r h
 obtain ⟨p,ks,rfl,hq,q⟩ := h
 obtain ⟨u,rfl,rp⟩ := vals1 r
 cases (show u = Value.ref p from rp)
 obtain ⟨its,rv,pl,hz⟩ := I.list hq
 have hb := vals_bools rv
 have hlen : its.length = ks.length := by rw [hb];simp
 have hp : p < s.heap.objs.size := by obtain ⟨o,n,e,_⟩ := pl;exact Heap.lt_size e
 refine call_all_walk (wpAny_pyIter_list pl.isList ⟨s.heap.objs.size,_,_,_,_,_,fun i => ks.getD i true,rfl,Walks.list (A := X.A.in1) (show X.A.in1.handled = none from I.ok.hd hc) s.heap.objs.size p (Nat.ne_of_lt hp) its.toArray,⟨⟨_,Heap.get?_push_size _ rfl,rfl,rfl⟩,?_⟩,truth_of hb,fun h' tk hk => ?_⟩)
 ·obtain ⟨o,n,e,c,_,d⟩ := pl
  exact ⟨o,Heap.get?_push_of_some _ e,c,n,d⟩
 ·refine ⟨.bl _,H,?_,rfl,by rw [List.size_toArray,hlen,range_all];exact q⟩
  exact I.kept (h' := h') (t' := tk) fun b o e => hk b o (by simp;exact Nat.ne_of_lt (Heap.lt_size e)) (Heap.get?_push_of_some _ e)
end
end L3
namespace L3
open PySem PySem.Spec PyProof.Rows L2
noncomputable def clos (env : Env) : List (Str × NameKind) → List (Str × Addr) → List (Str × Addr)
 | [],cs => cs
 | (n,k) :: r,cs => if k = .free then clos env r ((n,(env.cells.lookup n).getD 0) :: cs) else clos env r cs
theorem closureFor_eq {scope : Scope} {env : Env} (h : ∀ y ∈ scope.names,y.2 = .free → ∃ c,env.cells.lookup y.1 = some c) : closureFor scope env = pure (clos env scope.names []) := by
 have key : ∀ (l : List (Str × NameKind)) (cs : List (Str × Addr)),(∀ y ∈ l,y.2 = .free → ∃ c,env.cells.lookup y.1 = some c) →
   (forIn l cs fun (x : Str × NameKind) (r : List (Str × Addr)) => if (x.2 == NameKind.free) = true then (do let a ← cellOf env x.1;pure (ForInStep.yield ((x.1,a) :: r))) else pure (ForInStep.yield r)) = (pure (clos env l cs) : Sem _) := by
  intro l
  induction l with
  | nil => intro cs _;rfl
  | cons y r ih =>
   intro cs hl
   obtain ⟨n,k⟩ := y
   rw [List.forIn_cons]
   by_cases hk : k = .free
   ·subst hk
    obtain ⟨c,hc⟩ := hl (n,.free) List.mem_cons_self rfl
    have e : cellOf env n = pure c := by unfold cellOf;rw [show List.lookup n env.cells = some c from hc]
    simp only [beq_self_eq_true,if_true]
    rw [e,pure_bind,pure_bind]
    show forIn r ((n,c) :: cs) _ = _
    rw [ih _ fun z hz => hl z (List.mem_cons_of_mem _ hz)]
    show _ = (pure (if NameKind.free = NameKind.free then clos env r ((n,(env.cells.lookup n).getD 0) :: cs) else clos env r cs) : Sem _)
    rw [if_pos rfl,show List.lookup n env.cells = some c from hc]
    rfl
   ·have hb : (k == NameKind.free) = false := by cases k <;> first | rfl | exact absurd rfl hk
    simp only [hb,Bool.false_eq_true,if_false]
    rw [pure_bind]
    show forIn r cs _ = _
    rw [ih _ fun z hz => hl z (List.mem_cons_of_mem _ hz)]
    show _ = (pure (if k = NameKind.free then clos env r ((n,(env.cells.lookup n).getD 0) :: cs) else clos env r cs) : Sem _)
    rw [if_neg hk]
 have := key scope.names [] h
 unfold closureFor
 refine Eq.trans ?_ this
 exact bind_pure (m := Sem) _
theorem clos_lookup {env : Env} : ∀ (l : List (Str × NameKind)) (cs : List (Str × Addr)) (x : Str) (c : Addr),(∀ y ∈ l,y.2 = .free → ∃ c,env.cells.lookup y.1 = some c) →
  (∀ x c,cs.lookup x = some c → env.cells.lookup x = some c) → (clos env l cs).lookup x = some c → env.cells.lookup x = some c
 | [],_,_,_,_,h,e => h _ _ e
 | (n,k) :: r,cs,x,c,hl,h,e => by
  unfold clos at e
  split at e
  ·rename_i hk
   refine clos_lookup r _ x c (fun y hy => hl y (List.mem_cons_of_mem _ hy)) (fun x c e => ?_) e
   rw [List.lookup_cons] at e
   split at e
   ·rename_i hx
    have hx' : x = n := by simpa using hx
    subst hx'
    obtain ⟨d,hd⟩ := hl (x,k) List.mem_cons_self hk
    have hd : List.lookup x env.cells = some d := hd
    rw [hd] at e ⊢
    exact e
   ·exact h _ _ e
  ·exact clos_lookup r cs x c (fun y hy => hl y (List.mem_cons_of_mem _ hy)) h e
theorem clos_has {env : Env} : ∀ (l : List (Str × NameKind)) (cs : List (Str × Addr)) (x : Str),((x,NameKind.free) ∈ l ∨ ∃ c,cs.lookup x = some c) → ∃ c,(clos env l cs).lookup x = some c
 | [],_,_,h => by
  rcases h with h | h
  ·simp at h
  ·exact h
 | (n,k) :: r,cs,x,h => by
  unfold clos
  have put : ∀ d : Addr,(x = n ∨ ∃ c,cs.lookup x = some c) → ∃ c,((n,d) :: cs).lookup x = some c := fun d z => by
   rw [List.lookup_cons]
   cases hx : x == n with
   | true => exact ⟨d,rfl⟩
   | false =>
    rcases z with z | z
    ·rw [z] at hx;simp at hx
    ·exact z
  split
  ·rename_i hk
   refine clos_has r _ x ?_
   rcases h with h | h
   ·rcases List.mem_cons.mp h with e | e
    ·cases e;exact .inr (put _ (.inl rfl))
    ·exact .inl e
   ·exact .inr (put _ (.inr h))
  ·rename_i hk
   refine clos_has r _ x ?_
   rcases h with h | h
   ·rcases List.mem_cons.mp h with e | e
    ·cases e;exact absurd rfl hk
    ·exact .inl e
   ·exact .inr h
theorem clos_mem {env : Env} : ∀ (l : List (Str × NameKind)) (cs : List (Str × Addr)) (x : Str) (c : Addr),(clos env l cs).lookup x = some c → (x,NameKind.free) ∈ l ∨ cs.lookup x = some c
 | [],_,_,_,e => .inr e
 | (n,k) :: r,cs,x,c,e => by
  unfold clos at e
  split at e
  ·rename_i hk
   rcases clos_mem r _ x c e with z | z
   ·exact .inl (List.mem_cons_of_mem _ z)
   ·rw [List.lookup_cons] at z
    split at z
    ·rename_i hx
     have hx' : x = n := by simpa using hx
     subst hx';subst hk
     exact .inl List.mem_cons_self
    ·exact .inr z
  ·rcases clos_mem r cs x c e with z | z
   ·exact .inl (List.mem_cons_of_mem _ z)
   ·exact .inr z
theorem lookup_app {α : Type} : ∀ (xs ys : List (Str × α)) (x : Str),(xs ++ ys).lookup x = (match xs.lookup x with | some c => some c | none => ys.lookup x)
 | [],ys,x => rfl
 | (n,c) :: xs,ys,x => by
  rw [List.cons_append,List.lookup_cons,List.lookup_cons]
  cases x == n with
  | true => rfl
  | false => exact lookup_app xs ys x
theorem cellsFrom_app : ∀ (l : List (Str × NameKind)) {n : Nat} {acc : List (Str × Addr)},cellsFrom n l acc = cellsFrom n l [] ++ acc
 | [],_,_ => rfl
 | (x,k) :: r,n,acc => by
  unfold cellsFrom
  split
  ·rw [cellsFrom_app r (acc := (x,n) :: acc),cellsFrom_app r (acc := [(x,n)]),List.append_assoc];rfl
  ·exact cellsFrom_app r
theorem cellsFrom_mem : ∀ (l : List (Str × NameKind)) (n : Nat) (acc : List (Str × Addr)) (x : Str) (c : Addr),(x,c) ∈ cellsFrom n l acc → (x,NameKind.cell) ∈ l ∨ (x,c) ∈ acc
 | [],_,_,_,_,h => .inr h
 | (y,k) :: r,n,acc,x,c,h => by
  unfold cellsFrom at h
  split at h
  ·rename_i hk
   have hk : k = .cell := by simpa using hk
   rcases cellsFrom_mem r _ _ x c h with z | z
   ·exact .inl (List.mem_cons_of_mem _ z)
   ·rcases List.mem_cons.mp z with e | e
    ·cases e;subst hk;exact .inl List.mem_cons_self
    ·exact .inr e
  ·rcases cellsFrom_mem r _ _ x c h with z | z
   ·exact .inl (List.mem_cons_of_mem _ z)
   ·exact .inr z
theorem cellsFrom_has : ∀ (l : List (Str × NameKind)) (n : Nat) (acc : List (Str × Addr)) (x : Str),((x,NameKind.cell) ∈ l ∨ ∃ c,acc.lookup x = some c) → ∃ c,(cellsFrom n l acc).lookup x = some c
 | [],_,_,_,h => by
  rcases h with h | h
  ·simp at h
  ·exact h
 | (y,k) :: r,n,acc,x,h => by
  unfold cellsFrom
  have put : (x = y ∨ ∃ c,acc.lookup x = some c) → ∃ c,((y,n) :: acc).lookup x = some c := fun z => by
   rw [List.lookup_cons]
   cases hx : x == y with
   | true => exact ⟨n,rfl⟩
   | false =>
    rcases z with z | z
    ·rw [z] at hx;simp at hx
    ·exact z
  split
  ·refine cellsFrom_has r _ _ x ?_
   rcases h with h | h
   ·rcases List.mem_cons.mp h with e | e
    ·cases e;exact .inr (put (.inl rfl))
    ·exact .inl e
   ·exact .inr (put (.inr h))
  ·rename_i hk
   refine cellsFrom_has r _ _ x ?_
   rcases h with h | h
   ·rcases List.mem_cons.mp h with e | e
    ·cases e;exact absurd rfl hk
    ·exact .inl e
   ·exact .inr h
theorem wpAny_newCompEnv {M : Model} {A : Around} {E : Value → Shared → Prop} {s : Shared} {scope : Scope} {globals : Addr} {cl : List (Str × Addr)} {qual : Str} {env : Env} {Q : Env → Shared → Prop}
  (hQ : ∀ h₁ : Heap,h₁.Ns s.heap.objs.size (fun _ => none) → (∀ b o,s.heap.get? b = some o → h₁.get? b = some o) → CellsOk h₁ (s.heap.objs.size + 1) (cellsFrom (s.heap.objs.size + 1) scope.names []) → Q (newEnv scope s.heap.objs.size globals (cellsFrom (s.heap.objs.size + 1) scope.names cl) qual none .none (some env) builtinsNs) { s with heap := h₁ }) :
  wpAny M A (newFunctionEnv scope globals cl [] qual none .none (some env)) Q E s := by
 simp only [newFunctionEnv,Option.isSome_some,if_true]
 refine wpAny_bind (wpAny_alloc ?_)
 refine wpAny_bind (wpAny_layCells _ (fun name kind cells => by cases hkc : kind == NameKind.cell <;> simp [hkc]) _ _ _ _ ?_)
 have ok := cellsFrom_ok scope.names (s.heap.push { cls := .type "dict",data := .dict #[] }) (s.heap.objs.size + 1) [] ⟨fun _ _ hm => (nomatch hm),List.Pairwise.nil⟩ (by rw [Heap.size_push];exact Nat.le_refl _)
 rw [Heap.size_push] at ok
 rw [show ({ s with heap := s.heap.push { cls := .type "dict",data := .dict #[] } } : Shared).heap.objs.size = s.heap.objs.size + 1 from Heap.size_push ..]
 rw [List.forIn_nil]
 refine wpAny_bind (wpAny_pure (wpAny_pure ?_))
 exact hQ _ ((Heap.Ns.new s.heap (.type "dict")).keeps (pushCells_keeps _ _)) (fun b o e => pushCells_keeps _ _ b o (Heap.get?_push_of_some _ e)) ok
noncomputable def cxComp (X : Cx) (N' : List Str) (scope : Scope) (s : Shared) (H : Hp) (fp : List Addr) : Cx where
 prog := X.prog
 w := X.w
 K := X.K
 mg := X.mg
 base := X.base
 A := X.A
 N := N'
 s₀ := s
 H₀ := H
 env := compEnvC scope (cellsFrom (s.heap.objs.size + 1) scope.names (clos X.env scope.names [])) s.heap.objs.size X.env
 outer := X.stack
 stack := X.stack
 ex := fp
 fn := fun x => scope.names.lookup x == some .cell
 calm := true
 pn := []
 xe := fun _ _ => False
noncomputable def scOk (outer inner : Scope) : Bool := (inner.kind == .function) && inner.names.all fun y =>
 (y.2 != .cell || inner.names.lookup y.1 == some .cell) && (y.2 != .local || inner.names.lookup y.1 == some .local) && (y.2 != .free || (inner.names.lookup y.1 == some .free && (outer.names.lookup y.1 == some .cell || outer.names.lookup y.1 == some .free)))
noncomputable def cap {α : Type} (m : List (Option Nat)) (σ : List (Option α)) : List (Option α) := m.map fun o => match o with | some j => (σ[j]?).join | none => none
noncomputable def capOk (N N' : List Str) (scope : Scope) (m : List (Option Nat)) : Bool := (m.length == N'.length) && (m.zip N').all fun p => match p.1 with
 | none => true
 | some j => N[j]? == some p.2 && scope.names.lookup p.2 == some .free
theorem cap_get {α : Type} {m : List (Option Nat)} {σ : List (Option α)} {i : Nat} {v : α} (h : (cap m σ)[i]? = some (some v)) : ∃ j,m[i]? = some (some j)∧σ[j]? = some (some v) := by
 unfold cap at h
 rw [List.getElem?_map] at h
 cases e : m[i]? with
 | none => rw [e] at h;cases h
 | some o =>
  rw [e] at h
  cases o with
  | none => cases h
  | some j =>
   refine ⟨j,rfl,?_⟩
   have h' : (σ[j]?).join = some v := by simpa using h
   cases q : σ[j]? with
   | none => rw [q] at h';cases h'
   | some z => rw [q] at h';exact congrArg some h'
theorem capOk_get {N N' : List Str} {scope : Scope} {m : List (Option Nat)} (h : capOk N N' scope m = true) {i j : Nat} {x : Str} (e : m[i]? = some (some j)) (hx : N'[i]? = some x) : N[j]? = some x∧scope.names.lookup x = some .free := by
 unfold capOk at h
 rw [Bool.and_eq_true] at h
 have hm : (some j,x) ∈ m.zip N' := List.mem_of_getElem? (i := i) (List.getElem?_zip_eq_some.mpr ⟨e,hx⟩)
 have := List.all_eq_true.mp h.2 _ hm
 simp only [Bool.and_eq_true,beq_iff_eq] at this
 exact this
theorem cap_len {N N' : List Str} {scope : Scope} {m : List (Option Nat)} {α : Type} (σ : List (Option α)) (h : capOk N N' scope m = true) : (cap m σ).length = N'.length := by
 unfold capOk at h
 rw [Bool.and_eq_true] at h
 unfold cap
 rw [List.length_map]
 simpa using h.1
structure ScFacts (outer inner : Scope) : Prop where
 kind : inner.kind = .function
 own : ∀ y ∈ inner.names,y.2 = .cell → inner.names.lookup y.1 = some .cell
 loc : ∀ y ∈ inner.names,y.2 = .local → inner.names.lookup y.1 = some .local
 free : ∀ y ∈ inner.names,y.2 = .free → inner.names.lookup y.1 = some .free∧(outer.names.lookup y.1 = some .cell ∨ outer.names.lookup y.1 = some .free)
theorem scOk_facts {outer inner : Scope} (h : scOk outer inner = true) : ScFacts outer inner := by
 unfold scOk at h
 rw [Bool.and_eq_true] at h
 have ha := List.all_eq_true.mp h.2
 refine ⟨by simpa using h.1,fun y hy e => ?_,fun y hy e => ?_,fun y hy e => ?_⟩
 ·have := ha y hy
  rw [e] at this
  simpa using this
 ·have := ha y hy
  rw [e] at this
  simpa using this
 ·have := ha y hy
  rw [e] at this
  simpa using this
theorem relabel_lookup {scope : Scope} {env : Env} {x : Str} {k : NameKind} (h : (relabel scope env).names.lookup x = some k) : scope.names.lookup x = some k ∨ (k = .cell∧scope.names.lookup x = some .free) := by
 have key : ∀ (l : List (Str × NameKind)),(l.map fun (n,k) => if (k == NameKind.free && env.scope.kind == .function && env.kindOf n == some .cell) then (n,NameKind.cell) else (n,k)).lookup x = some k → l.lookup x = some k ∨ (k = .cell∧l.lookup x = some .free) := by
  intro l
  induction l with
  | nil => intro h;simp at h
  | cons y r ih =>
   intro h
   obtain ⟨n,j⟩ := y
   rw [List.map_cons] at h
   dsimp only at h
   by_cases hc : (j == NameKind.free && env.scope.kind == .function && env.kindOf n == some .cell) = true
   ·rw [if_pos hc,List.lookup_cons] at h
    rw [List.lookup_cons]
    cases hx : x == n with
    | true =>
     rw [hx] at h
     have hk : NameKind.cell = k := by simpa using h
     have hj : j = .free := by simp only [Bool.and_eq_true,beq_iff_eq] at hc;exact hc.1.1
     exact .inr ⟨hk.symm,by rw [hj]⟩
    | false => rw [hx] at h;exact ih h
   ·rw [if_neg hc,List.lookup_cons] at h
    rw [List.lookup_cons]
    cases hx : x == n with
    | true => rw [hx] at h;exact .inl h
    | false => rw [hx] at h;exact ih h
 exact key scope.names h
def PF (X : Cx) (ifs : List Expr) (t : TT) : Prop :=
 ∀ (pins : List (Addr × Obj)) (s : Shared) (σ : L2.St) (H : Hp) (Q : Bool → Hp → Prop),Inv X pins σ H s → t σ H Q →
  wpAny (model X.prog X.w) X.A (forIn ifs true fun c r => if r = true then do let ok ← isTrue c X.env (eval c X.env);pure (ForInStep.yield ok) else pure (ForInStep.yield r)) (TP X pins σ Q) X.xe s
theorem pf_nil {X : Cx} : PF X [] (fun _ H Q => Q true H) := fun _ _ _ H _ I h => wpAny_tests_nil ⟨H,I,h⟩
theorem pf_one {X : Cx} {c : Expr} {t : TT} (h : PT X c t) : PF X [c] t := fun pins s σ H Q I q => wpAny_tests_one (h pins s σ H Q I q)
section
variable {X : Cx} {pins : List (Addr × Obj)} {σ : L2.St} {H : Hp} {s : Shared}
theorem inv_comp {N' : List Str} {scope : Scope} {fp : List Addr} {m : List (Option Nat)} {h1 : Heap} {mm : Str → Option Value} (hc : X.calm = true) (I : Inv X pins σ H s) (sc : ScFacts X.env.scope scope) (hcap : capOk X.N N' scope m = true)
  (hfp : ∀ b ∈ fp,FpOk X pins H b) (hob : ∀ b ∈ fp,∃ o,s.heap.get? b = some o) (hns : h1.Ns s.heap.objs.size mm) (hk : ∀ b o,s.heap.get? b = some o → h1.get? b = some o) (hown : CellsOk h1 (s.heap.objs.size + 1) (cellsFrom (s.heap.objs.size + 1) scope.names [])) :
  Inv (cxComp X N' scope s H fp) [] (cap m σ) H { s with heap := h1 } := by
 have hcl : ∀ y ∈ scope.names,y.2 = .free → ∃ c,X.env.cells.lookup y.1 = some c := fun y hy e => by
  rcases (sc.free y hy e).2 with z | z
  ·exact I.ok.has y.1 (.inl z)
  ·exact I.ok.has y.1 (.inr z)
 have cl : ∀ x c,(clos X.env scope.names []).lookup x = some c → X.env.cells.lookup x = some c := fun x c e => clos_lookup scope.names [] x c hcl (fun _ _ z => by simp at z) e
 have clt : ∀ x c,(clos X.env scope.names []).lookup x = some c → c < s.heap.objs.size := fun x c e => by
  obtain ⟨v,q⟩ := I.cell x c (cl x c e)
  exact q.lt
 -- a cell of the block: its own,or one from around
 have cs : ∀ x c,(cellsFrom (s.heap.objs.size + 1) scope.names (clos X.env scope.names [])).lookup x = some c → ((x,c) ∈ cellsFrom (s.heap.objs.size + 1) scope.names []∧s.heap.objs.size + 1 ≤ c∧h1.IsCell c none) ∨ (clos X.env scope.names []).lookup x = some c := fun x c e => by
  rw [cellsFrom_app,lookup_app] at e
  cases q : (cellsFrom (s.heap.objs.size + 1) scope.names []).lookup x with
  | none => rw [q] at e;exact .inr e
  | some d =>
   rw [q] at e
   cases e
   have mem := PySem.mem_of_lookup q
   exact .inl ⟨mem,(hown.empty x _ mem).2,(hown.empty x _ mem).1⟩
 have fpne : ∀ b ∈ fp,b ≠ s.heap.objs.size := fun b hb => let ⟨o,e⟩ := hob b hb;Nat.ne_of_lt (Heap.lt_size e)
 refine ⟨⟨I.ok.mod,sc.kind,I.ok.glob,I.ok.blt,Nat.le_refl _,fun x y c e1 e2 => ?_,fun x hx => ?_,fun x c hf e => ?_,fun _ => I.ok.hd hc,I.ok.frames,.inl rfl,fun b hb => ⟨fpne b hb,fun x c e => ?_⟩,I.bs,Nat.le_trans I.ok.bsz I.sz,fun b o e hb => ?_,fun b hb z => ?_,I.stack,I.stkFree⟩,
  rfl,I.bare,Un.kept hk,⟨mm,hns,fun i x v e1 e2 e3 => ?_⟩,fun x c e => ?_,I.fresh,fun x c e => ?_,fun p hp => absurd (show p ∈ ([] : List (Addr × Obj)) from hp) (by simp),I.hok.kept hk,cap_len σ hcap⟩
 ·rcases cs x c e1 with ⟨m1,l1,_⟩ | z1 <;> rcases cs y c e2 with ⟨m2,l2,_⟩ | z2
  ·exact PySem.name_of_addr hown.apart m1 m2
  ·exact absurd (clt y c z2) (Nat.not_lt.mpr (Nat.le_trans (Nat.le_succ _) l1))
  ·exact absurd (clt x c z1) (Nat.not_lt.mpr (Nat.le_trans (Nat.le_succ _) l2))
  ·exact I.ok.inj x y c (cl x c z1) (cl y c z2)
 ·have hx : (relabel scope X.env).names.lookup x = some .cell ∨ (relabel scope X.env).names.lookup x = some .free := hx
  have hf : scope.names.lookup x = some .cell ∨ scope.names.lookup x = some .free := by
   rcases hx with z | z
   ·rcases relabel_lookup z with q | ⟨_,q⟩
    ·exact .inl q
    ·exact .inr q
   ·rcases relabel_lookup z with q | ⟨q,_⟩
    ·exact .inr q
    ·cases q
  show ∃ c,(cellsFrom (s.heap.objs.size + 1) scope.names (clos X.env scope.names [])).lookup x = some c
  rcases hf with hf | hf
  ·exact cellsFrom_has scope.names _ _ x (.inl (PySem.mem_of_lookup hf))
  ·exact cellsFrom_has scope.names _ _ x (.inr (clos_has scope.names [] x (.inl (PySem.mem_of_lookup hf))))
 ·have hf : scope.names.lookup x = some .cell := by simpa [cxComp] using hf
  rcases cs x c e with ⟨_,l1,_⟩ | z1
  ·exact Nat.le_trans (Nat.le_succ _) l1
  ·rcases clos_mem scope.names [] x c z1 with q | q
   ·rw [(sc.free _ q rfl).1] at hf;cases hf
   ·simp at q
 ·rcases cs x c e with ⟨_,l1,_⟩ | z1
  ·obtain ⟨o,eo⟩ := hob b hb
   exact Nat.ne_of_gt (Nat.lt_of_lt_of_le (Heap.lt_size eo) (Nat.le_trans (Nat.le_succ _) l1))
  ·exact (hfp b hb).2.2.2.2.1 x c (cl x c z1)
 ·rcases (hfp b hb).2.2.2.1 with z | z
  ·exact I.ok.noex b o e z
  ·exact absurd (Nat.lt_of_lt_of_le (Heap.lt_size e) (Nat.le_trans I.ok.bsz z)) (Nat.lt_irrefl _)
 ·rcases List.mem_cons.mp (I.stkSub b z) with q | q
  ·exact (hfp b hb).2.1 q
  ·exact (hfp b hb).2.2.1 q
 ·obtain ⟨j,ej,es⟩ := cap_get e2
  obtain ⟨hN,hfr⟩ := capOk_get hcap ej e1
  have mem := PySem.mem_of_lookup hfr
  have ho := (sc.free _ mem rfl).2
  obtain ⟨m0,hn0,hl0⟩ := I.loc
  obtain ⟨u,ru,lk⟩ := hl0 j x v hN es (ho.elim (fun z => .inr (.inl z)) fun z => .inr (.inr z))
  refine ⟨u,ru,.inr ⟨?_,?_⟩⟩
  ·rcases e3 with z | z | z
   ·rcases relabel_lookup z with q | ⟨q,_⟩
    ·rw [hfr] at q;cases q
    ·cases q
   ·exact .inl z
   ·exact .inr z
  ·rcases lk with ⟨z,_⟩ | ⟨_,c,hc',hcell⟩
   ·have z : X.env.scope.names.lookup x = some .local := z
    rcases ho with q | q <;> (rw [z] at q;cases q)
   ·obtain ⟨c',hc2⟩ := clos_has (env := X.env) scope.names [] x (.inl mem)
    have e := cl x c' hc2
    rw [hc'] at e
    cases e
    obtain ⟨o,eo,d⟩ := hcell
    refine ⟨c,?_,o,hk c o eo,d⟩
    show (cellsFrom (s.heap.objs.size + 1) scope.names (clos X.env scope.names [])).lookup x = some c
    rw [cellsFrom_app,lookup_app]
    cases q : (cellsFrom (s.heap.objs.size + 1) scope.names []).lookup x with
    | none => exact hc2
    | some d =>
     rcases cellsFrom_mem scope.names _ [] x d (PySem.mem_of_lookup q) with z | z
     ·rw [sc.own _ z rfl] at hfr;cases hfr
     ·simp at z
 ·rcases cs x c e with ⟨_,_,z⟩ | z1
  ·exact ⟨none,z⟩
  ·obtain ⟨v,o,eo,d⟩ := I.cell x c (cl x c z1)
   exact ⟨v,o,hk c o eo,d⟩
 ·rcases cs x c e with ⟨_,l1,_⟩ | z1
  ·exact I.hok.fresh (Nat.le_trans (Nat.le_succ _) l1)
  ·exact I.freeC x c (cl x c z1)
theorem inv_uncomp {N' : List Str} {scope : Scope} {fp : List Addr} {pins' : List (Addr × Obj)} {σ' : L2.St} {H' : Hp} {s' : Shared} {h2 : Heap} (I : Inv X pins σ H s) (hfp : ∀ b ∈ fp,FpOk X pins H b) (J : Inv (cxComp X N' scope s H fp) pins' σ' H' s')
  (sb : Heap.SameBut s.heap.objs.size s'.heap h2) : Inv X pins σ H' { s' with heap := h2 } := by
 have ne : ∀ b o,s.heap.get? b = some o → b ≠ s.heap.objs.size := fun b o e => Nat.ne_of_lt (Heap.lt_size e)
 have g : ∀ b,b ≠ s.heap.objs.size → h2.get? b = s'.heap.get? b := fun b hb => sb.2 b hb
 have hn : H' s.heap.objs.size = none := J.free
 have u : Un (frs X.stack) fp H H' s.heap s'.heap := J.base
 refine I.call' (s' := { s' with heap := h2 }) J.os ⟨fun b o e n hb hx => ?_,fun b o e n hb hx => ?_,u.free,fun b o e hx => ?_,u.tups,u.frzs,u.tbls⟩ (fun a o e => ?_) J.bare fun b hb => ⟨(hfp b hb).2.2.2.1,(hfp b hb).2.1,(hfp b hb).2.2.2.2.1,(hfp b hb).2.2.2.2.2⟩
 ·show h2.get? b = _
  rw [g b (ne b o e)];exact u.keep b o e n hb hx
 ·show ∃ sl,h2.get? b = _
  rw [g b (ne b o e)];exact u.slot b o e n hb hx
 ·show ∃ o',h2.get? b = _
  rw [g b (ne b o e)];exact u.there b o e hx
 ·refine (J.hok a o e).stay (fun b v hb q => ?_) (fun _ q => q) fun _ _ q => q
  have hb' : b ≠ s.heap.objs.size := by
   intro z
   subst z
   rcases hb with z | z
   ·rw [← z] at e;rw [hn] at e;cases e
   ·rw [hn] at z;cases z
  rw [g b hb'];exact q
end
end L3
namespace L3
open PySem PySem.Spec PyProof.Rows L2
noncomputable def tLC (wi : TI) (g : TG) (tif : TT) (te : TE) (m : List (Option Nat)) : TE := fun σ H Q => wi σ H fun J H1 => ∀ D,H1 D = none →
 ∃ W : Nat → Nat → L2.St → Hp → Prop,(∃ n,W 0 n (cap m σ) (upd H1 D (.lst [])))∧∀ i n σ H,W i n σ H →
  (J.stop i H∧Q (.ref D) H) ∨ (J.go i H∧∀ x H',J.yld i H x H' → g x σ H' fun σ2 H2 => tif σ2 H2 fun k H3 =>
   if k = true then te σ2 H3 fun y H4 => ∃ zs,H4 D = some (.lst zs)∧zs.length < sizeLine∧∃ n',n' < n∧W (i + 1) n' σ2 (upd H4 D (.lst (zs ++ [y])))
   else ∃ n',n' < n∧W (i + 1) n' σ2 H3)
section
variable {X : Cx}
theorem pe_lc {elt tg iter : Expr} {ifs : List Expr} {scope : Scope} {pos : Pos} {N' : List Str} {m : List (Option Nat)} {wi : TI} {g : TG} {tif : TT} {te : TE} (hc : X.calm = true) (hi : PI X tg iter wi)
  (hg : ∀ s H fp,PG (cxComp X N' scope s H fp) tg g) (hf : ∀ s H fp,PF (cxComp X N' scope s H fp) ifs tif) (he : ∀ s H fp,PE (cxComp X N' scope s H fp) elt te)
  (hsc : scOk X.env.scope scope = true) (hcap : capOk X.N N' scope m = true) (hs : ∀ x,foldedSetIterable iter X.env x = pure x := by intro _;rfl) :
  PE X (.ListComp elt [⟨tg,iter,ifs,0⟩] scope pos) (tLC wi g tif te m) := by
 intro pins s σ H Q I h
 have sc := scOk_facts hsc
 have hcl : ∀ y ∈ scope.names,y.2 = .free → ∃ c,X.env.cells.lookup y.1 = some c := fun y hy e => by
  rcases (sc.free y hy e).2 with z | z
  ·exact I.ok.has y.1 (.inl z)
  ·exact I.ok.has y.1 (.inr z)
 rw [eval_ListComp]
 refine wpAny_comprehension_free (use := none) (g := ⟨tg,iter,ifs,0⟩) (gs := []) rfl hs (closureFor_eq hcl) sc.kind sc.loc ?_
 show wpAny _ _ (eval iter X.env) _ _ s
 refine thn (hi pins s σ H _ I h) fun v s1 h1 => thn h1 fun itv s2 h2 => ?_
 obtain ⟨it,fp,tn,J,H2,rfl,I2,T,st2,f2,hW⟩ := h2
 refine wpAny_newObj_type ?_
 have hD : H2 s2.heap.objs.size = none := I2.fresh
 obtain ⟨W,⟨n0,w0⟩,turn⟩ := hW _ hD
 generalize hDe : s2.heap.objs.size = D at *
 have I3 : Inv X pins σ (upd H2 D (.lst [])) { s2 with heap := s2.heap.push { cls := .type "list",dict := none,data := .seq ([] : List Value).toArray } } := by
  subst hDe
  exact I2.laid (t' := s2.toks) (fun b u e => Heap.get?_push_of_some _ e) (Nat.le_refl _) ⟨Nat.zero_le _,[],0,.nil,Heap.get?_push_size _ rfl⟩
 have ob2 := T.obj 0 _ st2
 have ob3 : ∀ b ∈ fp,∃ o,(s2.heap.push { cls := .type "list",dict := none,data := .seq ([] : List Value).toArray }).get? b = some o := fun b hb => let ⟨o,e,_⟩ := ob2 b hb;⟨o,Heap.get?_push_of_some _ e⟩
 have f3 : ∀ b ∈ fp,FpOk X pins (upd H2 D (.lst [])) b := fun b hb => by
  obtain ⟨o,e,_⟩ := ob2 b hb
  have : b ≠ D := by rw [← hDe];exact Nat.ne_of_lt (Heap.lt_size e)
  exact ⟨by rw [upd_ne this];exact (f2 b hb).1,(f2 b hb).2⟩
 have k23 : ∀ b o,s2.heap.get? b = some o → (s2.heap.push { cls := .type "list",dict := none,data := .seq ([] : List Value).toArray }).get? b = some o := fun b o e => Heap.get?_push_of_some _ e
 generalize hH3 : upd H2 D (.lst []) = H3 at *
 generalize hs3 : ({ s2 with heap := s2.heap.push { cls := .type "list",dict := none,data := .seq ([] : List Value).toArray } } : Shared) = s3 at *
 have ob3 : ∀ b ∈ fp,∃ o,s3.heap.get? b = some o := by rw [← hs3];exact ob3
 have k23 : ∀ b o,s2.heap.get? b = some o → s3.heap.get? b = some o := by rw [← hs3];exact k23
 refine wpAny_newCompEnv fun h₁ hns hk hown => ?_
 have I4 : Inv (cxComp X N' scope s3 H3 fp) [] (cap m σ) H3 { s3 with heap := h₁ } := inv_comp hc I3 sc hcap f3 ob3 hns hk hown
 have tn4 : tn 0 h₁ := T.keep _ _ _ st2 fun b hb o e => hk b o (k23 b o e)
 have fr4 : ∀ b ∈ fp,H3 b = none := fun b hb => (f3 b hb).1
 have stat : ∀ {H' : Hp},(∀ b ∈ fp,H' b = none) → ∀ b ∈ fp,FpOk (cxComp X N' scope s3 H3 fp) [] H' b := fun hn b hb => by
  refine ⟨hn b hb,I4.ok.exf b hb |>.1,I4.ok.exfs b hb,.inl hb,fun x c e => (I4.ok.exf b hb).2 x c e,fun p hp => absurd (show p ∈ ([] : List (Addr × Obj)) from hp) (by simp)⟩
 show codeAny (model X.prog X.w) X.A (.compStart (.ListComp elt [⟨tg,iter,ifs,0⟩] scope pos) 0 (.ref it) (.ref D) (cxComp X N' scope s3 H3 fp).env) (compPost (model X.prog X.w) X.A X.xe none (EP X pins σ Q) (.ref D) s3.heap.objs.size) { s3 with heap := h₁ }
 have loop : codeAny (model X.prog X.w) X.A (.compLoop (.ListComp elt [⟨tg,iter,ifs,0⟩] scope pos) 0 (.ref it) (.ref D) (cxComp X N' scope s3 H3 fp).env) (compPost (model X.prog X.w) X.A X.xe none (EP X pins σ Q) (.ref D) s3.heap.objs.size) { s3 with heap := h₁ } := by
  refine codeAny_loop rfl (fun n s' => ∃ i σ' H',Inv (cxComp X N' scope s3 H3 fp) [] σ' H' s'∧tn i s'.heap∧(∀ b ∈ fp,H' b = none)∧W i n σ' H') (fun n s' hI => ?_) n0 ⟨0,cap m σ,H3,I4,tn4,fr4,w0⟩
  show wpAny _ X.A ((compTurn (.ListComp elt [⟨tg,iter,ifs,0⟩] scope pos) 0 (.ref it) (.ref D) (cxComp X N' scope s3 H3 fp).env).onRaise (fun x => do noteFrame x (cxComp X N' scope s3 H3 fp).env;theTreesLotGoes x)) _ _ s'
  refine wpAny_noted ?_
  rw [compTurn_list]
  refine wpAny_bind (wpAny_standAt (wpAny_bind ?_))
  obtain ⟨i,σ5,H5,I5,st5,fr5,w5⟩ := hI
  rcases turn i n σ5 H5 w5 with ⟨stop,q⟩ | ⟨go,step⟩
  ·refine thn (T.done (cxComp X N' scope s3 H3 fp) rfl rfl rfl rfl i [] s' σ5 H5 _ I5 (stat fr5) st5 stop) fun r s6 ⟨hr,I6⟩ => ?_
   subst hr
   refine wpAny_pure ?_
   obtain ⟨mm,hn6,_⟩ := I6.loc
   exact ⟨mm,hn6,fun h' sb => ⟨.ref D,H5,inv_uncomp I3 f3 I6 sb,rfl,q⟩⟩
  ·refine thn (T.item (cxComp X N' scope s3 H3 fp) rfl rfl rfl rfl i [] s' σ5 H5 _ I5 (stat fr5) st5 go) fun r s6 ⟨u,hr,h6⟩ => ?_
   subst hr
   refine wpAny_bind (thn h6 fun _ s7 ⟨x,H7,I7,r7,y7,st7,fr7⟩ => ?_)
   have I7' := I7.pinned (stat fr7) (T.obj _ _ st7)
   have again : ∀ {σ8 : L2.St} {H8 : Hp} {s8 : Shared},Inv (cxComp X N' scope s3 H3 fp) ([] ++ pinsAt fp s7.heap) σ8 H8 s8 → (∃ n',n' < n∧W (i + 1) n' σ8 H8) →
     ∃ m',m' < n∧∃ i σ' H',Inv (cxComp X N' scope s3 H3 fp) [] σ' H' s8∧tn i s8.heap∧(∀ b ∈ fp,H' b = none)∧W i m' σ' H' := fun {σ8 H8 s8} I8 ⟨n',hn,w8⟩ => by
    refine ⟨n',hn,i + 1,σ8,H8,I8.unpinned,T.keep _ _ _ st7 fun b hb o e => (I8.pin (b,o) (List.mem_append_right _ (List.mem_append_right _ (mem_pinsAt hb e)))).1,fun b hb => ?_,w8⟩
    obtain ⟨o,e,d⟩ := T.obj _ _ st7 b hb
    exact (I8.pin (b,o) (List.mem_append_right _ (List.mem_append_right _ (mem_pinsAt hb e)))).2.1
   refine wpAny_bind (wpAny_mono (hg s3 H3 fp _ s7 σ5 H7 x u _ I7' r7 (step x H7 y7)) (fun _ s8 ⟨σ8,H8,I8,q8⟩ => ?_) fun _ _ z => z.elim)
   refine wpAny_bind (wpAny_mono (hf s3 H3 fp _ s8 σ8 H8 _ I8 q8) (fun k s9 ⟨H9,I9,q9⟩ => ?_) fun _ _ z => z.elim)
   cases k with
   | false =>
    rw [if_neg Bool.false_ne_true] at q9
    exact wpAny_pure ⟨rfl,again I9 q9⟩
   | true =>
    rw [if_pos rfl] at q9
    refine wpAny_bind (wpAny_bind (wpAny_mono (he s3 H3 fp _ s9 σ8 H9 _ I9 q9) (fun w s10 ⟨y,H10,I10,r10,q10⟩ => ?_) fun _ _ z => z.elim))
    obtain ⟨zs,hz,hl,q10⟩ := q10
    refine wpAny_bind (wpAny_mono (mt_append (X := cxComp X N' scope s3 H3 fp) _ s10 σ8 H10 (.ref D) [y] (.ref D) [w] (fun _ H11 => H11 = upd H10 D (.lst (zs ++ [y]))) I10 rfl (.cons r10 .nil) ⟨D,zs,y,rfl,rfl,hz,hl,rfl⟩) (fun _ s11 ⟨_,H11,I11,_,e11⟩ => ?_) fun _ _ z => z.elim)
    subst e11
    exact wpAny_pure (wpAny_pure ⟨rfl,again I11 q10⟩)
 exact codeAny_compStart_list loop (T.self X.A 0 _ _ _ tn4 loop)
end
end L3
namespace L3
open PySem PySem.Spec PyProof.Rows L2
section
variable {K : PySem.W.Frag} {G G' : Gp} {H H' : Hp}
theorem sqT_wrD {D : Addr} {o : HO} {ws : List V} (hD : H D = some (.lst ws)) {a : Addr} {vs : List V} (h : SqT K H a vs) : SqT K (upd H D o) a vs := by
 rcases h with h | h
 ·refine .inl ?_
  rcases h with h | ⟨ob,h⟩
  ·have : a ≠ D := by intro e;subst e;rw [hD] at h;cases h
   exact .inl (by rw [upd_ne this];exact h)
  ·have : a ≠ D := by intro e;subst e;rw [hD] at h;cases h
   exact .inr ⟨ob,by rw [upd_ne this];exact h⟩
 ·exact .inr h
mutual
theorem Rp.wrD {D : Addr} {o : HO} {ws : List V} (hD : H D = some (.lst ws)) : ∀ {x : T} {v : V},Rp K H x v → Rp K (upd H D o) x v
 | _,_,.non => .non
 | _,_,.bl b => .bl b
 | _,_,.int i => .int i
 | _,_,.str x => .str x
 | _,_,.ref a => .ref a
 | _,_,.tup h hs => .tup (sqT_wrD hD h) (Rps.wrD hD hs)
theorem Rps.wrD {D : Addr} {o : HO} {ws : List V} (hD : H D = some (.lst ws)) : ∀ {x : List T} {v : List V},Rps K H x v → Rps K (upd H D o) x v
 | _,_,.nil => .nil
 | _,_,.cons a b => .cons (Rp.wrD hD a) (Rps.wrD hD b)
end
theorem HR.wrD {D : Addr} {o : HO} {ws : List V} (hr : HR K G H) (hD : H D = some (.lst ws)) (g : G D = none) : HR K G (upd H D o) := fun a ob e => by
 have ha : a ≠ D := by intro z;subst z;rw [g] at e;cases e
 have q := hr a ob e
 cases ob with
 | lst xs => obtain ⟨vs,h1,h2⟩ := q;exact ⟨vs,by rw [upd_ne ha];exact h1,h2.wrD hD⟩
 | frz xs => obtain ⟨vs,⟨o1,h1⟩,h2⟩ := q;exact ⟨vs,⟨o1,by rw [upd_ne ha];exact h1⟩,h2.wrD hD⟩
theorem Rel.wrD {D : Addr} {o : HO} {ws : List V} {τ : St3} {σ : L2.St} (r : Rel K τ G σ H) (hD : H D = some (.lst ws)) (g : G D = none) : Rel K τ G σ (upd H D o) :=
 ⟨r.hp.wrD hD g,r.len,fun i t e => let ⟨v,h1,h2⟩ := r.st i t e;⟨v,h1,h2.wrD hD⟩⟩
theorem Kp.wrD {D : Addr} {o : HO} (k : Kp G H G' H') (hD : H D = none) : Kp G H G' (upd H' D o) := fun a ob h g => by
 obtain ⟨h1,h2⟩ := k a ob h g
 exact ⟨by rw [upd_ne (ne_of_none h hD)];exact h1,h2⟩
theorem cap_some {α : Type} {m : List (Option Nat)} {σ : List (Option α)} {i j : Nat} (h : m[i]? = some (some j)) : (cap m σ)[i]? = some ((σ[j]?).join) := by
 unfold cap;rw [List.getElem?_map,h];rfl
theorem Rel.cap {τ : St3} {σ : L2.St} (r : Rel K τ G σ H) (m : List (Option Nat)) : Rel K (cap m τ) G (L3.cap m σ) H := by
 refine ⟨r.hp,by simp [L3.cap],fun i t e => ?_⟩
 obtain ⟨j,e1,e2⟩ := cap_get e
 obtain ⟨v,h1,h2⟩ := r.st j t e2
 exact ⟨v,by rw [cap_some e1,h1];rfl,h2⟩
end
noncomputable def lcGo (stay : Gp → Prop) (g : TG3) (tif : TT3) (te : TE3) (q : Q3) : List T → List T → St3 → Gp → Prop
 | [],ys,_,G => stay G∧∀ p,G p = none → q (.ref p) (gu G p (.lst ys))
 | x :: r,ys,τ,G => stay G∧g x τ G fun τ2 G2 => tif τ2 G2 fun k G3 => if k = true then te τ2 G3 fun y G4 => ys.length < sizeLine∧lcGo stay g tif te q r (ys ++ [y]) τ2 G4 else lcGo stay g tif te q r ys τ2 G3
noncomputable def lc3 (wi : TI3) (g : TG3) (tif : TT3) (te : TE3) (m : List (Option Nat)) : TE3 := fun τ G q => wi τ G fun items stay G1 => lcGo stay g tif te q items [] (cap m τ) G1
abbrev F3 (X : Cx) (ifs : List Expr) (t : TT3) : Prop := PF X ifs (lT X.K t)
noncomputable def tt3 : TT3 := fun _ G q => q true G
theorem f_nil {X : Cx} : F3 X [] tt3 := fun pins s σ H Q I ⟨τ,G,q,rl,h,af⟩ => pf_nil pins s σ H Q I (af true G h H rl.hp Kp.refl)
theorem f_one {X : Cx} {c : Expr} {t : TT3} (h : C3 X c t) : F3 X [c] t := pf_one h
section
variable {X : Cx}
theorem e_lc {elt tg iter : Expr} {ifs : List Expr} {scope : Scope} {pos : Pos} (N' : List Str) (m : List (Option Nat)) {wi : TI3} {g : TG3} {tif : TT3} {te : TE3} (hc : X.calm = true) (hi : I3 X tg iter wi)
  (hg : ∀ s H fp,G3 (cxComp X N' scope s H fp) tg g) (hf : ∀ s H fp,F3 (cxComp X N' scope s H fp) ifs tif) (he : ∀ s H fp,E3 (cxComp X N' scope s H fp) elt te)
  (hsc : scOk X.env.scope scope = true) (hcap : capOk X.N N' scope m = true) (hs : ∀ x,foldedSetIterable iter X.env x = pure x := by intro _;rfl) :
  E3 X (.ListComp elt [⟨tg,iter,ifs,0⟩] scope pos) (lc3 wi g tif te m) :=
 pe_w (pe_lc (g := lG X.K g) (tif := lT X.K tif) (te := lE X.K te) hc hi hg hf he hsc hcap hs) fun σ H Q ⟨τ,G,q,rl,h,af⟩ => by
  refine ⟨τ,G,_,rl,h,fun items stay G1 h1 J H1 hr1 k1 ok D hD => ?_⟩
  have gD : G1 D = none := hr1.free hD
  refine ⟨fun i n σ' H' => n = items.length - i∧i ≤ items.length∧∃ τ' G' ys vs,Rel X.K τ' G' σ' H'∧Kp G1 H1 G' H'∧H' D = some (.lst vs)∧Rps X.K H' ys vs∧G' D = none∧lcGo stay g tif te q (items.drop i) ys τ' G',
   ⟨_,rfl,Nat.zero_le _,cap m τ,G1,[],[],((rl.next hr1 k1).cap m).next (hr1.laid hD) (Kp.laid hD),Kp.laid hD,upd_same,.nil,gD,by simpa using h1⟩,?_⟩
  rintro i n σ' H' ⟨rfl,hi,τ',G',ys,vs,rl',k',hDl,rys,gD',h'⟩
  by_cases hlt : i < items.length
  ·rw [List.drop_eq_getElem_cons hlt] at h'
   obtain ⟨hst,h'⟩ := h'
   obtain ⟨go,yld,_⟩ := ok G' H' rl'.hp k' hst
   have hx : items[i]? = some items[i] := List.getElem?_eq_getElem hlt
   refine .inr ⟨go i _ hx,fun v H2 y => ?_⟩
   obtain ⟨rv,hr2,k2⟩ := yld i _ v H2 hx y
   have nxt : ∀ {τ4 : St3} {G4 : Gp} {σ4 : L2.St} {H4 : Hp} {ys4 : List T} {vs4 : List V},Rel X.K τ4 G4 σ4 H4 → Kp G1 H1 G4 H4 → H4 D = some (.lst vs4) → Rps X.K H4 ys4 vs4 → G4 D = none → lcGo stay g tif te q (items.drop (i + 1)) ys4 τ4 G4 →
     ∃ n',n' < items.length - i∧(n' = items.length - (i + 1)∧i + 1 ≤ items.length∧∃ τ' G' ys vs,Rel X.K τ' G' σ4 H4∧Kp G1 H1 G' H4∧H4 D = some (.lst vs)∧Rps X.K H4 ys vs∧G' D = none∧lcGo stay g tif te q (items.drop (i + 1)) ys τ' G') :=
    fun {τ4 G4 σ4 H4 ys4 vs4} a b c d e f => ⟨_,by omega,rfl,hlt,τ4,G4,ys4,vs4,a,b,c,d,e,f⟩
   refine ⟨_,τ',G',_,rv,rl'.next hr2 k2,h',fun τ3 G3 h3 σ3 H3 rl3 k3 => ⟨τ3,G3,_,rl3,h3,fun k G4 h4 H4 hr4 k4 => ?_⟩⟩
   have kk := (k2.trans k3).trans k4
   obtain ⟨hD4,gD4⟩ := kk D _ hDl gD'
   have rys4 := rys.keep rl'.hp kk
   cases k with
   | false =>
    rw [if_neg Bool.false_ne_true] at h4
    refine iteF ?_
    exact nxt (rl3.next hr4 k4) (k'.trans kk) hD4 rys4 gD4 h4
   | true =>
    rw [if_pos rfl] at h4
    refine iteT ?_
    refine ⟨τ3,G4,_,rl3.next hr4 k4,h4,fun z G5 h5 w H5 rw5 hr5 k5 => ?_⟩
    obtain ⟨hD5,gD5⟩ := k5 D _ hD4 gD4
    have rys5 := rys4.keep hr4 k5
    exact ⟨vs,hD5,by rw [← rys.length];exact h5.1,nxt (((rl3.next hr4 k4).next hr5 k5).wrD hD5 gD5) (((k'.trans kk).trans k5).wrD hD) upd_same ((rys5.append (.cons rw5 .nil)).wrD hD5) gD5 h5.2⟩
  ·have e : i = items.length := by omega
   subst e
   rw [List.drop_length] at h'
   obtain ⟨_,_,stop⟩ := ok G' H' rl'.hp k' h'.1
   refine .inl ⟨stop,af _ _ (h'.2 D gD') _ H' (.ref D) (fun a o e => ?_) fun a o e ga => ?_⟩
   ·by_cases ha : a = D
    ·subst ha
     rw [gu_same] at e;cases e
     exact ⟨vs,hDl,rys⟩
    ·rw [gu_ne ha] at e
     exact rl'.hp a o e
   ·obtain ⟨e1,g1⟩ := k1 a o e ga
    obtain ⟨e2,g2⟩ := k' a o e1 g1
    exact ⟨e2,by rw [gu_ne (ne_of_none e1 hD)];exact g2⟩
end
end L3
namespace L3
open PySem PySem.Spec PyProof.Rows L2
structure Src (P : Program) (w : World) (it c : Addr) (St : Nat → Heap → Prop) (Has : Array Value → Heap → Prop) : Prop where
 obj : ∀ {k h},St k h → ∃ o,h.get? it = some o∧∀ v,o.data ≠ .cell v
 keep : ∀ {k h h'},St k h → (∀ o,h.get? it = some o → h'.get? it = some o) → St k h'
 hkeep : ∀ {xs h h'},Has xs h → (∀ o,h.get? c = some o → h'.get? c = some o) → Has xs h'
 item : ∀ {A : Around} {s : Shared} {k : Nat} {xs : Array Value} {x : Value} {Q : Value → Shared → Prop} {E : Value → Shared → Prop},St k s.heap → Has xs s.heap → xs[k]? = some x →
  (∀ h',St (k + 1) h' → Heap.SameBut it s.heap h' → Q x { s with heap := h' }) → wpAny (model P w) A (Builtin.SmallTypes.nextOf (.ref it)) Q E s
 done : ∀ {A : Around} {s : Shared} {k : Nat} {xs : Array Value} {Q : Value → Shared → Prop} {E : Value → Shared → Prop},A.handled = none → St k s.heap → Has xs s.heap → xs[k]? = none →
  (∀ h' e,Heap.ExtBut it s.heap h' → (∃ o,h'.get? e = some o∧o.cls = .type "StopIteration") → E (.ref e) { s with heap := h' }) → wpAny (model P w) A (Builtin.SmallTypes.nextOf (.ref it)) Q E s
theorem src_list {P : Program} {w : World} (it l : Addr) : Src P w it l (fun k h => h.IsListIter it l k) (fun xs h => h.IsList l xs) where
 obj := fun st => let ⟨o,e,_,d⟩ := st;⟨o,e,fun v z => by rw [d] at z;cases z⟩
 keep := fun st k => st.at fun o e => k o e
 hkeep := fun st k => st.at fun o e => k o e
 item := fun st hl hx hQ => wpAny_nextOf_list_item st hl hx hQ
 done := fun hh st hl hx hE => wpAny_nextOf_list_end hh st hl hx hE
theorem nextOf_tup {P : Program} {w : World} {A : Around} {s : Shared} {it t : Addr} {i : Nat} {its : Array Value} {x : Value} {Q : Value → Shared → Prop} {E : Value → Shared → Prop} (hit : s.heap.IsTupleIter it t i) (ht : s.heap.IsTuple t its) (hx : its[i]? = some x)
  (hQ : ∀ h',h'.IsTupleIter it t (i + 1) → Heap.SameBut it s.heap h' → Q x { s with heap := h' }) : wpAny (model P w) A (Builtin.SmallTypes.nextOf (.ref it)) Q E s := by
 obtain ⟨o1,e1,c1,d1⟩ := id hit
 obtain ⟨o2,e2,_,n2,d2⟩ := ht
 unfold Builtin.SmallTypes.nextOf
 refine wpAny_bind (wpAny_callSpecial?_slot (name := Str.ofString "__next__") hit.typeIs F.slot_tuple_iterator_next (wpAny_call_entry F.slot_tuple_iterator_next hit.typeIs F.entry_tuple_iterator_next ?_ (F.args_tuple_iterator_next_1 _)))
 refine wpAny_bind (m := field (.ref it) 0) (wpAny_field e1 d1 (x := .ref t) rfl ?_)
 rw [if_neg (show ¬ ((Value.ref t == Value.none) = true) by exact Bool.false_ne_true)]
 refine wpAny_bind (m := field (.ref it) 1) (wpAny_field e1 d1 (x := .int i 0) rfl ?_)
 refine wpAny_bind (m := seqItems? (.ref t)) (wpAny_seqItems e2 d2 ?_)
 simp only [Int.toNat_natCast,hx]
 refine wpAny_bind (wpAny_setField e1 d1 (by simp) (wpAny_pure ⟨x,rfl,wpAny_pure (hQ _ ⟨_,Heap.get?_update_self _ e1 (Obj.isFreed_of_fields (Obj.data_mapFields d1 _)),(Obj.cls_mapFields ..).trans c1,?_⟩ (Heap.SameBut.update ..))⟩))
 rw [Obj.data_mapFields d1];simp [rawInt]
theorem nextOf_tup_end {P : Program} {w : World} {A : Around} {s : Shared} {it t : Addr} {i : Nat} {its : Array Value} {Q : Value → Shared → Prop} {E : Value → Shared → Prop} (hh : A.handled = none) (hit : s.heap.IsTupleIter it t i) (ht : s.heap.IsTuple t its) (hx : its[i]? = none)
  (hE : ∀ h' e,Heap.ExtBut it s.heap h' → (∃ o,h'.get? e = some o∧o.cls = .type "StopIteration") → E (.ref e) { s with heap := h' }) : wpAny (model P w) A (Builtin.SmallTypes.nextOf (.ref it)) Q E s := by
 obtain ⟨o1,e1,c1,d1⟩ := id hit
 obtain ⟨o2,e2,_,n2,d2⟩ := ht
 unfold Builtin.SmallTypes.nextOf
 refine wpAny_bind (wpAny_callSpecial?_slot (name := Str.ofString "__next__") hit.typeIs F.slot_tuple_iterator_next (wpAny_call_entry F.slot_tuple_iterator_next hit.typeIs F.entry_tuple_iterator_next ?_ (F.args_tuple_iterator_next_1 _)))
 refine wpAny_bind (m := field (.ref it) 0) (wpAny_field e1 d1 (x := .ref t) rfl ?_)
 rw [if_neg (show ¬ ((Value.ref t == Value.none) = true) by exact Bool.false_ne_true)]
 refine wpAny_bind (m := field (.ref it) 1) (wpAny_field e1 d1 (x := .int i 0) rfl ?_)
 refine wpAny_bind (m := seqItems? (.ref t)) (wpAny_seqItems e2 d2 ?_)
 simp only [Int.toNat_natCast,hx]
 refine wpAny_bind (wpAny_rule (wpAny_bind (wpAny_setField e1 d1 (by simp) ?_)))
 refine wpAny_bind (m := newExc (.type "StopIteration") []) ?_
 simp only [newExc,newTuple]
 refine wpAny_bind (wpAny_newObj_type ?_ (by size_fits))
 refine wpAny_bind (m := firstArgMember _ _) (wpAny_of_eq (a := Value.none) (by first | rfl | (simp only [firstArgMember] <;> rfl)) (wpAny_newObj_type ?_ (by size_fits)))
 simp only [raiseNew]
 refine wpAny_bind (wpAny_handled ?_)
 first | rw [show A.in1.handled = Option.none from hh] | rw [show A.handled = Option.none from hh]
 exact wpAny_bind (wpAny_pure (wpAny_throw (hE _ _ (((Heap.SameBut.update ..).extBut.push _).push _) ⟨_,Heap.get?_push_size _ rfl,rfl⟩)))
theorem src_tup {P : Program} {w : World} (it t : Addr) : Src P w it t (fun k h => h.IsTupleIter it t k) (fun xs h => h.IsTuple t xs) where
 obj := fun st => let ⟨o,e,_,d⟩ := st;⟨o,e,fun v z => by rw [d] at z;cases z⟩
 keep := fun st k => st.at fun o e => k o e
 hkeep := fun st k => st.at fun o e => k o e
 item := fun st hl hx hQ => nextOf_tup st hl hx hQ
 done := fun hh st hl hx hE => nextOf_tup_end hh st hl hx hE
structure ZA (z ti to i1 i2 c1 c2 : Addr) : Prop where
 ne : ([z,ti,to,i1,i2] : List Addr).Nodup
 a1 : c1 ∉ [z,to,i1,i2]
 a2 : c2 ∉ [z,to,i1,i2]
section
variable {P : Program} {w : World} {A : Around} {s : Shared} {z ti to i1 i2 c1 c2 : Addr} {S1 S2 : Nat → Heap → Prop} {H1 H2 : Array Value → Heap → Prop} {k1 k2 : Nat} {xs ys : Array Value} {x y a b : Value} {E : Value → Shared → Prop}
theorem zip_item {Q : Value → Shared → Prop} (R1 : Src P w i1 c1 S1 H1) (R2 : Src P w i2 c2 S2 H2) (D : ZA z ti to i1 i2 c1 c2) (hz : IsZip s.heap z ti to .none) (hi : IsPair s.heap ti (.ref i1) (.ref i2)) (ho : IsPair s.heap to a b)
  (p1 : S1 k1 s.heap) (p2 : S2 k2 s.heap) (l1 : H1 xs s.heap) (l2 : H2 ys s.heap) (hx : xs[k1]? = some x) (hy : ys[k2]? = some y)
  (hQ : ∀ h',IsZip h' z ti to (rawInt s.heap.objs.size) → IsPair h' to x y → S1 (k1 + 1) h' → S2 (k2 + 1) h' → IsPair h' s.heap.objs.size x y → (∀ c o,c ∉ [z,to,i1,i2] → s.heap.get? c = some o → h'.get? c = some o) → Q (.ref s.heap.objs.size) { s with heap := h' }) :
  wpAny (model P w) A (Builtin.«zip.__next__» ⟨[.ref z],[]⟩) (fun fin s' => ∃ v,fin = .done (.ret v)∧Q v s') E s := by
 have ne := D.ne
 simp only [List.nodup_cons,List.mem_cons,List.not_mem_nil,not_or,or_false] at ne
 obtain ⟨⟨n1,n2,n3,n4⟩,⟨n5,n6,n7⟩,⟨n8,n9⟩,n10,_⟩ := ne
 have a1 := D.a1
 have a2 := D.a2
 simp only [List.mem_cons,List.not_mem_nil,not_or,or_false] at a1 a2
 obtain ⟨q1,q2,q3,q4⟩ := a1
 obtain ⟨r1,r2,r3,r4⟩ := a2
 refine wpAny_bind (m := field (.ref z) 2) (wpAny_field hz rfl (x := .bool false) rfl ?_)
 refine wpAny_bind (m := field (.ref z) 3) (wpAny_field hz rfl (x := .ref ti) rfl ?_)
 refine wpAny_bind (wpAny_seqItems hi rfl ?_)
 refine wpAny_bind (m := Builtin.SmallTypes.ownedTupleIsFree (.ref z)) ?_
 unfold Builtin.SmallTypes.ownedTupleIsFree
 refine wpAny_bind (wpAny_field hz rfl (x := Value.none) rfl (wpAny_pure ?_))
 simp only [if_true]
 refine wpAny_bind (wpAny_rule (wpAny_bind (wpAny_field hz rfl (x := .ref to) rfl (wpAny_bind (wpAny_setField_rec hz (by simp) fun g1 z1 s1 => ?_)))))
 replace z1 : IsZip g1 z ti to Value.ellipsis := z1
 refine wpAny_bind ?_
 simp only [List.zipIdx_cons,List.zipIdx_nil,List.forIn_cons,List.forIn_nil]
 refine wpAny_bind (wpAny_bind (wpAny_onRaise (wpAny_bind (m := Builtin.SmallTypes.nextOf (.ref i1)) ?_)))
 refine R1.item (R1.keep p1 fun o e => s1.extBut _ _ (Ne.symm n3) e) (R1.hkeep l1 fun o e => s1.extBut _ _ q1 e) hx fun g2 p12 s2 => wpAny_pure ?_
 have t2 : IsPair g2 to a b := s2.extBut _ _ n8 (s1.extBut _ _ (Ne.symm n2) ho)
 refine wpAny_bind (wpAny_seqItems t2 rfl (wpAny_bind (wpAny_updateSeq_pair t2 fun g3 t3 s3 => ?_)))
 replace t3 : IsPair g3 to x b := t3
 refine wpAny_bind (wpAny_letGo (wpAny_pure (wpAny_bind (wpAny_bind (wpAny_onRaise (wpAny_bind (m := Builtin.SmallTypes.nextOf (.ref i2)) ?_))))))
 refine R2.item (R2.keep p2 fun o e => s3.extBut _ _ (Ne.symm n9) (s2.extBut _ _ (Ne.symm n10) (s1.extBut _ _ (Ne.symm n4) e))) (R2.hkeep l2 fun o e => s3.extBut _ _ r2 (s2.extBut _ _ r3 (s1.extBut _ _ r1 e))) hy fun g4 p24 s4 => wpAny_pure ?_
 have t4 : IsPair g4 to x b := s4.extBut _ _ n9 t3
 refine wpAny_bind (wpAny_seqItems t4 rfl (wpAny_bind (wpAny_updateSeq_pair t4 fun g5 t5 s5 => ?_)))
 replace t5 : IsPair g5 to x y := t5
 refine wpAny_bind (wpAny_letGo (wpAny_pure (wpAny_pure (wpAny_bind (wpAny_seqItems t5 rfl (wpAny_bind (wpAny_newTuple ?_)))))))
 have sz : g5.objs.size = s.heap.objs.size := by rw [s5.1,s4.1,s3.1,s2.1,s1.1]
 have z5 : IsZip g5 z ti to Value.ellipsis := s5.extBut _ _ n2 (s4.extBut _ _ n4 (s3.extBut _ _ n2 (s2.extBut _ _ n3 z1)))
 have kk : ∀ c o,c ∉ [z,to,i1,i2] → s.heap.get? c = some o → g5.get? c = some o := fun c o hc e => by
  simp only [List.mem_cons,List.not_mem_nil,not_or,or_false] at hc
  exact s5.extBut _ _ hc.2.1 (s4.extBut _ _ hc.2.2.2 (s3.extBut _ _ hc.2.1 (s2.extBut _ _ hc.2.2.1 (s1.extBut _ _ hc.1 e))))
 have p15 : S1 (k1 + 1) g5 := R1.keep p12 fun o e => s5.extBut _ _ (Ne.symm n8) (s4.extBut _ _ n10 (s3.extBut _ _ (Ne.symm n8) e))
 have p25 : S2 (k2 + 1) g5 := R2.keep p24 fun o e => s5.extBut _ _ (Ne.symm n9) e
 have zlt : z < g5.objs.size := Heap.lt_size z5
 refine wpAny_bind (m := Builtin.SmallTypes.ownedTupleHandOut (.ref z) (.ref g5.objs.size)) ?_
 unfold Builtin.SmallTypes.ownedTupleHandOut
 have z6 : IsZip (g5.push { cls := .type "tuple",data := .seq #[x,y] }) z ti to Value.ellipsis := Heap.get?_push_of_some _ z5
 refine wpAny_bind (wpAny_setField_rec z6 (by simp) fun g7 z7 s7 => ?_)
 replace z7 : IsZip g7 z ti to (rawInt g5.objs.size) := z7
 refine wpAny_setField_rec z7 (by simp) fun g8 z8 s8 => ?_
 replace z8 : IsZip g8 z ti to (rawInt g5.objs.size) := z8
 have up : ∀ c o,c ≠ z → g5.get? c = some o → g8.get? c = some o := fun c o hc e => s8.extBut _ _ hc (s7.extBut _ _ hc (Heap.get?_push_of_some _ e))
 have t8 : IsPair g8 g5.objs.size x y := s8.extBut _ _ (Nat.ne_of_gt zlt) (s7.extBut _ _ (Nat.ne_of_gt zlt) (Heap.get?_push_size _ rfl))
 rw [sz] at z8 t8
 refine wpAny_pure ⟨_,rfl,?_⟩
 show Q (Value.ref g5.objs.size) _
 rw [sz]
 exact hQ g8 z8 (up _ _ (Ne.symm n2) t5) (R1.keep p15 fun o e => up _ o (Ne.symm n3) e) (R2.keep p25 fun o e => up _ o (Ne.symm n4) e) t8 fun c o hc e => up c o (fun q => hc (by simp [q])) (kk c o hc e)
theorem zip_end {Q : Fin → Shared → Prop} (hh : A.handled = none) (R1 : Src P w i1 c1 S1 H1) (R2 : Src P w i2 c2 S2 H2) (D : ZA z ti to i1 i2 c1 c2) (hz : IsZip s.heap z ti to .none) (hi : IsPair s.heap ti (.ref i1) (.ref i2)) (ho : IsPair s.heap to a b)
  (p1 : S1 k1 s.heap) (p2 : S2 k2 s.heap) (l1 : H1 xs s.heap) (l2 : H2 ys s.heap) (hend : xs[k1]? = none ∨ ys[k2]? = none)
  (hE : ∀ h' e,(∀ c o,c ∉ [z,to,i1,i2] → s.heap.get? c = some o → h'.get? c = some o) → (∃ o,h'.get? e = some o∧o.cls = .type "StopIteration") → E (.ref e) { s with heap := h' }) :
  wpAny (model P w) A (Builtin.«zip.__next__» ⟨[.ref z],[]⟩) Q E s := by
 have ne := D.ne
 simp only [List.nodup_cons,List.mem_cons,List.not_mem_nil,not_or,or_false] at ne
 obtain ⟨⟨n1,n2,n3,n4⟩,⟨n5,n6,n7⟩,⟨n8,n9⟩,n10,_⟩ := ne
 have a1 := D.a1
 have a2 := D.a2
 simp only [List.mem_cons,List.not_mem_nil,not_or,or_false] at a1 a2
 obtain ⟨q1,q2,q3,q4⟩ := a1
 obtain ⟨r1,r2,r3,r4⟩ := a2
 refine wpAny_bind (m := field (.ref z) 2) (wpAny_field hz rfl (x := .bool false) rfl ?_)
 refine wpAny_bind (m := field (.ref z) 3) (wpAny_field hz rfl (x := .ref ti) rfl ?_)
 refine wpAny_bind (wpAny_seqItems hi rfl ?_)
 refine wpAny_bind (m := Builtin.SmallTypes.ownedTupleIsFree (.ref z)) ?_
 unfold Builtin.SmallTypes.ownedTupleIsFree
 refine wpAny_bind (wpAny_field hz rfl (x := Value.none) rfl (wpAny_pure ?_))
 simp only [if_true]
 refine wpAny_bind (wpAny_rule (wpAny_bind (wpAny_field hz rfl (x := .ref to) rfl (wpAny_bind (wpAny_setField_rec hz (by simp) fun g1 z1 s1 => ?_)))))
 replace z1 : IsZip g1 z ti to Value.ellipsis := z1
 refine wpAny_bind ?_
 simp only [List.zipIdx_cons,List.zipIdx_nil,List.forIn_cons,List.forIn_nil]
 refine wpAny_bind (wpAny_bind (wpAny_onRaise (wpAny_bind (m := Builtin.SmallTypes.nextOf (.ref i1)) ?_)))
 cases hx : xs[k1]? with
 | none =>
  refine R1.done hh (R1.keep p1 fun o e => s1.extBut _ _ (Ne.symm n3) e) (R1.hkeep l1 fun o e => s1.extBut _ _ q1 e) hx fun g2 e s2 ⟨oe,he,ce⟩ => ?_
  have z2 : IsZip g2 z ti to Value.ellipsis := s2 _ _ n3 z1
  have ez : e ≠ z := fun q => by subst q;rw [z2] at he;cases he;simp at ce
  refine wpAny_setField_rec z2 (by simp) fun g3 _ s3 => hE g3 e (fun c o hc q => ?_) ⟨oe,s3.extBut _ _ ez he,ce⟩
  simp only [List.mem_cons,List.not_mem_nil,not_or,or_false] at hc
  exact s3.extBut _ _ hc.1 (s2 _ _ hc.2.2.1 (s1.extBut _ _ hc.1 q))
 | some x =>
  have hy : ys[k2]? = none := by rcases hend with q | q;rw [hx] at q;cases q;exact q
  refine R1.item (R1.keep p1 fun o e => s1.extBut _ _ (Ne.symm n3) e) (R1.hkeep l1 fun o e => s1.extBut _ _ q1 e) hx fun g2 p12 s2 => wpAny_pure ?_
  have t2 : IsPair g2 to a b := s2.extBut _ _ n8 (s1.extBut _ _ (Ne.symm n2) ho)
  refine wpAny_bind (wpAny_seqItems t2 rfl (wpAny_bind (wpAny_updateSeq_pair t2 fun g3 t3 s3 => ?_)))
  refine wpAny_bind (wpAny_letGo (wpAny_pure (wpAny_bind (wpAny_bind (wpAny_onRaise (wpAny_bind (m := Builtin.SmallTypes.nextOf (.ref i2)) ?_))))))
  refine R2.done hh (R2.keep p2 fun o e => s3.extBut _ _ (Ne.symm n9) (s2.extBut _ _ (Ne.symm n10) (s1.extBut _ _ (Ne.symm n4) e))) (R2.hkeep l2 fun o e => s3.extBut _ _ r2 (s2.extBut _ _ r3 (s1.extBut _ _ r1 e))) hy fun g4 e s4 ⟨oe,he,ce⟩ => ?_
  have z4 : IsZip g4 z ti to Value.ellipsis := s4 _ _ n4 (s3.extBut _ _ n2 (s2.extBut _ _ n3 z1))
  have ez : e ≠ z := fun q => by subst q;rw [z4] at he;cases he;simp at ce
  refine wpAny_setField_rec z4 (by simp) fun g5 _ s5 => hE g5 e (fun c o hc q => ?_) ⟨oe,s5.extBut _ _ ez he,ce⟩
  simp only [List.mem_cons,List.not_mem_nil,not_or,or_false] at hc
  exact s5.extBut _ _ hc.1 (s4 _ _ hc.2.2.2 (s3.extBut _ _ hc.2.1 (s2.extBut _ _ hc.2.2.1 (s1.extBut _ _ hc.1 q))))
end
end L3
namespace L3
open PySem PySem.Spec PyProof.Rows L2
noncomputable abbrev itCls (b : Bool) : String := if b then "list_iterator" else "tuple_iterator"
noncomputable abbrev itObj (b : Bool) (c : Addr) : Obj := { cls := .type (itCls b),data := .fields #[.ref c,.int 0 0] }
def IsIt (b : Bool) (it c : Addr) (k : Nat) (h : Heap) : Prop := match b with | true => h.IsListIter it c k | false => h.IsTupleIter it c k
def IsSq (b : Bool) (c : Addr) (xs : Array Value) (h : Heap) : Prop := match b with | true => h.IsList c xs | false => h.IsTuple c xs
theorem src_of {P : Program} {w : World} (b : Bool) (it c : Addr) : Src P w it c (IsIt b it c) (IsSq b c) := by
 cases b
 ·exact src_tup it c
 ·exact src_list it c
theorem iter_of {P : Program} {w : World} {A : Around} {s : Shared} {b : Bool} {c : Addr} {xs : Array Value} {Q : Value → Shared → Prop} {E : Value → Shared → Prop} (h : IsSq b c xs s.heap) (q : Q (.ref s.heap.objs.size) { s with heap := s.heap.push (itObj b c) }) :
  wpAny (model P w) A (pyIter (.ref c)) Q E s := by
 cases b
 ·exact wpAny_pyIter_tuple (show s.heap.IsTuple c xs from h) q
 ·exact wpAny_pyIter_list (show s.heap.IsList c xs from h) q
theorem isSq_push {b : Bool} {c : Addr} {xs : Array Value} {h : Heap} {o : Obj} (q : IsSq b c xs h) : IsSq b c xs (h.push o) := by
 cases b
 ·exact (show h.IsTuple c xs from q).at fun _ e => Heap.get?_push_of_some _ e
 ·exact (show h.IsList c xs from q).at fun _ e => Heap.get?_push_of_some _ e
noncomputable abbrev zh1 (h : Heap) (o1 : Obj) : Heap := h.push o1
noncomputable abbrev zh2 (h : Heap) (o1 o2 : Obj) : Heap := (zh1 h o1).push o2
noncomputable abbrev zh3 (h : Heap) (o1 o2 : Obj) : Heap := (zh2 h o1 o2).push { cls := .type "tuple",data := .seq #[.ref h.objs.size,.ref (zh1 h o1).objs.size] }
noncomputable abbrev zh4 (h : Heap) (o1 o2 : Obj) : Heap := (zh3 h o1 o2).push { cls := .type "tuple",data := .seq #[.none,.none] }
noncomputable abbrev zh5 (h : Heap) (o1 o2 : Obj) : Heap := (zh4 h o1 o2).push { cls := .type "zip",data := .fields #[.none,.bool false,.bool false,.ref (zh2 h o1 o2).objs.size,.ref (zh3 h o1 o2).objs.size] }
theorem meets_zip (c1 c2 : Addr) (o1 o2 : Obj) :
  Meets (Builtin.«zip.__new__» ⟨[.type "zip",.ref c1,.ref c2],[]⟩) (fun _ R s =>
   (∀ (P : Program) (w : World) (A : Around) (Q : Value → Shared → Prop) (E : Value → Shared → Prop),Q (.ref s.heap.objs.size) { s with heap := zh1 s.heap o1 } → wpAny (model P w) A (pyIter (.ref c1)) Q E s) ∧
   (∀ (P : Program) (w : World) (A : Around) (Q : Value → Shared → Prop) (E : Value → Shared → Prop),Q (.ref (zh1 s.heap o1).objs.size) { s with heap := zh2 s.heap o1 o2 } → wpAny (model P w) A (pyIter (.ref c2)) Q E { s with heap := zh1 s.heap o1 }) ∧
   R (.ok (.ret (.ref (zh4 s.heap o1 o2).objs.size))) { s with heap := zh5 s.heap o1 o2 }) :=
 .of_wp fun prog w A R s h => by
  obtain ⟨hp,g,d,tk,os⟩ := s
  obtain ⟨h1,h2,h⟩ := h
  have hsub := sub_zip
  have k1 := fun A Q E => h1 prog w A Q E
  have k2 := fun A Q E => h2 prog w A Q E
  wp_walk using k1 _ _ _,k2 _ _ _
  exact ⟨_,rfl,h⟩
end L3
namespace L3
open PySem PySem.Spec PyProof.Rows L2
def ZipSt (b1 b2 : Bool) (z ti to i1 i2 c1 c2 : Addr) (k : Nat) (h : Heap) : Prop :=
 IsZip h z ti to .none∧IsPair h ti (.ref i1) (.ref i2)∧(∃ a b,IsPair h to a b)∧IsIt b1 i1 c1 k h∧IsIt b2 i2 c2 k h
section
variable {P : Program} {w : World} {A : Around} {s : Shared} {E : Value → Shared → Prop}
theorem call_zip {b1 b2 : Bool} {c1 c2 : Addr} {xs ys : Array Value} {Q : Value → Shared → Prop} (h1 : IsSq b1 c1 xs s.heap) (h2 : IsSq b2 c2 ys s.heap)
  (q : ∀ h',ZipSt b1 b2 (s.heap.objs.size + 4) (s.heap.objs.size + 2) (s.heap.objs.size + 3) s.heap.objs.size (s.heap.objs.size + 1) c1 c2 0 h' → (∀ c o,s.heap.get? c = some o → h'.get? c = some o) → Q (.ref (s.heap.objs.size + 4)) { s with heap := h' }) :
  wpAny (model P w) A (call (.type "zip") [.ref c1,.ref c2]) Q E s := by
 refine callType_new F.called_zip (by decide) (F.typeCall_zip_2 _ _) (F.newCall_zip_2 _ _) (fun obj => F.args_object_init_3 obj _ _) F.entry_zip_new
  (meets_zip c1 c2 (itObj b1 c1) (itObj b2 c2)) ⟨fun P w A Q E q => iter_of h1 q,fun P w A Q E q => iter_of (s := { s with heap := zh1 s.heap (itObj b1 c1) }) (isSq_push h2) q,?_⟩
 have e1 : (zh1 s.heap (itObj b1 c1)).objs.size = s.heap.objs.size + 1 := Heap.size_push ..
 have e2 : (zh2 s.heap (itObj b1 c1) (itObj b2 c2)).objs.size = s.heap.objs.size + 2 := by rw [Heap.size_push,e1]
 have e3 : (zh3 s.heap (itObj b1 c1) (itObj b2 c2)).objs.size = s.heap.objs.size + 3 := by rw [Heap.size_push,e2]
 have e4 : (zh4 s.heap (itObj b1 c1) (itObj b2 c2)).objs.size = s.heap.objs.size + 4 := by rw [Heap.size_push,e3]
 have g5 : (zh5 s.heap (itObj b1 c1) (itObj b2 c2)).get? (zh4 s.heap (itObj b1 c1) (itObj b2 c2)).objs.size = some _ := Heap.get?_push_size _ rfl
 have g4 : (zh5 s.heap (itObj b1 c1) (itObj b2 c2)).get? (zh3 s.heap (itObj b1 c1) (itObj b2 c2)).objs.size = some _ := Heap.get?_push_of_some _ (Heap.get?_push_size _ rfl)
 have g3 : (zh5 s.heap (itObj b1 c1) (itObj b2 c2)).get? (zh2 s.heap (itObj b1 c1) (itObj b2 c2)).objs.size = some _ := Heap.get?_push_of_some _ (Heap.get?_push_of_some _ (Heap.get?_push_size _ rfl))
 have g2 : (zh5 s.heap (itObj b1 c1) (itObj b2 c2)).get? (zh1 s.heap (itObj b1 c1)).objs.size = some (itObj b2 c2) := Heap.get?_push_of_some _ (Heap.get?_push_of_some _ (Heap.get?_push_of_some _ (Heap.get?_push_size _ rfl)))
 have g1 : (zh5 s.heap (itObj b1 c1) (itObj b2 c2)).get? s.heap.objs.size = some (itObj b1 c1) := Heap.get?_push_of_some _ (Heap.get?_push_of_some _ (Heap.get?_push_of_some _ (Heap.get?_push_of_some _ (Heap.get?_push_size _ rfl))))
 show _∧_
 rw [e2,e3,e4] at g5
 rw [e1,e2] at g3
 rw [e3] at g4
 rw [e1] at g2
 rw [e4]
 refine ⟨⟨_,g5,rfl⟩,q _ ⟨g5,g3,⟨_,_,g4⟩,?_,?_⟩ fun c o e => Heap.get?_push_of_some _ (Heap.get?_push_of_some _ (Heap.get?_push_of_some _ (Heap.get?_push_of_some _ (Heap.get?_push_of_some _ e))))⟩
 ·cases b1 <;> exact ⟨_,g1,rfl,rfl⟩
 ·cases b2 <;> exact ⟨_,g2,rfl,rfl⟩
theorem next_zip {b1 b2 : Bool} {z ti to i1 i2 c1 c2 : Addr} {k : Nat} {xs ys : Array Value} {x y : Value} {Q : Option Value → Shared → Prop} (D : ZA z ti to i1 i2 c1 c2) (st : ZipSt b1 b2 z ti to i1 i2 c1 c2 k s.heap) (l1 : IsSq b1 c1 xs s.heap) (l2 : IsSq b2 c2 ys s.heap) (hx : xs[k]? = some x) (hy : ys[k]? = some y)
  (hQ : ∀ h',IsZip h' z ti to (rawInt s.heap.objs.size) → IsPair h' ti (.ref i1) (.ref i2) → (∃ a b,IsPair h' to a b) → IsIt b1 i1 c1 (k + 1) h' → IsIt b2 i2 c2 (k + 1) h' → IsPair h' s.heap.objs.size x y → (∀ c o,c ∉ [z,to,i1,i2] → s.heap.get? c = some o → h'.get? c = some o) → Q (some (.ref s.heap.objs.size)) { s with heap := h' }) :
  wpAny (model P w) A (pyNext (.ref z)) Q E s := by
 obtain ⟨hz,hi,⟨a,b,ho⟩,p1,p2⟩ := st
 have ty : s.TypeIs (.ref z) "zip" := ⟨_,hz,rfl⟩
 have nti : ti ∉ [z,to,i1,i2] := by
  have ne := D.ne
  simp only [List.nodup_cons,List.mem_cons,List.not_mem_nil,not_or,or_false] at ne ⊢
  exact ⟨Ne.symm ne.1.1,ne.2.1.1,ne.2.1.2.1,ne.2.1.2.2⟩
 unfold pyNext
 exact wpAny_bind (wpAny_attempt (wpAny_callSpecial?_slot (name := Str.ofString "__next__") ty F.slot_zip_next (wpAny_call_entry F.slot_zip_next ty F.entry_zip_next
  (zip_item (src_of b1 i1 c1) (src_of b2 i2 c2) D hz hi ho p1 p2 l1 l2 hx hy fun h' u1 u2 u3 u4 u5 u6 => wpAny_pure (hQ h' u1 (u6 _ _ nti hi) ⟨_,_,u2⟩ u3 u4 u5 u6)) (F.args_zip_next_1 _))))
theorem next_zip_end {b1 b2 : Bool} {z ti to i1 i2 c1 c2 : Addr} {k : Nat} {xs ys : Array Value} {Q : Option Value → Shared → Prop} (hh : A.handled = none) (D : ZA z ti to i1 i2 c1 c2) (st : ZipSt b1 b2 z ti to i1 i2 c1 c2 k s.heap) (l1 : IsSq b1 c1 xs s.heap) (l2 : IsSq b2 c2 ys s.heap) (hend : xs[k]? = none ∨ ys[k]? = none)
  (hQ : ∀ h',(∀ c o,c ∉ [z,to,i1,i2] → s.heap.get? c = some o → h'.get? c = some o) → Q none { s with heap := h' }) : wpAny (model P w) A (pyNext (.ref z)) Q E s := by
 obtain ⟨hz,hi,⟨a,b,ho⟩,p1,p2⟩ := st
 have ty : s.TypeIs (.ref z) "zip" := ⟨_,hz,rfl⟩
 unfold pyNext
 refine wpAny_bind (wpAny_attempt (wpAny_callSpecial?_slot (name := Str.ofString "__next__") ty F.slot_zip_next (wpAny_call_entry F.slot_zip_next ty F.entry_zip_next
  (zip_end hh (src_of b1 i1 c1) (src_of b2 i2 c2) D hz hi ho p1 p2 l1 l2 hend fun h' e hk ⟨o,q1,q2⟩ => ?_) (F.args_zip_next_1 _))))
 exact wpAny_bind (wpAny_isInstance (T := "StopIteration") (b := true) ⟨o,q1,q2⟩ isSubtype_stop (wpAny_pure (hQ _ hk)))
end
def SqB (K : PySem.W.Frag) (b : Bool) (H : Hp) (a : Addr) (xs : List V) : Prop := match b with | true => SqL K H a xs | false => SqT K H a xs
theorem SqB.get {X : Cx} {pins : List (Addr × Obj)} {σ : L2.St} {H : Hp} {s : Shared} {b : Bool} {a : Addr} {xs : List V} (I : Inv X pins σ H s) (h : SqB X.K b H a xs) : ∃ its : List Value,Vals xs its∧IsSq b a its.toArray s.heap∧xs.length ≤ sizeLine := by
 cases b
 ·obtain ⟨its,r,p,hz⟩ := I.tuple (show SqT X.K H a xs from h)
  exact ⟨its,r,(show s.heap.IsTuple a its.toArray from p),hz⟩
 ·obtain ⟨its,r,p,hz⟩ := I.list (show SqL X.K H a xs from h)
  exact ⟨its,r,p.isList,hz⟩
theorem SqB.inj {X : Cx} {pins : List (Addr × Obj)} {σ : L2.St} {H : Hp} {s : Shared} {b : Bool} {a : Addr} {xs ys : List V} (I : Inv X pins σ H s) (h : SqB X.K b H a xs) (h' : SqB X.K b H a ys) : xs = ys := by
 cases b
 ·exact I.tuple_inj h h'
 ·exact I.list_inj h h'
noncomputable def Itz (K : PySem.W.Frag) (b1 b2 : Bool) (c1 c2 : Addr) : It :=
  ⟨fun i H => ∃ xs ys x y,SqB K b1 H c1 xs∧SqB K b2 H c2 ys∧xs[i]? = some x∧ys[i]? = some y,
   fun i H v H' => ∃ p x y,H p = none∧v = .ref p∧H' = upd H p (.tup [x,y])∧(∀ xs,SqB K b1 H c1 xs → xs[i]? = some x)∧(∀ ys,SqB K b2 H c2 ys → ys[i]? = some y),
   fun i H => ∃ xs ys,SqB K b1 H c1 xs∧SqB K b2 H c2 ys∧(xs.length ≤ i ∨ ys.length ≤ i)⟩
theorem sq_lt {b : Bool} {c : Addr} {xs : Array Value} {h : Heap} (q : IsSq b c xs h) : c < h.objs.size := by
 cases b
 ·obtain ⟨o,e,_⟩ := (show h.IsTuple c xs from q);exact Heap.lt_size e
 ·obtain ⟨o,e,_⟩ := (show h.IsList c xs from q);exact Heap.lt_size e
theorem turn_zip {P : Program} {w : World} {K : PySem.W.Frag} {es : List Expr} {k1 : Nat} {pt : Pos} {b1 b2 : Bool} {z ti to i1 i2 c1 c2 : Addr} (D : ZA z ti to i1 i2 c1 c2) : Turn P w K (.Tuple es k1 pt) (Itz K b1 b2 c1 c2) [z,ti,to,i1,i2] z (ZipSt b1 b2 z ti to i1 i2 c1 c2) where
 mem := by simp
 obj := fun i h ⟨hz,hi,⟨a,b,ho⟩,p1,p2⟩ c hc => by
  simp only [List.mem_cons,List.not_mem_nil,or_false] at hc
  rcases hc with rfl | rfl | rfl | rfl | rfl
  ·exact ⟨_,hz,fun v q => by cases q⟩
  ·exact ⟨_,hi,fun v q => by cases q⟩
  ·exact ⟨_,ho,fun v q => by cases q⟩
  ·exact (src_of (P := P) (w := w) b1 c c1).obj p1
  ·exact (src_of (P := P) (w := w) b2 c c2).obj p2
 keep := fun i h h' ⟨hz,hi,⟨a,b,ho⟩,p1,p2⟩ k =>
  ⟨k z (by simp) _ hz,k ti (by simp) _ hi,⟨a,b,k to (by simp) _ ho⟩,(src_of (P := P) (w := w) b1 i1 c1).keep p1 fun o e => k i1 (by simp) o e,(src_of (P := P) (w := w) b2 i2 c2).keep p2 fun o e => k i2 (by simp) o e⟩
 item := by
  intro X hP hw hK hc i pins s σ H E I hf st hg
  subst hP hw hK
  obtain ⟨xs,ys,x,y,sq1,sq2,hx,hy⟩ := hg
  obtain ⟨its1,rv1,l1,z1⟩ := sq1.get I
  obtain ⟨its2,rv2,l2,z2⟩ := sq2.get I
  obtain ⟨u1,hu1,ru1⟩ := rv1.get hx
  obtain ⟨u2,hu2,ru2⟩ := rv2.get hy
  refine next_zip D st l1 l2 (x := u1) (y := u2) (by simpa using hu1) (by simpa using hu2) fun h' hz hi ho p1 p2 hp hk => ?_
  have hfr : H s.heap.objs.size = none := I.fresh
  have free : ∀ b ∈ [z,ti,to,i1,i2],H b = none := fun b hb => (hf b hb).1
  refine ⟨_,rfl,wpAny_letOwnedTupleGo_zip hz fun h2 hz2 s2 => ?_⟩
  have zlt : z < s.heap.objs.size := Heap.lt_size st.1
  have hp2 : IsPair h2 s.heap.objs.size u1 u2 := (s2.2 _ (Nat.ne_of_gt zlt)).trans hp
  have ne := D.ne
  simp only [List.nodup_cons,List.mem_cons,List.not_mem_nil,not_or,or_false] at ne
  have up : ∀ c o,c ≠ z → h'.get? c = some o → h2.get? c = some o := fun c o hc e => (s2.2 c hc).trans e
  have kk : ∀ c o,c ∉ [z,to,i1,i2] → s.heap.get? c = some o → h2.get? c = some o := fun c o hc e => up c o (fun q => hc (by simp [q])) (hk c o hc e)
  have I3 : Inv X pins σ (upd H s.heap.objs.size (.tup [x,y])) { s with heap := h2 } := by
   refine I.step (g' := s.gens) (d' := s.drawn) (t' := s.toks) (ch := [z,to,i1,i2]) (fun b hb => ?_) (fun b o _ _ hcb e _ => kk b o hcb e) (fun b o _ _ hcb e _ => ⟨o.slots,kk b o hcb e⟩) (fun b o _ e n => by rw [upd_ne (Nat.ne_of_lt (Heap.lt_size e))];exact n) (fun b o hcb e => ⟨o,kk b o hcb e⟩)
    (fun b _ e => by rw [upd_ne (ne_of_none e hfr)];exact e) (fun b _ _ e => by rw [upd_ne (ne_of_none e hfr)];exact e) (fun b ps e => ⟨#[],by rw [upd_ne (ne_of_none e hfr),e];simp⟩) (fun m hm => ?_) (fun b u e => ?_) I.bare
   ·obtain ⟨f0,f1,f2,f3,f4,f5⟩ := hf b (by simp only [List.mem_cons,List.not_mem_nil,or_false] at hb ⊢;rcases hb with q | q | q | q <;> simp [q])
    exact ⟨f3,f1,f4,f5⟩
   ·obtain ⟨o,es',ep,ho',r⟩ := hm
    refine ⟨o,es',ep,kk _ o (fun q => ?_) ho',r⟩
    obtain ⟨f0,f1,_⟩ := hf X.env.locals (by simp only [List.mem_cons,List.not_mem_nil,or_false] at q ⊢;rcases q with q | q | q | q <;> simp [q])
    exact f1 rfl
   ·by_cases hb : b = s.heap.objs.size
    ·subst hb
     rw [upd_same] at e
     cases e
     exact ⟨by show 2 ≤ sizeLine;decide,[u1,u2],.cons ru1 (.cons ru2 .nil),⟨_,hp2,rfl,_,rfl⟩⟩
    ·rw [upd_ne hb] at e
     refine (I.hok b u e).stay (fun c v hcb q => kk c v (fun m => ?_) q) (fun _ q => by rw [upd_ne (ne_of_none q hfr)];exact q) fun _ _ q => by rw [upd_ne (ne_of_none q hfr)];exact q
     have hn := free c (by simp only [List.mem_cons,List.not_mem_nil,or_false] at m ⊢;rcases m with q | q | q | q <;> simp [q])
     rcases hcb with q | q
     ·rw [q] at hn;rw [hn] at e;cases e
     ·rw [hn] at q;cases q
  refine ⟨.ref s.heap.objs.size,_,I3,rfl,⟨_,x,y,hfr,rfl,rfl,fun zs q => by rw [q.inj I sq1];exact hx,fun zs q => by rw [q.inj I sq2];exact hy⟩,⟨hz2,up _ _ (Ne.symm ne.1.1) hi,let ⟨a,b,q⟩ := ho;⟨a,b,up _ _ (Ne.symm ne.1.2.1) q⟩,(src_of (P := X.prog) (w := X.w) b1 i1 c1).keep p1 fun o e => up _ o (Ne.symm ne.1.2.2.1) e,(src_of (P := X.prog) (w := X.w) b2 i2 c2).keep p2 fun o e => up _ o (Ne.symm ne.1.2.2.2) e⟩,fun b hb => ?_⟩
  rw [upd_ne (fun q => ?_)]
  ·exact free b hb
  ·subst q
   obtain ⟨hz0,hi0,⟨a0,b0,ho0⟩,q1,q2⟩ := st
   simp only [List.mem_cons,List.not_mem_nil,or_false] at hb
   rcases hb with q | q | q | q | q
   ·exact absurd q (Nat.ne_of_gt zlt)
   ·exact absurd q (Nat.ne_of_gt (Heap.lt_size hi0))
   ·exact absurd q (Nat.ne_of_gt (Heap.lt_size ho0))
   ·obtain ⟨o,e,_⟩ := (src_of (P := X.prog) (w := X.w) b1 i1 c1).obj q1
    exact absurd q (Nat.ne_of_gt (Heap.lt_size e))
   ·obtain ⟨o,e,_⟩ := (src_of (P := X.prog) (w := X.w) b2 i2 c2).obj q2
    exact absurd q (Nat.ne_of_gt (Heap.lt_size e))
 done := by
  intro X hP hw hK hc i pins s σ H E I hf st hg
  subst hP hw hK
  obtain ⟨xs,ys,sq1,sq2,hend⟩ := hg
  obtain ⟨its1,rv1,l1,z1⟩ := sq1.get I
  obtain ⟨its2,rv2,l2,z2⟩ := sq2.get I
  have e1 := rv1.length
  have e2 := rv2.length
  refine next_zip_end (I.ok.hd hc) D st l1 l2 (by rcases hend with q | q;exact .inl (by simp;omega);exact .inr (by simp;omega)) fun h' hk => ⟨rfl,?_⟩
  have free : ∀ b ∈ [z,ti,to,i1,i2],H b = none := fun b hb => (hf b hb).1
  refine I.step (g' := s.gens) (d' := s.drawn) (t' := s.toks) (ch := [z,to,i1,i2]) (fun b hb => ?_) (fun b o _ _ hcb e _ => hk b o hcb e) (fun b o _ _ hcb e _ => ⟨o.slots,hk b o hcb e⟩) (fun _ _ _ _ n => n) (fun b o hcb e => ⟨o,hk b o hcb e⟩) (fun _ _ e => e) (fun _ _ _ e => e) (fun b ps e => ⟨#[],by rw [e];simp⟩) (fun m hm => ?_) (fun b u e => ?_) I.bare
  ·obtain ⟨f0,f1,f2,f3,f4,f5⟩ := hf b (by simp only [List.mem_cons,List.not_mem_nil,or_false] at hb ⊢;rcases hb with q | q | q | q <;> simp [q])
   exact ⟨f3,f1,f4,f5⟩
  ·obtain ⟨o,es',ep,ho',r⟩ := hm
   refine ⟨o,es',ep,hk _ o (fun q => ?_) ho',r⟩
   obtain ⟨f0,f1,_⟩ := hf X.env.locals (by simp only [List.mem_cons,List.not_mem_nil,or_false] at q ⊢;rcases q with q | q | q | q <;> simp [q])
   exact f1 rfl
  ·refine (I.hok b u e).stay (fun c v hcb q => hk c v (fun m => ?_) q) (fun _ q => q) fun _ _ q => q
   have hn := free c (by simp only [List.mem_cons,List.not_mem_nil,or_false] at m ⊢;rcases m with q | q | q | q <;> simp [q])
   rcases hcb with q | q
   ·rw [q] at hn;rw [hn] at e;cases e
   ·rw [hn] at q;cases q
 self := fun A i s Q E st h => wpAny_pyIter_zip st.1 h
end L3
namespace L3
open PySem PySem.Spec PyProof.Rows L2
theorem za_new {n c1 c2 : Addr} (h1 : c1 < n) (h2 : c2 < n) : ZA (n + 4) (n + 2) (n + 3) n (n + 1) c1 c2 := by
 have k : ∀ n c : Nat,c < n → c ≠ n + 4∧c ≠ n + 3∧c ≠ n∧c ≠ n + 1 := fun n c h => by omega
 have d : ∀ n : Nat,(([n + 4,n + 2,n + 3,n,n + 1] : List Nat)).Nodup := fun n => by
  simp only [List.nodup_cons,List.mem_cons,List.not_mem_nil,not_or,or_false,List.nodup_nil,and_true,not_false_eq_true]
  omega
 refine ⟨d n,?_,?_⟩
 ·simp only [List.mem_cons,List.not_mem_nil,not_or,or_false];exact k n c1 h1
 ·simp only [List.mem_cons,List.not_mem_nil,not_or,or_false];exact k n c2 h2
section
variable {X : Cx} {a b e l : Expr} {es : List Expr} {pos : Pos}
theorem pi_zip {p pt : Pos} {k1 : Nat} {ta : TA} (hg : Gl X "zip") (hm : X.mg "zip" = none) (ha : PA X [a,b] ta) (hs : starEach [a,b] X.env = [(false,eval a X.env),(false,eval b X.env)] := by rfl) (hs2 : starEach [b] X.env = [(false,eval b X.env)] := by rfl) :
  PI X (.Tuple es k1 pt) (.Call (.Name "zip" p) [a,b] [] pos) (fun σ H R => ta σ H fun vs H1 => ∃ b1 b2 c1 c2 xs ys,vs = [.ref c1,.ref c2]∧SqB X.K b1 H1 c1 xs∧SqB X.K b2 H1 c2 ys∧R (Itz X.K b1 b2 c1 c2) H1) := by
 intro pins s σ H R I h
 refine Call_ (ld_blt I hg hm PyProof.Rows.boot_zip (PyProof.Rows.callWith_type1 (thn (ha pos pins s σ H _ I h) fun us s1 ⟨vs,H1,I1,r1,q1⟩ => ?_) (by rw [hs,hs2]) (by rw [hs2];rfl)))
 obtain ⟨b1,b2,c1,c2,xs,ys,rfl,sq1,sq2,q⟩ := q1
 obtain ⟨u1,u2,rfl,e1,e2⟩ := vals2 r1
 cases (show u1 = Value.ref c1 from e1)
 cases (show u2 = Value.ref c2 from e2)
 obtain ⟨its1,rv1,l1,z1⟩ := sq1.get I1
 obtain ⟨its2,rv2,l2,z2⟩ := sq2.get I1
 refine call_zip l1 l2 fun h' st hk => wpAny_pyIter_zip st.1 ?_
 refine ⟨s1.heap.objs.size + 4,[s1.heap.objs.size + 4,s1.heap.objs.size + 2,s1.heap.objs.size + 3,s1.heap.objs.size,s1.heap.objs.size + 1],_,_,H1,rfl,I1.kept (t' := s1.toks) hk,turn_zip (za_new (sq_lt l1) (sq_lt l2)),st,fun c hc => ?_,q⟩
 have hle : s1.heap.objs.size ≤ c := by
  simp only [List.mem_cons,List.not_mem_nil,or_false] at hc
  rcases hc with rfl | rfl | rfl | rfl | rfl <;> first | exact Nat.le_refl _ | exact Nat.le_add_right _ _
 exact I1.fpOk hle (I1.hok.fresh hle)
end
noncomputable def seqOf (G : Gp) : T → Option (List T)
 | .tup xs => some xs
 | .ref p => getL G p
 | _ => none
theorem seq_sq {K : PySem.W.Frag} {G0 : Gp} {H0 : Hp} {x : T} {v : V} {us : List T} (hr0 : HR K G0 H0) (rx : Rp K H0 x v) (h : seqOf G0 x = some us) :
  ∃ b c,v = .ref c∧∀ G H,HR K G H → Kp G0 H0 G H → seqOf G x = some us → ∃ vs,SqB K b H c vs∧Rps K H us vs := by
 cases rx with
 | tup hs rs =>
  cases h
  exact ⟨false,_,rfl,fun G H hr k _ => ⟨_,(sqT_keep hr0 k hs : SqT K H _ _),rs.keep hr0 k⟩⟩
 | ref a => exact ⟨true,a,rfl,fun G H hr k hq => let ⟨vs,h1,h2⟩ := getL_sq hr (show getL G a = some us from hq);⟨vs,h1,h2⟩⟩
 | _ => cases h
noncomputable def zipT (us vs : List T) : List T := (us.zip vs).map fun p => .tup [p.1,p.2]
theorem zipT_get {us vs : List T} {i : Nat} {x : T} (h : (zipT us vs)[i]? = some x) : ∃ a b,us[i]? = some a∧vs[i]? = some b∧x = .tup [a,b] := by
 unfold zipT at h
 rw [List.getElem?_map] at h
 cases e : (us.zip vs)[i]? with
 | none => rw [e] at h;cases h
 | some p =>
  rw [e] at h
  have := List.getElem?_zip_eq_some.mp e
  exact ⟨p.1,p.2,this.1,this.2,by simpa using h.symm⟩
theorem itz_ok {K : PySem.W.Frag} {b1 b2 : Bool} {c1 c2 : Addr} {x y : T} {us vs : List T} {G0 : Gp} {H0 : Hp}
  (f1 : ∀ G H,HR K G H → Kp G0 H0 G H → seqOf G x = some us → ∃ vs,SqB K b1 H c1 vs∧Rps K H us vs) (f2 : ∀ G H,HR K G H → Kp G0 H0 G H → seqOf G y = some vs → ∃ ws,SqB K b2 H c2 ws∧Rps K H vs ws) :
  ItOk K (Itz K b1 b2 c1 c2) (zipT us vs) (fun G => seqOf G x = some us∧seqOf G y = some vs) G0 H0 := by
 intro G H hr k ⟨h1,h2⟩
 obtain ⟨p,sp,rp⟩ := f1 G H hr k h1
 obtain ⟨q,sq,rq⟩ := f2 G H hr k h2
 refine ⟨fun i z hz => ?_,fun i z v H' hz hy => ?_,⟨p,q,sp,sq,?_⟩⟩
 ·obtain ⟨a,b,ha,hb,_⟩ := zipT_get hz
  obtain ⟨v,hv,_⟩ := rp.get ha
  obtain ⟨w,hw,_⟩ := rq.get hb
  exact ⟨p,q,v,w,sp,sq,hv,hw⟩
 ·obtain ⟨a,b,ha,hb,rfl⟩ := zipT_get hz
  obtain ⟨t,v1,v2,ht,rfl,rfl,g1,g2⟩ := hy
  obtain ⟨v,hv,rv⟩ := rp.get ha
  obtain ⟨w,hw,rw'⟩ := rq.get hb
  have e1 := (g1 p sp).symm.trans hv
  have e2 := (g2 q sq).symm.trans hw
  obtain rfl : v1 = v := Option.some.inj e1
  obtain rfl : v2 = w := Option.some.inj e2
  have kk : Kp G H G (upd H t (.tup [v1,v2])) := Kp.laid ht
  exact ⟨.tup (SqT.of upd_same) (.cons (rv.keep hr kk) (.cons (rw'.keep hr kk) .nil)),hr.laid ht,kk⟩
 ·rw [← rp.length,← rq.length,show (zipT us vs).length = min us.length vs.length by simp [zipT]]
  omega
noncomputable def izip3 (ta : TA3) : TI3 := fun τ G r => ta τ G fun xs G1 => match xs with
 | [x,y] => (match seqOf G1 x,seqOf G1 y with | some us,some vs => r (zipT us vs) (fun G => seqOf G x = some us∧seqOf G y = some vs) G1 | _,_ => False)
 | _ => False
section
variable {X : Cx} {a b e l : Expr} {es : List Expr} {pos : Pos} {t : TA3}
theorem i_zip {p pt : Pos} {k1 : Nat} (hg : Gl X "zip") (hm : X.mg "zip" = none) (ha : A3 X [a,b] t) (hs : starEach [a,b] X.env = [(false,eval a X.env),(false,eval b X.env)] := by rfl) (hs2 : starEach [b] X.env = [(false,eval b X.env)] := by rfl) :
  I3 X (.Tuple es k1 pt) (.Call (.Name "zip" p) [a,b] [] pos) (izip3 t) :=
 pi_w (pi_zip hg hm ha hs hs2) fun σ H R ⟨τ,G,r,rl,h,af⟩ => lA_seq rl h fun xs G1 h1 vs H1 rs hr1 k1 rl1 => by
  split at h1
  ·rename_i x y
   split at h1
   ·rename_i us ws e1 e2
    obtain ⟨v,u,rfl,r1,r2⟩ := rps2 rs
    obtain ⟨b1,c1,rfl,f1⟩ := seq_sq hr1 r1 e1
    obtain ⟨b2,c2,rfl,f2⟩ := seq_sq hr1 r2 e2
    obtain ⟨p,sp,_⟩ := f1 G1 H1 hr1 Kp.refl e1
    obtain ⟨q,sq,_⟩ := f2 G1 H1 hr1 Kp.refl e2
    exact ⟨b1,b2,c1,c2,p,q,rfl,sp,sq,af _ _ G1 h1 _ H1 hr1 k1 (itz_ok f1 f2)⟩
   ·exact h1.elim
  ·exact h1.elim
noncomputable def all3 : List T → Gp → Q3 → Prop := fun xs G q => match xs with
 | [.ref p] => (match getL G p with | some ys => (match allB ys with | some k => q (.bl k) G | none => False) | none => False)
 | _ => False
theorem allB_ok {K : PySem.W.Frag} {H : Hp} : ∀ {ys : List T} {vs : List V} {k : Bool},Rps K H ys vs → allB ys = some k → ∃ ks : List Bool,vs = ks.map V.bl∧ks.all id = k
 | _,_,_,.nil,h => by cases h;exact ⟨[],rfl,rfl⟩
 | y :: ys,_,k,.cons a b,h => by
  unfold allB at h
  split at h
  ·rename_i e;cases e
  ·rename_i j r e
   cases e
   split at h
   ·rename_i i ei
    obtain ⟨ks,rfl,hk⟩ := allB_ok b ei
    cases a
    cases h
    exact ⟨j :: ks,rfl,by rw [List.all_cons,hk];rfl⟩
   ·cases h
  ·cases h
theorem ref_all {K : PySem.W.Frag} : RefC K all3 (fun xs H Q => ∃ (p : Addr) (ks : List Bool),xs = [.ref p]∧SqL K H p (ks.map V.bl)∧Q (.bl (ks.all id)) H) := fun xs vs G H q Q hr rs h af => by
 unfold all3 at h
 split at h
 ·rename_i p
  obtain ⟨v,rfl,r⟩ := rps1 rs
  cases r
  split at h
  ·rename_i ys e0
   split at h
   ·rename_i k e1
    obtain ⟨us,hs,r2⟩ := getL_sq hr e0
    obtain ⟨ks,rfl,hk⟩ := allB_ok r2 e1
    exact ⟨p,ks,rfl,hs,by rw [hk];exact af _ G h _ H (.bl _) hr Kp.refl⟩
   ·exact h.elim
  ·exact h.elim
 ·exact h.elim
end
end L3
namespace L3
open PySem PySem.Spec PyProof.Rows L2
noncomputable def lsCls : Value → Bool
 | .type t => t == "list"
 | _ => false
noncomputable def noLists : List (Addr × Obj) → Bool
 | [] => true
 | p :: r => if lsCls p.2.cls then false else noLists r
theorem noLists_at : ∀ {K : List (Addr × Obj)} {a : Addr} {o : Obj},noLists K = true → K.lookup a = some o → o.cls ≠ .type "list"
 | [],_,_,_,e => by simp at e
 | (b,x) :: r,a,o,h,e => by
  unfold noLists at h
  split at h
  ·cases h
  ·rename_i hx
   rw [List.lookup_cons] at e
   split at e
   ·cases e
    intro z
    rw [z] at hx
    exact hx rfl
   ·exact noLists_at h e
theorem script_frz {K : PySem.W.Frag} {H : Hp} {a : Addr} {ns : List Int} (hK : noLists K = true) (hO : Only H) (hS : SqL K H a (ns.map V.int)) : ∃ o,H a = some (.frz o (.lst (ns.map V.int))) := by
 rcases hS with (h | h) | ⟨o,its,n,h1,h2,_⟩
 ·rcases hO a with z | ⟨o,xs,z⟩ <;> (rw [h] at z;cases z)
 ·exact h
 ·exact absurd h2 (noLists_at hK h1)
noncomputable def only (a : Addr) (ns : List Int) : Gp := fun b => if b = a then some (.frz (ns.map T.int)) else none
theorem only_hr {K : PySem.W.Frag} {H : Hp} {a : Addr} {ns : List Int} (h : ∃ o,H a = some (.frz o (.lst (ns.map V.int)))) : HR K (only a ns) H := fun b o e => by
 unfold only at e
 split at e
 ·rename_i hb;subst hb;cases e;exact ⟨_,h,Rps.ints ns⟩
 ·cases e
noncomputable def sp_top : Sp3 := fun ts G q => ∃ (a : Addr) (ns : List Int),ts = [.ref a]∧G a = some (.frz (ns.map T.int))∧ns.length ≤ 63∧∀ G',q (.bl true) G'
theorem walk3 {l : PySem.W.OpenLaw} {k : Nat} {q : Program} {loose : List Str} {XP : (Str → Option Value) → Heap → Prop} {YP : World → Heap → Prop} {d : DefRec} {K : Params → PySem.W.Frag} {x : Str} (hn : l.most = some 63) (hdf : d.params.defaults = []) (hr : Room k callerA)
  (hY : ∀ (w : World) (h : Heap),YP w h → (K w.params).In h) (hK : ∀ w : World,noLists (K w.params) = true)
  (F : ∀ (w : World) (mg : Str → Option Value) (fa : Addr) (h : Heap),(K w.params).In h → h.Ns mainGlobals mg → mg d.name = some (.ref fa) →
   ∃ fd : FuncData,(∀ (s : Shared) (u : Value),BindsTo s fd ⟨[u],[]⟩ [(x,u)])∧∀ base : Heap,(K w.params).In base → base.Ns mainGlobals mg → FnOk l.prog w (K w.params) mg base CX0 k fa fd [x] (lSp (K w.params) sp_top)) :
  PySem.W.WalkO q loose XP YP l.row.toRowW d [] (fun f vs => PySem.call f vs) :=
 L2.walk_of (n := 63) (k := k) (x := x) (CX := fun _ => CX0) (sp := fun w => lSp (K w.params) sp_top) hn (by decide) hdf hr hY F
  (fun w H a ns hl hO hS => ⟨[.ref a],only a ns,fun t _ => t = .bl true,only_hr (script_frz (hK w) hO hS),.cons (.ref a) .nil,⟨a,ns,rfl,by simp [only],hl,fun _ => rfl⟩,fun t G' e v H' r _ _ => by subst e;cases r;rfl⟩) fun _ _ _ _ _ z => z
theorem fnok_of {P : Program} {w : World} {K : PySem.W.Frag} {mg : Str → Option Value} {base : Heap} {x qual : Str} {st : Stmt} {f : Addr} {fd : FuncData} {N ps : List Str} {k : Nat} {sp : Sp3} {t3 : TS3} (F : Fun K x qual st f fd) (S : FnScope N ps (defScope st))
  (body : ∀ (cdv : Value) (A : Around) (outer : List Env) (s : Shared) (H : Hp) (E : XK),Room k (A.deeper (envOfC qual (defScope st) s.heap.objs.size f cdv)) →
   B3 (cxOf CX0 P w K mg base N qual (defScope st) f cdv A outer s H E).nox (defBody st) t3)
  (read : ∀ ts G q,sp ts G q → ts.length = ps.length∧t3 { nx := fun _ G' => q .non G',rt := q } (start3 N ts) G) : FnOk P w K mg base CX0 (k + 1) f fd ps (lSp K sp) := by
 refine F.ok S (fun vs H Q E ⟨ts,G,q,h1,h2,h3,h4⟩ => by rw [← h2.length];exact (read ts G q h3).1) fun cdv A outer s H vs Q E hr ⟨ts,G,q,h1,h2,h3,h4⟩ => ?_
 refine ⟨_,body cdv A outer s H E hr,start3 N ts,G,_,rel_start h1 h2,(read ts G q h3).2,⟨fun τ' G' h' σ' H' rl' k' => h4 _ G' h' _ H' .non rl'.hp k',h4,fun _ _ z => z.elim,fun _ _ z => z.elim⟩⟩
end L3
namespace L3
open PySem PySem.Spec PyProof.Rows L2
open AutoSeq1 (wpAny_loadPart')
section
variable {P : Program} {w : World} {A : Around} {s : Shared} {E : Value → Shared → Prop}
end
section
variable {X : Cx} {a b e l : Expr} {es : List Expr} {pos : Pos}
end
section
variable {X : Cx} {a b e l : Expr} {es : List Expr} {pos : Pos} {t : TA3}
end
end L3
namespace L3
open PySem PySem.Spec PyProof.Rows L2
section
variable {X : Cx} {a b c e : Expr} {es : List Expr} {ta tb tc te : TE3} {t : TA3} {pos : Pos}
noncomputable def aug3 (i : Nat) (r : R3) (te : TE3) : TS3 := fun d τ G => match τ[i]? with
 | some (some x) => te τ G fun y G1 => r x y G1 fun z G2 => d.nx (τ.set i (some z)) G2
 | _ => False
noncomputable def intsT : List T → Option (List Int)
 | [] => some []
 | .int i :: r => (match intsT r with | some ns => some (i :: ns) | none => none)
 | _ => none
theorem intsT_map (ns : List Int) : intsT (ns.map T.int) = some ns := by
 induction ns with
 | nil => rfl
 | cons n r ih => simp [intsT,ih]
theorem intsT_eq : ∀ {xs : List T} {ns : List Int},intsT xs = some ns → xs = ns.map T.int
 | [],_,h => by simp [intsT] at h;subst h;rfl
 | x :: r,ns,h => by
  unfold intsT at h
  split at h
  ·rename_i e;cases e
  ·rename_i i r' e
   cases e
   split at h
   ·rename_i ms e2
    cases h
    rw [intsT_eq e2];rfl
   ·cases h
  ·cases h
theorem rps_ints {K : PySem.W.Frag} {H : Hp} : ∀ {ns : List Int} {vs : List V},Rps K H (ns.map T.int) vs → vs = ns.map V.int
 | [],_,r => by cases r;rfl
 | n :: ns,_,r => by
  cases r with
  | cons a b => cases a;rw [rps_ints b];rfl
noncomputable def any3 : List T → Gp → Q3 → Prop := fun xs G q => match xs with
 | [.ref p] => (match getL G p with | some ys => (match anyB ys with | some k => q (.bl k) G | none => False) | none => False)
 | _ => False
end
end L3
namespace L3
open PySem PySem.Spec PyProof.Rows L2
section
variable {X : Cx}
theorem lc_core {elt tg iter : Expr} {ifs : List Expr} {scope : Scope} {pos cpos : Pos} {N' : List Str} {m : List (Option Nat)} {wi : TI} {g : TG} {tif : TT} {te : TE} {use : Option (Value → Sem Unit)} {Qc : Value → Shared → Prop} {QD : Addr → Hp → Prop} (hc : X.calm = true) (hi : PI X tg iter wi)
  (hg : ∀ s H fp,PG (cxComp X N' scope s H fp) tg g) (hf : ∀ s H fp,PF (cxComp X N' scope s H fp) ifs tif) (he : ∀ s H fp,PE (cxComp X N' scope s H fp) elt te)
  (hsc : scOk X.env.scope scope = true) (hcap : capOk X.N N' scope m = true) (hs : ∀ x,foldedSetIterable iter X.env x = pure x) {pins : List (Addr × Obj)} {s : Shared} {σ : L2.St} {H : Hp} (I : Inv X pins σ H s)
  (h : wi σ H fun J H1 => ∀ D,H1 D = none →
   ∃ W : Nat → Nat → L2.St → Hp → Prop,(∃ n,W 0 n (cap m σ) (upd H1 D (.lst [])))∧∀ i n σ H,W i n σ H →
    (J.stop i H∧QD D H) ∨ (J.go i H∧∀ x H',J.yld i H x H' → g x σ H' fun σ2 H2 => tif σ2 H2 fun k H3 =>
     if k = true then te σ2 H3 fun y H4 => ∃ zs,H4 D = some (.lst zs)∧zs.length < sizeLine∧∃ n',n' < n∧W (i + 1) n' σ2 (upd H4 D (.lst (zs ++ [y])))
     else ∃ n',n' < n∧W (i + 1) n' σ2 H3))
  (fin : ∀ (D : Addr) (s3 : Shared) (H3 : Hp) (fp : List Addr) (s6 : Shared) (H6 : Hp) (σ6 : L2.St) (r : Flow),Inv X pins σ H3 s3 → (∀ b ∈ fp,FpOk X pins H3 b) → Inv (cxComp X N' scope s3 H3 fp) [] σ6 H6 s6 → QD D H6 → compPost (model X.prog X.w) X.A X.xe use Qc (.ref D) s3.heap.objs.size (.ok r) s6) :
  wpAny (model X.prog X.w) X.A (comprehension (.ListComp elt [⟨tg,iter,ifs,0⟩] scope pos) scope X.env cpos (newList []) false (eval iter X.env) use) Qc X.xe s := by
 have sc := scOk_facts hsc
 have hcl : ∀ y ∈ scope.names,y.2 = .free → ∃ c,X.env.cells.lookup y.1 = some c := fun y hy e => by
  rcases (sc.free y hy e).2 with z | z
  ·exact I.ok.has y.1 (.inl z)
  ·exact I.ok.has y.1 (.inr z)
 refine wpAny_comprehension_free (g := ⟨tg,iter,ifs,0⟩) (gs := []) rfl hs (closureFor_eq hcl) sc.kind sc.loc ?_
 show wpAny _ _ (eval iter X.env) _ _ s
 refine thn (hi pins s σ H _ I h) fun v s1 h1 => thn h1 fun itv s2 h2 => ?_
 obtain ⟨it,fp,tn,J,H2,rfl,I2,T,st2,f2,hW⟩ := h2
 refine wpAny_newObj_type ?_
 have hD : H2 s2.heap.objs.size = none := I2.fresh
 obtain ⟨W,⟨n0,w0⟩,turn⟩ := hW _ hD
 generalize hDe : s2.heap.objs.size = D at *
 have I3 : Inv X pins σ (upd H2 D (.lst [])) { s2 with heap := s2.heap.push { cls := .type "list",dict := none,data := .seq ([] : List Value).toArray } } := by
  subst hDe
  exact I2.laid (t' := s2.toks) (fun b u e => Heap.get?_push_of_some _ e) (Nat.le_refl _) ⟨Nat.zero_le _,[],0,.nil,Heap.get?_push_size _ rfl⟩
 have ob2 := T.obj 0 _ st2
 have ob3 : ∀ b ∈ fp,∃ o,(s2.heap.push { cls := .type "list",dict := none,data := .seq ([] : List Value).toArray }).get? b = some o := fun b hb => let ⟨o,e,_⟩ := ob2 b hb;⟨o,Heap.get?_push_of_some _ e⟩
 have f3 : ∀ b ∈ fp,FpOk X pins (upd H2 D (.lst [])) b := fun b hb => by
  obtain ⟨o,e,_⟩ := ob2 b hb
  have : b ≠ D := by rw [← hDe];exact Nat.ne_of_lt (Heap.lt_size e)
  exact ⟨by rw [upd_ne this];exact (f2 b hb).1,(f2 b hb).2⟩
 have k23 : ∀ b o,s2.heap.get? b = some o → (s2.heap.push { cls := .type "list",dict := none,data := .seq ([] : List Value).toArray }).get? b = some o := fun b o e => Heap.get?_push_of_some _ e
 generalize hH3 : upd H2 D (.lst []) = H3 at *
 generalize hs3 : ({ s2 with heap := s2.heap.push { cls := .type "list",dict := none,data := .seq ([] : List Value).toArray } } : Shared) = s3 at *
 have ob3 : ∀ b ∈ fp,∃ o,s3.heap.get? b = some o := by rw [← hs3];exact ob3
 have k23 : ∀ b o,s2.heap.get? b = some o → s3.heap.get? b = some o := by rw [← hs3];exact k23
 refine wpAny_newCompEnv fun h₁ hns hk hown => ?_
 have I4 : Inv (cxComp X N' scope s3 H3 fp) [] (cap m σ) H3 { s3 with heap := h₁ } := inv_comp hc I3 sc hcap f3 ob3 hns hk hown
 have tn4 : tn 0 h₁ := T.keep _ _ _ st2 fun b hb o e => hk b o (k23 b o e)
 have fr4 : ∀ b ∈ fp,H3 b = none := fun b hb => (f3 b hb).1
 have stat : ∀ {H' : Hp},(∀ b ∈ fp,H' b = none) → ∀ b ∈ fp,FpOk (cxComp X N' scope s3 H3 fp) [] H' b := fun hn b hb => by
  refine ⟨hn b hb,I4.ok.exf b hb |>.1,I4.ok.exfs b hb,.inl hb,fun x c e => (I4.ok.exf b hb).2 x c e,fun p hp => absurd (show p ∈ ([] : List (Addr × Obj)) from hp) (by simp)⟩
 show codeAny (model X.prog X.w) X.A (.compStart (.ListComp elt [⟨tg,iter,ifs,0⟩] scope pos) 0 (.ref it) (.ref D) (cxComp X N' scope s3 H3 fp).env) (compPost (model X.prog X.w) X.A X.xe use Qc (.ref D) s3.heap.objs.size) { s3 with heap := h₁ }
 have loop : codeAny (model X.prog X.w) X.A (.compLoop (.ListComp elt [⟨tg,iter,ifs,0⟩] scope pos) 0 (.ref it) (.ref D) (cxComp X N' scope s3 H3 fp).env) (compPost (model X.prog X.w) X.A X.xe use Qc (.ref D) s3.heap.objs.size) { s3 with heap := h₁ } := by
  refine codeAny_loop rfl (fun n s' => ∃ i σ' H',Inv (cxComp X N' scope s3 H3 fp) [] σ' H' s'∧tn i s'.heap∧(∀ b ∈ fp,H' b = none)∧W i n σ' H') (fun n s' hI => ?_) n0 ⟨0,cap m σ,H3,I4,tn4,fr4,w0⟩
  show wpAny _ X.A ((compTurn (.ListComp elt [⟨tg,iter,ifs,0⟩] scope pos) 0 (.ref it) (.ref D) (cxComp X N' scope s3 H3 fp).env).onRaise (fun x => do noteFrame x (cxComp X N' scope s3 H3 fp).env;theTreesLotGoes x)) _ _ s'
  refine wpAny_noted ?_
  rw [compTurn_list]
  refine wpAny_bind (wpAny_standAt (wpAny_bind ?_))
  obtain ⟨i,σ5,H5,I5,st5,fr5,w5⟩ := hI
  rcases turn i n σ5 H5 w5 with ⟨stop,q⟩ | ⟨go,step⟩
  ·refine thn (T.done (cxComp X N' scope s3 H3 fp) rfl rfl rfl rfl i [] s' σ5 H5 _ I5 (stat fr5) st5 stop) fun r s6 ⟨hr,I6⟩ => ?_
   subst hr
   refine wpAny_pure ?_
   exact fin D s3 H3 fp s6 H5 σ5 _ I3 f3 I6 q
  ·refine thn (T.item (cxComp X N' scope s3 H3 fp) rfl rfl rfl rfl i [] s' σ5 H5 _ I5 (stat fr5) st5 go) fun r s6 ⟨u,hr,h6⟩ => ?_
   subst hr
   refine wpAny_bind (thn h6 fun _ s7 ⟨x,H7,I7,r7,y7,st7,fr7⟩ => ?_)
   have I7' := I7.pinned (stat fr7) (T.obj _ _ st7)
   have again : ∀ {σ8 : L2.St} {H8 : Hp} {s8 : Shared},Inv (cxComp X N' scope s3 H3 fp) ([] ++ pinsAt fp s7.heap) σ8 H8 s8 → (∃ n',n' < n∧W (i + 1) n' σ8 H8) →
     ∃ m',m' < n∧∃ i σ' H',Inv (cxComp X N' scope s3 H3 fp) [] σ' H' s8∧tn i s8.heap∧(∀ b ∈ fp,H' b = none)∧W i m' σ' H' := fun {σ8 H8 s8} I8 ⟨n',hn,w8⟩ => by
    refine ⟨n',hn,i + 1,σ8,H8,I8.unpinned,T.keep _ _ _ st7 fun b hb o e => (I8.pin (b,o) (List.mem_append_right _ (List.mem_append_right _ (mem_pinsAt hb e)))).1,fun b hb => ?_,w8⟩
    obtain ⟨o,e,d⟩ := T.obj _ _ st7 b hb
    exact (I8.pin (b,o) (List.mem_append_right _ (List.mem_append_right _ (mem_pinsAt hb e)))).2.1
   refine wpAny_bind (wpAny_mono (hg s3 H3 fp _ s7 σ5 H7 x u _ I7' r7 (step x H7 y7)) (fun _ s8 ⟨σ8,H8,I8,q8⟩ => ?_) fun _ _ z => z.elim)
   refine wpAny_bind (wpAny_mono (hf s3 H3 fp _ s8 σ8 H8 _ I8 q8) (fun k s9 ⟨H9,I9,q9⟩ => ?_) fun _ _ z => z.elim)
   cases k with
   | false =>
    rw [if_neg Bool.false_ne_true] at q9
    exact wpAny_pure ⟨rfl,again I9 q9⟩
   | true =>
    rw [if_pos rfl] at q9
    refine wpAny_bind (wpAny_bind (wpAny_mono (he s3 H3 fp _ s9 σ8 H9 _ I9 q9) (fun w s10 ⟨y,H10,I10,r10,q10⟩ => ?_) fun _ _ z => z.elim))
    obtain ⟨zs,hz,hl,q10⟩ := q10
    refine wpAny_bind (wpAny_mono (mt_append (X := cxComp X N' scope s3 H3 fp) _ s10 σ8 H10 (.ref D) [y] (.ref D) [w] (fun _ H11 => H11 = upd H10 D (.lst (zs ++ [y]))) I10 rfl (.cons r10 .nil) ⟨D,zs,y,rfl,rfl,hz,hl,rfl⟩) (fun _ s11 ⟨_,H11,I11,_,e11⟩ => ?_) fun _ _ z => z.elim)
    subst e11
    exact wpAny_pure (wpAny_pure ⟨rfl,again I11 q10⟩)
 exact codeAny_compStart_list loop (T.self X.A 0 _ _ _ tn4 loop)
theorem ps_lcset {i : Nat} {y : Str} {py spos : Pos} {elt tg iter : Expr} {ifs : List Expr} {scope : Scope} {pos : Pos} {N' : List Str} {m : List (Option Nat)} {wi : TI} {g : TG} {tif : TT} {te : TE} (hc : X.calm = true) (hN : X.N.Nodup) (hi : PI X tg iter wi)
  (hg : ∀ s H fp,PG (cxComp X N' scope s H fp) tg g) (hf : ∀ s H fp,PF (cxComp X N' scope s H fp) ifs tif) (he : ∀ s H fp,PE (cxComp X N' scope s H fp) elt te)
  (hsc : scOk X.env.scope scope = true) (hcap : capOk X.N N' scope m = true) (hs : ∀ x,foldedSetIterable iter X.env x = pure x) (hiy : X.N[i]? = some y) (hl : X.env.scope.names.lookup y = some .local)
  (hsw : swapsWith (.ListComp elt [⟨tg,iter,ifs,0⟩] scope pos) (some (.Name y py)) spos.line X.env = pure true) :
  PS X (.Assign [.Name y py] (.ListComp elt [⟨tg,iter,ifs,0⟩] scope pos) spos) (tAsg (tLC wi g tif te m) (gName i)) := by
 intro pins s σ H D I h
 rw [exec_Assign_Name_used _ _ _ _ hsw]
 refine wpAny_bind (wpAny_standAt (wpAny_bind ?_))
 show wpAny _ X.A (do let _ ← comprehension (.ListComp elt [⟨tg,iter,ifs,0⟩] scope pos) scope X.env _ (newList []) false (eval iter X.env) (some (assign (.Name y py) X.env))) _ _ s
 refine wpAny_bind (wpAny_mono (lc_core (use := some (assign (.Name y py) X.env)) (QD := fun D' H' => D.nx (σ.set i (some (.ref D'))) H') (Qc := fun _ s' => ∃ σ' H',Inv X pins σ' H' s'∧D.nx σ' H') hc hi hg hf he hsc hcap hs I h fun D' s3 H3 fp s6 H6 σ6 r I3 f3 I6 q => ?_) (fun _ s' hq => wpAny_pure (wpAny_pure hq)) fun _ _ e => e)
 have I7 : Inv X pins σ H6 s6 := inv_uncomp (h2 := s6.heap) I3 f3 I6 ⟨rfl,fun _ _ => rfl⟩
 obtain ⟨mm,hn6,_⟩ := I6.loc
 have hfC : FpOk X pins H6 s3.heap.objs.size := I3.fpOk (Nat.le_refl _) I6.free
 obtain ⟨f0,f1,f2,f3',f4,f5⟩ := hfC
 show wpAny _ X.A (assign (.Name y py) X.env (.ref D')) _ _ _
 refine wpAny_assign_Name (store_ok2 I7 hN hiy (.inl hl) (v := .ref D') rfl (fun s8 I8 hch => ?_) (.inr hl))
 obtain ⟨a,sb,ha⟩ := hch
 have hne : s3.heap.objs.size ≠ a := by
  rcases ha with rfl | ha
  ·exact f1
  ·exact Ne.symm (f4 _ _ ha)
 refine ⟨mm,hn6.sameBut sb hne,fun h' sb' => ⟨_,_,I8.turned (t' := s8.toks) (fun b o hb e => (sb'.2 b hb).trans e) f0 f1 f3' f4 f5,q⟩⟩
end
theorem lE_lc {K : PySem.W.Frag} {m : List (Option Nat)} {wi : TI3} {g : TG3} {tif : TT3} {te : TE3} {σ : L2.St} {H : Hp} {Q : VK} (hh : lE K (lc3 wi g tif te m) σ H Q) : tLC (lI K wi) (lG K g) (lT K tif) (lE K te) m σ H Q := by
  obtain ⟨τ,G,q,rl,h,af⟩ := hh
  refine ⟨τ,G,_,rl,h,fun items stay G1 h1 J H1 hr1 k1 ok D hD => ?_⟩
  have gD : G1 D = none := hr1.free hD
  refine ⟨fun i n σ' H' => n = items.length - i∧i ≤ items.length∧∃ τ' G' ys vs,Rel K τ' G' σ' H'∧Kp G1 H1 G' H'∧H' D = some (.lst vs)∧Rps K H' ys vs∧G' D = none∧lcGo stay g tif te q (items.drop i) ys τ' G',
   ⟨_,rfl,Nat.zero_le _,cap m τ,G1,[],[],((rl.next hr1 k1).cap m).next (hr1.laid hD) (Kp.laid hD),Kp.laid hD,upd_same,.nil,gD,by simpa using h1⟩,?_⟩
  rintro i n σ' H' ⟨rfl,hi,τ',G',ys,vs,rl',k',hDl,rys,gD',h'⟩
  by_cases hlt : i < items.length
  ·rw [List.drop_eq_getElem_cons hlt] at h'
   obtain ⟨hst,h'⟩ := h'
   obtain ⟨go,yld,_⟩ := ok G' H' rl'.hp k' hst
   have hx : items[i]? = some items[i] := List.getElem?_eq_getElem hlt
   refine .inr ⟨go i _ hx,fun v H2 y => ?_⟩
   obtain ⟨rv,hr2,k2⟩ := yld i _ v H2 hx y
   have nxt : ∀ {τ4 : St3} {G4 : Gp} {σ4 : L2.St} {H4 : Hp} {ys4 : List T} {vs4 : List V},Rel K τ4 G4 σ4 H4 → Kp G1 H1 G4 H4 → H4 D = some (.lst vs4) → Rps K H4 ys4 vs4 → G4 D = none → lcGo stay g tif te q (items.drop (i + 1)) ys4 τ4 G4 →
     ∃ n',n' < items.length - i∧(n' = items.length - (i + 1)∧i + 1 ≤ items.length∧∃ τ' G' ys vs,Rel K τ' G' σ4 H4∧Kp G1 H1 G' H4∧H4 D = some (.lst vs)∧Rps K H4 ys vs∧G' D = none∧lcGo stay g tif te q (items.drop (i + 1)) ys τ' G') :=
    fun {τ4 G4 σ4 H4 ys4 vs4} a b c d e f => ⟨_,by omega,rfl,hlt,τ4,G4,ys4,vs4,a,b,c,d,e,f⟩
   refine ⟨_,τ',G',_,rv,rl'.next hr2 k2,h',fun τ3 G3 h3 σ3 H3 rl3 k3 => ⟨τ3,G3,_,rl3,h3,fun k G4 h4 H4 hr4 k4 => ?_⟩⟩
   have kk := (k2.trans k3).trans k4
   obtain ⟨hD4,gD4⟩ := kk D _ hDl gD'
   have rys4 := rys.keep rl'.hp kk
   cases k with
   | false =>
    rw [if_neg Bool.false_ne_true] at h4
    refine iteF ?_
    exact nxt (rl3.next hr4 k4) (k'.trans kk) hD4 rys4 gD4 h4
   | true =>
    rw [if_pos rfl] at h4
    refine iteT ?_
    refine ⟨τ3,G4,_,rl3.next hr4 k4,h4,fun z G5 h5 w H5 rw5 hr5 k5 => ?_⟩
    obtain ⟨hD5,gD5⟩ := k5 D _ hD4 gD4
    have rys5 := rys4.keep hr4 k5
    exact ⟨vs,hD5,by rw [← rys.length];exact h5.1,nxt (((rl3.next hr4 k4).next hr5 k5).wrD hD5 gD5) (((k'.trans kk).trans k5).wrD hD) upd_same ((rys5.append (.cons rw5 .nil)).wrD hD5) gD5 h5.2⟩
  ·have e : i = items.length := by omega
   subst e
   rw [List.drop_length] at h'
   obtain ⟨_,_,stop⟩ := ok G' H' rl'.hp k' h'.1
   refine .inl ⟨stop,af _ _ (h'.2 D gD') _ H' (.ref D) (fun a o e => ?_) fun a o e ga => ?_⟩
   ·by_cases ha : a = D
    ·subst ha
     rw [gu_same] at e;cases e
     exact ⟨vs,hDl,rys⟩
    ·rw [gu_ne ha] at e
     exact rl'.hp a o e
   ·obtain ⟨e1,g1⟩ := k1 a o e ga
    obtain ⟨e2,g2⟩ := k' a o e1 g1
    exact ⟨e2,by rw [gu_ne (ne_of_none e1 hD)];exact g2⟩
theorem s_lcset {X : Cx} {py spos : Pos} {elt tg iter : Expr} {ifs : List Expr} {scope : Scope} {pos : Pos} {y : Str} (i : Nat) (N' : List Str) (m : List (Option Nat)) {wi : TI3} {g : TG3} {tif : TT3} {te : TE3} (hc : X.calm = true) (hN : X.N.Nodup) (hi : I3 X tg iter wi)
  (hg : ∀ s H fp,G3 (cxComp X N' scope s H fp) tg g) (hf : ∀ s H fp,F3 (cxComp X N' scope s H fp) ifs tif) (he : ∀ s H fp,E3 (cxComp X N' scope s H fp) elt te)
  (hsc : scOk X.env.scope scope = true) (hcap : capOk X.N N' scope m = true) (hl : X.env.scope.names.lookup y = some .local) (hsw : swapsWith (.ListComp elt [⟨tg,iter,ifs,0⟩] scope pos) (some (.Name y py)) spos.line X.env = pure true) (hiy : X.N[i]? = some y := by rfl) (hs : ∀ x,foldedSetIterable iter X.env x = pure x := by intro _;rfl) :
  S3 X (.Assign [.Name y py] (.ListComp elt [⟨tg,iter,ifs,0⟩] scope pos) spos) (asg3 (lc3 wi g tif te m) (gn3 i)) :=
 ps_w (ps_lcset (g := lG X.K g) (tif := lT X.K tif) (te := lE X.K te) hc hN hi hg hf he hsc hcap hs hiy hl hsw) fun _ σ H ⟨τ,G,d,rl,h,af⟩ =>
  lE_lc ⟨τ,G,_,rl,h,fun x G1 h1 v H1 rx hr1 k1 => af.nx _ G1 h1 _ H1 ((rl.next hr1 k1).set i rx) k1⟩
end L3
set_option autoImplicit true
namespace L3
open PySem PySem.Spec PyProof.Rows L2
structure jE3 (X : Cx) (e : Expr) (t : TE3) : Prop where h : E3 X e t
structure jC3 (X : Cx) (e : Expr) (t : TT3) : Prop where h : C3 X e t
structure jW3 (X : Cx) (e : Expr) (t : TT3) : Prop where h : W3 X e t
structure jA3 (X : Cx) (e : List Expr) (t : TA3) : Prop where h : A3 X e t
structure jP3 (X : Cx) (e : Option Expr) (t : TO3) : Prop where h : P3 X e t
structure jS3 (X : Cx) (e : Stmt) (t : TS3) : Prop where h : S3 X e t
structure jB3 (X : Cx) (e : List Stmt) (t : TS3) : Prop where h : B3 X e t
structure jG3 (X : Cx) (e : Expr) (t : TG3) : Prop where h : G3 X e t
structure jGs3 (X : Cx) (e : List Expr) (t : TGs3) : Prop where h : Gs3 X e t
structure jI3 (X : Cx) (tg e : Expr) (t : TI3) : Prop where h : I3 X tg e t
structure jF3 (X : Cx) (e : List Expr) (t : TT3) : Prop where h : F3 X e t
theorem je_var {X : Cx} (i : Nat) {x : Str} {pos : Pos} (hN : X.N[i]? = some x := by rfl) (hv : Vis X.env.scope x := by first | exact Or.inl rfl | exact Or.inr (Or.inl rfl) | exact Or.inr (Or.inr rfl)) (hd : (x == ("__debug__" : Str)) = false := by decide)
  (hcd : (x == ("__classdict__" : Str)) = false := by decide) : jE3 X (.Name x pos) (v3 i) :=
 ⟨e_var (i := i) (hN := hN) (hv := hv) (hd := hd) (hcd := hcd)⟩
theorem je_int {X : Cx} {i : Int} {j pos} : jE3 X (.Constant (.int i) j pos) (c3 (.int i)) :=
 ⟨e_int ⟩
theorem je_bl {X : Cx} {b : Bool} {j pos} : jE3 X (.Constant (.bool b) j pos) (c3 (.bl b)) :=
 ⟨e_bl ⟩
theorem je_non {X : Cx} {j pos} : jE3 X (.Constant .none j pos) (c3 .non) :=
 ⟨e_non ⟩
theorem je_str {X : Cx} {x : Str} {j pos} : jE3 X (.Constant (.str x) j pos) (c3 (.str x)) :=
 ⟨e_str ⟩
theorem je_cmp {ta : TE3} {tb : TE3} {pos : Pos} {a : Expr} {b : Expr} {X : Cx} {op : CmpOp} {r3 : R3} {r : R2} (ho : OpR X (compareOp op) r) (hr : Ref2 X.K r3 r) (ha : jE3 X a ta) (hb : jE3 X b tb) (hm : behindInMarks op b = false) : jE3 X (.Compare a [op] [b] pos) (o3 r3 ta tb) :=
 ⟨e_cmp (ho := ho) (hr := hr) (ha := ha.h) (hb := hb.h) (hm := hm)⟩
theorem jt_cmp {ta : TE3} {tb : TE3} {pos : Pos} {a : Expr} {b : Expr} {X : Cx} {op : CmpOp} {r3 : R3} {r : R2} (ho : OpR X (compareOp op) r) (hr : Ref2 X.K r3 r) (ha : jE3 X a ta) (hb : jE3 X b tb) (hm : behindInMarks op b = false) : jC3 X (.Compare a [op] [b] pos) (tb3 (o3 r3 ta tb)) :=
 ⟨t_cmp (ho := ho) (hr := hr) (ha := ha.h) (hb := hb.h) (hm := hm)⟩
theorem jt_chain {ta : TE3} {tb : TE3} {tc : TE3} {pos : Pos} {a : Expr} {b : Expr} {c : Expr} {X : Cx} {op op' : CmpOp} {r3 r3' : R3} {r r' : R2} (ho : OpR X (compareOp op) r) (hr : Ref2 X.K r3 r) (ho' : OpR X (compareOp op') r') (hr' : Ref2 X.K r3' r') (ha : jE3 X a ta) (hb : jE3 X b tb) (hc : jE3 X c tc)
  (hm : lastMarks [op,op'] [b,c] = false := by with_unfolding_all rfl) : jC3 X (.Compare a [op,op'] [b,c] pos) (tb3 (ch3 r3 r3' ta tb tc)) :=
 ⟨t_chain (ho := ho) (hr := hr) (ho' := ho') (hr' := hr') (ha := ha.h) (hb := hb.h) (hc := hc.h) (hm := hm)⟩
theorem je_sub {ta : TE3} {tb : TE3} {pos : Pos} {a : Expr} {b : Expr} {X : Cx} (ha : jE3 X a ta) (hb : jE3 X b tb) : jE3 X (.BinOp a .Sub b pos) (o3 (iI (· - ·)) ta tb) :=
 ⟨e_sub (ha := ha.h) (hb := hb.h)⟩
theorem je_mul {ta : TE3} {tb : TE3} {pos : Pos} {a : Expr} {b : Expr} {X : Cx} (ha : jE3 X a ta) (hb : jE3 X b tb) : jE3 X (.BinOp a .Mult b pos) (o3 (iC CMul (· * ·)) ta tb) :=
 ⟨e_mul (ha := ha.h) (hb := hb.h)⟩
theorem je_mod {ta : TE3} {tb : TE3} {pos : Pos} {a : Expr} {b : Expr} {X : Cx} (ha : jE3 X a ta) (hb : jE3 X b tb) : jE3 X (.BinOp a .Mod b pos) (o3 (iC (fun _ j => 0 < j) (· % ·)) ta tb) :=
 ⟨e_mod (ha := ha.h) (hb := hb.h)⟩
theorem je_div {ta : TE3} {tb : TE3} {pos : Pos} {a : Expr} {b : Expr} {X : Cx} (ha : jE3 X a ta) (hb : jE3 X b tb) : jE3 X (.BinOp a .FloorDiv b pos) (o3 (iC CDiv (· / ·)) ta tb) :=
 ⟨e_div (ha := ha.h) (hb := hb.h)⟩
theorem je_pow {ta : TE3} {tb : TE3} {pos : Pos} {a : Expr} {b : Expr} {X : Cx} (ha : jE3 X a ta) (hb : jE3 X b tb) : jE3 X (.BinOp a .Pow b pos) (o3 (iC CPow (fun i j => i ^ j.toNat)) ta tb) :=
 ⟨e_pow (ha := ha.h) (hb := hb.h)⟩
theorem je_shl {ta : TE3} {tb : TE3} {pos : Pos} {a : Expr} {b : Expr} {X : Cx} (ha : jE3 X a ta) (hb : jE3 X b tb) : jE3 X (.BinOp a .LShift b pos) (o3 (iC CPow (fun i j => i * 2 ^ j.toNat)) ta tb) :=
 ⟨e_shl (ha := ha.h) (hb := hb.h)⟩
theorem je_neg {ta : TE3} {pos : Pos} {a : Expr} {X : Cx} (ha : jE3 X a ta) : jE3 X (.UnaryOp .USub a pos) (u3 neg3 ta) :=
 ⟨e_neg (ha := ha.h)⟩
theorem jt_or1 {tA : TT3} {pos : Pos} {a : Expr} {X : Cx} (ha : jC3 X a tA) : jW3 X (.BoolOp .Or [a] pos) tA :=
 ⟨t_or1 (ha := ha.h)⟩
theorem jt_or {rest : List Expr} {tA : TT3} {tB : TT3} {pos : Pos} {a : Expr} {X : Cx} (ha : jC3 X a tA) (hb : jW3 X (.BoolOp .Or (b :: rest) pos) tB) : jW3 X (.BoolOp .Or (a :: b :: rest) pos) (or3 tA tB) :=
 ⟨t_or (ha := ha.h) (hb := hb.h)⟩
theorem jt_not {tA : TT3} {pos : Pos} {a : Expr} {X : Cx} (ha : jC3 X a tA) : jC3 X (.UnaryOp .Not a pos) (not3 tA) :=
 ⟨t_not (ha := ha.h)⟩
theorem jt_val {X : Cx} {e : Expr} {t : TE3} (h : jE3 X e t) (he : ∀ whole,isTrue e X.env whole = (do let v ← whole;standAt e.pos;holding [v] (truthy v)) := by intro _;rfl) : jC3 X e (tb3 t) :=
 ⟨t_val (h := h.h) (he := he)⟩
theorem je_one {ta : TE3} {pos : Pos} {a : Expr} {X : Cx} {op} (h : jE3 X a ta) : jE3 X (.BoolOp op [a] pos) ta :=
 ⟨e_one (h := h.h)⟩
theorem je_and {rest : List Expr} {ta : TE3} {tb : TE3} {pos : Pos} {a : Expr} {X : Cx} (ha : jE3 X a ta) (hb : jE3 X (.BoolOp .And (b :: rest) pos) tb) : jE3 X (.BoolOp .And (a :: b :: rest) pos) (andV3 ta tb) :=
 ⟨e_and (ha := ha.h) (hb := hb.h)⟩
theorem je_not {ta : TE3} {pos : Pos} {a : Expr} {X : Cx} (ha : jE3 X a ta) : jE3 X (.UnaryOp .Not a pos) (notV3 ta) :=
 ⟨e_not (ha := ha.h)⟩
theorem je_if {tA : TT3} {ta : TE3} {tb : TE3} {pos : Pos} {a : Expr} {b : Expr} {X : Cx} {c : Expr} (hc : jC3 X c tA) (ha : jE3 X a ta) (hb : jE3 X b tb) : jE3 X (.IfExp c a b pos) (if3 tA ta tb) :=
 ⟨e_if (hc := hc.h) (ha := ha.h) (hb := hb.h)⟩
theorem ja_nil {X : Cx}  : jA3 X [] nil3 :=
 ⟨a_nil ⟩
theorem ja_cons {te : TE3} {t : TA3} {es : List Expr} {X : Cx} (ha : jE3 X e te) (hr : jA3 X es t) (hs : starEach (e :: es) X.env = (false,eval e X.env) :: starEach es X.env := by rfl) : jA3 X (e :: es) (cons3 te t) :=
 ⟨a_cons (ha := ha.h) (hr := hr.h) (hs := hs)⟩
theorem je_tup {t : TA3} {pos : Pos} {es : List Expr} {X : Cx} {x1} (h : jA3 X es t) : jE3 X (.Tuple es x1 pos) (tup3 t) :=
 ⟨e_tup (h := h.h)⟩
theorem je_lst {t : TA3} {pos : Pos} {es : List Expr} {X : Cx} (h : jA3 X es t) : jE3 X (.List es pos) (lst3 t) :=
 ⟨e_lst (h := h.h)⟩
theorem je_callB {t : TA3} {pos : Pos} {es : List Expr} {X : Cx} {x : Str} {p : Pos} {id : String} {r3 : List T → Gp → Q3 → Prop} {r : List V → Hp → VK → Prop} (hc : CallR X (.builtin id) r) (hr : RefC X.K r3 r) (hg : Gl X x) (hm : X.mg x = none) (hv : bootBuiltins x = some (.builtin id)) (ha : jA3 X (e :: es) t) (hn : x ≠ "__name__" := by decide) (hdb : (x == ("__debug__" : Str)) = false := by decide)
  (he : starEach (e :: es) X.env = (false,eval e X.env) :: starEach es X.env := by rfl) (hpl : (backTo pos (starEach es X.env)).any (·.1) = false := by rfl) : jE3 X (.Call (.Name x p) (e :: es) [] pos) (cb3 r3 t) :=
 ⟨e_callB (hc := hc) (hr := hr) (hg := hg) (hm := hm) (hv := hv) (ha := ha.h) (hn := hn) (hdb := hdb) (he := he) (hpl := hpl)⟩
theorem je_callTy {t : TA3} {pos : Pos} {es : List Expr} {X : Cx} {x : Str} {p : Pos} {ty : String} {r3 : List T → Gp → Q3 → Prop} {r : List V → Hp → VK → Prop} (hc : CallR X (.type ty) r) (hr : RefC X.K r3 r) (hg : Gl X x) (hm : X.mg x = none) (hv : bootBuiltins x = some (.type ty)) (ha : jA3 X (e :: es) t) (hn : x ≠ "__name__" := by decide) (hdb : (x == ("__debug__" : Str)) = false := by decide)
  (he : starEach (e :: es) X.env = (false,eval e X.env) :: starEach es X.env := by rfl) (hpl : (backTo pos (starEach es X.env)).any (·.1) = false := by rfl) : jE3 X (.Call (.Name x p) (e :: es) [] pos) (cb3 r3 t) :=
 ⟨e_callTy (hc := hc) (hr := hr) (hg := hg) (hm := hm) (hv := hv) (ha := ha.h) (hn := hn) (hdb := hdb) (he := he) (hpl := hpl)⟩
theorem je_ix {ta : TE3} {tb : TE3} {pos : Pos} {a : Expr} {b : Expr} {X : Cx} (ha : jE3 X a ta) (hb : jE3 X b tb) (hs : PlainIx b := by intro _ _;rfl) : jE3 X (.Subscript a b pos) (o3 ix3 ta tb) :=
 ⟨e_ix (ha := ha.h) (hb := hb.h) (hs := hs)⟩
theorem jp_some {te : TE3} {e : Expr} {X : Cx} (h : jE3 X e te) : jP3 X (some e) (sp3 te) :=
 ⟨p_some (h := h.h)⟩
theorem je_slice {te : TE3} {pos : Pos} {e : Expr} {X : Cx} {lo hi : Option Expr} {tl th : TO3} {p2 : Pos} (he : jE3 X e te) (hl : jP3 X lo tl) (hu : jP3 X hi th) : jE3 X (.Subscript e (.Slice lo hi none p2) pos) (tsl3 te tl th) :=
 ⟨e_slice (he := he.h) (hl := hl.h) (hu := hu.h)⟩
theorem je_plus {ta : TE3} {tb : TE3} {pos : Pos} {a : Expr} {b : Expr} {X : Cx} (ha : jE3 X a ta) (hb : jE3 X b tb) : jE3 X (.BinOp a .Add b pos) (o3 cat3 ta tb) :=
 ⟨e_plus (ha := ha.h) (hb := hb.h)⟩
theorem je_append {t : TA3} {e : Expr} {X : Cx} {o : Expr} {to : TE3} {apos cpos : Pos} (ho : jE3 X o to) (ha : jA3 X [e] t)
  (hbase : attributeBase o "append" X.env (eval o X.env) = eval o X.env := by rfl)
  (hfew : ((backTo cpos (starEach [e] X.env)).all (fun x => !x.1) && (backToKw cpos (keywordEach [] X.env)).all (fun x => x.1.isSome)
   && decide (([e] : List Expr).length + ([] : List Keyword).length + (if ([] : List Keyword).isEmpty then 0 else 1) < 30)) = true := by rfl)
  (hline : (apos.endLine == cpos.line) = true := by rfl) (hs : starEach [e] X.env = (false,eval e X.env) :: starEach [] X.env := by rfl) (hplain : (backTo cpos (starEach [] X.env)).any (·.1) = false := by rfl) : jE3 X (.Call (.Attribute o "append" apos) [e] [] cpos) (bm3 app3 to t) :=
 ⟨e_append (ho := ho.h) (ha := ha.h) (hbase := hbase) (hfew := hfew) (hline := hline) (hs := hs) (hplain := hplain)⟩
theorem je_extend {t : TA3} {e : Expr} {X : Cx} {o : Expr} {to : TE3} {apos cpos : Pos} (ho : jE3 X o to) (ha : jA3 X [e] t)
  (hbase : attributeBase o "extend" X.env (eval o X.env) = eval o X.env := by rfl)
  (hfew : ((backTo cpos (starEach [e] X.env)).all (fun x => !x.1) && (backToKw cpos (keywordEach [] X.env)).all (fun x => x.1.isSome)
   && decide (([e] : List Expr).length + ([] : List Keyword).length + (if ([] : List Keyword).isEmpty then 0 else 1) < 30)) = true := by rfl)
  (hline : (apos.endLine == cpos.line) = true := by rfl) (hs : starEach [e] X.env = (false,eval e X.env) :: starEach [] X.env := by rfl) (hplain : (backTo cpos (starEach [] X.env)).any (·.1) = false := by rfl) : jE3 X (.Call (.Attribute o "extend" apos) [e] [] cpos) (bm3 ext3 to t) :=
 ⟨e_extend (ho := ho.h) (ha := ha.h) (hbase := hbase) (hfew := hfew) (hline := hline) (hs := hs) (hplain := hplain)⟩
theorem je_isi {te : TE3} {pos : Pos} {e : Expr} {X : Cx} {tn : Str} {ty : String} {p p2 : Pos} (he : jE3 X e te) (hg : Gl X "isinstance") (hm : X.mg "isinstance" = none) (hg2 : Gl X tn) (hm2 : X.mg tn = none) (hv : bootBuiltins tn = some (.type ty)) (hmem : ty ∈ tyNames := by decide) (hn : tn ≠ "__name__" := by decide) (hdb : (tn == ("__debug__" : Str)) = false := by decide)
  (hs : starEach [e,.Name tn p2] X.env = (false,eval e X.env) :: starEach [.Name tn p2] X.env := by rfl) (hs2 : starEach [.Name tn p2] X.env = (false,eval (.Name tn p2) X.env) :: starEach [] X.env := by rfl) (hpl : (backTo pos (starEach [.Name tn p2] X.env)).any (·.1) = false := by rfl) : jE3 X (.Call (.Name "isinstance" p) [e,.Name tn p2] [] pos) (isi3 (fun t => subT t ty) te) :=
 ⟨e_isi (he := he.h) (hg := hg) (hm := hm) (hg2 := hg2) (hm2 := hm2) (hv := hv) (hmem := hmem) (hn := hn) (hdb := hdb) (hs := hs) (hs2 := hs2) (hpl := hpl)⟩
theorem je_isi2 {te : TE3} {pos : Pos} {e : Expr} {X : Cx} {tn tn' : Str} {ty ty' : String} {p p2 p3 p4 : Pos} {x1} (he : jE3 X e te) (hg : Gl X "isinstance") (hm : X.mg "isinstance" = none) (hg2 : Gl X tn) (hm2 : X.mg tn = none) (hv : bootBuiltins tn = some (.type ty)) (hg3 : Gl X tn') (hm3 : X.mg tn' = none) (hv3 : bootBuiltins tn' = some (.type ty'))
  (hmem : ty ∈ tyNames := by decide) (hn : tn ≠ "__name__" := by decide) (hdb : (tn == ("__debug__" : Str)) = false := by decide) (hmem3 : ty' ∈ tyNames := by decide) (hn3 : tn' ≠ "__name__" := by decide) (hdb3 : (tn' == ("__debug__" : Str)) = false := by decide)
  (hs : starEach [e,.Tuple [.Name tn p2,.Name tn' p3] x1 p4] X.env = (false,eval e X.env) :: starEach [.Tuple [.Name tn p2,.Name tn' p3] x1 p4] X.env := by rfl) (hs2 : starEach [.Tuple [.Name tn p2,.Name tn' p3] x1 p4] X.env = (false,eval (.Tuple [.Name tn p2,.Name tn' p3] x1 p4) X.env) :: starEach [] X.env := by rfl)
  (hs3 : starEach [.Name tn p2,.Name tn' p3] X.env = (false,eval (.Name tn p2) X.env) :: starEach [.Name tn' p3] X.env := by rfl) (hs4 : starEach [.Name tn' p3] X.env = (false,eval (.Name tn' p3) X.env) :: starEach [] X.env := by rfl)
  (hpl : (backTo pos (starEach [.Tuple [.Name tn p2,.Name tn' p3] x1 p4] X.env)).any (·.1) = false := by rfl) : jE3 X (.Call (.Name "isinstance" p) [e,.Tuple [.Name tn p2,.Name tn' p3] x1 p4] [] pos) (isi3 (fun t => subT t ty || subT t ty') te) :=
 ⟨e_isi2 (he := he.h) (hg := hg) (hm := hm) (hg2 := hg2) (hm2 := hm2) (hv := hv) (hg3 := hg3) (hm3 := hm3) (hv3 := hv3) (hmem := hmem) (hn := hn) (hdb := hdb) (hmem3 := hmem3) (hn3 := hn3) (hdb3 := hdb3) (hs := hs) (hs2 := hs2) (hs3 := hs3) (hs4 := hs4) (hpl := hpl)⟩
theorem jb_nil {X : Cx}  : jB3 X [] next3 :=
 ⟨b_nil ⟩
theorem jb_cons {rest : List Stmt} {st : Stmt} {t1 : TS3} {t2 : TS3} {X : Cx} (h1 : jS3 X st t1) (h2 : jB3 X rest t2) : jB3 X (st :: rest) (seq3 t1 t2) :=
 ⟨b_cons (h1 := h1.h) (h2 := h2.h)⟩
theorem jb_one {st : Stmt} {t1 : TS3} {X : Cx} (h1 : jS3 X st t1) : jB3 X [st] t1 :=
 ⟨b_one (h1 := h1.h)⟩
theorem js_expr {te : TE3} {pos : Pos} {e : Expr} {X : Cx} (he : jE3 X e te) (hs : swapsWith e none pos.line X.env = pure false := by rfl) : jS3 X (.Expr e pos) (drop3 te) :=
 ⟨s_expr (he := he.h) (hs := hs)⟩
theorem js_ret {te : TE3} {pos : Pos} {e : Expr} {X : Cx} (he : jE3 X e te) : jS3 X (.Return (some e) pos) (ret3 te) :=
 ⟨s_ret (he := he.h)⟩
theorem js_if {tA : TT3} {t1 : TS3} {t2 : TS3} {pos : Pos} {X : Cx} {c : Expr} {ba bb : List Stmt} (hc : jC3 X c tA) (ha : jB3 X ba t1) (hb : jB3 X bb t2) : jS3 X (.If c ba bb pos) (ifS3 tA t1 t2) :=
 ⟨s_if (hc := hc.h) (ha := ha.h) (hb := hb.h)⟩
theorem jg_name {pos : Pos} {X : Cx} {i : Nat} {x : Str} (hN : X.N.Nodup) (hi : X.N[i]? = some x := by rfl) (hx : Loc X.env.scope x := by first | exact Or.inl rfl | exact Or.inr rfl) (hf : X.fn x = true ∨ X.env.scope.names.lookup x = some .local := by first | exact .inl rfl | exact .inr rfl) : jG3 X (.Name x pos) (gn3 i) :=
 ⟨g_name (hN := hN) (hi := hi) (hx := hx) (hf := hf)⟩
theorem jg_nil {X : Cx}  : jGs3 X [] gnil3 :=
 ⟨g_nil ⟩
theorem jg_cons {es : List Expr} {X : Cx} {tg : TG3} {tgs : TGs3} (h1 : jG3 X e tg) (h2 : jGs3 X es tgs) (hs : (assignEach (e :: es) X.env).map (·.2) = assign e X.env :: (assignEach es X.env).map (·.2) := by rfl) : jGs3 X (e :: es) (gcons3 tg tgs) :=
 ⟨g_cons (h1 := h1.h) (h2 := h2.h) (hs := hs)⟩
theorem jg_tup {pos : Pos} {es : List Expr} {X : Cx} {k : Nat} {tgs : TGs3} {n : Nat} (hc : X.calm = true) (h : jGs3 X es tgs) (hn : (assignEach es X.env).length = n := by rfl) (hst : (assignEach es X.env).findIdx? (·.1) = none := by rfl) : jG3 X (.Tuple es k pos) (gtup3 n tgs) :=
 ⟨g_tup (hc := hc) (h := h.h) (hn := hn) (hst := hst)⟩
theorem jg_sub {pos : Pos} {X : Cx} {o i : Expr} {to ti : TE3} (ho : jE3 X o to) (hi : jE3 X i ti) (ha : ∀ v,assign (.Subscript o i pos) X.env v = (do
      let ov ← holding [v] (eval o X.env)
      let iv ← holding [v,ov] (eval i X.env)
      standAt pos
      holding [v,ov,iv] (setItem ov iv v)
      release [v,ov,iv] []) := by intro _;rfl) : jG3 X (.Subscript o i pos) (gsub3 to ti) :=
  ⟨g_sub (ho := ho.h) (hi := hi.h) (ha := ha)⟩
theorem js_asg {te : TE3} {pos : Pos} {X : Cx} {tg e : Expr} {g : TG3} (he : jE3 X e te) (hg : jG3 X tg g) (hs : swapsWithSole [tg] e pos.line X.env = pure false := by rfl) (hw : swappedStores [tg] e X.env = pure none := by rfl)
  (h1 : (assignEach [tg] X.env).map (·.2) = [assign tg X.env] := by rfl) : jS3 X (.Assign [tg] e pos) (asg3 te g) :=
 ⟨s_asg (he := he.h) (hg := hg.h) (hs := hs) (hw := hw) (h1 := h1)⟩
theorem js_set {te : TE3} {pos : Pos} {X : Cx} (i : Nat) {x : Str} {e : Expr} {pos' : Pos} (hN : X.N.Nodup) (he : jE3 X e te) (hi : X.N[i]? = some x := by rfl) (hx : Loc X.env.scope x := by first | exact Or.inl rfl | exact Or.inr rfl) (hs : swapsWith e (some (.Name x pos')) pos.line X.env = pure false := by rfl) (hf : X.fn x = true ∨ X.env.scope.names.lookup x = some .local := by first | exact .inl rfl | exact .inr rfl) : jS3 X (.Assign [.Name x pos'] e pos) (asg3 te (gn3 i)) :=
 ⟨s_set (i := i) (hN := hN) (he := he.h) (hi := hi) (hx := hx) (hs := hs) (hf := hf)⟩
theorem js_par {pos : Pos} {X : Cx} {i j : Nat} {x y : Str} {a b : Expr} {tt : TA3} {px py pt : Pos} {kt k2 pt2} (hc : X.calm = true) (hN : X.N.Nodup) (hi : X.N[i]? = some x) (hj : X.N[j]? = some y) (hij : i ≠ j)
  (hx : X.env.scope.names.lookup x = some .local) (hy : X.env.scope.names.lookup y = some .local) (ha : jA3 X [a,b] tt)
  (hw : swappedStores [.Tuple [.Name x px,.Name y py] kt pt] (.Tuple [a,b] k2 pt2) X.env = pure (some [x,y]) := by rfl)
  (hs : swapsWithSole [.Tuple [.Name x px,.Name y py] kt pt] (.Tuple [a,b] k2 pt2) pos.line X.env = pure false := by rfl) : jS3 X (.Assign [.Tuple [.Name x px,.Name y py] kt pt] (.Tuple [a,b] k2 pt2) pos) (par3 i j tt) :=
 ⟨s_par (hc := hc) (hN := hN) (hi := hi) (hj := hj) (hij := hij) (hx := hx) (hy := hy) (ha := ha.h) (hw := hw) (hs := hs)⟩
theorem ji_seq {te : TE3} {X : Cx} {tg : Expr} {l : Expr} (hl : jE3 X l te) : jI3 X tg l (iseq3 te) :=
 ⟨i_seq (hl := hl.h)⟩
theorem ji_range1 {t : TA3} {pos : Pos} {a : Expr} {X : Cx} {tg : Expr} {p : Pos} (hg : Gl X "range") (hm : X.mg "range" = none) (ha : jA3 X [a] t) (hs : starEach [a] X.env = [(false,eval a X.env)] := by rfl) (h1 : ∀ τ G q,t τ G q → t τ G fun xs G => q xs G∧xs.length = 1) : jI3 X tg (.Call (.Name "range" p) [a] [] pos) (irng3 t) :=
 ⟨i_range1 (hg := hg) (hm := hm) (ha := ha.h) (hs := hs) (h1 := h1)⟩
theorem ji_range2 {t : TA3} {pos : Pos} {a : Expr} {b : Expr} {X : Cx} {tg : Expr} {p : Pos} (hg : Gl X "range") (hm : X.mg "range" = none) (ha : jA3 X [a,b] t) (hs : starEach [a,b] X.env = [(false,eval a X.env),(false,eval b X.env)] := by rfl) (hs2 : starEach [b] X.env = [(false,eval b X.env)] := by rfl) (h1 : ∀ τ G q,t τ G q → t τ G fun xs G => q xs G∧xs.length = 2) : jI3 X tg (.Call (.Name "range" p) [a,b] [] pos) (irng3 t) :=
 ⟨i_range2 (hg := hg) (hm := hm) (ha := ha.h) (hs := hs) (hs2 := hs2) (h1 := h1)⟩
theorem js_for {pos : Pos} {X : Cx} {tg : Expr} {iter : Expr} {body : List Stmt} {wi : TI3} {g : TG3} {tb : TS3} (hp : PassesOwn (model X.prog X.w) X.A X.env X.xe) (hc : X.calm = true) (hi : jI3 X tg iter wi) (hg : jG3 X tg g) (hb : jB3 X body tb)
  (hs : ∀ x,foldedSetIterable iter X.env x = pure x := by intro _;rfl) : jS3 X (.For tg iter body [] pos) (for3 wi g tb) :=
 ⟨s_for (hp := hp) (hc := hc) (hi := hi.h) (hg := hg.h) (hb := hb.h) (hs := hs)⟩
theorem js_while {pos : Pos} {X : Cx} {c : Expr} {body : List Stmt} {tc : TT3} {tb : TS3} (hp : PassesOwn (model X.prog X.w) X.A X.env X.xe) (hc : jC3 X c tc) (hb : jB3 X body tb) : jS3 X (.While c body [] pos) (while3 tc tb) :=
 ⟨s_while (hp := hp) (hc := hc.h) (hb := hb.h)⟩
theorem je_call {t : TA3} {pos : Pos} {es : List Expr} {X : Cx} {k : Nat} {x : Str} {p : Pos} {sp : Sp3} (F : Fn3 X.prog X.w X.K X.mg X.base k x sp) (hr : Room k X.A) (hg : Gl X x) (ha : jA3 X (e :: es) t) (hdb : (x == ("__debug__" : Str)) = false := by decide)
  (he : starEach (e :: es) X.env = (false,eval e X.env) :: starEach es X.env := by rfl) (hpl : (backTo pos (starEach es X.env)).any (·.1) = false := by rfl) : jE3 X (.Call (.Name x p) (e :: es) [] pos) (cb3 sp t) :=
 ⟨e_call (F := F) (hr := hr) (hg := hg) (ha := ha.h) (hdb := hdb) (he := he) (hpl := hpl)⟩
theorem je_lc {X : Cx} {elt tg iter : Expr} {ifs : List Expr} {scope : Scope} {pos : Pos} (N' : List Str) (m : List (Option Nat)) {wi : TI3} {g : TG3} {tif : TT3} {te : TE3} (hc : X.calm = true) (hi : jI3 X tg iter wi)
  (hg : ∀ s H fp,jG3 (cxComp X N' scope s H fp) tg g) (hf : ∀ s H fp,jF3 (cxComp X N' scope s H fp) ifs tif) (he : ∀ s H fp,jE3 (cxComp X N' scope s H fp) elt te)
  (hsc : scOk X.env.scope scope = true) (hcap : capOk X.N N' scope m = true) (hs : ∀ x,foldedSetIterable iter X.env x = pure x := by intro _;rfl) : jE3 X (.ListComp elt [⟨tg,iter,ifs,0⟩] scope pos) (lc3 wi g tif te m) :=
 ⟨e_lc (N' := N') (m := m) (hc := hc) (hi := hi.h) (hg := (fun s H fp => (hg s H fp).h)) (hf := (fun s H fp => (hf s H fp).h)) (he := (fun s H fp => (he s H fp).h)) (hsc := hsc) (hcap := hcap) (hs := hs)⟩
theorem jf_nil {X : Cx} : jF3 X [] tt3 :=
 ⟨f_nil ⟩
theorem jf_one {X : Cx} {c : Expr} {t : TT3} (h : jC3 X c t) : jF3 X [c] t :=
 ⟨f_one (h := h.h)⟩
theorem ji_zip {t : TA3} {pos : Pos} {es : List Expr} {a : Expr} {b : Expr} {X : Cx} {p pt : Pos} {k1 : Nat} (hg : Gl X "zip") (hm : X.mg "zip" = none) (ha : jA3 X [a,b] t) (hs : starEach [a,b] X.env = [(false,eval a X.env),(false,eval b X.env)] := by rfl) (hs2 : starEach [b] X.env = [(false,eval b X.env)] := by rfl) : jI3 X (.Tuple es k1 pt) (.Call (.Name "zip" p) [a,b] [] pos) (izip3 t) :=
 ⟨i_zip (hg := hg) (hm := hm) (ha := ha.h) (hs := hs) (hs2 := hs2)⟩
theorem js_lcset {X : Cx} {py spos : Pos} {elt tg iter : Expr} {ifs : List Expr} {scope : Scope} {pos : Pos} {y : Str} (i : Nat) (N' : List Str) (m : List (Option Nat)) {wi : TI3} {g : TG3} {tif : TT3} {te : TE3} (hc : X.calm = true) (hN : X.N.Nodup) (hi : jI3 X tg iter wi)
  (hg : ∀ s H fp,jG3 (cxComp X N' scope s H fp) tg g) (hf : ∀ s H fp,jF3 (cxComp X N' scope s H fp) ifs tif) (he : ∀ s H fp,jE3 (cxComp X N' scope s H fp) elt te)
  (hsc : scOk X.env.scope scope = true) (hcap : capOk X.N N' scope m = true) (hl : X.env.scope.names.lookup y = some .local) (hsw : swapsWith (.ListComp elt [⟨tg,iter,ifs,0⟩] scope pos) (some (.Name y py)) spos.line X.env = pure true) (hiy : X.N[i]? = some y := by rfl) (hs : ∀ x,foldedSetIterable iter X.env x = pure x := by intro _;rfl) : jS3 X (.Assign [.Name y py] (.ListComp elt [⟨tg,iter,ifs,0⟩] scope pos) spos) (asg3 (lc3 wi g tif te m) (gn3 i)) :=
 ⟨s_lcset (i := i) (N' := N') (m := m) (hc := hc) (hN := hN) (hi := hi.h) (hg := (fun s H fp => (hg s H fp).h)) (hf := (fun s H fp => (hf s H fp).h)) (he := (fun s H fp => (he s H fp).h)) (hsc := hsc) (hcap := hcap) (hl := hl) (hsw := hsw) (hiy := hiy) (hs := hs)⟩
theorem jpt {X : Cx} {e : Expr} {t : TT3} (h : jW3 X e t) : jC3 X e t := ⟨PW.pt h.h⟩
theorem jfn3_of {P : Program} {w : World} {K : PySem.W.Frag} {mg : Str → Option Value} {base : Heap} {x qual : Str} {st : Stmt} {f : Addr} {fd : FuncData} {N ps : List Str} {k : Nat} {sp : Sp3} {t3 : TS3} (F : Fun K x qual st f fd) (S : FnScope N ps (defScope st)) (bd : Binds K fd ps []) (hm : mg x = some (.ref f))
  (body : ∀ (cdv : Value) (A : Around) (outer : List Env) (s : Shared) (H : Hp) (E : XK),Room k (A.deeper (envOfC qual (defScope st) s.heap.objs.size f cdv)) →
   jB3 (cxOf CX0 P w K mg base N qual (defScope st) f cdv A outer s H E).nox (defBody st) t3)
  (read : ∀ ts G q,sp ts G q → ts.length = ps.length∧t3 { nx := fun _ G' => q .non G',rt := q } (start3 N ts) G) : Fn3 P w K mg base (k + 1) x sp :=
 fn3_of F S bd hm (fun cdv A outer s H E hr => (body cdv A outer s H E hr).h) read
theorem jfnok_of {P : Program} {w : World} {K : PySem.W.Frag} {mg : Str → Option Value} {base : Heap} {x qual : Str} {st : Stmt} {f : Addr} {fd : FuncData} {N ps : List Str} {k : Nat} {sp : Sp3} {t3 : TS3} (F : Fun K x qual st f fd) (S : FnScope N ps (defScope st))
  (body : ∀ (cdv : Value) (A : Around) (outer : List Env) (s : Shared) (H : Hp) (E : XK),Room k (A.deeper (envOfC qual (defScope st) s.heap.objs.size f cdv)) →
   jB3 (cxOf CX0 P w K mg base N qual (defScope st) f cdv A outer s H E).nox (defBody st) t3)
  (read : ∀ ts G q,sp ts G q → ts.length = ps.length∧t3 { nx := fun _ G' => q .non G',rt := q } (start3 N ts) G) : FnOk P w K mg base CX0 (k + 1) f fd ps (lSp K sp) :=
 fnok_of F S (fun cdv A outer s H E hr => (body cdv A outer s H E hr).h) read
end L3
namespace L3
open PySem PySem.Spec PyProof.Rows L2
open PySem.SeqAt
def Ex (G G' : Gp) : Prop := ∀ b o,G b = some o → G' b = some o
theorem Ex.refl {G : Gp} : Ex G G := fun _ _ e => e
theorem Ex.trans {G G1 G2 : Gp} (a : Ex G G1) (b : Ex G1 G2) : Ex G G2 := fun x o e => b x o (a x o e)
theorem ex_new {G : Gp} {p : Addr} {o : O} (hp : G p = none) : Ex G (gu G p o) := fun b ob e => by
 rw [gu_ne (by rintro rfl;rw [hp] at e;cases e)];exact e
mutual
inductive Dp (G : Gp) : T → PyData → Prop
 | non : Dp G .non .none
 | bl (b : Bool) : Dp G (.bl b) (.bool b)
 | int (i : Int) : Dp G (.int i) (.int i)
 | str (x : Str) : Dp G (.str x) (.str x)
 | tup {xs : List T} {ds : List PyData} : Dps G xs ds → Dp G (.tup xs) (.tuple ds)
 | lst {p : Addr} {xs : List T} {ds : List PyData} : getL G p = some xs → Dps G xs ds → Dp G (.ref p) (.list ds)
inductive Dps (G : Gp) : List T → List PyData → Prop
 | nil : Dps G [] []
 | cons {x : T} {d : PyData} {xs : List T} {ds : List PyData} : Dp G x d → Dps G xs ds → Dps G (x :: xs) (d :: ds)
end
theorem Ex.getL {G G' : Gp} (e : Ex G G') {p : Addr} {xs : List T} (h : getL G p = some xs) : getL G' p = some xs := by
 unfold L3.getL at h ⊢
 split at h
 ·rename_i ys g;cases h;rw [e _ _ g]
 ·rename_i ys g;cases h;rw [e _ _ g]
 ·cases h
mutual
theorem Dp.up {G G' : Gp} (e : Ex G G') : ∀ {x : T} {d : PyData},Dp G x d → Dp G' x d
 | _,_,.non => .non
 | _,_,.bl b => .bl b
 | _,_,.int i => .int i
 | _,_,.str x => .str x
 | _,_,.tup h => .tup (Dps.up e h)
 | _,_,.lst h1 h2 => .lst (e.getL h1) (Dps.up e h2)
theorem Dps.up {G G' : Gp} (e : Ex G G') : ∀ {x : List T} {d : List PyData},Dps G x d → Dps G' x d
 | _,_,.nil => .nil
 | _,_,.cons a b => .cons (Dp.up e a) (Dps.up e b)
end
theorem Dps.length {G : Gp} : ∀ {xs : List T} {ds : List PyData},Dps G xs ds → xs.length = ds.length
 | _,_,.nil => rfl
 | _,_,.cons _ b => by simp [Dps.length b]
theorem Dps.get {G : Gp} : ∀ {xs : List T} {ds : List PyData} {i : Nat} {x : T},Dps G xs ds → xs[i]? = some x → ∃ d,ds[i]? = some d∧Dp G x d
 | _,_,_,_,.nil,e => by simp at e
 | _,_,0,_,.cons r _,e => by simp at e;subst e;exact ⟨_,rfl,r⟩
 | _,_,i + 1,x,.cons _ t,e => by
  obtain ⟨u,h1,h2⟩ := Dps.get (i := i) (x := x) t (by simpa using e)
  exact ⟨u,by simpa using h1,h2⟩
mutual
inductive DV (K : PySem.W.Frag) (H : Hp) : V → PyData → Prop
 | non : DV K H .non .none
 | bl (b : Bool) : DV K H (.bl b) (.bool b)
 | int (i : Int) : DV K H (.int i) (.int i)
 | str (x : Str) : DV K H (.str x) (.str x)
 | tup {a : Addr} {vs : List V} {ds : List PyData} : SqT K H a vs → DVs K H vs ds → DV K H (.ref a) (.tuple ds)
 | lst {a : Addr} {vs : List V} {ds : List PyData} : SqL K H a vs → DVs K H vs ds → DV K H (.ref a) (.list ds)
inductive DVs (K : PySem.W.Frag) (H : Hp) : List V → List PyData → Prop
 | nil : DVs K H [] []
 | cons {x : V} {d : PyData} {xs : List V} {ds : List PyData} : DV K H x d → DVs K H xs ds → DVs K H (x :: xs) (d :: ds)
end
mutual
theorem Dp.dv {K : PySem.W.Frag} {G : Gp} {H : Hp} (hr : HR K G H) : ∀ {x : T} {d : PyData} {v : V},Dp G x d → Rp K H x v → DV K H v d
 | _,_,_,.non,.non => .non
 | _,_,_,.bl b,.bl _ => .bl b
 | _,_,_,.int i,.int _ => .int i
 | _,_,_,.str x,.str _ => .str x
 | _,_,_,.tup h,.tup hs rs => .tup hs (Dps.dv hr h rs)
 | _,_,_,.lst g h,r => by
  cases r
  obtain ⟨_,hs,rs⟩ := getL_sq hr g
  exact .lst hs (Dps.dv hr h rs)
theorem Dps.dv {K : PySem.W.Frag} {G : Gp} {H : Hp} (hr : HR K G H) : ∀ {x : List T} {d : List PyData} {v : List V},Dps G x d → Rps K H x v → DVs K H v d
 | _,_,_,.nil,.nil => .nil
 | _,_,_,.cons a b,.cons c d => .cons (Dp.dv hr a c) (Dps.dv hr b d)
end
mutual
noncomputable def pyEq : PyData → PyData → Option Bool
 | .none,.none => some true
 | .bool a,.bool b => some (a == b)
 | .int a,.int b => some (a == b)
 | .str a,.str b => some (a == b)
 | .list xs,.list ys => pyEqs xs ys
 | .tuple xs,.tuple ys => pyEqs xs ys
 | _,_ => none
noncomputable def pyEqs : List PyData → List PyData → Option Bool
 | [],[] => some true
 | x :: xs,y :: ys => match pyEq x y,pyEqs xs ys with | some a,some b => some (a && b) | _,_ => none
 | _,_ => some false
end
mutual
noncomputable def dpt : PyData → Nat
 | .list xs => dpts xs + 1
 | .tuple xs => dpts xs + 1
 | _ => 0
noncomputable def dpts : List PyData → Nat
 | [] => 0
 | x :: xs => max (dpt x) (dpts xs)
end
section
variable {X : Cx} {pins : List (Addr × Obj)} {σ : L2.St} {H : Hp} {s : Shared}
mutual
theorem DV.inj (I : Inv X pins σ H s) : ∀ {v : V} {d e : PyData},DV X.K H v d → DV X.K H v e → d = e
 | _,_,_,.non,.non => rfl
 | _,_,_,.bl _,.bl _ => rfl
 | _,_,_,.int _,.int _ => rfl
 | _,_,_,.str _,.str _ => rfl
 | _,_,_,.tup h hs,.tup k ks => by
  have := I.tuple_inj h k
  subst this
  rw [DVs.inj I hs ks]
 | _,_,_,.lst h hs,.lst k ks => by
  have := I.list_inj h k
  subst this
  rw [DVs.inj I hs ks]
 | _,_,_,.tup h hs,.lst k ks => by
  obtain ⟨i1,_,p1,_⟩ := I.tuple h
  obtain ⟨i2,_,p2,_⟩ := I.list k
  exact absurd rfl (ne_of_list_tuple p2.isList (show s.heap.IsTuple _ i1.toArray from p1))
 | _,_,_,.lst k ks,.tup h hs => by
  obtain ⟨i1,_,p1,_⟩ := I.tuple h
  obtain ⟨i2,_,p2,_⟩ := I.list k
  exact absurd rfl (ne_of_list_tuple p2.isList (show s.heap.IsTuple _ i1.toArray from p1))
theorem DVs.inj (I : Inv X pins σ H s) : ∀ {v : List V} {d e : List PyData},DVs X.K H v d → DVs X.K H v e → d = e
 | _,_,_,.nil,.nil => rfl
 | _,_,_,.cons a b,.cons c d => by rw [DV.inj I a c,DVs.inj I b d]
end
mutual
theorem pyEq_self : ∀ {d : PyData} {b : Bool},pyEq d d = some b → b = true
 | .none,_,h => by simp [pyEq] at h;exact h
 | .bool _,_,h => by simp [pyEq] at h;exact h
 | .int _,_,h => by simp [pyEq] at h;exact h
 | .str _,_,h => by simp [pyEq] at h;exact h
 | .list xs,_,h => by simp only [pyEq] at h;exact pyEqs_self h
 | .tuple xs,_,h => by simp only [pyEq] at h;exact pyEqs_self h
 | .dict _,_,h => by simp [pyEq] at h
theorem pyEqs_self : ∀ {d : List PyData} {b : Bool},pyEqs d d = some b → b = true
 | [],_,h => by simp [pyEqs] at h;exact h
 | x :: xs,b,h => by
  simp only [pyEqs] at h
  split at h
  ·rename_i a c e1 e2
   rw [pyEq_self e1,pyEqs_self e2] at h
   simpa using h.symm
  ·cases h
end
theorem pyEqs_get : ∀ {xs ys : List PyData} {b : Bool},pyEqs xs ys = some b → xs.length = ys.length → ∃ e : Nat → Bool,(∀ (j : Nat) x y,xs[j]? = some x → ys[j]? = some y → pyEq x y = some (e j))∧b = (List.range xs.length).all e
 | [],[],b,h,_ => by simp [pyEqs] at h;exact ⟨fun _ => true,by simp,by simp [h]⟩
 | x :: xs,y :: ys,b,h,hl => by
  simp only [pyEqs] at h
  split at h
  ·rename_i a c e1 e2
   obtain ⟨e,h1,h2⟩ := pyEqs_get e2 (by simpa using hl)
   refine ⟨fun j => match j with | 0 => a | j + 1 => e j,fun j u v hu hv => ?_,?_⟩
   ·cases j with
    | zero => simp at hu hv;subst hu;subst hv;exact e1
    | succ j => exact h1 j u v (by simpa using hu) (by simpa using hv)
   ·rw [List.length_cons,List.range_succ_eq_map,List.all_cons,List.all_map]
    cases h
    rw [h2]
    rfl
  ·cases h
 | [],_ :: _,_,_,hl => by simp at hl
 | _ :: _,[],_,_,hl => by simp at hl
theorem pyEqs_len : ∀ {xs ys : List PyData} {b : Bool},pyEqs xs ys = some b → xs.length ≠ ys.length → b = false∧∃ e : Nat → Bool,∀ (j : Nat) x y,xs[j]? = some x → ys[j]? = some y → pyEq x y = some (e j)
 | [],[],_,_,hl => by simp at hl
 | [],_ :: _,b,h,_ => by simp [pyEqs] at h;exact ⟨h,fun _ => true,by simp⟩
 | _ :: _,[],b,h,_ => by simp [pyEqs] at h;exact ⟨h,fun _ => true,by simp⟩
 | x :: xs,y :: ys,b,h,hl => by
  simp only [pyEqs] at h
  split at h
  ·rename_i a c e1 e2
   obtain ⟨h0,e,h1⟩ := pyEqs_len e2 (by simpa using hl)
   subst h0
   refine ⟨by simpa using h.symm,fun j => match j with | 0 => a | j + 1 => e j,fun j u v hu hv => ?_⟩
   cases j with
   | zero => simp at hu hv;subst hu;subst hv;exact e1
   | succ j => exact h1 j u v (by simpa using hu) (by simpa using hv)
  ·cases h
theorem dpts_mem : ∀ {xs : List PyData} {x : PyData},x ∈ xs → dpt x ≤ dpts xs
 | [],_,h => by simp at h
 | y :: ys,x,h => by
  simp only [dpts]
  rcases List.mem_cons.mp h with e | e
  ·subst e;omega
  ·have := dpts_mem e;omega
theorem DVs.get {K : PySem.W.Frag} {H : Hp} : ∀ {xs : List V} {ds : List PyData} {i : Nat} {x : V},DVs K H xs ds → xs[i]? = some x → ∃ d,ds[i]? = some d∧DV K H x d
 | _,_,_,_,.nil,e => by simp at e
 | _,_,0,_,.cons r _,e => by simp at e;subst e;exact ⟨_,rfl,r⟩
 | _,_,i + 1,x,.cons _ t,e => by
  obtain ⟨u,h1,h2⟩ := DVs.get (i := i) (x := x) t (by simpa using e)
  exact ⟨u,by simpa using h1,h2⟩
theorem DVs.length {K : PySem.W.Frag} {H : Hp} : ∀ {xs : List V} {ds : List PyData},DVs K H xs ds → xs.length = ds.length
 | _,_,.nil => rfl
 | _,_,.cons _ b => by simp [DVs.length b]
theorem vals_at {vs : List V} {us : List Value} (r : Vals vs us) {j : Nat} (h : j < us.toArray.size) : ∃ v,vs[j]? = some v∧RelV v us.toArray[j] := by
 have hj : j < vs.length := by rw [r.length];simpa using h
 obtain ⟨u,hu,ru⟩ := r.get (List.getElem?_eq_getElem hj)
 refine ⟨vs[j],List.getElem?_eq_getElem hj,?_⟩
 have hj2 : j < us.length := by simpa using h
 rw [List.getElem?_eq_getElem hj2] at hu
 have : us[j] = u := Option.some.inj hu
 simpa [this] using ru
theorem eq_deep (I : Inv X pins σ H s) : ∀ (n : Nat) {v u : V} {d e : PyData} {b : Bool} {x y : Value} {A : Around},DV X.K H v d → DV X.K H u e → pyEq d e = some b → dpt d ≤ n → A.units + n < cLine → RelV v x → RelV u y →
  RcAt A s x y b∧EqAt A s x y b := by
 intro n
 induction n with
 | zero =>
  intro v u d e b x y A hv hu h hd hn rx ry
  cases hv with
  | non => cases hu <;> simp [pyEq] at h;subst h;cases (show x = Value.none from rx);cases (show y = Value.none from ry);exact ⟨RcAt.none_none,EqAt.same _⟩
  | bl a => cases hu <;> simp [pyEq] at h;subst h;cases (show x = Value.bool _ from rx);cases (show y = Value.bool _ from ry);exact ⟨RcAt.bool_bool _ _,EqAt.bool_bool _ _⟩
  | int a => cases hu <;> simp [pyEq] at h;subst h;obtain ⟨t,rfl⟩ := (show ∃ t,x = Value.int _ t from rx);obtain ⟨t',rfl⟩ := (show ∃ t,y = Value.int _ t from ry);exact ⟨RcAt.int_int _ _ _ _,EqAt.int_int _ _ _ _⟩
  | str a => cases hu <;> simp [pyEq] at h;subst h;obtain ⟨t,rfl⟩ := (show ∃ t,x = Value.str _ t from rx);obtain ⟨t',rfl⟩ := (show ∃ t,y = Value.str _ t from ry);exact ⟨RcAt.str_str _ _ _ _,EqAt.str_str _ _ _ _⟩
  | tup => simp [dpt] at hd
  | lst => simp [dpt] at hd
 | succ n ih =>
  intro v u d e b x y A hv hu h hd hn rx ry
  have fin : ∀ {l l' : Addr} {k : Bool},x = .ref l → y = .ref l' → v = .ref l → u = .ref l' → b = k → RcAt A s x y k → RcAt A s x y b∧EqAt A s x y b := by
   rintro l l' k rfl rfl rfl rfl rfl rc
   refine ⟨rc,?_⟩
   by_cases hll : l = l'
   ·subst hll
    have := DV.inj I hv hu
    subst this
    rw [pyEq_self h]
    exact EqAt.same _
   ·exact EqAt.of_refs hll rc
  cases hv with
  | non => cases hu <;> simp [pyEq] at h;subst h;cases (show x = Value.none from rx);cases (show y = Value.none from ry);exact ⟨RcAt.none_none,EqAt.same _⟩
  | bl a => cases hu <;> simp [pyEq] at h;subst h;cases (show x = Value.bool _ from rx);cases (show y = Value.bool _ from ry);exact ⟨RcAt.bool_bool _ _,EqAt.bool_bool _ _⟩
  | int a => cases hu <;> simp [pyEq] at h;subst h;obtain ⟨t,rfl⟩ := (show ∃ t,x = Value.int _ t from rx);obtain ⟨t',rfl⟩ := (show ∃ t,y = Value.int _ t from ry);exact ⟨RcAt.int_int _ _ _ _,EqAt.int_int _ _ _ _⟩
  | str a => cases hu <;> simp [pyEq] at h;subst h;obtain ⟨t,rfl⟩ := (show ∃ t,x = Value.str _ t from rx);obtain ⟨t',rfl⟩ := (show ∃ t,y = Value.str _ t from ry);exact ⟨RcAt.str_str _ _ _ _,EqAt.str_str _ _ _ _⟩
  | tup hq hs =>
   cases hu with
   | tup kq ks =>
    rename_i a1 vs1 ds1 a2 vs2 ds2
    simp only [pyEq] at h
    obtain ⟨i1,r1,p1,z1⟩ := I.tuple hq
    obtain ⟨i2,r2,p2,z2⟩ := I.tuple kq
    have l1 := hs.length;have l2 := ks.length;have m1 := r1.length;have m2 := r2.length
    have el : ∀ (e : Nat → Bool),(∀ (j : Nat) x y,ds1[j]? = some x → ds2[j]? = some y → pyEq x y = some (e j)) → ∀ j (h1 : j < i1.toArray.size) (h2 : j < i2.toArray.size),EqAt A.in1 s i1.toArray[j] i2.toArray[j] (e j) := fun e he j h1 h2 => by
     obtain ⟨w1,g1,q1⟩ := vals_at r1 h1
     obtain ⟨w2,g2,q2⟩ := vals_at r2 h2
     obtain ⟨d1,f1,dv1⟩ := hs.get g1
     obtain ⟨d2,f2,dv2⟩ := ks.get g2
     have := dpts_mem (List.mem_of_getElem? f1)
     exact (ih dv1 dv2 (he j d1 d2 f1 f2) (by simp only [dpt] at hd;omega) (show A.units + 1 + n < cLine by omega) q1 q2).2
    cases (show x = Value.ref a1 from rx)
    cases (show y = Value.ref a2 from ry)
    by_cases hl : ds1.length = ds2.length
    ·obtain ⟨e,he,hb⟩ := pyEqs_get h hl
     refine fin rfl rfl rfl rfl (k := (List.range (min i1.toArray.size i2.toArray.size)).all e && i1.toArray.size == i2.toArray.size) ?_ (RcAt.tuples (show s.heap.IsTuple a1 i1.toArray from p1) (show s.heap.IsTuple a2 i2.toArray from p2) (by omega) (el e he))
     have e1 : i1.toArray.size = ds1.length := by rw [List.size_toArray];omega
     have e2 : i2.toArray.size = ds1.length := by rw [List.size_toArray];omega
     rw [e1,e2,hb];simp
    ·obtain ⟨hb,e,he⟩ := pyEqs_len h hl
     refine fin rfl rfl rfl rfl (k := (List.range (min i1.toArray.size i2.toArray.size)).all e && i1.toArray.size == i2.toArray.size) ?_ (RcAt.tuples (show s.heap.IsTuple a1 i1.toArray from p1) (show s.heap.IsTuple a2 i2.toArray from p2) (by omega) (el e he))
     have e1 : i1.toArray.size ≠ i2.toArray.size := by rw [List.size_toArray,List.size_toArray];omega
     rw [hb];simp [e1]
     intro;omega
   | _ => simp [pyEq] at h
  | lst hq hs =>
   cases hu with
   | lst kq ks =>
    rename_i a1 vs1 ds1 a2 vs2 ds2
    simp only [pyEq] at h
    obtain ⟨i1,r1,p1,z1⟩ := I.list hq
    obtain ⟨i2,r2,p2,z2⟩ := I.list kq
    have l1 := hs.length;have l2 := ks.length;have m1 := r1.length;have m2 := r2.length
    have el : ∀ (e : Nat → Bool),(∀ (j : Nat) x y,ds1[j]? = some x → ds2[j]? = some y → pyEq x y = some (e j)) → ∀ j (h1 : j < i1.toArray.size) (h2 : j < i2.toArray.size),EqAt A.in1 s i1.toArray[j] i2.toArray[j] (e j) := fun e he j h1 h2 => by
     obtain ⟨w1,g1,q1⟩ := vals_at r1 h1
     obtain ⟨w2,g2,q2⟩ := vals_at r2 h2
     obtain ⟨d1,f1,dv1⟩ := hs.get g1
     obtain ⟨d2,f2,dv2⟩ := ks.get g2
     have := dpts_mem (List.mem_of_getElem? f1)
     exact (ih dv1 dv2 (he j d1 d2 f1 f2) (by simp only [dpt] at hd;omega) (show A.units + 1 + n < cLine by omega) q1 q2).2
    cases (show x = Value.ref a1 from rx)
    cases (show y = Value.ref a2 from ry)
    by_cases hl : ds1.length = ds2.length
    ·obtain ⟨e,he,hb⟩ := pyEqs_get h hl
     refine fin rfl rfl rfl rfl (k := (List.range i1.toArray.size).all e) ?_ (RcAt.lists p1.isList p2.isList (by rw [List.size_toArray,List.size_toArray];omega) (by omega) (el e he))
     have e1 : i1.toArray.size = ds1.length := by rw [List.size_toArray];omega
     rw [e1,hb]
    ·obtain ⟨hb,e,he⟩ := pyEqs_len h hl
     refine fin rfl rfl rfl rfl (k := false) hb (RcAt.lists_lengths p1.isList p2.isList (by rw [List.size_toArray,List.size_toArray];simp;omega) (by omega))
   | _ => simp [pyEq] at h
theorem ne_deep (I : Inv X pins σ H s) {n : Nat} {v u : V} {d e : PyData} {b : Bool} {x y : Value} {A : Around} (hv : DV X.K H v d) (hu : DV X.K H u e) (h : pyEq d e = some b) (hd : dpt d ≤ n + 1) (hn : A.units + (n + 1) < cLine) (rx : RelV v x) (ry : RelV u y) (hs : dpt d ≠ 0) : RcNeAt A s x y (!b) := by
 cases hv with
 | tup hq hs' =>
  cases hu with
  | tup kq ks =>
   rename_i a1 vs1 ds1 a2 vs2 ds2
   simp only [pyEq] at h
   obtain ⟨i1,r1,p1,z1⟩ := I.tuple hq
   obtain ⟨i2,r2,p2,z2⟩ := I.tuple kq
   have l1 := hs'.length;have l2 := ks.length;have m1 := r1.length;have m2 := r2.length
   have el : ∀ (e : Nat → Bool),(∀ (j : Nat) x y,ds1[j]? = some x → ds2[j]? = some y → pyEq x y = some (e j)) → ∀ j (h1 : j < i1.toArray.size) (h2 : j < i2.toArray.size),EqAt A.in1 s i1.toArray[j] i2.toArray[j] (e j) := fun e he j h1 h2 => by
    obtain ⟨w1,g1,q1⟩ := vals_at r1 h1
    obtain ⟨w2,g2,q2⟩ := vals_at r2 h2
    obtain ⟨d1,f1,dv1⟩ := hs'.get g1
    obtain ⟨d2,f2,dv2⟩ := ks.get g2
    have := dpts_mem (List.mem_of_getElem? f1)
    exact (eq_deep I n dv1 dv2 (he j d1 d2 f1 f2) (by simp only [dpt] at hd;omega) (show A.units + 1 + n < cLine by omega) q1 q2).2
   cases (show x = Value.ref a1 from rx)
   cases (show y = Value.ref a2 from ry)
   by_cases hl : ds1.length = ds2.length
   ·obtain ⟨e,he,hb⟩ := pyEqs_get h hl
    have := RcNeAt.tuples (show s.heap.IsTuple a1 i1.toArray from p1) (show s.heap.IsTuple a2 i2.toArray from p2) (A := A) (by omega) (el e he)
    have e1 : i1.toArray.size = ds1.length := by rw [List.size_toArray];omega
    have e2 : i2.toArray.size = ds1.length := by rw [List.size_toArray];omega
    rw [e1,e2] at this
    rw [hb];simpa using this
   ·obtain ⟨hb,e,he⟩ := pyEqs_len h hl
    have := RcNeAt.tuples (show s.heap.IsTuple a1 i1.toArray from p1) (show s.heap.IsTuple a2 i2.toArray from p2) (A := A) (by omega) (el e he)
    have e1 : (i1.toArray.size == i2.toArray.size) = false := by rw [List.size_toArray,List.size_toArray];simp;omega
    rw [e1] at this
    rw [hb];simpa using this
  | _ => simp [pyEq] at h
 | lst hq hs' =>
  cases hu with
  | lst kq ks =>
   rename_i a1 vs1 ds1 a2 vs2 ds2
   simp only [pyEq] at h
   obtain ⟨i1,r1,p1,z1⟩ := I.list hq
   obtain ⟨i2,r2,p2,z2⟩ := I.list kq
   have l1 := hs'.length;have l2 := ks.length;have m1 := r1.length;have m2 := r2.length
   have el : ∀ (e : Nat → Bool),(∀ (j : Nat) x y,ds1[j]? = some x → ds2[j]? = some y → pyEq x y = some (e j)) → ∀ j (h1 : j < i1.toArray.size) (h2 : j < i2.toArray.size),EqAt A.in1 s i1.toArray[j] i2.toArray[j] (e j) := fun e he j h1 h2 => by
    obtain ⟨w1,g1,q1⟩ := vals_at r1 h1
    obtain ⟨w2,g2,q2⟩ := vals_at r2 h2
    obtain ⟨d1,f1,dv1⟩ := hs'.get g1
    obtain ⟨d2,f2,dv2⟩ := ks.get g2
    have := dpts_mem (List.mem_of_getElem? f1)
    exact (eq_deep I n dv1 dv2 (he j d1 d2 f1 f2) (by simp only [dpt] at hd;omega) (show A.units + 1 + n < cLine by omega) q1 q2).2
   cases (show x = Value.ref a1 from rx)
   cases (show y = Value.ref a2 from ry)
   by_cases hl : ds1.length = ds2.length
   ·obtain ⟨e,he,hb⟩ := pyEqs_get h hl
    have := RcNeAt.lists p1.isList p2.isList (A := A) (by rw [List.size_toArray,List.size_toArray];omega) (by omega) (el e he)
    have e1 : i1.toArray.size = ds1.length := by rw [List.size_toArray];omega
    rw [e1] at this
    rw [hb];exact this
   ·obtain ⟨hb,e,he⟩ := pyEqs_len h hl
    rw [hb]
    exact RcNeAt.lists_lengths p1.isList p2.isList (by rw [List.size_toArray,List.size_toArray];simp;omega) (by omega)
  | _ => simp [pyEq] at h
 | _ => simp [dpt] at hs
noncomputable def rEqD (K : PySem.W.Frag) (neg : Bool) : R2 := fun x y H Q => ∃ d e b,DV K H x d∧DV K H y e∧pyEq d e = some b∧dpt d ≤ 40∧dpt d ≠ 0∧Q (.bl (if neg then !b else b)) H
theorem op_eqD (hu : X.A.units + 64 < cLine) : OpR X (compareOp .Eq) (rEqD X.K false) := by
 intro pins s σ H x y v u Q I rx ry h
 obtain ⟨d,e,b,hx,hy,hb,hd,_,q⟩ := h
 exact (eq_deep I 40 hx hy hb hd (by omega) rx ry).1 X.prog X.w X.xe _ ⟨.bl b,H,I,rfl,q⟩
theorem op_neD (hu : X.A.units + 64 < cLine) : OpR X (compareOp .NotEq) (rEqD X.K true) := by
 intro pins s σ H x y v u Q I rx ry h
 obtain ⟨d,e,b,hx,hy,hb,hd,hs,q⟩ := h
 exact ne_deep I (n := 40) hx hy hb (by omega) (by omega) rx ry hs X.prog X.w X.xe _ ⟨.bl (!b),H,I,rfl,q⟩
end
noncomputable def eqA3 (neg : Bool) : R3 := fun x y G q => match scalT x y with
 | some k => q (.bl (if neg then !k else k)) G
 | none => ∃ d e b,Dp G x d∧Dp G y e∧pyEq d e = some b∧dpt d ≤ 40∧dpt d ≠ 0∧q (.bl (if neg then !b else b)) G
theorem ref_eqA {K : PySem.W.Frag} : Ref2 K (eqA3 false) (fun x y H Q => rEq x y H Q ∨ rEqD K false x y H Q) := fun x y v u G H q Q hr rx ry h af => by
 unfold eqA3 at h
 split at h
 ·rename_i k e
  obtain ⟨h1,h2⟩ := scalT_ok rx ry e
  refine .inl ⟨h1,?_⟩
  rw [h2]
  exact af _ G h _ H (.bl _) hr Kp.refl
 ·obtain ⟨d,e,b,h1,h2,h3,h4,h5,h6⟩ := h
  exact .inr ⟨d,e,b,h1.dv hr rx,h2.dv hr ry,h3,h4,h5,af _ G h6 _ H (.bl _) hr Kp.refl⟩
theorem ref_neA {K : PySem.W.Frag} : Ref2 K (eqA3 true) (fun x y H Q => rNe x y H Q ∨ rEqD K true x y H Q) := fun x y v u G H q Q hr rx ry h af => by
 unfold eqA3 at h
 split at h
 ·rename_i k e
  obtain ⟨h1,h2⟩ := scalT_ok rx ry e
  refine .inl ⟨h1,?_⟩
  rw [h2]
  exact af _ G h _ H (.bl _) hr Kp.refl
 ·obtain ⟨d,e,b,h1,h2,h3,h4,h5,h6⟩ := h
  exact .inr ⟨d,e,b,h1.dv hr rx,h2.dv hr ry,h3,h4,h5,af _ G h6 _ H (.bl _) hr Kp.refl⟩
theorem op_eqA {X : Cx} (hu : X.A.units + 64 < cLine) : OpR X (compareOp .Eq) (fun x y H Q => rEq x y H Q ∨ rEqD X.K false x y H Q) := op_eq.or (op_eqD hu)
theorem op_neA {X : Cx} (hu : X.A.units + 64 < cLine) : OpR X (compareOp .NotEq) (fun x y H Q => rNe x y H Q ∨ rEqD X.K true x y H Q) := op_ne.or (op_neD hu)
end L3
namespace L3
open PySem PySem.Spec PyProof.Rows L2
section
variable {X : Cx} {pins : List (Addr × Obj)} {σ : L2.St} {H : Hp} {s : Shared}
mutual
theorem DV.reads (I : Inv X pins σ H s) : ∀ {v : V} {d : PyData} {x : Value},DV X.K H v d → RelV v x → ∃ as,Reads s.heap x d as
 | _,_,x,.non,r => by cases (show x = Value.none from r);exact ⟨_,.none⟩
 | _,_,x,.bl b,r => by cases (show x = Value.bool b from r);exact ⟨_,.bool b⟩
 | _,_,x,.int i,r => by obtain ⟨t,rfl⟩ := (show ∃ t,x = Value.int i t from r);exact ⟨_,.int i t⟩
 | _,_,x,.str y,r => by obtain ⟨t,rfl⟩ := (show ∃ t,x = Value.str y t from r);exact ⟨_,.str y t⟩
 | _,_,x,.tup (a := a) h hs,r => by
  cases (show x = Value.ref a from r)
  obtain ⟨its,rv,⟨o,h1,h2,n,h3⟩,_⟩ := I.tuple h
  obtain ⟨as,ra⟩ := DVs.reads I hs rv
  exact ⟨as,.tuple h1 h2 h3 (by simpa using ra)⟩
 | _,_,x,.lst (a := a) h hs,r => by
  cases (show x = Value.ref a from r)
  obtain ⟨its,rv,p,_⟩ := I.list h
  obtain ⟨o,h1,h2,n,h3⟩ := p.isList
  obtain ⟨as,ra⟩ := DVs.reads I hs rv
  exact ⟨a :: as,.list h1 h2 h3 (by simpa using ra)⟩
theorem DVs.reads (I : Inv X pins σ H s) : ∀ {v : List V} {d : List PyData} {x : List Value},DVs X.K H v d → Vals v x → ∃ as,ReadsAll s.heap x d as
 | _,_,_,.nil,.nil => ⟨_,.nil⟩
 | _,_,_,.cons a b,.cons c d => by
  obtain ⟨as,r1⟩ := DV.reads I a c
  obtain ⟨bs,r2⟩ := DVs.reads I b d
  exact ⟨_,.cons r1 r2⟩
end
structure ShOk (d : PyData) : Prop where
 sh : d.showable = true
 nd : d.hasDict = false
 dp : d.depth ≤ 40
 lv : d.leavesShort 13 = true
 bk : d.bulk ≤ 2 ^ 20
theorem call_strD (hg : X.A.guards = some []) (hu : X.A.units + 64 < cLine) : CallR X (.type "str") (fun xs H Q => ∃ a d,xs = [.ref a]∧DV X.K H (.ref a) d∧ShOk d∧Q (.str d.shown) H) := by
 intro pins s σ H xs us Q I r h
 obtain ⟨a,d,rfl,dv,ok,q⟩ := h
 obtain ⟨u,rfl,rp⟩ := vals1 r
 cases (show u = Value.ref a from rp)
 obtain ⟨as,rd⟩ := dv.reads I (show RelV (.ref a) (.ref a) from rfl)
 refine str_of_reads rd ok.sh (PyData.noDict_hsm ok.nd) hg (by have := ok.dp;omega) (fun _ _ e => e) (fun h' u tk hk => ?_) (PyData.shown_fits_bulk (by decide) (by decide) ok.lv ok.bk)
 exact ⟨.str _,H,I.kept (h' := h') (t' := tk) hk,⟨_,rfl⟩,q⟩
end
noncomputable def isSeqT : T → Bool
 | .tup _ => true
 | .ref _ => true
 | _ => false
noncomputable def repr3 : List T → Gp → Q3 → Prop := fun xs G q => match xs with
 | [x] => isSeqT x = true∧∃ d,Dp G x d∧ShOk d∧q (.str d.shown) G
 | _ => False
theorem ref_repr {K : PySem.W.Frag} : RefC K repr3 (fun xs H Q => ∃ a d,xs = [.ref a]∧DV K H (.ref a) d∧ShOk d∧Q (.str d.shown) H) := fun xs vs G H q Q hr rs h af => by
 unfold repr3 at h
 split at h
 ·rename_i x
  obtain ⟨h0,d,h1,h2,h3⟩ := h
  obtain ⟨v,rfl,r⟩ := rps1 rs
  have dv := h1.dv hr r
  cases r with
  | tup hs r2 => exact ⟨_,d,rfl,dv,h2,af _ G h3 _ H (.str _) hr Kp.refl⟩
  | ref a => exact ⟨_,d,rfl,dv,h2,af _ G h3 _ H (.str _) hr Kp.refl⟩
  | _ => cases h0
 ·exact h.elim
end L3
namespace L3
open PySem PySem.Spec PyProof.Rows L2
section
variable {X : Cx}
noncomputable def rev3 : T → List T → Gp → Q3 → Prop := fun x xs G q => match x,xs with
 | .ref l,[] => (match G l with | some (.lst ys) => q .non (gu G l (.lst ys.reverse)) | _ => False)
 | _,_ => False
theorem rps_rev {K : PySem.W.Frag} {H : Hp} : ∀ {ys : List T} {vs : List V} (h : Rps K H ys vs),Rps K H ys.reverse vs.reverse
 | _,_,.nil => .nil
 | _,_,.cons r t => by rw [List.reverse_cons,List.reverse_cons];exact (rps_rev t).append (.cons r .nil)
theorem ref_rev {K : PySem.W.Frag} : RefM K rev3 rReverse := fun x xs v vs G H q Q hr rx rs h af => by
 unfold rev3 at h
 split at h
 ·rename_i l
  split at h
  ·rename_i ys e1
   cases rx
   cases rs
   obtain ⟨vs,g1,r1⟩ := hr.lst e1
   exact ⟨l,vs,rfl,rfl,g1,af _ _ h _ _ .non (hr.wr e1 (rps_rev r1)) (Kp.wr e1)⟩
  ·exact h.elim
 ·exact h.elim
noncomputable def bm03 (r : T → List T → Gp → Q3 → Prop) (to : TE3) : TE3 := fun τ G q => to τ G fun x G1 => (match x with | .ref p => (getL G1 p).isSome = true | _ => False)∧r x [] G1 q
theorem je_bm0 {o : Expr} {to : TE3} {name : Str} {apos cpos : Pos} {id : String} {r3 : T → List T → Gp → Q3 → Prop} {r : V → List V → Hp → VK → Prop} (slot : Slot "list" name id) (hty : typeOf (.builtin id) = pure (.type "method_descriptor")) (hm : MtR X id r) (hr : RefM X.K r3 r) (ho : jE3 X o to)
  (hbase : attributeBase o name X.env (eval o X.env) = eval o X.env := by rfl) (hline : (apos.endLine == cpos.line) = true := by rfl) :
  jE3 X (.Call (.Attribute o name apos) [] [] cpos) (bm03 r3 to) :=
 ⟨pe_w (pe_bm0 PySem.F.plainAttrs_list slot hty hm ho.h hbase hline) fun _ _ _ ⟨τ,G,q,rl,h,af⟩ => lE_seq rl h fun x G1 h1 v H1 rx hr1 k1 rl1 => by
  obtain ⟨hp,h1⟩ := h1
  cases x <;> try exact hp.elim
  case ref p =>
   cases rx
   have hp' : (getL G1 p).isSome = true := hp
   obtain ⟨ys,e⟩ := Option.isSome_iff_exists.mp hp'
   obtain ⟨us,hs,r2⟩ := getL_sq hr1 e
   exact ⟨.inl ⟨rfl,us,hs⟩,hr _ [] _ [] G1 H1 q _ hr1 (.ref p) .nil h1 (af.back k1)⟩⟩
theorem je_reverse {o : Expr} {to : TE3} {apos cpos : Pos} (ho : jE3 X o to) (hbase : attributeBase o "reverse" X.env (eval o X.env) = eval o X.env := by rfl) (hline : (apos.endLine == cpos.line) = true := by rfl) :
  jE3 X (.Call (.Attribute o "reverse" apos) [] [] cpos) (bm03 rev3 to) := je_bm0 PySem.F.slot_list_reverse PySem.F.type_list_reverse mt_reverse ref_rev ho hbase hline
end
end L3
namespace L3
open PySem PySem.Spec PyProof.Rows L2
section
variable {prog : Program} {w : World} {A : Around} {R : Result → Shared → Prop} {s : Shared}
theorem compTurn_two0 (elt t1 i1 t2 i2 : Expr) (f1 f2 : List Expr) (scope : Scope) (pos : Pos) (it acc : Value) (env : Env) :
  compTurn (.ListComp elt [⟨t1,i1,f1,0⟩,⟨t2,i2,f2,0⟩] scope pos) 0 it acc env = (do
   standAt i1.pos
   match ← pyNext it with
   | none => pure (.done .next)
   | some v =>
    letOwnedTupleGo t1 it v
    assign t1 env v
    let mut ok := true
    for c in f1 do
     if ok then ok ← isTrue c env (eval c env)
    if ok then
     let x ← eval i2 env
     standAt i2.pos
     let x ← foldedSetIterable i2 env x
     let _ ← runOwn (.compStart (.ListComp elt [⟨t1,i1,f1,0⟩,⟨t2,i2,f2,0⟩] scope pos) 1 (← holding [x] (pyIter x)) acc env) env
    again (.compLoop (.ListComp elt [⟨t1,i1,f1,0⟩,⟨t2,i2,f2,0⟩] scope pos) 0 it acc env)) := by rfl
theorem compTurn_two1 (elt t1 i1 t2 i2 : Expr) (f1 f2 : List Expr) (scope : Scope) (pos : Pos) (it acc : Value) (env : Env) :
  compTurn (.ListComp elt [⟨t1,i1,f1,0⟩,⟨t2,i2,f2,0⟩] scope pos) 1 it acc env = (do
   standAt i2.pos
   match ← pyNext it with
   | none => pure (.done .next)
   | some v =>
    letOwnedTupleGo t2 it v
    assign t2 env v
    let mut ok := true
    for c in f2 do
     if ok then ok ← isTrue c env (eval c env)
    if ok then
     (do let _ ← call (.builtin "list.append") [acc,← eval elt env])
    again (.compLoop (.ListComp elt [⟨t1,i1,f1,0⟩,⟨t2,i2,f2,0⟩] scope pos) 1 it acc env)) := by rfl
theorem codeAny_compStart_two1 {elt t1 i1 t2 i2 : Expr} {f1 f2 : List Expr} {scope : Scope} {pos : Pos} {it acc : Value} {env : Env}
  (h0 : codeAny (model prog w) A (.compLoop (.ListComp elt [⟨t1,i1,f1,0⟩,⟨t2,i2,f2,0⟩] scope pos) 1 it acc env) R s)
  (h : wpAny (model prog w) A (pyIter it) (fun it' s' => codeAny (model prog w) A (.compLoop (.ListComp elt [⟨t1,i1,f1,0⟩,⟨t2,i2,f2,0⟩] scope pos) 1 it' acc env) R s')
   (notedBy (model prog w) A env fun x s' => R (.error x) s') s) :
  codeAny (model prog w) A (.compStart (.ListComp elt [⟨t1,i1,f1,0⟩,⟨t2,i2,f2,0⟩] scope pos) 1 it acc env) R s := by
 refine codeAny_of_tree ?_
 show wpAny _ _ ((compStart (.ListComp elt [⟨t1,i1,f1,0⟩,⟨t2,i2,f2,0⟩] scope pos) 1 it acc env).onRaise (fun x => do noteFrame x env;standAt theWindowsPlace)) _ _ s
 refine wpAny_notedAt ?_
 unfold compStart
 show wpAny _ _ (ask >>= _) _ _ s
 refine wpAny_bind (wpAny_askSetting (wpAny_ite ?_))
 split
 ·first
   | exact wpAny_bind (wpAny_pure (wpAny_pure (And.intro rfl h0)))
   | exact wpAny_pure (And.intro rfl h0)
 ·first
   | exact wpAny_bind (wpAny_rule (wpAny_bind (wpAny_standAt (wpAny_bind (wpAny_mono h (fun it' s' h' => wpAny_pure (And.intro rfl h')) fun _ _ x => x)))))
   | (refine wpAny_bind (wpAny_rule ?_);show wpAny _ _ (standAt i2.pos >>= _) _ _ s;exact wpAny_bind (wpAny_standAt (wpAny_bind (wpAny_mono h (fun it' s' h' => wpAny_pure (And.intro rfl h')) fun _ _ x => x))))
end
def tIn (wi : TI) (g : TG) (tif : TT) (te : TE) (D : Addr) (N : L2.St → Hp → Prop) (σ : L2.St) (H : Hp) : Prop := wi σ H fun J H1 =>
 ∃ W : Nat → Nat → L2.St → Hp → Prop,(∃ n,W 0 n σ H1)∧∀ i n σ H,W i n σ H →
  (J.stop i H∧N σ H) ∨ (J.go i H∧∀ x H',J.yld i H x H' → g x σ H' fun σ2 H2 => tif σ2 H2 fun k H3 =>
   if k = true then te σ2 H3 fun y H4 => ∃ zs,H4 D = some (.lst zs)∧zs.length < sizeLine∧∃ n',n' < n∧W (i + 1) n' σ2 (upd H4 D (.lst (zs ++ [y])))
   else ∃ n',n' < n∧W (i + 1) n' σ2 H3)
section
variable {X : Cx}
theorem inner2 {elt t1 i1 t2 i2 : Expr} {f1 f2 : List Expr} {scope : Scope} {pos : Pos} {wi : TI} {g : TG} {tif : TT} {te : TE} {D : Addr} {N : L2.St → Hp → Prop} (hc : X.calm = true) (hx : ∀ v s,¬ X.xe v s) (hi : PI X t2 i2 wi) (hg : PG X t2 g) (hf : PF X f2 tif) (he : PE X elt te)
    (hs : ∀ x,foldedSetIterable i2 X.env x = pure x) {pins : List (Addr × Obj)} {s : Shared} {σ : L2.St} {H : Hp} {E : Value → Shared → Prop} {α : Type} {kk : Sem α} {Q : α → Shared → Prop} (I : Inv X pins σ H s) (h : tIn wi g tif te D N σ H) (hk : ∀ s' σ' H',Inv X pins σ' H' s' → N σ' H' → wpAny (model X.prog X.w) X.A kk Q E s') :
    wpAny (model X.prog X.w) X.A (do
            let x ← eval i2 X.env
            standAt i2.pos
            let x ← foldedSetIterable i2 X.env x
            let _ ← runOwn (.compStart (.ListComp elt [⟨t1,i1,f1,0⟩,⟨t2,i2,f2,0⟩] scope pos) 1 (← holding [x] (pyIter x)) (.ref D) X.env) X.env
            kk) Q E s := by
  refine wpAny_bind (wpAny_mono (hi pins s σ H _ I h) (fun v s1 h1 => ?_) fun _ _ z => (hx _ _ z).elim)
  refine wpAny_bind (wpAny_standAt (wpAny_bind (wpAny_of_eq (hs v) ?_)))
  refine wpAny_bind (wpAny_holding (wpAny_mono h1 (fun itv s2 h2 => ?_) fun _ _ z => (hx _ _ z).elim))
  obtain ⟨it,fp,tn,J,H2,rfl,I2,T,st2,f2',W,⟨n0,w0⟩,turn⟩ := h2
  have stat : ∀ {H' : Hp},(∀ b ∈ fp,H' b = none) → ∀ b ∈ fp,FpOk X pins H' b := fun hn b hb => ⟨hn b hb,(f2' b hb).2⟩
  refine wpAny_bind (wpAny_runOwn ?_)
  show codeAny (model X.prog X.w) X.A (.compStart (.ListComp elt [⟨t1,i1,f1,0⟩,⟨t2,i2,f2,0⟩] scope pos) 1 (.ref it) (.ref D) X.env) _ s2
  have loop : codeAny (model X.prog X.w) X.A (.compLoop (.ListComp elt [⟨t1,i1,f1,0⟩,⟨t2,i2,f2,0⟩] scope pos) 1 (.ref it) (.ref D) X.env) (fun r s' => match r with
      | .ok f => wpAny (model X.prog X.w) X.A kk Q E s'
      | .error e => cameBackBy (model X.prog X.w) X.A X.env E e s') s2 := by
    refine codeAny_loop rfl (fun n s' => ∃ i σ' H',Inv X pins σ' H' s'∧tn i s'.heap∧(∀ b ∈ fp,H' b = none)∧W i n σ' H') (fun n s' hI => ?_) n0 ⟨0,σ,H2,I2,st2,fun b hb => (f2' b hb).1,w0⟩
    show wpAny _ X.A ((compTurn (.ListComp elt [⟨t1,i1,f1,0⟩,⟨t2,i2,f2,0⟩] scope pos) 1 (.ref it) (.ref D) X.env).onRaise (fun x => do noteFrame x X.env;theTreesLotGoes x)) _ _ s'
    refine wpAny_noted ?_
    rw [compTurn_two1]
    refine wpAny_bind (wpAny_standAt (wpAny_bind ?_))
    obtain ⟨i,σ5,H5,I5,st5,fr5,w5⟩ := hI
    rcases turn i n σ5 H5 w5 with ⟨stop,q⟩ | ⟨go,step⟩
    · refine thn (T.done X rfl rfl rfl hc i pins s' σ5 H5 _ I5 (stat fr5) st5 stop) fun r s6 ⟨hr,I6⟩ => ?_
      subst hr
      exact wpAny_pure (hk _ σ5 H5 I6 q)
    · refine thn (T.item X rfl rfl rfl hc i pins s' σ5 H5 _ I5 (stat fr5) st5 go) fun r s6 ⟨u,hr,h6⟩ => ?_
      subst hr
      refine wpAny_bind (thn h6 fun _ s7 ⟨x,H7,I7,r7,y7,st7,fr7⟩ => ?_)
      have I7' := I7.pinned (stat fr7) (T.obj _ _ st7)
      have again : ∀ {σ8 : L2.St} {H8 : Hp} {s8 : Shared},Inv X (pins ++ pinsAt fp s7.heap) σ8 H8 s8 → (∃ n',n' < n∧W (i + 1) n' σ8 H8) →
          ∃ m',m' < n∧∃ i σ' H',Inv X pins σ' H' s8∧tn i s8.heap∧(∀ b ∈ fp,H' b = none)∧W i m' σ' H' := fun {σ8 H8 s8} I8 ⟨n',hn,w8⟩ => by
        refine ⟨n',hn,i + 1,σ8,H8,I8.unpinned,T.keep _ _ _ st7 fun b hb o e => (I8.pin (b,o) (List.mem_append_right _ (List.mem_append_right _ (mem_pinsAt hb e)))).1,fun b hb => ?_,w8⟩
        obtain ⟨o,e,d⟩ := T.obj _ _ st7 b hb
        exact (I8.pin (b,o) (List.mem_append_right _ (List.mem_append_right _ (mem_pinsAt hb e)))).2.1
      refine wpAny_bind (wpAny_mono (hg _ s7 σ5 H7 x u _ I7' r7 (step x H7 y7)) (fun _ s8 ⟨σ8,H8,I8,q8⟩ => ?_) fun _ _ z => (hx _ _ z).elim)
      refine wpAny_bind (wpAny_mono (hf _ s8 σ8 H8 _ I8 q8) (fun k s9 ⟨H9,I9,q9⟩ => ?_) fun _ _ z => (hx _ _ z).elim)
      cases k with
      | false =>
        rw [if_neg Bool.false_ne_true] at q9
        exact wpAny_pure ⟨rfl,again I9 q9⟩
      | true =>
        rw [if_pos rfl] at q9
        refine wpAny_bind (wpAny_bind (wpAny_mono (he _ s9 σ8 H9 _ I9 q9) (fun w s10 ⟨y,H10,I10,r10,q10⟩ => ?_) fun _ _ z => (hx _ _ z).elim))
        obtain ⟨zs,hz,hl,q10⟩ := q10
        refine wpAny_bind (wpAny_mono (mt_append (X := X) _ s10 σ8 H10 (.ref D) [y] (.ref D) [w] (fun _ H11 => H11 = upd H10 D (.lst (zs ++ [y]))) I10 rfl (.cons r10 .nil) ⟨D,zs,y,rfl,rfl,hz,hl,rfl⟩) (fun _ s11 ⟨_,H11,I11,_,e11⟩ => ?_) fun _ _ z => (hx _ _ z).elim)
        subst e11
        exact wpAny_pure (wpAny_pure ⟨rfl,again I11 q10⟩)
  exact codeAny_compStart_two1 loop (T.self X.A 0 _ _ _ st2 loop)
noncomputable def tLC2 (wi : TI) (g : TG) (tif : TT) (wi2 : TI) (g2 : TG) (tif2 : TT) (te : TE) (m : List (Option Nat)) : TE := fun σ H Q => wi σ H fun J H1 => ∀ D,H1 D = none →
 ∃ W : Nat → Nat → L2.St → Hp → Prop,(∃ n,W 0 n (cap m σ) (upd H1 D (.lst [])))∧∀ i n σ H,W i n σ H →
  (J.stop i H∧Q (.ref D) H) ∨ (J.go i H∧∀ x H',J.yld i H x H' → g x σ H' fun σ2 H2 => tif σ2 H2 fun k H3 =>
   if k = true then tIn wi2 g2 tif2 te D (fun σ4 H4 => ∃ n',n' < n∧W (i + 1) n' σ4 H4) σ2 H3
   else ∃ n',n' < n∧W (i + 1) n' σ2 H3)
theorem pe_lc2 {elt tg iter t2 i2 : Expr} {ifs f2 : List Expr} {scope : Scope} {pos : Pos} {N' : List Str} {m : List (Option Nat)} {wi : TI} {g : TG} {tif : TT} {wi2 : TI} {g2 : TG} {tif2 : TT} {te : TE} (hc : X.calm = true) (hi : PI X tg iter wi)
  (hg : ∀ s H fp,PG (cxComp X N' scope s H fp) tg g) (hf : ∀ s H fp,PF (cxComp X N' scope s H fp) ifs tif) (hi2 : ∀ s H fp,PI (cxComp X N' scope s H fp) t2 i2 wi2) (hg2 : ∀ s H fp,PG (cxComp X N' scope s H fp) t2 g2) (hf2 : ∀ s H fp,PF (cxComp X N' scope s H fp) f2 tif2) (he : ∀ s H fp,PE (cxComp X N' scope s H fp) elt te)
  (hsc : scOk X.env.scope scope = true) (hcap : capOk X.N N' scope m = true) (hs : ∀ x,foldedSetIterable iter X.env x = pure x := by intro _;rfl) (hs2 : ∀ s H fp x,foldedSetIterable i2 (cxComp X N' scope s H fp).env x = pure x := by intro _ _ _ _;rfl) :
  PE X (.ListComp elt [⟨tg,iter,ifs,0⟩,⟨t2,i2,f2,0⟩] scope pos) (tLC2 wi g tif wi2 g2 tif2 te m) := by
 intro pins s σ H Q I h
 have sc := scOk_facts hsc
 have hcl : ∀ y ∈ scope.names,y.2 = .free → ∃ c,X.env.cells.lookup y.1 = some c := fun y hy e => by
  rcases (sc.free y hy e).2 with z | z
  ·exact I.ok.has y.1 (.inl z)
  ·exact I.ok.has y.1 (.inr z)
 rw [eval_ListComp]
 refine wpAny_comprehension_free (use := none) (g := ⟨tg,iter,ifs,0⟩) (gs := [⟨t2,i2,f2,0⟩]) rfl hs (closureFor_eq hcl) sc.kind sc.loc ?_
 show wpAny _ _ (eval iter X.env) _ _ s
 refine thn (hi pins s σ H _ I h) fun v s1 h1 => thn h1 fun itv s2 h2 => ?_
 obtain ⟨it,fp,tn,J,H2,rfl,I2,T,st2,fF2,hW⟩ := h2
 refine wpAny_newObj_type ?_
 have hD : H2 s2.heap.objs.size = none := I2.fresh
 obtain ⟨W,⟨n0,w0⟩,turn⟩ := hW _ hD
 generalize hDe : s2.heap.objs.size = D at *
 have I3 : Inv X pins σ (upd H2 D (.lst [])) { s2 with heap := s2.heap.push { cls := .type "list",dict := none,data := .seq ([] : List Value).toArray } } := by
  subst hDe
  exact I2.laid (t' := s2.toks) (fun b u e => Heap.get?_push_of_some _ e) (Nat.le_refl _) ⟨Nat.zero_le _,[],0,.nil,Heap.get?_push_size _ rfl⟩
 have ob2 := T.obj 0 _ st2
 have ob3 : ∀ b ∈ fp,∃ o,(s2.heap.push { cls := .type "list",dict := none,data := .seq ([] : List Value).toArray }).get? b = some o := fun b hb => let ⟨o,e,_⟩ := ob2 b hb;⟨o,Heap.get?_push_of_some _ e⟩
 have f3 : ∀ b ∈ fp,FpOk X pins (upd H2 D (.lst [])) b := fun b hb => by
  obtain ⟨o,e,_⟩ := ob2 b hb
  have : b ≠ D := by rw [← hDe];exact Nat.ne_of_lt (Heap.lt_size e)
  exact ⟨by rw [upd_ne this];exact (fF2 b hb).1,(fF2 b hb).2⟩
 have k23 : ∀ b o,s2.heap.get? b = some o → (s2.heap.push { cls := .type "list",dict := none,data := .seq ([] : List Value).toArray }).get? b = some o := fun b o e => Heap.get?_push_of_some _ e
 generalize hH3 : upd H2 D (.lst []) = H3 at *
 generalize hs3 : ({ s2 with heap := s2.heap.push { cls := .type "list",dict := none,data := .seq ([] : List Value).toArray } } : Shared) = s3 at *
 have ob3 : ∀ b ∈ fp,∃ o,s3.heap.get? b = some o := by rw [← hs3];exact ob3
 have k23 : ∀ b o,s2.heap.get? b = some o → s3.heap.get? b = some o := by rw [← hs3];exact k23
 refine wpAny_newCompEnv fun h₁ hns hk hown => ?_
 have I4 : Inv (cxComp X N' scope s3 H3 fp) [] (cap m σ) H3 { s3 with heap := h₁ } := inv_comp hc I3 sc hcap f3 ob3 hns hk hown
 have tn4 : tn 0 h₁ := T.keep _ _ _ st2 fun b hb o e => hk b o (k23 b o e)
 have fr4 : ∀ b ∈ fp,H3 b = none := fun b hb => (f3 b hb).1
 have stat : ∀ {H' : Hp},(∀ b ∈ fp,H' b = none) → ∀ b ∈ fp,FpOk (cxComp X N' scope s3 H3 fp) [] H' b := fun hn b hb => by
  refine ⟨hn b hb,I4.ok.exf b hb |>.1,I4.ok.exfs b hb,.inl hb,fun x c e => (I4.ok.exf b hb).2 x c e,fun p hp => absurd (show p ∈ ([] : List (Addr × Obj)) from hp) (by simp)⟩
 show codeAny (model X.prog X.w) X.A (.compStart (.ListComp elt [⟨tg,iter,ifs,0⟩,⟨t2,i2,f2,0⟩] scope pos) 0 (.ref it) (.ref D) (cxComp X N' scope s3 H3 fp).env) (compPost (model X.prog X.w) X.A X.xe none (EP X pins σ Q) (.ref D) s3.heap.objs.size) { s3 with heap := h₁ }
 have loop : codeAny (model X.prog X.w) X.A (.compLoop (.ListComp elt [⟨tg,iter,ifs,0⟩,⟨t2,i2,f2,0⟩] scope pos) 0 (.ref it) (.ref D) (cxComp X N' scope s3 H3 fp).env) (compPost (model X.prog X.w) X.A X.xe none (EP X pins σ Q) (.ref D) s3.heap.objs.size) { s3 with heap := h₁ } := by
  refine codeAny_loop rfl (fun n s' => ∃ i σ' H',Inv (cxComp X N' scope s3 H3 fp) [] σ' H' s'∧tn i s'.heap∧(∀ b ∈ fp,H' b = none)∧W i n σ' H') (fun n s' hI => ?_) n0 ⟨0,cap m σ,H3,I4,tn4,fr4,w0⟩
  show wpAny _ X.A ((compTurn (.ListComp elt [⟨tg,iter,ifs,0⟩,⟨t2,i2,f2,0⟩] scope pos) 0 (.ref it) (.ref D) (cxComp X N' scope s3 H3 fp).env).onRaise (fun x => do noteFrame x (cxComp X N' scope s3 H3 fp).env;theTreesLotGoes x)) _ _ s'
  refine wpAny_noted ?_
  rw [compTurn_two0]
  refine wpAny_bind (wpAny_standAt (wpAny_bind ?_))
  obtain ⟨i,σ5,H5,I5,st5,fr5,w5⟩ := hI
  rcases turn i n σ5 H5 w5 with ⟨stop,q⟩ | ⟨go,step⟩
  ·refine thn (T.done (cxComp X N' scope s3 H3 fp) rfl rfl rfl rfl i [] s' σ5 H5 _ I5 (stat fr5) st5 stop) fun r s6 ⟨hr,I6⟩ => ?_
   subst hr
   refine wpAny_pure ?_
   obtain ⟨mm,hn6,_⟩ := I6.loc
   exact ⟨mm,hn6,fun h' sb => ⟨.ref D,H5,inv_uncomp I3 f3 I6 sb,rfl,q⟩⟩
  ·refine thn (T.item (cxComp X N' scope s3 H3 fp) rfl rfl rfl rfl i [] s' σ5 H5 _ I5 (stat fr5) st5 go) fun r s6 ⟨u,hr,h6⟩ => ?_
   subst hr
   refine wpAny_bind (thn h6 fun _ s7 ⟨x,H7,I7,r7,y7,st7,fr7⟩ => ?_)
   have I7' := I7.pinned (stat fr7) (T.obj _ _ st7)
   have again : ∀ {σ8 : L2.St} {H8 : Hp} {s8 : Shared},Inv (cxComp X N' scope s3 H3 fp) ([] ++ pinsAt fp s7.heap) σ8 H8 s8 → (∃ n',n' < n∧W (i + 1) n' σ8 H8) →
     ∃ m',m' < n∧∃ i σ' H',Inv (cxComp X N' scope s3 H3 fp) [] σ' H' s8∧tn i s8.heap∧(∀ b ∈ fp,H' b = none)∧W i m' σ' H' := fun {σ8 H8 s8} I8 ⟨n',hn,w8⟩ => by
    refine ⟨n',hn,i + 1,σ8,H8,I8.unpinned,T.keep _ _ _ st7 fun b hb o e => (I8.pin (b,o) (List.mem_append_right _ (List.mem_append_right _ (mem_pinsAt hb e)))).1,fun b hb => ?_,w8⟩
    obtain ⟨o,e,d⟩ := T.obj _ _ st7 b hb
    exact (I8.pin (b,o) (List.mem_append_right _ (List.mem_append_right _ (mem_pinsAt hb e)))).2.1
   refine wpAny_bind (wpAny_mono (hg s3 H3 fp _ s7 σ5 H7 x u _ I7' r7 (step x H7 y7)) (fun _ s8 ⟨σ8,H8,I8,q8⟩ => ?_) fun _ _ z => z.elim)
   refine wpAny_bind (wpAny_mono (hf s3 H3 fp _ s8 σ8 H8 _ I8 q8) (fun k s9 ⟨H9,I9,q9⟩ => ?_) fun _ _ z => z.elim)
   cases k with
   | false =>
    rw [if_neg Bool.false_ne_true] at q9
    exact wpAny_pure ⟨rfl,again I9 q9⟩
   | true =>
    rw [if_pos rfl] at q9
    refine inner2 (X := cxComp X N' scope s3 H3 fp) rfl (fun _ _ z => z) (hi2 s3 H3 fp) (hg2 s3 H3 fp) (hf2 s3 H3 fp) (he s3 H3 fp) (hs2 s3 H3 fp) I9 q9 fun s10 σ10 H10 I10 q10 => ?_
    exact wpAny_pure ⟨rfl,again I10 q10⟩
 exact codeAny_compStart_list loop (T.self X.A 0 _ _ _ tn4 loop)
end
end L3
namespace L3
open PySem PySem.Spec PyProof.Rows L2
noncomputable def inGo (D : Addr) (stay : Gp → Prop) (g : TG3) (tif : TT3) (te : TE3) (N : St3 → Gp → Prop) : List T → St3 → Gp → Prop
 | [],τ,G => stay G∧N τ G
 | x :: r,τ,G => stay G∧g x τ G fun τ2 G2 => tif τ2 G2 fun k G3 =>
  if k = true then te τ2 G3 fun y G4 => (match G4 D with | some (.lst ys) => ys.length < sizeLine∧inGo D stay g tif te N r τ2 (gu G4 D (.lst (ys ++ [y]))) | _ => False) else inGo D stay g tif te N r τ2 G3
noncomputable def lc2Go (D : Addr) (stay : Gp → Prop) (g : TG3) (tif : TT3) (wi2 : TI3) (g2 : TG3) (tif2 : TT3) (te : TE3) (q : Q3) : List T → St3 → Gp → Prop
 | [],_,G => stay G∧q (.ref D) G
 | x :: r,τ,G => stay G∧g x τ G fun τ2 G2 => tif τ2 G2 fun k G3 =>
  if k = true then wi2 τ2 G3 fun items2 stay2 G4 => inGo D stay2 g2 tif2 te (fun τ' G' => lc2Go D stay g tif wi2 g2 tif2 te q r τ' G') items2 τ2 G4 else lc2Go D stay g tif wi2 g2 tif2 te q r τ2 G3
noncomputable def lc23 (wi : TI3) (g : TG3) (tif : TT3) (wi2 : TI3) (g2 : TG3) (tif2 : TT3) (te : TE3) (m : List (Option Nat)) : TE3 := fun τ G q => wi τ G fun items stay G1 => ∀ D,G1 D = none → lc2Go D stay g tif wi2 g2 tif2 te q items (cap m τ) (gu G1 D (.lst []))
section
variable {K : PySem.W.Frag}
theorem in_lift {wi2 : TI3} {g2 : TG3} {tif2 : TT3} {te : TE3} {D : Addr} {N3 : St3 → Gp → Prop} {N : L2.St → Hp → Prop} {τ : St3} {G : Gp} {σ : L2.St} {H : Hp} {Gb : Gp} {Hb : Hp} (rl : Rel K τ G σ H) (kb : Kp Gb Hb G H) (h : wi2 τ G fun items stay G1 => inGo D stay g2 tif2 te N3 items τ G1)
  (hN : ∀ τ' G' σ' H',Rel K τ' G' σ' H' → Kp Gb Hb G' H' → N3 τ' G' → N σ' H') : tIn (lI K wi2) (lG K g2) (lT K tif2) (lE K te) D N σ H := by
 refine ⟨τ,G,_,rl,h,fun items stay G1 h1 J H1 hr1 k1 ok => ?_⟩
 refine ⟨fun i n σ' H' => n = items.length - i∧i ≤ items.length∧∃ τ' G',Rel K τ' G' σ' H'∧Kp G1 H1 G' H'∧inGo D stay g2 tif2 te N3 (items.drop i) τ' G',⟨_,rfl,Nat.zero_le _,τ,G1,rl.next hr1 k1,Kp.refl,by simpa using h1⟩,?_⟩
 rintro i n σ' H' ⟨rfl,hi,τ',G',rl',k',h'⟩
 by_cases hlt : i < items.length
 ·rw [List.drop_eq_getElem_cons hlt] at h'
  obtain ⟨hst,h'⟩ := h'
  obtain ⟨go,yld,_⟩ := ok G' H' rl'.hp k' hst
  have hx : items[i]? = some items[i] := List.getElem?_eq_getElem hlt
  refine .inr ⟨go i _ hx,fun v H2 y => ?_⟩
  obtain ⟨rv,hr2,k2⟩ := yld i _ v H2 hx y
  refine ⟨_,τ',G',_,rv,rl'.next hr2 k2,h',fun τ3 G3 h3 σ3 H3 rl3 k3 => ⟨τ3,G3,_,rl3,h3,fun k G4 h4 H4 hr4 k4 => ?_⟩⟩
  have kk := (k2.trans k3).trans k4
  cases k with
  | false =>
   rw [if_neg Bool.false_ne_true] at h4
   refine iteF ?_
   exact ⟨_,by omega,rfl,hlt,τ3,G4,rl3.next hr4 k4,k'.trans kk,h4⟩
  | true =>
   rw [if_pos rfl] at h4
   refine iteT ?_
   refine ⟨τ3,G4,_,rl3.next hr4 k4,h4,fun z G5 h5 w H5 rw5 hr5 k5 => ?_⟩
   split at h5
   ·rename_i ys e1
    obtain ⟨vs,g1,r1⟩ := hr5.lst e1
    exact ⟨vs,g1,by rw [← r1.length];exact h5.1,_,by omega,rfl,hlt,τ3,_,((rl3.next hr4 k4).next hr5 k5).next (hr5.wr e1 (r1.append (.cons rw5 .nil))) (Kp.wr e1),((k'.trans kk).trans k5).trans (Kp.wr e1),h5.2⟩
   ·exact h5.elim
 ·have e : i = items.length := by omega
  subst e
  rw [List.drop_length] at h'
  obtain ⟨_,_,stop⟩ := ok G' H' rl'.hp k' h'.1
  exact .inl ⟨stop,hN _ _ _ _ rl' ((kb.trans k1).trans k') h'.2⟩
end
section
variable {X : Cx}
theorem e_lc2 {elt tg iter t2 i2 : Expr} {ifs f2 : List Expr} {scope : Scope} {pos : Pos} (N' : List Str) (m : List (Option Nat)) {wi : TI3} {g : TG3} {tif : TT3} {wi2 : TI3} {g2 : TG3} {tif2 : TT3} {te : TE3} (hc : X.calm = true) (hi : I3 X tg iter wi)
  (hg : ∀ s H fp,G3 (cxComp X N' scope s H fp) tg g) (hf : ∀ s H fp,F3 (cxComp X N' scope s H fp) ifs tif) (hi2 : ∀ s H fp,I3 (cxComp X N' scope s H fp) t2 i2 wi2) (hg2 : ∀ s H fp,G3 (cxComp X N' scope s H fp) t2 g2) (hf2 : ∀ s H fp,F3 (cxComp X N' scope s H fp) f2 tif2) (he : ∀ s H fp,E3 (cxComp X N' scope s H fp) elt te)
  (hsc : scOk X.env.scope scope = true) (hcap : capOk X.N N' scope m = true) (hs : ∀ x,foldedSetIterable iter X.env x = pure x := by intro _;rfl) (hs2 : ∀ s H fp x,foldedSetIterable i2 (cxComp X N' scope s H fp).env x = pure x := by intro _ _ _ _;rfl) :
  E3 X (.ListComp elt [⟨tg,iter,ifs,0⟩,⟨t2,i2,f2,0⟩] scope pos) (lc23 wi g tif wi2 g2 tif2 te m) :=
 pe_w (pe_lc2 (g := lG X.K g) (tif := lT X.K tif) (wi2 := lI X.K wi2) (g2 := lG X.K g2) (tif2 := lT X.K tif2) (te := lE X.K te) hc hi hg hf hi2 hg2 hf2 he hsc hcap hs hs2) fun σ H Q ⟨τ,G,q,rl,h,af⟩ => by
  refine ⟨τ,G,_,rl,h,fun items stay G1 h1 J H1 hr1 k1 ok D hD => ?_⟩
  have gD : G1 D = none := hr1.free hD
  have h1 := h1 D gD
  have hr1' : HR X.K (gu G1 D (.lst [])) (upd H1 D (.lst [])) := HR.newL hr1 hD .nil
  have k1' : Kp G1 H1 (gu G1 D (.lst [])) (upd H1 D (.lst [])) := Kp.newL hD
  refine ⟨fun i n σ' H' => n = items.length - i∧i ≤ items.length∧∃ τ' G',Rel X.K τ' G' σ' H'∧Kp G1 H1 G' H'∧lc2Go D stay g tif wi2 g2 tif2 te q (items.drop i) τ' G',
   ⟨_,rfl,Nat.zero_le _,cap m τ,_,((rl.next hr1 k1).cap m).next hr1' k1',k1',by simpa using h1⟩,?_⟩
  rintro i n σ' H' ⟨rfl,hi,τ',G',rl',k',h'⟩
  by_cases hlt : i < items.length
  ·rw [List.drop_eq_getElem_cons hlt] at h'
   obtain ⟨hst,h'⟩ := h'
   obtain ⟨go,yld,_⟩ := ok G' H' rl'.hp k' hst
   have hx : items[i]? = some items[i] := List.getElem?_eq_getElem hlt
   refine .inr ⟨go i _ hx,fun v H2 y => ?_⟩
   obtain ⟨rv,hr2,k2⟩ := yld i _ v H2 hx y
   refine ⟨_,τ',G',_,rv,rl'.next hr2 k2,h',fun τ3 G3 h3 σ3 H3 rl3 k3 => ⟨τ3,G3,_,rl3,h3,fun k G4 h4 H4 hr4 k4 => ?_⟩⟩
   have kk := (k2.trans k3).trans k4
   cases k with
   | false =>
    rw [if_neg Bool.false_ne_true] at h4
    refine iteF ?_
    exact ⟨_,by omega,rfl,hlt,τ3,G4,rl3.next hr4 k4,k'.trans kk,h4⟩
   | true =>
    rw [if_pos rfl] at h4
    refine iteT ?_
    exact in_lift (rl3.next hr4 k4) (k'.trans kk) h4 fun τ5 G5 σ5 H5 rl5 k5 h5 => ⟨_,by omega,rfl,hlt,τ5,G5,rl5,k5,h5⟩
  ·have e : i = items.length := by omega
   subst e
   rw [List.drop_length] at h'
   obtain ⟨_,_,stop⟩ := ok G' H' rl'.hp k' h'.1
   exact .inl ⟨stop,af _ _ h'.2 _ H' (.ref D) rl'.hp (k1.trans k')⟩
theorem je_lc2 {elt tg iter t2 i2 : Expr} {ifs f2 : List Expr} {scope : Scope} {pos : Pos} (N' : List Str) (m : List (Option Nat)) {wi : TI3} {g : TG3} {tif : TT3} {wi2 : TI3} {g2 : TG3} {tif2 : TT3} {te : TE3} (hc : X.calm = true) (hi : jI3 X tg iter wi)
  (hg : ∀ s H fp,jG3 (cxComp X N' scope s H fp) tg g) (hf : ∀ s H fp,jF3 (cxComp X N' scope s H fp) ifs tif) (hi2 : ∀ s H fp,jI3 (cxComp X N' scope s H fp) t2 i2 wi2) (hg2 : ∀ s H fp,jG3 (cxComp X N' scope s H fp) t2 g2) (hf2 : ∀ s H fp,jF3 (cxComp X N' scope s H fp) f2 tif2) (he : ∀ s H fp,jE3 (cxComp X N' scope s H fp) elt te)
  (hsc : scOk X.env.scope scope = true) (hcap : capOk X.N N' scope m = true) (hs : ∀ x,foldedSetIterable iter X.env x = pure x := by intro _;rfl) (hs2 : ∀ s H fp x,foldedSetIterable i2 (cxComp X N' scope s H fp).env x = pure x := by intro _ _ _ _;rfl) :
  jE3 X (.ListComp elt [⟨tg,iter,ifs,0⟩,⟨t2,i2,f2,0⟩] scope pos) (lc23 wi g tif wi2 g2 tif2 te m) :=
 ⟨e_lc2 N' m hc hi.h (fun s H fp => (hg s H fp).h) (fun s H fp => (hf s H fp).h) (fun s H fp => (hi2 s H fp).h) (fun s H fp => (hg2 s H fp).h) (fun s H fp => (hf2 s H fp).h) (fun s H fp => (he s H fp).h) hsc hcap hs hs2⟩
end
end L3
namespace L3
open PySem PySem.Spec PyProof.Rows L2
section
variable {X : Cx}
end
end L3
namespace L3
open PySem PySem.Spec PyProof.Rows L2
section
variable {X : Cx} {tg a b c : Expr} {pos : Pos}
end
end L3
namespace L3
open PySem PySem.Spec PyProof.Rows L2
section
variable {X : Cx}
end
end L3
namespace L3
open PySem PySem.Spec PyProof.Rows L2
end L3
namespace L3
open PySem PySem.Spec PyProof.Rows L2
section
variable {X : Cx} {a b : Expr} {ta tb : TE3} {pos : Pos}
structure ShW (d : PyData) : Prop where
 sh : d.showable = true
 nd : d.hasDict = false
 dp : d.depth ≤ 40
 fit : d.shown.length ≤ sizeLine
theorem ShOk.w {d : PyData} (h : ShOk d) : ShW d := ⟨h.sh,h.nd,h.dp,PyData.shown_fits_bulk (by decide) (by decide) h.lv h.bk⟩
end
end L3
namespace L3
open PySem PySem.Spec PyProof.Rows L2
section
variable {X : Cx} {K : PySem.W.Frag} {w : World} {mg : Str → Option Value}
inductive Ents (K : PySem.W.Frag) (w : World) : List DictEntry → List (Str × T) → Prop
 | nil : Ents K w [] []
 | cons {x : Str} {tk : Tok} {u : Value} {v : V} {t : T} {es : List DictEntry} {tab : List (Str × T)} : RelV v u → (∀ H,Rp K H t v) → Ents K w es tab → Ents K w (⟨PyData.keyHash w.params x,.str x tk,u⟩ :: es) ((x,t) :: tab)
noncomputable def tabGet : List (Str × T) → Str → Option T
 | [],_ => none
 | (y,t) :: r,x => if y = x then some t else tabGet r x
structure Tb (K : PySem.W.Frag) (mg : Str → Option Value) (w : World) (x : Str) (tab : List (Str × T)) : Prop where
 at_ : ∃ (d : Addr) (es : Array DictEntry) (ep : Nat),mg x = some (.ref d)∧K.lookup d = some ⟨.type "dict",none,.dict es ep,#[]⟩∧(d == sysModules) = false∧Ents K w es.toList tab
theorem Ents.keys {P : Program} : ∀ {es : List DictEntry} {tab : List (Str × T)},Ents K w es tab → ∀ e ∈ es,∃ k,(PySem.strKind P w).is k e.key = true∧e.hash = (PySem.strKind P w).hash k
 | _,_,.nil,e,h => by cases h
 | _,_,.cons (x := x) a b t,e,h => by
  rcases List.mem_cons.mp h with rfl | h
  ·exact ⟨x,by show (x == x) = true;simp,rfl⟩
  ·exact Ents.keys t e h
theorem Ents.find : ∀ {es : List DictEntry} {tab : List (Str × T)} (x : Str),Ents K w es tab →
    (match tabGet tab x with
     | some t => ∃ (u : Value) (v : V),(es.find? fun e => Value.isStrOf x e.key).map (·.val) = some u∧RelV v u∧∀ H,Rp K H t v
     | none => (es.find? fun e => Value.isStrOf x e.key).map (·.val) = none)
  | _,_,x,.nil => by simp [tabGet]
  | _,_,x,.cons (x := y) (tk := tk) (u := u) (v := v) (t := t) (es := es) (tab := tab) a b r => by
    by_cases e : y = x
    · have : Value.isStrOf x (Value.str y tk) = true := by show (y == x) = true;simp [e]
      simp only [tabGet,e,if_true,List.find?_cons,this]
      subst e
      simp only [this]
      exact ⟨u,v,rfl,a,b⟩
    · have : Value.isStrOf x (Value.str y tk) = false := by show (y == x) = false;simp [e]
      have ih := Ents.find x r
      simp only [tabGet,e,if_false,List.find?_cons,this]
      exact ih
theorem Ents.map {P : Program} {h : Heap} {d : Addr} {es : Array DictEntry} {ep : Nat} {tab : List (Str × T)} (hd : h.get? d = some ⟨.type "dict",none,.dict es ep,#[]⟩) (en : Ents K w es.toList tab) :
  Heap.MapOf (PySem.strKind P w) h d (fun x => findBy Value.isStrOf es x) :=
 ⟨_,es,ep,hd,⟨rfl,rfl,rfl⟩,rfl,fun e he => en.keys e (by simpa using he),fun _ => rfl⟩
noncomputable def rTab (K : PySem.W.Frag) (d : Addr) (tab : List (Str × T)) : R2 := fun x y H Q => x = .ref d∧∃ s t,y = .str s∧tabGet tab s = some t∧∀ v,Rp K H t v → Q v H
theorem ix_tab {d : Addr} {es : Array DictEntry} {ep : Nat} {tab : List (Str × T)} (hk : X.K.lookup d = some ⟨.type "dict",none,.dict es ep,#[]⟩) (en : Ents X.K X.w es.toList tab) : IxR X (rTab X.K d tab) := by
 intro value slice pins s σ H x y v u Q I rx ry h hs
 obtain ⟨rfl,z,t,rfl,ht,q⟩ := h
 cases rx
 obtain ⟨tk,rfl⟩ := ry
 have hd := I.kIn _ _ hk
 have f := en.find z
 rw [ht] at f
 obtain ⟨u,v,hf,rv,rp⟩ := f
 have hf' : findBy Value.isStrOf es z = some u := by
  unfold findBy
  rw [← Array.find?_toList]
  exact hf
 refine subscriptTail_builtinR (x := u) ⟨_,hd,rfl⟩ PySem.F.slot_dict_getitem.lookup (wpAny_getItem_of (knd := PySem.strKind X.prog X.w) (Q := fun r s' => r = u∧EP X pins σ Q r s') (k := z) (by show (z == z) = true;simp) (en.map hd) hf' ⟨rfl,v,H,I.tok _,rv,q v (rp H)⟩) hs
noncomputable def tget3 (tab : List (Str × T)) (te : TE3) : TE3 := fun τ G q => te τ G fun x G1 => match x with | .str s => (match tabGet tab s with | some t => q t G1 | none => False) | _ => False
theorem je_tget {x : Str} {e : Expr} {te : TE3} {tab : List (Str × T)} {p1 pos : Pos} (tb : Tb X.K X.mg X.w x tab) (hg : Gl X x) (he : jE3 X e te) (hs : PlainIx e) (hd : (x == ("__debug__" : Str)) = false := by decide) : jE3 X (.Subscript (.Name x p1) e pos) (tget3 tab te) := by
 obtain ⟨d,es,ep,hm,hk,hn,en⟩ := tb.at_
 exact ⟨pe_w (pe_ix (ix_tab hk en) (pe_glob hg hm (v := .ref d) rfl hd) he.h hs) fun _ _ _ ⟨τ,G,q,rl,h,af⟩ => lE_seq rl h fun y G1 h1 v H1 rx hr1 k1 rl1 => by
  cases y <;> try exact h1.elim
  case str z =>
   cases rx
   unfold tget3 at h
   simp only at h1
   split at h1
   ·rename_i t ht
    exact ⟨rfl,z,t,rfl,ht,fun v rv => af.back k1 _ _ h1 _ _ rv hr1 Kp.refl⟩
   ·exact h1.elim⟩
theorem call_minL (hc : X.calm = true) : CallR X (.builtin "min") (fun xs H Q => ∃ (p : Addr) (ns : List Int),xs = [.ref p]∧SqL X.K H p (ns.map V.int)∧ns ≠ []∧∀ m ∈ ns,(∀ a ∈ ns,m ≤ a) → Q (.int m) H) := by
 intro pins s σ H xs us Q I r h
 obtain ⟨p,ns,rfl,hq,hne,q⟩ := h
 obtain ⟨u,rfl,rp⟩ := vals1 r
 cases (show u = Value.ref p from rp)
 obtain ⟨its,rv,pl,hz⟩ := I.list hq
 have hlen : its.length = ns.length := by have := rv.length;simp at this;omega
 have hpos : 0 < ns.length := List.length_pos_iff.mpr hne
 have hp : p < s.heap.objs.size := by obtain ⟨o,n,e,_⟩ := pl;exact Heap.lt_size e
 have vals : ∀ (i : Nat) (v : Value),its.toArray[i]? = some v → ∃ t,v = Value.int (ns.getD i 0) t := fun i v hv => by
  have hv' : its[i]? = some v := by simpa using hv
  obtain ⟨hi,_⟩ := List.getElem?_eq_some_iff.mp hv'
  have hi' : i < ns.length := by omega
  obtain ⟨u,hu,ru⟩ := rv.get (i := i) (show (ns.map V.int)[i]? = some (V.int (ns[i])) by simp [hi'])
  rw [hv'] at hu;cases hu
  obtain ⟨t,rfl⟩ := ru
  exact ⟨t,by show Value.int ns[i] t = Value.int (ns.getD i 0) t;rw [List.getD_eq_getElem?_getD,List.getElem?_eq_getElem hi'];rfl⟩
 refine call_min_walk (wpAny_pyIter_list pl.isList ⟨s.heap.objs.size,_,_,_,_,_,_,rfl,Walks.list (A := X.A.in1) (show X.A.in1.handled = none from I.ok.hd hc) s.heap.objs.size p (Nat.ne_of_lt hp) its.toArray,⟨⟨_,Heap.get?_push_size _ rfl,rfl,rfl⟩,?_⟩,fun b hb => ?_,by rw [List.size_toArray];omega,CmpOf.ints_lt (fun i => ns.getD i 0) vals,fun v h' tk hP hk => ?_⟩)
 ·obtain ⟨o,n,e,c,_,d⟩ := pl
  exact ⟨o,Heap.get?_push_of_some _ e,c,n,d⟩
 ·have lt1 : ∀ n c : Nat,c < n → c < n + 1 := fun n c h => by omega
  rw [show (({ s with heap := s.heap.push _ } : Shared).heap.objs.size) = s.heap.objs.size + 1 from Heap.size_push ..]
  simp only [List.mem_cons,List.not_mem_nil,or_false] at hb
  rcases hb with rfl | rfl
  ·exact Nat.lt_succ_self _
  ·exact lt1 _ _ hp
 ·obtain ⟨b1,b2⟩ := argBest_lt (fun i => ns.getD i 0) (its.toArray.size - 1)
  obtain ⟨t,rfl⟩ := vals _ _ hP
  rw [List.size_toArray] at b1 b2 ⊢
  have gd : ∀ j,j < ns.length → ns.getD j 0 ∈ ns := fun j hj => by rw [List.getD_eq_getElem?_getD,List.getElem?_eq_getElem hj];exact List.getElem_mem hj
  refine ⟨.int _,H,I.kept (h' := h') (t' := tk) fun b o e => hk b o (by simp;exact Nat.ne_of_lt (Heap.lt_size e)) (Heap.get?_push_of_some _ e),⟨_,rfl⟩,q _ (gd _ (by omega)) fun a ha => ?_⟩
  obtain ⟨j,hj,rfl⟩ := List.mem_iff_getElem.mp ha
  have := b2 j (by omega)
  have e : ns.getD j 0 = ns[j] := by rw [List.getD_eq_getElem?_getD,List.getElem?_eq_getElem hj];rfl
  rw [e] at this
  exact this
noncomputable def minL3 : List T → Gp → Q3 → Prop := fun xs G q => match xs with
 | [.ref p] => (match getL G p with | some ys => (match intsT ys with | some ns => ns ≠ []∧∀ m ∈ ns,(∀ a ∈ ns,m ≤ a) → q (.int m) G | none => False) | none => False)
 | _ => False
theorem ref_minL {K : PySem.W.Frag} : RefC K minL3 (fun xs H Q => ∃ (p : Addr) (ns : List Int),xs = [.ref p]∧SqL K H p (ns.map V.int)∧ns ≠ []∧∀ m ∈ ns,(∀ a ∈ ns,m ≤ a) → Q (.int m) H) := fun xs vs G H q Q hr rs h af => by
 unfold minL3 at h
 split at h
 ·rename_i p
  obtain ⟨v,rfl,r⟩ := rps1 rs
  cases r
  split at h
  ·rename_i ys e0
   split at h
   ·rename_i ns e1
    obtain ⟨us,hs,r2⟩ := getL_sq hr e0
    have := intsT_eq e1
    subst this
    have := rps_ints r2
    subst this
    exact ⟨p,ns,rfl,hs,h.1,fun m hm ha => af _ _ (h.2 m hm ha) _ _ (.int _) hr Kp.refl⟩
   ·exact h.elim
  ·exact h.elim
 ·exact h.elim
theorem call_maxL (hc : X.calm = true) : CallR X (.builtin "max") (fun xs H Q => ∃ (p : Addr) (ns : List Int),xs = [.ref p]∧SqL X.K H p (ns.map V.int)∧ns ≠ []∧∀ m ∈ ns,(∀ a ∈ ns,a ≤ m) → Q (.int m) H) := by
 intro pins s σ H xs us Q I r h
 obtain ⟨p,ns,rfl,hq,hne,q⟩ := h
 obtain ⟨u,rfl,rp⟩ := vals1 r
 cases (show u = Value.ref p from rp)
 obtain ⟨its,rv,pl,hz⟩ := I.list hq
 have hlen : its.length = ns.length := by have := rv.length;simp at this;omega
 have hpos : 0 < ns.length := List.length_pos_iff.mpr hne
 have hp : p < s.heap.objs.size := by obtain ⟨o,n,e,_⟩ := pl;exact Heap.lt_size e
 have vals : ∀ (i : Nat) (v : Value),its.toArray[i]? = some v → ∃ t,v = Value.int (ns.getD i 0) t := fun i v hv => by
  have hv' : its[i]? = some v := by simpa using hv
  obtain ⟨hi,_⟩ := List.getElem?_eq_some_iff.mp hv'
  have hi' : i < ns.length := by omega
  obtain ⟨u,hu,ru⟩ := rv.get (i := i) (show (ns.map V.int)[i]? = some (V.int (ns[i])) by simp [hi'])
  rw [hv'] at hu;cases hu
  obtain ⟨t,rfl⟩ := ru
  exact ⟨t,by show Value.int ns[i] t = Value.int (ns.getD i 0) t;rw [List.getD_eq_getElem?_getD,List.getElem?_eq_getElem hi'];rfl⟩
 refine call_max_walk (wpAny_pyIter_list pl.isList ⟨s.heap.objs.size,_,_,_,_,_,_,rfl,Walks.list (A := X.A.in1) (show X.A.in1.handled = none from I.ok.hd hc) s.heap.objs.size p (Nat.ne_of_lt hp) its.toArray,⟨⟨_,Heap.get?_push_size _ rfl,rfl,rfl⟩,?_⟩,fun b hb => ?_,by rw [List.size_toArray];omega,CmpOf.ints_gt (fun i => ns.getD i 0) vals,fun v h' tk hP hk => ?_⟩)
 ·obtain ⟨o,n,e,c,_,d⟩ := pl
  exact ⟨o,Heap.get?_push_of_some _ e,c,n,d⟩
 ·have lt1 : ∀ n c : Nat,c < n → c < n + 1 := fun n c h => by omega
  rw [show (({ s with heap := s.heap.push _ } : Shared).heap.objs.size) = s.heap.objs.size + 1 from Heap.size_push ..]
  simp only [List.mem_cons,List.not_mem_nil,or_false] at hb
  rcases hb with rfl | rfl
  ·exact Nat.lt_succ_self _
  ·exact lt1 _ _ hp
 ·obtain ⟨b1,b2⟩ := argBest_gt (fun i => ns.getD i 0) (its.toArray.size - 1)
  obtain ⟨t,rfl⟩ := vals _ _ hP
  rw [List.size_toArray] at b1 b2 ⊢
  have gd : ∀ j,j < ns.length → ns.getD j 0 ∈ ns := fun j hj => by rw [List.getD_eq_getElem?_getD,List.getElem?_eq_getElem hj];exact List.getElem_mem hj
  refine ⟨.int _,H,I.kept (h' := h') (t' := tk) fun b o e => hk b o (by simp;exact Nat.ne_of_lt (Heap.lt_size e)) (Heap.get?_push_of_some _ e),⟨_,rfl⟩,q _ (gd _ (by omega)) fun a ha => ?_⟩
  obtain ⟨j,hj,rfl⟩ := List.mem_iff_getElem.mp ha
  have := b2 j (by omega)
  have e : ns.getD j 0 = ns[j] := by rw [List.getD_eq_getElem?_getD,List.getElem?_eq_getElem hj];rfl
  rw [e] at this
  exact this
noncomputable def maxL3 : List T → Gp → Q3 → Prop := fun xs G q => match xs with
 | [.ref p] => (match getL G p with | some ys => (match intsT ys with | some ns => ns ≠ []∧∀ m ∈ ns,(∀ a ∈ ns,a ≤ m) → q (.int m) G | none => False) | none => False)
 | _ => False
theorem ref_maxL {K : PySem.W.Frag} : RefC K maxL3 (fun xs H Q => ∃ (p : Addr) (ns : List Int),xs = [.ref p]∧SqL K H p (ns.map V.int)∧ns ≠ []∧∀ m ∈ ns,(∀ a ∈ ns,a ≤ m) → Q (.int m) H) := fun xs vs G H q Q hr rs h af => by
 unfold maxL3 at h
 split at h
 ·rename_i p
  obtain ⟨v,rfl,r⟩ := rps1 rs
  cases r
  split at h
  ·rename_i ys e0
   split at h
   ·rename_i ns e1
    obtain ⟨us,hs,r2⟩ := getL_sq hr e0
    have := intsT_eq e1
    subst this
    have := rps_ints r2
    subst this
    exact ⟨p,ns,rfl,hs,h.1,fun m hm ha => af _ _ (h.2 m hm ha) _ _ (.int _) hr Kp.refl⟩
   ·exact h.elim
  ·exact h.elim
 ·exact h.elim
end
end L3
namespace L3
open PySem PySem.Spec PyProof.Rows L2
inductive Cv : List Str → List V → List (Value × Value) → Prop
 | nil : Cv [] [] []
 | cons {k : Str} {tk : Tok} {v : V} {u : Value} {ks : List Str} {xs : List V} {vs : List (Value × Value)} : RelV v u → Cv ks xs vs → Cv (k :: ks) (v :: xs) ((.str k tk,u) :: vs)
structure jD3 (X : Cx) (keys : List (Option Expr)) (values : List Expr) (ks : List Str) (t : TA3) : Prop where
 h : ∀ (pos : Pos) (pins : List (Addr × Obj)) (s : Shared) (σ : L2.St) (H : Hp) (Q : List V → Hp → Prop),Inv X pins σ H s → lA X.K t σ H Q →
  wpAny (model X.prog X.w) X.A (evalPairs (pairTrees keys values X.env pos)) (fun vs s' => ∃ xs H',Inv X pins σ H' s'∧Cv ks xs vs∧Q xs H') X.xe s
 len : keys.length = values.length
 all : (keys.all fun x => x.isSome) = true
section
variable {X : Cx}
theorem jd_nil : jD3 X [] [] [] nil3 :=
 ⟨fun pos pins s σ H Q I ⟨τ,G,q,rl,h,af⟩ => by
  show wpAny _ _ (evalPairs []) _ _ _
  exact wpAny_pure ⟨[],H,I,.nil,af _ _ h _ _ .nil rl.hp Kp.refl⟩,rfl,rfl⟩
theorem jd_cons {k : Str} {j : Nat} {kp : Pos} {v : Expr} {tv : TE3} {keys : List (Option Expr)} {values : List Expr} {ks : List Str} {t : TA3} (hv : jE3 X v tv) (r : jD3 X keys values ks t) :
  jD3 X (some (.Constant (.str k) j kp) :: keys) (v :: values) (k :: ks) (cons3 tv t) :=
 ⟨fun pos pins s σ H Q I ⟨τ,G,q,rl,h,af⟩ => by
  show wpAny _ _ (evalPairs ((eval (.Constant (.str k) j kp) X.env,do let x ← eval v X.env;standAt pos;pure x) :: pairTrees keys values X.env pos)) _ _ _
  refine evalPairs_cons (thn (pe_str (X := X) (x := k) (j := j) (pos := kp) pins s σ H (fun y H' => y = .str k∧H' = H) I ⟨rfl,rfl⟩) fun kv s1 ⟨y,H1,I1,ry,ey,eH⟩ => ?_)
  subst ey;subst eH
  obtain ⟨tk,rfl⟩ := ry
  refine wpAny_bind (thn (hv.h pins s1 σ H1 (fun x H2 => lA X.K t σ H2 fun xs H3 => Q (x :: xs) H3) I1 (lE_seq rl h fun x G1 h1 v H2 rx hr1 k1 rl1 => ⟨τ,G1,_,rl1,h1,fun xs G2 h2 vs H3 rs hr2 k2 => af _ _ h2 _ _ (.cons (rx.keep hr1 k2) rs) hr2 (k1.trans k2)⟩)) fun u s2 ⟨x,H2,I2,rx,q2⟩ => ?_)
  refine wpAny_bind (wpAny_standAt (wpAny_pure ?_))
  exact thn (r.h pos pins s2 σ H2 _ I2 q2) fun vs s3 ⟨xs,H3,I3,cv,q3⟩ => ⟨x :: xs,H3,I3,.cons rx cv,q3⟩,by simp [r.len],by simpa using r.all⟩
theorem Cv.carries {P : Program} {w : World} : ∀ {ks : List Str} {xs : List V} {vs : List (Value × Value)},Cv ks xs vs → Carries (PySem.strKind P w) vs (ks.zip (vs.map (·.2)))
 | _,_,_,.nil => True.intro
 | _,_,_,.cons (k := k) r t => ⟨by show (k == k) = true;simp,rfl,t.carries⟩
theorem Cv.len : ∀ {ks : List Str} {xs : List V} {vs : List (Value × Value)},Cv ks xs vs → ks.length = vs.length
 | _,_,_,.nil => rfl
 | _,_,_,.cons _ t => by simp [t.len]
noncomputable def vGet : List Str → List V → Str → Option V
 | k :: ks,v :: vs,x => if k = x then some v else vGet ks vs x
 | _,_,_ => none
theorem Cv.get : ∀ {ks : List Str} {xs : List V} {vs : List (Value × Value)} {x : Str} {v : V},Cv ks xs vs → vGet ks xs x = some v → ∃ u,valueAt (ks.zip (vs.map (·.2))) x = some u∧RelV v u
 | _,_,_,x,v,.nil,h => by simp [vGet] at h
 | _,_,_,x,v,.cons (k := k) (u := u) r t,h => by
  by_cases e : k = x
  ·simp [vGet,e] at h
   subst h
   exact ⟨u,by simp [valueAt,e],r⟩
  ·simp [vGet,e] at h
   obtain ⟨u',h1,h2⟩ := Cv.get t h
   exact ⟨u',by simpa [valueAt,e] using h1,h2⟩
noncomputable def tDsub (ks : List Str) (tv : TA) (te : TE) : TE := fun σ H Q => tv σ H fun xs H1 => te σ H1 fun y H2 => ∃ k v,y = .str k∧vGet ks xs k = some v∧Q v H2
theorem pe_dsub {keys : List (Option Expr)} {values : List Expr} {ks : List Str} {t : TA3} {e : Expr} {te : TE} {p1 pos : Pos} (hd : jD3 X keys values ks t) (he : PE X e te) (hs : PlainIx e) (nd : ks.Nodup) (ne : keys ≠ []) (h15 : keys.length ≤ 15) :
  PE X (.Subscript (.Dict keys values p1) e pos) (tDsub ks (lA X.K t) te) := by
 intro pins s σ H Q I hl
 refine Subscript_ ?_
 refine wpAny_Dict_walk (knd := PySem.strKind X.prog X.w) hd.all hd.len ne h15 ?_
 have hsz := I.sz
 have hlt := I.lt
 have I0 : Inv X pins σ H { s with heap := s.heap.push { cls := .type "dict",data := .dict #[] } } := I.kept (t' := s.toks) fun b o e => Heap.get?_push_of_some _ e
 have ok0 : H s.heap.objs.size = none∧s.heap.objs.size ≠ X.env.locals∧s.heap.objs.size ∉ X.fs := ⟨I.fresh,fun z => Nat.lt_irrefl _ (z ▸ hlt),I.nofs (Nat.le_refl _)⟩
 have hcell : ∀ x c,X.env.cells.lookup x = some c → c ≠ s.heap.objs.size := fun x c e z => by
  obtain ⟨v,o,ho,_⟩ := I.cell x c e
  have := Heap.lt_size ho
  rw [z] at this
  exact Nat.lt_irrefl _ this
 have hpin : ∀ p ∈ X.pn ++ pins,p.1 ≠ s.heap.objs.size := fun p hp z => by
  have := Heap.lt_size (I.pin p hp).1
  rw [z] at this
  exact Nat.lt_irrefl _ this
 have Ip : Inv X (pins ++ [(s.heap.objs.size,{ cls := .type "dict",data := .dict #[] })]) σ H { s with heap := s.heap.push { cls := .type "dict",data := .dict #[] } } := I0.pins_of fun p hp => by
  rcases List.mem_append.mp hp with z | z
  ·exact I0.pin p (List.mem_append_right _ z)
  ·simp only [List.mem_singleton] at z
   subst z
   exact ⟨Heap.get?_push_size _ rfl,ok0.1,ok0.2.1,ok0.2.2,fun v => by simp⟩
 refine thn (hd.h p1 _ _ σ H _ Ip hl) fun vs s1 ⟨xs,H1,I1,cv,q1⟩ => ?_
 have p1' := I1.pin (s.heap.objs.size,{ cls := .type "dict",data := .dict #[] }) (by simp)
 have hkeys : (List.map (fun x => x.fst) (ks.zip (vs.map (·.2)))) = ks := by
  have := cv.len
  rw [List.map_fst_zip (by simp;omega)]
 refine ⟨ks.zip (vs.map (·.2)),cv.carries,⟨_,#[],0,p1'.1,⟨rfl,rfl,rfl⟩,rfl,fun e he => by simp at he,by first | exact True.intro | constructor,by simp⟩,fun h' hd' hsame => ?_⟩
 rw [merged_nil_of_nodup _ (by rw [hkeys];exact nd)] at hd'
 have I1u : Inv X pins σ H1 s1 := I1.unpinned
 have I2 : Inv X pins σ H1 { heap := h',gens := s1.gens,drawn := s1.drawn,toks := s1.toks + vs.length,os := s1.os } :=
  I1u.turned (it := s.heap.objs.size) (fun b o hb e => by rw [hsame.2 b hb];exact e) p1'.2.1 ok0.2.1 (.inr hsz) hcell hpin
 obtain ⟨o,es,ep,ho,hx,hdata,hk,hp,hn⟩ := hd'
 have I3 : Inv X (pins ++ [(s.heap.objs.size,o)]) σ H1 { heap := h',gens := s1.gens,drawn := s1.drawn,toks := s1.toks + vs.length,os := s1.os } := I2.pins_of fun p hp => by
  rcases List.mem_append.mp hp with z | z
  ·exact I2.pin p (List.mem_append_right _ z)
  ·simp only [List.mem_singleton] at z
   subst z
   exact ⟨ho,p1'.2.1,ok0.2.1,ok0.2.2,fun v => by rw [hdata];simp⟩
 refine thn (he _ _ σ H1 _ I3 q1) fun u s2 ⟨y,H2,I4,ry,k,v,ey,hg,q2⟩ => ?_
 subst ey
 obtain ⟨tk,rfl⟩ := ry
 have po := I4.pin (s.heap.objs.size,o) (by simp)
 have dd : s2.heap.DictOf (PySem.strKind X.prog X.w) s.heap.objs.size (ks.zip (vs.map (·.2))) := ⟨o,es,ep,po.1,hx,hdata,hk,hp,hn⟩
 obtain ⟨u,hu,ru⟩ := cv.get hg
 exact subscriptTail_builtinR (x := u) ⟨_,po.1,hx.1⟩ PySem.F.slot_dict_getitem.lookup (wpAny_getItem_of (knd := PySem.strKind X.prog X.w) (Q := fun r s' => r = u∧EP X pins σ Q r s') (k := k) (by show (k == k) = true;simp) dd.mapOf hu ⟨rfl,v,H2,I4.unpinned.tok _,ru,q2⟩) (hs _ _)
noncomputable def dsub3 (ks : List Str) (t : TA3) (te : TE3) : TE3 := fun τ G q => t τ G fun xs G1 => te τ G1 fun y G2 => match y with | .str k => (match tabGet (ks.zip xs) k with | some x => q x G2 | none => False) | _ => False
theorem vGet_of {K : PySem.W.Frag} {H : Hp} : ∀ {ks : List Str} {xs : List T} {vs : List V} {k : Str} {x : T},Rps K H xs vs → tabGet (ks.zip xs) k = some x → ∃ v,vGet ks vs k = some v∧Rp K H x v
 | [],_,_,k,x,_,h => by simp [tabGet] at h
 | _ :: _,_,_,k,x,.nil,h => by simp [tabGet] at h
 | y :: ks,_,_,k,x,.cons (v := v) r t,h => by
  by_cases e : y = k
  ·simp [tabGet,e] at h
   subst h
   exact ⟨v,by simp [vGet,e],r⟩
  ·simp [tabGet,e] at h
   obtain ⟨v,h1,h2⟩ := vGet_of t h
   exact ⟨v,by simpa [vGet,e] using h1,h2⟩
theorem je_dsub {keys : List (Option Expr)} {values : List Expr} {ks : List Str} {t : TA3} {e : Expr} {te : TE3} {p1 pos : Pos} (hd : jD3 X keys values ks t) (he : jE3 X e te) (hs : PlainIx e := by intro _ _;rfl) (nd : ks.Nodup := by decide) (ne : keys ≠ [] := by simp) (h15 : keys.length ≤ 15 := by decide) :
  jE3 X (.Subscript (.Dict keys values p1) e pos) (dsub3 ks t te) :=
 ⟨pe_w (pe_dsub hd he.h hs nd ne h15) fun σ H Q ⟨τ,G,q,rl,h,af⟩ =>
  ⟨τ,G,_,rl,h,fun xs G1 h1 vs H1 rs hr1 k1 => lE_seq (rl.next hr1 k1) h1 fun y G2 h2 v H2 ry hr2 k2 rl2 => by
   cases y <;> try exact h2.elim
   case str k =>
    cases ry
    simp only at h2
    split at h2
    ·rename_i x hx
     obtain ⟨v,hv,rv⟩ := vGet_of (rs.keep hr1 k2) hx
     exact ⟨k,v,rfl,hv,af _ _ h2 _ _ rv hr2 (k1.trans k2)⟩
    ·exact h2.elim⟩⟩
end
theorem tup2_K {K : PySem.W.Frag} {p : Addr} {od : Option Addr} {n : Nat} {sl : Array (Option Value)} {i j : Int} {ti tj : Tok} (h : K.lookup p = some ⟨.type "tuple",od,.seq #[.int i ti,.int j tj] n,sl⟩) : ∀ H,Rp K H (.tup [.int i,.int j]) (.ref p) := fun H =>
 .tup (vs := [.int i,.int j]) (.inr ⟨_,_,_,h,rfl,rfl,by show 2 ≤ sizeLine;decide,.cons ⟨_,rfl⟩ (.cons ⟨_,rfl⟩ .nil)⟩) (.cons (.int _) (.cons (.int _) .nil))
noncomputable def stridesT : List (Str × T) := [("row",.tup [.int 0,.int 1]),("column",.tup [.int 1,.int 0]),("slant",.tup [.int 1,.int 1]),("back",.tup [.int 1,.int (-1)])]
end L3
namespace L3
open PySem PySem.Spec PyProof.Rows L2
open PySem.SeqAt
noncomputable def pyIn (dx : PyData) : List PyData → Option Bool
 | [] => some false
 | d :: ds => (match pyEq d dx,pyIn dx ds with | some b,some c => some (b || c) | _,_ => none)
theorem pyIn_all {dx : PyData} : ∀ {ds : List PyData} {b : Bool},pyIn dx ds = some b → ∃ bs : List Bool,bs.length = ds.length∧(∀ (j : Nat) d,ds[j]? = some d → ∃ c,bs[j]? = some c∧pyEq d dx = some c)∧b = bs.any id
 | [],b,h => by simp [pyIn] at h;subst h;exact ⟨[],rfl,fun j d hd => by simp at hd,rfl⟩
 | d :: ds,b,h => by
  unfold pyIn at h
  split at h
  ·rename_i b1 c1 e1 e2
   cases h
   obtain ⟨bs,hl,ha,hb⟩ := pyIn_all e2
   refine ⟨b1 :: bs,by simp [hl],fun j d' hd => ?_,by simp [hb]⟩
   cases j with
   | zero => simp at hd;subst hd;exact ⟨b1,rfl,e1⟩
   | succ j => simpa using ha j d' (by simpa using hd)
  ·cases h
section
variable {X : Cx} {pins : List (Addr × Obj)} {σ : L2.St} {H : Hp} {s : Shared}
theorem in_deep (I : Inv X pins σ H s) {x : V} {dx : PyData} {v : Value} {xs : List V} {ds : List PyData} {its : List Value} {b : Bool} (hu : X.A.units + 64 < cLine) (hx : DV X.K H x dx) (rx : RelV x v) (hs : DVs X.K H xs ds) (rs : Vals xs its) (hb : pyIn dx ds = some b) (hd : ∀ d ∈ ds,dpt d ≤ 40) :
  ∃ e : Value → Bool,(∀ y ∈ its,EqAt X.A.in1 s y v (e y))∧its.any e = b := by
 obtain ⟨bs,hl,ha,rfl⟩ := pyIn_all hb
 have un : X.A.in1.units + 40 < cLine := by
  have : X.A.in1.units ≤ X.A.units + 8 := by first | (show X.A.units + 1 ≤ _;omega) | (show X.A.units ≤ _;omega) | (simp [Around.in1];omega)
  omega
 have at_ : ∀ (j : Nat) y,its[j]? = some y → ∃ c,bs[j]? = some c∧EqAt X.A.in1 s y v c := fun j y hj => by
  obtain ⟨hj1,_⟩ := List.getElem?_eq_some_iff.mp hj
  have hxl : j < xs.length := by rw [rs.length];exact hj1
  obtain ⟨u,hu',ru⟩ := rs.get (List.getElem?_eq_getElem hxl)
  rw [hj] at hu';cases hu'
  obtain ⟨d,hd1,hd2⟩ := hs.get (List.getElem?_eq_getElem hxl)
  obtain ⟨c,hc1,hc2⟩ := ha j d hd1
  exact ⟨c,hc1,(eq_deep I 40 hd2 hx hc2 (hd d (List.mem_of_getElem? hd1)) un ru rx).2⟩
 classical
 refine ⟨fun y => decide (∃ j : Nat,its[j]? = some y∧bs[j]? = some true),fun y hy => ?_,?_⟩
 ·by_cases he : ∃ j : Nat,its[j]? = some y∧bs[j]? = some true
  ·obtain ⟨j,h1,h2⟩ := id he
   obtain ⟨c,hc,eq⟩ := at_ j y h1
   rw [h2] at hc;cases hc
   simpa [he] using eq
  ·obtain ⟨j,hj,e⟩ := List.mem_iff_getElem.mp hy
   have hj' : its[j]? = some y := by rw [List.getElem?_eq_getElem hj,e]
   obtain ⟨c,hc,eq⟩ := at_ j y hj'
   cases c with
   | true => exact absurd ⟨j,hj',hc⟩ he
   | false => simpa [he] using eq
 ·rw [Bool.eq_iff_iff,List.any_eq_true,List.any_eq_true]
  constructor
  ·rintro ⟨y,_,hy⟩
   obtain ⟨j,_,h2⟩ := of_decide_eq_true hy
   exact ⟨true,List.mem_of_getElem? h2,rfl⟩
  ·rintro ⟨c,hc,e⟩
   have : c = true := e
   subst this
   obtain ⟨j,hj,ej⟩ := List.mem_iff_getElem.mp hc
   have hl2 : its.length = bs.length := by rw [← rs.length,hs.length,hl]
   have hj2 : j < its.length := by omega
   exact ⟨its[j],List.getElem_mem hj2,decide_eq_true ⟨j,List.getElem?_eq_getElem hj2,by rw [List.getElem?_eq_getElem hj,ej]⟩⟩
noncomputable def rInD (K : PySem.W.Frag) (neg : Bool) : R2 := fun x y H Q => ∃ p xs dx ds b,y = .ref p∧(SqL K H p xs ∨ SqT K H p xs)∧DV K H x dx∧DVs K H xs ds∧pyIn dx ds = some b∧(∀ d ∈ ds,dpt d ≤ 40)∧Q (.bl (if neg then !b else b)) H
theorem op_notInD (hu : X.A.units + 64 < cLine) : OpR X (compareOp .NotIn) (rInD X.K true) := by
 intro pins s σ H x y v u Q I rx ry h
 obtain ⟨p,xs,dx,ds,b,rfl,hq,hx,hs,hb,hd,q⟩ := h
 cases ry
 rcases hq with hq | hq
 ·obtain ⟨its,r,pl,hz⟩ := I.list hq
  obtain ⟨e,he,ha⟩ := in_deep I hu hx rx hs r hb hd
  refine SeqAt.notIn_listAt e pl.isList (fun w hw => he w (by simpa using hw)) ⟨.bl _,H,I,rfl,?_⟩
  rw [show its.toArray.any e = its.any e by simp,ha]
  exact q
 ·obtain ⟨its,r,pl,hz⟩ := I.tuple hq
  obtain ⟨e,he,ha⟩ := in_deep I hu hx rx hs r hb hd
  refine SeqAt.notIn_tupleAt e pl (fun w hw => he w (by simpa using hw)) ⟨.bl _,H,I,rfl,?_⟩
  rw [show its.toArray.any e = its.any e by simp,ha]
  exact q
end
noncomputable def inA3 (neg : Bool) : R3 := fun x y G q => ∃ ys dx ds b,seqOf G y = some ys∧Dp G x dx∧Dps G ys ds∧pyIn dx ds = some b∧(∀ d ∈ ds,dpt d ≤ 40)∧q (.bl (if neg then !b else b)) G
theorem ref_inA {K : PySem.W.Frag} {neg : Bool} : Ref2 K (inA3 neg) (rInD K neg) := fun x y v u G H q Q hr rx ry h af => by
 obtain ⟨ys,dx,ds,b,h1,h2,h3,h4,h5,h6⟩ := h
 cases y with
 | tup zs =>
  simp [seqOf] at h1
  subst h1
  cases ry with
  | tup hs rs => exact ⟨_,_,dx,ds,b,rfl,.inr hs,h2.dv hr rx,h3.dv hr rs,h4,h5,af _ G h6 _ H (.bl _) hr Kp.refl⟩
 | ref p =>
  simp [seqOf] at h1
  cases ry
  obtain ⟨us,hs,rs⟩ := getL_sq hr h1
  exact ⟨_,_,dx,ds,b,rfl,.inl hs,h2.dv hr rx,h3.dv hr rs,h4,h5,af _ G h6 _ H (.bl _) hr Kp.refl⟩
 | _ => simp [seqOf] at h1
end L3
namespace HT
open PySem PySem.Spec PyProof.Rows L2
section
open PySem.SeqAt
open PySem.AutoSeq1 (wpAny_loadPart')
open PySem.MeetsSeq PySem.MeetsSeq2 PySem.MeetsSeq3
end
section
variable {prog : Program} {w : World} {A : Around} {E : Value → Shared → Prop} {s : Shared}
end
end HT
namespace L3
open PySem PySem.Spec PyProof.Rows L2
end L3
namespace L3
open PySem PySem.Spec PyProof.Rows L2
section
variable {X : Cx}
end
end L3
namespace L3
open PySem PySem.Spec PyProof.Rows L2
noncomputable def sp_none : Sp3 := fun _ _ _ => False
theorem fn3_none {P : Program} {w : World} {K : PySem.W.Frag} {mg : Str → Option Value} {base : Heap} {x qual : Str} {st : Stmt} {f : Addr} {fd : FuncData} {ps : List Str} (F : Fun K x qual st f fd) (bd : Binds K fd ps []) (hm : mg x = some (.ref f)) : Fn3 P w K mg base 0 x sp_none :=
 ⟨f,fd,ps,⟨fun vs H Q E ⟨_,_,_,_,_,h,_⟩ => h.elim,fun A outer s H args us vs Q E _ _ _ _ ⟨_,_,_,_,_,h,_⟩ => h.elim⟩,bd,F.kp,hm⟩
theorem ixT (xs : List T) (i : Int) (G : Gp) (q : Q3) : ix3 (.tup xs) (.int i) G q = (match L2.atI xs i with | some z => q z G | none => False) := rfl
theorem ixR (p : Addr) (i : Int) (G : Gp) (q : Q3) : ix3 (.ref p) (.int i) G q = (match getL G p with | some xs => (match L2.atI xs i with | some z => q z G | none => False) | none => False) := rfl
theorem atI_nat' {α : Type} {xs : List α} {i : Int} (h0 : 0 ≤ i) (h1 : i < (xs.length : Int)) : L2.atI xs i = xs[i.toNat]? := by
 unfold L2.atI ixN
 have e1 : i.toNat < xs.length := by omega
 simp [h0,e1,h1]
theorem ne_skew_bits : ¬ Str.ofString "skew" = Str.ofString "bits" := by decide
theorem ne_skew_table : ¬ Str.ofString "skew" = Str.ofString "table" := by decide
theorem ne_skew_joined : ¬ Str.ofString "skew" = Str.ofString "joined" := by decide
theorem ne_rests_bits : ¬ Str.ofString "rests" = Str.ofString "bits" := by decide
theorem ne_rests_table : ¬ Str.ofString "rests" = Str.ofString "table" := by decide
theorem ne_rests_joined : ¬ Str.ofString "rests" = Str.ofString "joined" := by decide
theorem ne_table_bits : ¬ Str.ofString "table" = Str.ofString "bits" := by decide
theorem ne_joined_bits : ¬ Str.ofString "joined" = Str.ofString "bits" := by decide
theorem ne_joined_table : ¬ Str.ofString "joined" = Str.ofString "table" := by decide
theorem ne_row_block : ¬ Str.ofString "row" = Str.ofString "block" := by decide
theorem ne_row_step : ¬ Str.ofString "row" = Str.ofString "step" := by decide
theorem ne_row_cells : ¬ Str.ofString "row" = Str.ofString "cells" := by decide
theorem ne_column_block : ¬ Str.ofString "column" = Str.ofString "block" := by decide
theorem ne_column_step : ¬ Str.ofString "column" = Str.ofString "step" := by decide
theorem ne_column_cells : ¬ Str.ofString "column" = Str.ofString "cells" := by decide
theorem ne_slant_block : ¬ Str.ofString "slant" = Str.ofString "block" := by decide
theorem ne_slant_step : ¬ Str.ofString "slant" = Str.ofString "step" := by decide
theorem ne_slant_cells : ¬ Str.ofString "slant" = Str.ofString "cells" := by decide
theorem ne_back_block : ¬ Str.ofString "back" = Str.ofString "block" := by decide
theorem ne_back_step : ¬ Str.ofString "back" = Str.ofString "step" := by decide
theorem ne_back_cells : ¬ Str.ofString "back" = Str.ofString "cells" := by decide
theorem ne_block_cells : ¬ Str.ofString "block" = Str.ofString "cells" := by decide
theorem ne_step_block : ¬ Str.ofString "step" = Str.ofString "block" := by decide
theorem ne_step_cells : ¬ Str.ofString "step" = Str.ofString "cells" := by decide
theorem cm {i j : Int} (h1 : -1000000 < j) (h2 : j < 1000000) : CMul i j := .inr ⟨by omega,by omega⟩
theorem lcGo_inv {stay : Gp → Prop} {g : TG3} {tif : TT3} {te : TE3} {q : Q3} (items : List T) (Pv : Nat → List T → St3 → Gp → Prop) {τ : St3} {G : Gp} (h0 : Pv 0 [] τ G) (hst : ∀ i ys τ G,i ≤ items.length → Pv i ys τ G → stay G)
  (hs : ∀ i x ys τ G (R : List T → St3 → Gp → Prop),items[i]? = some x → Pv i ys τ G → (∀ ys' τ' G',Pv (i + 1) ys' τ' G' → R ys' τ' G') →
   g x τ G fun τ2 G2 => tif τ2 G2 fun k G3 => if k = true then te τ2 G3 fun y G4 => ys.length < sizeLine∧R (ys ++ [y]) τ2 G4 else R ys τ2 G3)
  (hd : ∀ ys τ G,Pv items.length ys τ G → ∀ p,G p = none → q (.ref p) (gu G p (.lst ys))) : lcGo stay g tif te q items [] τ G := by
 have key : ∀ (r : List T) (i : Nat) ys τ G,items.drop i = r → i ≤ items.length → Pv i ys τ G → lcGo stay g tif te q r ys τ G := by
  intro r
  induction r with
  | nil =>
   intro i ys τ G e hi p
   have : i = items.length := by have := congrArg List.length e;simp at this;omega
   subst this
   exact ⟨hst _ ys τ G hi p,hd ys τ G p⟩
  | cons x r ih =>
   intro i ys τ G e hi p
   have hl : i < items.length := by
    apply Classical.byContradiction
    intro z
    rw [List.drop_eq_nil_of_le (by omega)] at e
    cases e
   have e' := List.drop_eq_getElem_cons hl
   rw [e] at e'
   injection e' with e1 e2
   exact ⟨hst i ys τ G hi p,hs i x ys τ G _ (by rw [List.getElem?_eq_getElem hl,e1]) p fun ys2 τ2 G2 p2 => ih (i + 1) ys2 τ2 G2 e2.symm hl p2⟩
 exact key items 0 [] τ G (by simp) (Nat.zero_le _) h0
theorem lcGo_map {stay : Gp → Prop} {g : TG3} {te : TE3} {q : Q3} {G : Gp} (f : T → T) (Ok : St3 → Prop) (hst : stay G) : ∀ (items ys : List T) (τ : St3),Ok τ →
  (∀ x ∈ items,∀ τ,Ok τ → ∀ R : St3 → T → Gp → Prop,(∀ τ',Ok τ' → R τ' (f x) G) → g x τ G fun τ2 G2 => te τ2 G2 fun y G4 => R τ2 y G4) →
  ys.length + items.length < sizeLine → (∀ p,G p = none → q (.ref p) (gu G p (.lst (ys ++ items.map f)))) → lcGo stay g tt3 te q items ys τ G
 | [],ys,τ,_,_,_,h => ⟨hst,by simpa using h⟩
 | x :: r,ys,τ,ok,step,len,h => by
  refine ⟨hst,?_⟩
  have e : (fun τ2 G2 => tt3 τ2 G2 fun k G3 => if k = true then te τ2 G3 fun y G4 => ys.length < sizeLine∧lcGo stay g tt3 te q r (ys ++ [y]) τ2 G4 else lcGo stay g tt3 te q r ys τ2 G3) = (fun τ2 G2 => te τ2 G2 fun y G4 => ys.length < sizeLine∧lcGo stay g tt3 te q r (ys ++ [y]) τ2 G4) := by
   funext τ2 G2;simp [tt3]
  rw [e]
  rw [List.length_cons] at len
  refine step x List.mem_cons_self τ ok _ fun τ' ok' => ⟨by omega,lcGo_map f Ok hst r (ys ++ [f x]) τ' ok' (fun z hz => step z (List.mem_cons_of_mem _ hz)) (by rw [List.length_append,List.length_singleton];omega) fun p hp => ?_⟩
  simpa using h p hp
theorem rng_get {lo : Int} {n i : Nat} {x : T} (h : (rngT lo n)[i]? = some x) : i < n∧x = T.int (lo + (i : Int)) := by
 unfold rngT at h
 rw [List.getElem?_map] at h
 cases e : (List.range n)[i]? with
 | none => rw [e] at h;cases h
 | some k =>
  rw [e] at h
  obtain ⟨hi,hk⟩ := List.getElem?_eq_some_iff.mp e
  simp at hi hk
  subst hk
  exact ⟨hi,by simpa using h.symm⟩
theorem rng_len (lo : Int) (n : Nat) : (rngT lo n).length = n := by simp [rngT]
end L3
namespace Bk
open PySem L2 L3
noncomputable def t_size_of (S_size_of : Sp3) : TS3 := (seq3 (asg3 (o3 ix3 (v3 0) (c3 (.int 0))) (gn3 1)) (seq3 (ifS3 (tb3 (o3 (eqA3 false) (v3 1) (c3 (.str "bits")))) (ret3 (tup3 (cons3 (o3 (iC CPow (fun i j => i * 2 ^ j.toNat)) (c3 (.int 1)) (o3 ix3 (v3 0) (c3 (.int 1)))) (cons3 (o3 (iC CPow (fun i j => i * 2 ^ j.toNat)) (c3 (.int 1)) (o3 ix3 (v3 0) (c3 (.int 2)))) (cons3 (o3 (iC CPow (fun i j => i * 2 ^ j.toNat)) (c3 (.int 1)) (cb3 len3 (cons3 (o3 ix3 (v3 0) (c3 (.int 3))) nil3))) nil3))))) next3) (seq3 (ifS3 (tb3 (o3 (eqA3 false) (v3 1) (c3 (.str "table")))) (ret3 (tup3 (cons3 (cb3 len3 (cons3 (o3 ix3 (v3 0) (c3 (.int 2))) nil3)) (cons3 (cb3 len3 (cons3 (o3 ix3 (o3 ix3 (v3 0) (c3 (.int 2))) (c3 (.int 0))) nil3)) (cons3 (o3 ix3 (v3 0) (c3 (.int 1))) nil3))))) next3) (seq3 (ifS3 (tb3 (o3 (eqA3 false) (v3 1) (c3 (.str "joined")))) (seq3 (asg3 (cb3 S_size_of (cons3 (o3 ix3 (v3 0) (c3 (.int 1))) nil3)) (gtup3 3 (gcons3 (gn3 2) (gcons3 (gn3 3) (gcons3 (gn3 4) gnil3))))) (seq3 (asg3 (cb3 S_size_of (cons3 (o3 ix3 (v3 0) (c3 (.int 2))) nil3)) (gtup3 3 (gcons3 (gn3 5) (gcons3 (gn3 6) (gcons3 (gn3 7) gnil3))))) (ret3 (tup3 (cons3 (o3 (iC CMul (· * ·)) (v3 2) (v3 5)) (cons3 (o3 (iC CMul (· * ·)) (v3 3) (v3 6)) (cons3 (o3 (iC CMul (· * ·)) (v3 4) (v3 7)) nil3))))))) next3) (ret3 (tup3 (cons3 (o3 ix3 (v3 0) (c3 (.int 1))) (cons3 (o3 ix3 (v3 0) (c3 (.int 2))) (cons3 (o3 ix3 (v3 0) (c3 (.int 3))) nil3)))))))))
noncomputable def t_law_mix : TS3 := (seq3 (asg3 (o3 (iC (fun _ j => 0 < j) (· % ·)) (o3 (iC CMul (· * ·)) (o3 cat3 (o3 cat3 (o3 (iC (fun _ j => 0 < j) (· % ·)) (v3 0) (c3 (.int 2147483629))) (o3 (iC CMul (· * ·)) (o3 (iC CMul (· * ·)) (v3 1) (v3 1)) (c3 (.int 7919)))) (c3 (.int 11))) (c3 (.int 48271))) (c3 (.int 2147483647))) (gn3 2)) (ret3 (o3 (iC (fun _ j => 0 < j) (· % ·)) (o3 (iC CMul (· * ·)) (v3 2) (v3 2)) (c3 (.int 1999999973)))))
noncomputable def t_law_left : TS3 := (seq3 (asg3 (if3 (tb3 (o3 (iB fun i j => decide (i < j)) (v3 1) (cb3 len3 (cons3 (v3 0) nil3)))) (o3 ix3 (v3 0) (v3 1)) (c3 (.int 0))) (gn3 2)) (seq3 (asg3 (if3 (tb3 (o3 (iB fun i j => decide (j ≤ i)) (cb3 abs3 (cons3 (v3 2) nil3)) (o3 (iC CPow (fun i j => i ^ j.toNat)) (c3 (.int 10)) (c3 (.int 18))))) (cb3 abs3 (cons3 (v3 2) nil3)) (c3 (.int 0))) (gn3 3)) (ret3 (lst3 (cons3 (v3 3) (cons3 (o3 cat3 (v3 2) (o3 (iC CMul (· * ·)) (c3 (.int 1000003)) (v3 1))) (cons3 (c3 (.int 0)) nil3)))))))
noncomputable def t_law_pick (S_law_mix : Sp3) : TS3 := (seq3 (asg3 (o3 cat3 (o3 ix3 (v3 0) (c3 (.int 2))) (c3 (.int 1))) (gsub3 (v3 0) (c3 (.int 2)))) (seq3 (ifS3 (tb3 (o3 (iB fun i j => decide (j < i)) (o3 ix3 (v3 0) (c3 (.int 0))) (c3 (.int 0)))) (seq3 (asg3 (o3 (iC (fun _ j => 0 < j) (· % ·)) (o3 ix3 (v3 0) (c3 (.int 0))) (v3 1)) (gn3 2)) (seq3 (asg3 (o3 (iC CDiv (· / ·)) (o3 ix3 (v3 0) (c3 (.int 0))) (v3 1)) (gsub3 (v3 0) (c3 (.int 0)))) (ret3 (v3 2)))) next3) (ret3 (o3 (iC (fun _ j => 0 < j) (· % ·)) (o3 (iC CDiv (· / ·)) (cb3 S_law_mix (cons3 (cb3 S_law_mix (cons3 (o3 ix3 (v3 0) (c3 (.int 1))) (cons3 (o3 ix3 (v3 0) (c3 (.int 2))) nil3))) (cons3 (o3 cat3 (o3 ix3 (v3 0) (c3 (.int 2))) (c3 (.int 64))) nil3))) (c3 (.int 64))) (v3 1)))))
noncomputable def t_law_sides (S_law_pick : Sp3) : TS3 := (seq3 (asg3 (o3 ix3 (lst3 (cons3 (c3 (.int 6)) (cons3 (c3 (.int 6)) (cons3 (c3 (.int 6)) (cons3 (c3 (.int 16)) nil3))))) (cb3 S_law_pick (cons3 (v3 0) (cons3 (c3 (.int 4)) nil3)))) (gn3 1)) (seq3 (par3 2 3 (cons3 (o3 cat3 (c3 (.int 1)) (cb3 S_law_pick (cons3 (v3 0) (cons3 (v3 1) nil3)))) (cons3 (o3 cat3 (c3 (.int 1)) (cb3 S_law_pick (cons3 (v3 0) (cons3 (v3 1) nil3)))) nil3))) (ret3 (o3 ix3 (lst3 (cons3 (tup3 (cons3 (v3 2) (cons3 (v3 3) nil3))) (cons3 (tup3 (cons3 (v3 2) (cons3 (v3 3) nil3))) (cons3 (tup3 (cons3 (v3 2) (cons3 (v3 3) nil3))) (cons3 (tup3 (cons3 (v3 2) (cons3 (v3 2) nil3))) nil3))))) (cb3 S_law_pick (cons3 (v3 0) (cons3 (c3 (.int 4)) nil3)))))))
noncomputable def t_law_gcd : TS3 := (seq3 (while3 (tb3 (o3 (iB fun i j => decide (j < i)) (v3 1) (c3 (.int 0)))) (par3 0 1 (cons3 (v3 1) (cons3 (o3 (iC (fun _ j => 0 < j) (· % ·)) (v3 0) (v3 1)) nil3)))) (ret3 (v3 0)))
noncomputable def t_law_skew (S_law_sides : Sp3) (S_law_pick : Sp3) : TS3 := (seq3 (asg3 (cb3 S_law_sides (cons3 (v3 0) nil3)) (gtup3 2 (gcons3 (gn3 1) (gcons3 (gn3 2) gnil3)))) (seq3 (asg3 (o3 cat3 (c3 (.int 1)) (cb3 S_law_pick (cons3 (v3 0) (cons3 (o3 ix3 (lst3 (cons3 (c3 (.int 8)) (cons3 (c3 (.int 8)) (cons3 (c3 (.int 17)) (cons3 (c3 (.int 32)) nil3))))) (cb3 S_law_pick (cons3 (v3 0) (cons3 (c3 (.int 4)) nil3)))) nil3)))) (gn3 3)) (seq3 (asg3 (o3 ix3 (lst3 (cons3 (v3 3) (cons3 (c3 (.int 10)) (cons3 (c3 (.int 100)) nil3)))) (cb3 S_law_pick (cons3 (v3 0) (cons3 (c3 (.int 3)) nil3)))) (gn3 4)) (ret3 (tup3 (cons3 (c3 (.str "skew")) (cons3 (v3 1) (cons3 (v3 2) (cons3 (v3 3) (cons3 (cb3 S_law_pick (cons3 (v3 0) (cons3 (v3 4) nil3))) (cons3 (cb3 S_law_pick (cons3 (v3 0) (cons3 (v3 4) nil3))) nil3)))))))))))
noncomputable def t_law_rests (S_law_sides : Sp3) (S_law_pick : Sp3) (S_law_gcd : Sp3) : TS3 := (seq3 (asg3 (cb3 S_law_sides (cons3 (v3 0) nil3)) (gtup3 2 (gcons3 (gn3 1) (gcons3 (gn3 2) gnil3)))) (seq3 (asg3 (o3 cat3 (c3 (.int 1)) (cb3 S_law_pick (cons3 (v3 0) (cons3 (o3 ix3 (lst3 (cons3 (c3 (.int 8)) (cons3 (c3 (.int 17)) (cons3 (c3 (.int 32)) nil3)))) (cb3 S_law_pick (cons3 (v3 0) (cons3 (c3 (.int 3)) nil3)))) nil3)))) (gn3 3)) (seq3 (asg3 (o3 cat3 (u3 neg3 (o3 (iC CDiv (· / ·)) (o3 (iC CMul (· * ·)) (u3 neg3 (v3 1)) (v3 2)) (v3 3))) (cb3 S_law_pick (cons3 (v3 0) (cons3 (c3 (.int 4)) nil3)))) (gn3 4)) (seq3 (for3 (irng3 (cons3 (c3 (.int 32)) nil3)) (gn3 5) (ifS3 (tb3 (o3 (iB fun i j => decide (j < i)) (cb3 S_law_gcd (cons3 (v3 3) (cons3 (v3 4) nil3))) (c3 (.int 1)))) (asg3 (o3 cat3 (v3 4) (c3 (.int 1))) (gn3 4)) next3)) (ret3 (tup3 (cons3 (c3 (.str "rests")) (cons3 (v3 1) (cons3 (v3 2) (cons3 (v3 3) (cons3 (v3 4) nil3)))))))))))
noncomputable def t_law_bits (S_law_pick : Sp3) : TS3 := (seq3 (par3 2 3 (cons3 (cb3 S_law_pick (cons3 (v3 0) (cons3 (o3 cat3 (v3 1) (c3 (.int 1))) nil3))) (cons3 (cb3 S_law_pick (cons3 (v3 0) (cons3 (o3 cat3 (v3 1) (c3 (.int 1))) nil3))) nil3))) (seq3 (asg3 (lc3 (irng3 (cons3 (cb3 S_law_pick (cons3 (v3 0) (cons3 (c3 (.int 6)) nil3))) nil3)) (gn3 0) tt3 (cb3 S_law_pick (cons3 (v3 1) (cons3 (c3 (.int 256)) nil3))) [none,some 0]) (gn3 4)) (seq3 (asg3 (o3 ix3 (lst3 (cons3 (c3 (.int 1)) (cons3 (c3 (.int 2)) (cons3 (c3 (.int 4)) (cons3 (c3 (.int 8)) (cons3 (c3 (.int 16)) (cons3 (c3 (.int 32)) (cons3 (c3 (.int 64)) (cons3 (c3 (.int 128)) (cons3 (c3 (.int 256)) nil3)))))))))) (o3 cat3 (v3 2) (v3 3))) (gn3 5)) (ret3 (tup3 (cons3 (c3 (.str "bits")) (cons3 (v3 2) (cons3 (v3 3) (cons3 (cb3 tuple3 (cons3 (lc3 (iseq3 (v3 4)) (gn3 0) tt3 (o3 (iC (fun _ j => 0 < j) (· % ·)) (v3 0) (v3 1)) [none,some 5]) nil3)) nil3)))))))))
noncomputable def t_law_table (S_law_sides : Sp3) (S_law_pick : Sp3) : TS3 := (seq3 (asg3 (cb3 S_law_sides (cons3 (v3 0) nil3)) (gtup3 2 (gcons3 (gn3 1) (gcons3 (gn3 2) gnil3)))) (seq3 (asg3 (o3 cat3 (c3 (.int 1)) (cb3 S_law_pick (cons3 (v3 0) (cons3 (o3 ix3 (lst3 (cons3 (c3 (.int 4)) (cons3 (c3 (.int 9)) (cons3 (c3 (.int 32)) nil3)))) (cb3 S_law_pick (cons3 (v3 0) (cons3 (c3 (.int 3)) nil3)))) nil3)))) (gn3 3)) (seq3 (asg3 (lc3 (irng3 (cons3 (v3 1) nil3)) (gn3 0) tt3 (cb3 tuple3 (cons3 (lc3 (irng3 (cons3 (v3 3) nil3)) (gn3 0) tt3 (cb3 S_law_pick (cons3 (v3 1) (cons3 (v3 2) nil3))) [none,some 1,some 2]) nil3)) [none,some 0,some 3,some 2]) (gn3 4)) (ret3 (tup3 (cons3 (c3 (.str "table")) (cons3 (v3 3) (cons3 (cb3 tuple3 (cons3 (v3 4) nil3)) nil3))))))))
noncomputable def t_law_small (S_law_pick : Sp3) (S_law_gcd : Sp3) : TS3 := (seq3 (asg3 (tup3 (cons3 (o3 cat3 (c3 (.int 1)) (cb3 S_law_pick (cons3 (v3 0) (cons3 (c3 (.int 4)) nil3)))) (cons3 (o3 cat3 (c3 (.int 1)) (cb3 S_law_pick (cons3 (v3 0) (cons3 (c3 (.int 4)) nil3)))) (cons3 (o3 cat3 (c3 (.int 1)) (cb3 S_law_pick (cons3 (v3 0) (cons3 (c3 (.int 5)) nil3)))) nil3)))) (gtup3 3 (gcons3 (gn3 1) (gcons3 (gn3 2) (gcons3 (gn3 3) gnil3))))) (seq3 (asg3 (cb3 S_law_pick (cons3 (v3 0) (cons3 (c3 (.int 4)) nil3))) (gn3 4)) (seq3 (ifS3 (tb3 (o3 (eqA3 false) (v3 4) (c3 (.int 0)))) (ret3 (tup3 (cons3 (c3 (.str "skew")) (cons3 (v3 1) (cons3 (v3 2) (cons3 (v3 3) (cons3 (cb3 S_law_pick (cons3 (v3 0) (cons3 (v3 3) nil3))) (cons3 (cb3 S_law_pick (cons3 (v3 0) (cons3 (c3 (.int 9)) nil3))) nil3)))))))) next3) (seq3 (ifS3 (tb3 (o3 (eqA3 false) (v3 4) (c3 (.int 1)))) (seq3 (par3 5 6 (cons3 (cb3 S_law_pick (cons3 (v3 0) (cons3 (c3 (.int 3)) nil3))) (cons3 (cb3 S_law_pick (cons3 (v3 0) (cons3 (c3 (.int 3)) nil3))) nil3))) (seq3 (asg3 (lc3 (irng3 (cons3 (cb3 S_law_pick (cons3 (v3 0) (cons3 (c3 (.int 3)) nil3))) nil3)) (gn3 0) tt3 (cb3 S_law_pick (cons3 (v3 1) (cons3 (c3 (.int 16)) nil3))) [none,some 0]) (gn3 7)) (seq3 (asg3 (o3 ix3 (lst3 (cons3 (c3 (.int 1)) (cons3 (c3 (.int 2)) (cons3 (c3 (.int 4)) (cons3 (c3 (.int 8)) (cons3 (c3 (.int 16)) nil3)))))) (o3 cat3 (v3 5) (v3 6))) (gn3 8)) (ret3 (tup3 (cons3 (c3 (.str "bits")) (cons3 (v3 5) (cons3 (v3 6) (cons3 (cb3 tuple3 (cons3 (lc3 (iseq3 (v3 7)) (gn3 0) tt3 (o3 (iC (fun _ j => 0 < j) (· % ·)) (v3 0) (v3 1)) [none,some 8]) nil3)) nil3))))))))) next3) (seq3 (ifS3 (tb3 (o3 (eqA3 false) (v3 4) (c3 (.int 2)))) (seq3 (asg3 (o3 cat3 (u3 neg3 (o3 (iC CDiv (· / ·)) (o3 (iC CMul (· * ·)) (u3 neg3 (v3 1)) (v3 2)) (v3 3))) (cb3 S_law_pick (cons3 (v3 0) (cons3 (c3 (.int 3)) nil3)))) (gn3 9)) (seq3 (for3 (irng3 (cons3 (c3 (.int 9)) nil3)) (gn3 10) (ifS3 (tb3 (o3 (iB fun i j => decide (j < i)) (cb3 S_law_gcd (cons3 (v3 3) (cons3 (v3 9) nil3))) (c3 (.int 1)))) (asg3 (o3 cat3 (v3 9) (c3 (.int 1))) (gn3 9)) next3)) (ret3 (tup3 (cons3 (c3 (.str "rests")) (cons3 (v3 1) (cons3 (v3 2) (cons3 (v3 3) (cons3 (v3 9) nil3))))))))) next3) (seq3 (asg3 (lc3 (irng3 (cons3 (v3 1) nil3)) (gn3 0) tt3 (cb3 tuple3 (cons3 (lc3 (irng3 (cons3 (v3 3) nil3)) (gn3 0) tt3 (cb3 S_law_pick (cons3 (v3 1) (cons3 (v3 2) nil3))) [none,some 1,some 2]) nil3)) [none,some 0,some 3,some 2]) (gn3 11)) (ret3 (tup3 (cons3 (c3 (.str "table")) (cons3 (v3 3) (cons3 (cb3 tuple3 (cons3 (v3 11) nil3)) nil3)))))))))))
noncomputable def t_law_dealing (S_law_pick : Sp3) (S_law_skew : Sp3) (S_law_rests : Sp3) (S_law_bits : Sp3) (S_law_table : Sp3) (S_law_small : Sp3) : TS3 := (seq3 (asg3 (cb3 S_law_pick (cons3 (v3 0) (cons3 (c3 (.int 8)) nil3))) (gn3 1)) (seq3 (ifS3 (tb3 (o3 (iB fun i j => decide (i < j)) (v3 1) (c3 (.int 2)))) (ret3 (cb3 S_law_skew (cons3 (v3 0) nil3))) next3) (seq3 (ifS3 (tb3 (o3 (eqA3 false) (v3 1) (c3 (.int 2)))) (ret3 (cb3 S_law_rests (cons3 (v3 0) nil3))) next3) (seq3 (ifS3 (tb3 (o3 (eqA3 false) (v3 1) (c3 (.int 3)))) (ret3 (cb3 S_law_bits (cons3 (v3 0) (cons3 (c3 (.int 4)) nil3)))) next3) (seq3 (ifS3 (tb3 (o3 (eqA3 false) (v3 1) (c3 (.int 4)))) (ret3 (cb3 S_law_table (cons3 (v3 0) nil3))) next3) (seq3 (ifS3 (tb3 (o3 (eqA3 false) (v3 1) (c3 (.int 5)))) (seq3 (asg3 (tup3 (cons3 (c3 (.str "joined")) (cons3 (tup3 (cons3 (c3 (.str "skew")) (cons3 (o3 cat3 (c3 (.int 1)) (cb3 S_law_pick (cons3 (v3 0) (cons3 (c3 (.int 2)) nil3)))) (cons3 (c3 (.int 1)) (cons3 (c3 (.int 2)) (cons3 (c3 (.int 1)) (cons3 (c3 (.int 1)) nil3))))))) (cons3 (tup3 (cons3 (c3 (.str "table")) (cons3 (c3 (.int 2)) (cons3 (tup3 (cons3 (tup3 (cons3 (c3 (.int 1)) (cons3 (c3 (.int 0)) nil3))) nil3)) nil3)))) nil3)))) (gn3 2)) (seq3 (asg3 (lst3 (cons3 (tup3 (cons3 (c3 (.str "joined")) (cons3 (v3 2) (cons3 (cb3 S_law_small (cons3 (v3 0) nil3)) nil3)))) (cons3 (tup3 (cons3 (c3 (.str "joined")) (cons3 (cb3 S_law_small (cons3 (v3 0) nil3)) (cons3 (v3 2) nil3)))) nil3))) (gn3 3)) (seq3 (drop3 (bm3 app3 (v3 3) (cons3 (tup3 (cons3 (c3 (.str "joined")) (cons3 (tup3 (cons3 (c3 (.str "skew")) (cons3 (c3 (.int 8)) (cons3 (c3 (.int 1)) (cons3 (c3 (.int 3)) (cons3 (c3 (.int 1)) (cons3 (c3 (.int 1)) nil3))))))) (cons3 (tup3 (cons3 (c3 (.str "rests")) (cons3 (c3 (.int 2)) (cons3 (c3 (.int 16)) (cons3 (c3 (.int 5)) (cons3 (c3 (.int 7)) nil3)))))) nil3)))) nil3))) (seq3 (drop3 (bm3 app3 (v3 3) (cons3 (tup3 (cons3 (c3 (.str "joined")) (cons3 (tup3 (cons3 (c3 (.str "rests")) (cons3 (c3 (.int 1)) (cons3 (c3 (.int 8)) (cons3 (c3 (.int 3)) (cons3 (c3 (.int 4)) nil3)))))) (cons3 (tup3 (cons3 (c3 (.str "skew")) (cons3 (c3 (.int 16)) (cons3 (c3 (.int 2)) (cons3 (c3 (.int 5)) (cons3 (c3 (.int 2)) (cons3 (c3 (.int 1)) nil3))))))) nil3)))) nil3))) (ret3 (o3 ix3 (v3 3) (cb3 S_law_pick (cons3 (v3 0) (cons3 (c3 (.int 4)) nil3))))))))) next3) (ret3 (tup3 (cons3 (c3 (.str "joined")) (cons3 (cb3 S_law_small (cons3 (v3 0) nil3)) (cons3 (cb3 S_law_small (cons3 (v3 0) nil3)) nil3)))))))))))
noncomputable def t_law_same (S_law_same : Sp3) : TS3 := (seq3 (ifS3 (tb3 (isi3 (fun t => subT t "list" || subT t "tuple") (v3 1))) (seq3 (ifS3 (or3 (tb3 (o3 (eqA3 true) (isi3 (fun t => subT t "list") (v3 0)) (isi3 (fun t => subT t "list") (v3 1)))) (tb3 (o3 (eqA3 true) (isi3 (fun t => subT t "tuple") (v3 0)) (isi3 (fun t => subT t "tuple") (v3 1))))) (ret3 (c3 (.bl false))) next3) (ret3 (andV3 (o3 (eqA3 false) (cb3 len3 (cons3 (v3 0) nil3)) (cb3 len3 (cons3 (v3 1) nil3))) (cb3 all3 (cons3 (lc3 (izip3 (cons3 (v3 0) (cons3 (v3 1) nil3))) (gtup3 2 (gcons3 (gn3 0) (gcons3 (gn3 1) gnil3))) tt3 (cb3 S_law_same (cons3 (v3 0) (cons3 (v3 1) nil3))) [none,none]) nil3))))) next3) (seq3 (ifS3 (or3 (tb3 (o3 (isN3 false) (v3 1) (c3 .non))) (tb3 (isi3 (fun t => subT t "str" || subT t "bool") (v3 1)))) (ret3 (andV3 (o3 (eqA3 false) (v3 0) (v3 1)) (andV3 (o3 (eqA3 false) (isi3 (fun t => subT t "bool") (v3 0)) (isi3 (fun t => subT t "bool") (v3 1))) (o3 (eqA3 false) (o3 (isN3 false) (v3 0) (c3 .non)) (o3 (isN3 false) (v3 1) (c3 .non)))))) next3) (ret3 (andV3 (isi3 (fun t => subT t "int") (v3 0)) (andV3 (notV3 (isi3 (fun t => subT t "bool") (v3 0))) (o3 (eqA3 false) (v3 0) (v3 1)))))))
end Bk
namespace Bk
open PySem L2 L3
inductive Dl where
 | skew (r c b x y : Int)
 | rests (r c b p : Int)
 | bits (h l : Nat) (ms : List Int)
 | table (b : Int) (cells : List (List Int))
 | joined (d e : Dl)
noncomputable def rowT (r : List Int) : T := .tup (r.map T.int)
noncomputable def Dl.t : Dl → T
 | .skew r c b x y => .tup [.str "skew",.int r,.int c,.int b,.int x,.int y]
 | .rests r c b p => .tup [.str "rests",.int r,.int c,.int b,.int p]
 | .bits h l ms => .tup [.str "bits",.int h,.int l,.tup (ms.map T.int)]
 | .table b cells => .tup [.str "table",.int b,.tup (cells.map rowT)]
 | .joined d e => .tup [.str "joined",d.t,e.t]
noncomputable def Dl.R : Dl → Int
 | .skew r _ _ _ _ => r
 | .rests r _ _ _ => r
 | .bits h _ _ => 2 ^ h
 | .table _ cells => cells.length
 | .joined d e => d.R * e.R
noncomputable def Dl.C : Dl → Int
 | .skew _ c _ _ _ => c
 | .rests _ c _ _ => c
 | .bits _ l _ => 2 ^ l
 | .table _ cells => ((cells[0]?).getD []).length
 | .joined d e => d.C * e.C
noncomputable def Dl.B : Dl → Int
 | .skew _ _ b _ _ => b
 | .rests _ _ b _ => b
 | .bits _ _ ms => 2 ^ ms.length
 | .table b _ => b
 | .joined d e => d.B * e.B
noncomputable def pop : Nat → Nat → Nat
 | 0,_ => 0
 | k + 1,n => n % 2 + pop k (n / 2)
noncomputable def oddC (n m : Int) : Bool := pop 64 (Builtin.bitAnd n m).toNat % 2 == 1
noncomputable def bitsFrom (n : Int) : Nat → List Int → Int
 | _,[] => 0
 | t,m :: ms => (if oddC n m then 2 ^ t else 0) + bitsFrom n (t + 1) ms
noncomputable def bitsBank (ms : List Int) (n : Int) : Int := bitsFrom n 0 ms
noncomputable def Dl.Ok : Dl → Prop
 | .skew r c b x y => 1 ≤ r∧r ≤ 60∧1 ≤ c∧c ≤ 60∧1 ≤ b∧b ≤ 1000∧0 ≤ x∧x ≤ 1000∧0 ≤ y∧y ≤ 1000
 | .rests r c b p => 1 ≤ r∧r ≤ 60∧1 ≤ c∧c ≤ 60∧1 ≤ b∧b ≤ 1000∧1 ≤ p∧p ≤ 100000∧Int.gcd b p = 1∧r * c ≤ b * p
 | .bits h l ms => h ≤ 4∧l ≤ 4∧ms.length ≤ 5∧∀ m ∈ ms,0 ≤ m∧m < 2 ^ (h + l)
 | .table b cells => 1 ≤ b∧b ≤ 1000∧1 ≤ cells.length∧cells.length ≤ 60∧∃ c,1 ≤ c∧c ≤ 60∧∀ row ∈ cells,row.length = c∧∀ x ∈ row,0 ≤ x∧x < b
 | .joined d e => d.Ok∧e.Ok∧d.R * e.R ≤ 4096∧d.C * e.C ≤ 4096∧d.B * e.B ≤ 4096
noncomputable def Dl.dep : Dl → Nat
 | .joined d e => max d.dep e.dep + 1
 | _ => 0
theorem p2 (n : Nat) : ((2 : Int) ^ n) = ((2 ^ n : Nat) : Int) := by simp
theorem p2_pos (n : Nat) : (1 : Int) ≤ 2 ^ n := by
 rw [p2];have := Nat.one_le_two_pow (n := n);omega
theorem p2_le {n k : Nat} (h : n ≤ k) : (2 : Int) ^ n ≤ 2 ^ k := by
 rw [p2,p2];have := Nat.pow_le_pow_right (n := 2) (by omega) h;omega
structure Lims (d : Dl) : Prop where
 r1 : 1 ≤ d.R
 r2 : d.R ≤ 4096
 c1 : 1 ≤ d.C
 c2 : d.C ≤ 4096
 b1 : 1 ≤ d.B
 b2 : d.B ≤ 4096
theorem one_le_mul {a b : Int} (h1 : 1 ≤ a) (h2 : 1 ≤ b) : 1 ≤ a * b := by
 have := Int.mul_le_mul (a := 1) (b := 1) (c := a) (d := b) h1 h2 (by omega) (by omega)
 omega
theorem Dl.lims : ∀ {d : Dl},d.Ok → Lims d
 | .skew r c b x y,⟨h1,h2,h3,h4,h5,h6,_⟩ => ⟨h1,by simp [Dl.R];omega,h3,by simp [Dl.C];omega,h5,by simp [Dl.B];omega⟩
 | .rests r c b x,⟨h1,h2,h3,h4,h5,h6,_⟩ => ⟨h1,by simp [Dl.R];omega,h3,by simp [Dl.C];omega,h5,by simp [Dl.B];omega⟩
 | .bits h l ms,⟨h1,h2,h3,_⟩ => by
  have e1 := p2_le h1;have e2 := p2_le h2;have e3 := p2_le h3
  refine ⟨p2_pos _,?_,p2_pos _,?_,p2_pos _,?_⟩ <;> simp [Dl.R,Dl.C,Dl.B] <;> omega
 | .table b cells,⟨h1,h2,h3,h4,c,h5,h6,h7⟩ => by
  have e0 : cells[0]? = some cells[0] := List.getElem?_eq_getElem (by omega)
  have e1 := (h7 cells[0] (List.getElem_mem _)).1
  have e2 : (Dl.table b cells).C = c := by simp [Dl.C,e0,e1]
  exact ⟨by simp [Dl.R];omega,by simp [Dl.R];omega,by rw [e2];omega,by rw [e2];omega,h1,by simp [Dl.B];omega⟩
 | .joined d e,⟨h1,h2,h3,h4,h5⟩ => by
  have a := Dl.lims h1;have b := Dl.lims h2
  exact ⟨one_le_mul a.r1 b.r1,h3,one_le_mul a.c1 b.c1,h4,one_le_mul a.b1 b.b1,h5⟩
noncomputable def sizeT (d : Dl) : T := .tup [.int d.R,.int d.C,.int d.B]
noncomputable abbrev ends (q : Q3) : Ends3 := { nx := fun _ G' => q .non G',rt := q }
theorem seq_i {A B : TS3} {d : Ends3} {τ : St3} {G : Gp} (h : ∀ nx,nx = B d → A { d with nx := nx } τ G) : seq3 A B d τ G := h _ rfl
end Bk
namespace Bk
open PySem L2 L3
theorem pop_zero : ∀ k,pop k 0 = 0
 | 0 => rfl
 | k + 1 => by simp [pop,pop_zero k]
theorem pop_more : ∀ (k n : Nat),n < 2 ^ k → pop (k + 1) n = pop k n
 | 0,n,h => by simp at h;subst h;simp [pop]
 | k + 1,n,h => by
  rw [pop,pop_more k (n / 2) (by rw [Nat.pow_succ] at h;omega)]
  rfl
noncomputable def chosen (n : Int) : Nat → List Int → List Int
 | _,[] => []
 | t,m :: ms => (if oddC n m then [2 ^ t] else []) ++ chosen n (t + 1) ms
theorem chosen_sum (n : Int) : ∀ (t : Nat) (ms : List Int),(chosen n t ms).sum = bitsFrom n t ms
 | _,[] => rfl
 | t,m :: ms => by
  simp only [chosen,bitsFrom,List.sum_append,chosen_sum n (t + 1) ms]
  split <;> simp
theorem chosen_len (n : Int) : ∀ (t : Nat) (ms : List Int),(chosen n t ms).length ≤ ms.length
 | _,[] => by simp [chosen]
 | t,m :: ms => by
  have := chosen_len n (t + 1) ms
  simp only [chosen,List.length_append,List.length_cons]
  split <;> simp <;> omega
theorem chosen_mem (n : Int) : ∀ (t : Nat) (ms : List Int) (x : Int),x ∈ chosen n t ms → ∃ k,k < t + ms.length∧x = 2 ^ k
 | _,[],_,h => by simp [chosen] at h
 | t,m :: ms,x,h => by
  simp only [chosen,List.mem_append] at h
  rcases h with h | h
  ·split at h
   ·simp at h;exact ⟨t,by simp,h⟩
   ·simp at h
  ·obtain ⟨k,h1,h2⟩ := chosen_mem n (t + 1) ms x h
   exact ⟨k,by simp;omega,h2⟩
end Bk
namespace Bk
open PySem L2 L3
def Lf (G : Gp) (a : Addr) (n : Int) : Prop := ∃ o c m,G a = some (.lst [.int o,.int c,.int m])∧0 ≤ o∧0 ≤ m∧m ≤ n
def Ext (a : Addr) (G G' : Gp) : Prop := ∀ b o,b ≠ a → G b = some o → G' b = some o
theorem Lf.ne {G : Gp} {a p : Addr} {n : Int} (h : Lf G a n) (hp : G p = none) : p ≠ a := by
 rintro rfl
 obtain ⟨o,c,m,e,_⟩ := h
 rw [hp] at e;cases e
theorem Lf.new {G : Gp} {a p : Addr} {n : Int} {ob : O} (h : Lf G a n) (hp : p ≠ a) : Lf (gu G p ob) a n := by
 obtain ⟨o,c,m,e,r⟩ := h
 exact ⟨o,c,m,by rw [gu_ne (Ne.symm hp)];exact e,r⟩
theorem Lf.mono {G : Gp} {a : Addr} {n k : Int} (h : Lf G a n) (hk : n ≤ k) : Lf G a k := by
 obtain ⟨o,c,m,e,h1,h2,h3⟩ := h
 exact ⟨o,c,m,e,h1,h2,by omega⟩
theorem Lf.ex {G G' : Gp} {a : Addr} {n : Int} (h : Lf G a n) (e : Ex G G') : Lf G' a n := by
 obtain ⟨o,c,m,e1,h1⟩ := h
 exact ⟨o,c,m,e _ _ e1,h1⟩
theorem Ext.refl {a : Addr} {G : Gp} : Ext a G G := fun _ _ _ e => e
theorem Ext.trans {a : Addr} {G G1 G2 : Gp} (x : Ext a G G1) (y : Ext a G1 G2) : Ext a G G2 := fun b o hb e => y b o hb (x b o hb e)
theorem ext_new {a p : Addr} {G : Gp} {ob : O} (hp : G p = none) : Ext a G (gu G p ob) := fun b o _ e => by
 rw [gu_ne (by rintro rfl;rw [hp] at e;cases e)];exact e
theorem ex_ext {a : Addr} {G G' : Gp} (h : Ex G G') : Ext a G G' := fun b o _ e => h b o e
noncomputable def sp_law_mix : Sp3 := fun ts G q => ∃ c k,ts = [.int c,.int k]∧0 ≤ k∧k < 4294967296∧∀ m,0 ≤ m → m < 1999999973 → q (.int m) G
noncomputable def sp_law_left : Sp3 := fun ts G q => ∃ (a : Addr) (k : Int) (ns : List Int),ts = [.ref a,.int k]∧G a = some (.frz (ns.map T.int))∧ns.length ≤ 63∧0 ≤ k∧k ≤ 63∧∀ p o c,G p = none → 0 ≤ o → q (.ref p) (gu G p (.lst [.int o,.int c,.int 0]))
noncomputable def sp_law_pick : Sp3 := fun ts G q => ∃ a n many,ts = [.ref a,.int many]∧1 ≤ many∧many < 1073741824∧Lf G a n∧n < 1073741824∧∀ d G',0 ≤ d → d < many → Lf G' a (n + 1) → Ext a G G' → q (.int d) G'
noncomputable def sp_law_sides : Sp3 := fun ts G q => ∃ a n,ts = [.ref a]∧Lf G a n∧n < 100000000∧∀ r c G',1 ≤ r → r ≤ 16 → 1 ≤ c → c ≤ 16 → Lf G' a (n + 4) → Ext a G G' → q (.tup [.int r,.int c]) G'
noncomputable def sp_law_gcd : Sp3 := fun ts G q => ∃ x y : Int,ts = [.int x,.int y]∧0 ≤ x∧0 ≤ y∧q (.int (Int.gcd x y : Nat)) G
structure Dr (d : Dl) (r c b : Int) : Prop where
 ok : d.Ok
 r2 : d.R ≤ r
 c2 : d.C ≤ c
 b2 : d.B ≤ b
noncomputable def sp_law_skew : Sp3 := fun ts G q => ∃ a n,ts = [.ref a]∧Lf G a n∧n < 10000000∧∀ r c b x y G',Dr (.skew r c b x y) 16 16 32 → Lf G' a (n + 10) → Ext a G G' → q (Dl.skew r c b x y).t G'
noncomputable def sp_law_rests : Sp3 := fun ts G q => ∃ a n,ts = [.ref a]∧Lf G a n∧n < 10000000∧∀ r c b p G',Dr (.rests r c b p) 16 16 32 → Lf G' a (n + 10) → Ext a G G' → q (Dl.rests r c b p).t G'
theorem pick_i {a : Addr} {n many : Int} {G : Gp} {q : Q3} (hL : Lf G a n) (h1 : 1 ≤ many) (h2 : many < 1073741824) (hn : n < 1073741824) (h : ∀ d G',0 ≤ d → d < many → Lf G' a (n + 1) → Ext a G G' → q (.int d) G') : sp_law_pick [.ref a,.int many] G q := ⟨a,n,many,rfl,h1,h2,hL,hn,h⟩
theorem rd_law_mix : ∀ ts G q,sp_law_mix ts G q → ts.length = 2∧t_law_mix (ends q) (start3 ["_law_cell","_law_k","_law_m"] ts) G := by
 rintro ts G q ⟨c,k,rfl,h1,h2,h⟩
 refine ⟨rfl,?_⟩
 simp only [t_law_mix,seq3,asg3,o3,v3,start3,List.map_cons,List.map_nil,List.length_cons,List.length_nil,Nat.zero_add,Nat.reduceAdd,Nat.reduceSub,List.replicate_one,List.cons_append,List.nil_append,Nat.zero_lt_succ,getElem?_pos,List.getElem_cons_zero,c3,iC,Int.reduceLT,Nat.reduceLT,List.getElem_cons_succ,cat3,gn3,ret3,List.set_cons_succ,List.set_cons_zero,Nat.lt_add_one,true_and]
 exact ⟨.inl ⟨by omega,by omega⟩,cm (by omega) (by omega),cm (by omega) (by omega),.inl ⟨by omega,by omega⟩,h _ (Int.emod_nonneg _ (by omega)) (Int.emod_lt_of_pos _ (by omega))⟩
theorem cp : CPow 10 18 := ⟨by decide,by decide,by decide⟩
theorem rd_law_left : ∀ ts G q,sp_law_left ts G q → ts.length = 2∧t_law_left (ends q) (start3 ["_law_script","_law_k","_law_cell","_law_own"] ts) G := by
 rintro ts G q ⟨a,k,ns,rfl,hG,hl,h1,h2,h⟩
 refine ⟨rfl,?_⟩
 simp only [t_law_left,seq3,asg3,if3,tb3,o3,v3,start3,List.map_cons,List.map_nil,List.length_cons,List.length_nil,Nat.zero_add,Nat.reduceAdd,Nat.reduceSub,List.reduceReplicate,List.cons_append,List.nil_append,Nat.reduceLT,getElem?_pos,List.getElem_cons_succ,List.getElem_cons_zero,cb3,cons3,Nat.zero_lt_succ,nil3,len3,getL,hG,iB,List.length_map,decide_eq_true_eq,gn3,List.set_cons_succ,List.set_cons_zero,abs3,c3,iC,Int.reduceToNat,Int.reducePow,ret3,lst3,Nat.lt_add_one,cat3,ne_eq,sizeLine_eq,Nat.reduceLeDiff,true_and,gu,ixR,atI,ixN,List.getElem?_map,Int.lt_irrefl,↓reduceIte,Int.reduceLE,decide_false,Bool.false_eq_true,Int.zero_add]
 have ck : CMul 1000003 k := cm (by omega) (by omega)
 by_cases hk : k < ns.length
 ·have hk' : k.toNat < ns.length := by omega
  simp [hk,h1,hk',cp,ck]
  split
  ·split
   ·exact fun p hp => h p (-ns[k.toNat]) _ hp (by omega)
   ·exact fun p hp => h p 0 _ hp (by omega)
  ·split
   ·exact fun p hp => h p ns[k.toNat] _ hp (by omega)
   ·exact fun p hp => h p 0 _ hp (by omega)
 ·simp [hk,cp,ck]
  exact fun p hp => h p 0 _ hp (by omega)
theorem rd_law_pick : ∀ ts G q,sp_law_pick ts G q → ts.length = 2∧t_law_pick sp_law_mix (ends q) (start3 ["_law_left_here","_law_many","_law_digit"] ts) G := by
 rintro ts G q ⟨a,n,many,rfl,m1,m2,⟨o,c,m,hG,ho,hm,hn⟩,h3,h⟩
 refine ⟨rfl,?_⟩
 unfold t_law_pick
 refine seq_i fun nx1 q1 => ?_
 simp only [asg3,o3,v3,start3,List.map_cons,List.map_nil,List.length_cons,List.length_nil,Nat.zero_add,Nat.reduceAdd,Nat.reduceSub,List.replicate_one,List.cons_append,List.nil_append,Nat.zero_lt_succ,getElem?_pos,List.getElem_cons_zero,c3,cat3,ne_eq,sizeLine_eq,gsub3,set3,ixN,Int.zero_le_ofNat,↓reduceIte,Int.reduceToNat,tb3,iB,decide_eq_true_eq,Nat.reduceLT,List.getElem_cons_succ,iC,gn3,List.set_cons_succ,List.set_cons_zero,Std.le_refl,Int.natCast_pos,Int.toNat_zero,ret3,Nat.lt_add_one,ixR,getL,atI,next3,cb3,cons3,nil3,Int.toNat_one,List.length_set,hG,Int.cast_ofNat_Int,Int.reduceLT,Option.bind_some,gu_same]
 rw [q1]
 clear q1
 refine seq_i fun nx2 q2 => ?_
 simp only [ifS3,asg3,o3,v3,start3,List.map_cons,List.map_nil,List.length_cons,List.length_nil,Nat.zero_add,Nat.reduceAdd,Nat.reduceSub,List.replicate_one,List.cons_append,List.nil_append,Nat.zero_lt_succ,getElem?_pos,List.getElem_cons_zero,c3,cat3,ne_eq,sizeLine_eq,gsub3,set3,ixN,Int.zero_le_ofNat,↓reduceIte,Int.reduceToNat,tb3,iB,decide_eq_true_eq,Nat.reduceLT,List.getElem_cons_succ,iC,gn3,List.set_cons_succ,List.set_cons_zero,Std.le_refl,Int.natCast_pos,Int.toNat_zero,ret3,Nat.lt_add_one,ixR,getL,atI,next3,cb3,cons3,nil3,Int.toNat_one,List.length_set,hG,Int.cast_ofNat_Int,Int.reduceLT,Option.bind_some,gu_same]
 split
 ·simp only [seq3,asg3,o3,v3,List.length_cons,List.length_nil,Nat.zero_add,Nat.reduceAdd,Nat.zero_lt_succ,getElem?_pos,List.getElem_cons_zero,c3,Nat.reduceLT,List.getElem_cons_succ,iC,gn3,List.set_cons_succ,List.set_cons_zero,gsub3,set3,ixN,Std.le_refl,↓reduceIte,Int.natCast_pos,Int.toNat_zero,ret3,Nat.lt_add_one,ixR,getL,atI,gu_same,Int.cast_ofNat_Int,Int.reduceLT,Option.bind_some]
  refine ⟨by omega,⟨by omega,m2⟩,h _ _ (Int.emod_nonneg _ (by omega)) (Int.emod_lt_of_pos _ (by omega)) ⟨o / many,c,m + 1,gu_same,Int.ediv_nonneg ho (by omega),by omega,by omega⟩ fun b ob hb e => ?_⟩
  rw [gu_ne hb,gu_ne hb];exact e
 ·rw [q2]
  clear q2
  simp only [asg3,o3,v3,start3,List.map_cons,List.map_nil,List.length_cons,List.length_nil,Nat.zero_add,Nat.reduceAdd,Nat.reduceSub,List.replicate_one,List.cons_append,List.nil_append,Nat.zero_lt_succ,getElem?_pos,List.getElem_cons_zero,c3,cat3,ne_eq,sizeLine_eq,gsub3,set3,ixN,Int.zero_le_ofNat,↓reduceIte,Int.reduceToNat,tb3,iB,decide_eq_true_eq,Nat.reduceLT,List.getElem_cons_succ,iC,gn3,List.set_cons_succ,List.set_cons_zero,Std.le_refl,Int.natCast_pos,Int.toNat_zero,ret3,Nat.lt_add_one,ixR,getL,atI,next3,cb3,cons3,nil3,Int.toNat_one,List.length_set,hG,Int.cast_ofNat_Int,Int.reduceLT,Option.bind_some,gu_same]
  refine ⟨c,m + 1,rfl,by omega,by omega,fun u u1 u2 => ?_⟩
  simp only [asg3,o3,v3,start3,List.map_cons,List.map_nil,List.length_cons,List.length_nil,Nat.zero_add,Nat.reduceAdd,Nat.reduceSub,List.replicate_one,List.cons_append,List.nil_append,Nat.zero_lt_succ,getElem?_pos,List.getElem_cons_zero,c3,cat3,ne_eq,sizeLine_eq,gsub3,set3,ixN,Int.zero_le_ofNat,↓reduceIte,Int.reduceToNat,tb3,iB,decide_eq_true_eq,Nat.reduceLT,List.getElem_cons_succ,iC,gn3,List.set_cons_succ,List.set_cons_zero,Std.le_refl,Int.natCast_pos,Int.toNat_zero,ret3,Nat.lt_add_one,ixR,getL,atI,next3,cb3,cons3,nil3,Int.toNat_one,List.length_set,hG,Int.cast_ofNat_Int,Int.reduceLT,Option.bind_some,gu_same]
  refine ⟨u,m + 1 + 64,rfl,by omega,by omega,fun v v1 v2 => ?_⟩
  refine ⟨⟨by omega,by omega⟩,by omega,h _ _ (Int.emod_nonneg _ (by omega)) (Int.emod_lt_of_pos _ (by omega)) ⟨o,c,m + 1,gu_same,ho,by omega,by omega⟩ fun b ob hb e => ?_⟩
  rw [gu_ne hb];exact e
theorem gcd_step {x y : Int} (hy : 0 < y) : Int.gcd y (x % y) = Int.gcd x y := by
 rw [Int.emod_def,Int.gcd_comm x y]
 simp
theorem rd_law_gcd : ∀ ts G q,sp_law_gcd ts G q → ts.length = 2∧t_law_gcd (ends q) (start3 ["_law_one","_law_other"] ts) G := by
 rintro ts G q ⟨x,y,rfl,hx,hy,h⟩
 refine ⟨rfl,?_⟩
 simp only [t_law_gcd,seq3,while3,start3,List.map_cons,List.map_nil,List.length_cons,List.length_nil,Nat.zero_add,Nat.reduceAdd,Nat.sub_self,List.replicate_zero,List.append_nil,tb3,o3,v3,c3,iB,decide_eq_true_eq,par3,cons3,iC,nil3,ret3]
 refine ⟨fun n τ G' => G' = G∧∃ u v : Int,τ = [some (.int u),some (.int v)]∧n = v.toNat∧0 ≤ u∧0 ≤ v∧Int.gcd u v = Int.gcd x y,⟨_,rfl,x,y,rfl,rfl,hx,hy,rfl⟩,?_⟩
 rintro n τ G' ⟨eG,u,v,rfl,rfl,hu,hv,e⟩
 simp
 by_cases h0 : 0 < v
 ·simp [h0]
  refine ⟨fun τ' G' => G' = G∧∃ x' y' : Int,τ' = [some (.int x'),some (.int y')]∧y'.toNat < v.toNat∧0 ≤ x'∧0 ≤ y'∧Int.gcd x' y' = Int.gcd x y,fun τ' G' ⟨e1,x',y',e2,e3,e4,e5,e6⟩ => ⟨y'.toNat,by omega,e1,x',y',e2,rfl,e4,e5,e6⟩,eG,v,u % v,rfl,?_,hv,Int.emod_nonneg _ (by omega),by rw [gcd_step h0,e]⟩
  have := Int.emod_lt_of_pos u h0
  omega
 ·have : v = 0 := by omega
  subst this
  simp at e
  simp [eG]
  have : u = (Int.gcd x y : Nat) := by omega
  rw [this]
  exact h
theorem idx4 {d : Int} (h1 : 0 ≤ d) (h2 : d < 4) {x0 x1 x2 x3 : T} {P : T → Prop} (p0 : P x0) (p1 : P x1) (p2 : P x2) (p3 : P x3) : ∃ x,L2.atI [x0,x1,x2,x3] d = some x∧P x := by
 have : d = 0 ∨ d = 1 ∨ d = 2 ∨ d = 3 := by omega
 rcases this with rfl | rfl | rfl | rfl
 ·exact ⟨x0,rfl,p0⟩
 ·exact ⟨x1,rfl,p1⟩
 ·exact ⟨x2,rfl,p2⟩
 ·exact ⟨x3,rfl,p3⟩
theorem idx3 {d : Int} (h1 : 0 ≤ d) (h2 : d < 3) {x0 x1 x2 : T} {P : T → Prop} (p0 : P x0) (p1 : P x1) (p2 : P x2) : ∃ x,L2.atI [x0,x1,x2] d = some x∧P x := by
 have : d = 0 ∨ d = 1 ∨ d = 2 := by omega
 rcases this with rfl | rfl | rfl
 ·exact ⟨x0,rfl,p0⟩
 ·exact ⟨x1,rfl,p1⟩
 ·exact ⟨x2,rfl,p2⟩
theorem rd_law_sides : ∀ ts G q,sp_law_sides ts G q → ts.length = 1∧t_law_sides sp_law_pick (ends q) (start3 ["_law_left_here","_law_wide","_law_rows","_law_columns"] ts) G := by
 rintro ts G q ⟨a,n,rfl,hL,hn,h⟩
 refine ⟨rfl,?_⟩
 unfold t_law_sides
 refine seq_i fun nx1 q1 => ?_
 simp only [asg3,o3,lst3,cons3,c3,nil3,List.length_cons,List.length_nil,Nat.zero_add,Nat.reduceAdd,sizeLine_eq,Nat.reduceLeDiff,cb3,v3,start3,List.map_cons,List.map_nil,Nat.add_one_sub_one,List.reduceReplicate,List.cons_append,List.nil_append,Nat.zero_lt_succ,getElem?_pos,List.getElem_cons_zero,gn3,List.set_cons_succ,List.set_cons_zero,true_and]
 intro p hp
 have hpa := hL.ne hp
 refine pick_i (hL.new hpa) (by decide) (by decide) (by omega) fun d G1 d1 d2 L1 E1 => ?_
 have g1 := E1 p _ hpa gu_same
 obtain ⟨w,hw,w',rfl,w1,w2⟩ := idx4 d1 d2 (P := fun t => ∃ w,t = T.int w∧1 ≤ w∧w ≤ 16) ⟨6,rfl,by decide⟩ ⟨6,rfl,by decide⟩ ⟨6,rfl,by decide⟩ ⟨16,rfl,by decide⟩
 simp only [ixR,getL,g1,hw]
 rw [q1]
 clear q1
 refine seq_i fun nx2 q2 => ?_
 simp only [par3,cons3,o3,c3,cb3,v3,List.length_cons,List.length_nil,Nat.zero_add,Nat.reduceAdd,Nat.zero_lt_succ,getElem?_pos,List.getElem_cons_zero,Nat.reduceLT,List.getElem_cons_succ,nil3,cat3,ne_eq,sizeLine_eq,List.set_cons_succ,List.set_cons_zero]
 refine pick_i L1 w1 (by omega) (by omega) fun r G2 r1 r2 L2' E2 => ?_
 simp only [iI,seq3,asg3,o3,lst3,cons3,c3,nil3,List.length_cons,List.length_nil,Nat.zero_add,Nat.reduceAdd,sizeLine_eq,Nat.reduceLeDiff,cb3,v3,start3,List.map_cons,List.map_nil,Nat.add_one_sub_one,List.reduceReplicate,List.cons_append,List.nil_append,Nat.zero_lt_succ,getElem?_pos,List.getElem_cons_zero,gn3,par3,List.set_cons_succ,List.set_cons_zero,Nat.reduceLT,List.getElem_cons_succ,cat3,ne_eq,ret3,tup3,Nat.lt_add_one,true_and,gu]
 refine pick_i L2' w1 (by omega) (by omega) fun c G3 c1 c2 L3' E3 => ?_
 simp only [iI,seq3,asg3,o3,lst3,cons3,c3,nil3,List.length_cons,List.length_nil,Nat.zero_add,Nat.reduceAdd,sizeLine_eq,Nat.reduceLeDiff,cb3,v3,start3,List.map_cons,List.map_nil,Nat.add_one_sub_one,List.reduceReplicate,List.cons_append,List.nil_append,Nat.zero_lt_succ,getElem?_pos,List.getElem_cons_zero,gn3,par3,List.set_cons_succ,List.set_cons_zero,Nat.reduceLT,List.getElem_cons_succ,cat3,ne_eq,ret3,tup3,Nat.lt_add_one,true_and,gu]
 rw [q2]
 clear q2
 simp only [ret3,o3,lst3,cons3,tup3,v3,List.length_cons,List.length_nil,Nat.zero_add,Nat.reduceAdd,Nat.reduceLT,getElem?_pos,List.getElem_cons_succ,List.getElem_cons_zero,Nat.lt_add_one,nil3,sizeLine_eq,Nat.reduceLeDiff,cb3,Nat.zero_lt_succ,c3,true_and]
 intro p2 hp2
 have hpa2 := L3'.ne hp2
 refine pick_i (L3'.new hpa2) (by decide) (by decide) (by omega) fun e G4 e1 e2 L4 E4 => ?_
 have g4 := E4 p2 _ hpa2 gu_same
 have x1 : 1 ≤ 1 + r := by omega
 have x2 : 1 + r ≤ 16 := by omega
 have x3 : 1 ≤ 1 + c := by omega
 have x4 : 1 + c ≤ 16 := by omega
 obtain ⟨t,ht,r',c',rfl,z1,z2,z3,z4⟩ := idx4 e1 e2 (P := fun t => ∃ r' c',t = T.tup [.int r',.int c']∧1 ≤ r'∧r' ≤ 16∧1 ≤ c'∧c' ≤ 16) ⟨1 + r,1 + c,rfl,x1,x2,x3,x4⟩ ⟨1 + r,1 + c,rfl,x1,x2,x3,x4⟩ ⟨1 + r,1 + c,rfl,x1,x2,x3,x4⟩ ⟨1 + r,1 + r,rfl,x1,x2,x1,x2⟩
 simp only [ixR,getL,g4,ht]
 exact h r' c' G4 z1 z2 z3 z4 (L4.mono (by omega)) ((((ext_new hp).trans E1).trans (E2.trans E3)).trans ((ext_new hp2).trans E4))
theorem rd_law_skew : ∀ ts G q,sp_law_skew ts G q → ts.length = 1∧t_law_skew sp_law_sides sp_law_pick (ends q) (start3 ["_law_left_here","_law_rows","_law_columns","_law_banks","_law_wide"] ts) G := by
 rintro ts G q ⟨a,n,rfl,hL,hn,h⟩
 refine ⟨rfl,?_⟩
 unfold t_law_skew
 refine seq_i fun nx1 q1 => ?_
 simp only [asg3,cb3,cons3,v3,start3,List.map_cons,List.map_nil,List.length_cons,List.length_nil,Nat.zero_add,Nat.reduceAdd,Nat.add_one_sub_one,List.reduceReplicate,List.cons_append,List.nil_append,Nat.zero_lt_succ,getElem?_pos,List.getElem_cons_zero,nil3,gtup3,gcons3,gn3,gnil3,List.set_cons_succ,List.set_cons_zero]
 refine ⟨a,n,rfl,hL,by omega,fun r c G1 r1 r2 c1 c2 L1 E1 => ?_⟩
 simp only [List.length_cons,List.length_nil,Nat.zero_add,Nat.reduceAdd,true_and]
 rw [q1]
 clear q1
 refine seq_i fun nx2 q2 => ?_
 simp only [asg3,o3,c3,cb3,cons3,v3,List.length_cons,List.length_nil,Nat.zero_add,Nat.reduceAdd,Nat.zero_lt_succ,getElem?_pos,List.getElem_cons_zero,lst3,nil3,sizeLine_eq,Nat.reduceLeDiff,cat3,ne_eq,gn3,List.set_cons_succ,List.set_cons_zero,true_and]
 intro p hp
 have hpa := L1.ne hp
 refine pick_i (L1.new hpa) (by decide) (by decide) (by omega) fun d G2 d1 d2 L2' E2 => ?_
 have g2 := E2 p _ hpa gu_same
 obtain ⟨w,hw,w',rfl,w1,w2⟩ := idx4 d1 d2 (P := fun t => ∃ w,t = T.int w∧1 ≤ w∧w ≤ 32) ⟨8,rfl,by decide⟩ ⟨8,rfl,by decide⟩ ⟨17,rfl,by decide⟩ ⟨32,rfl,by decide⟩
 simp only [ixR,getL,g2,hw]
 refine pick_i L2' w1 (by omega) (by omega) fun b G3 b1 b2 L3' E3 => ?_
 simp [seq3,asg3,gn3,ret3,retN3,ifS3,drop3,nev3,next3,v3,c3,o3,u3,neg3,L3.ixT,L3.ixR,cat3,iI,iC,iB,eqA3,scalT,isN3,tb3,and3,or3,not3,andV3,orV3,notV3,if3,ch3,cb3,cons3,nil3,isi3,tyT,subT,tup3,lst3,tsl3,np3,sp3,gtup3,gcons3,gnil3,gsub3,set3,par3,start3,bm3,app3,ext3,len3,abs3,min3,max3,int3,tuple3,list3,all3,any3,aug3,cut3,HT.sIx,getL,in3,flatT,eqF,gu,sizeLine_eq,List.getElem?_cons_zero,List.getElem?_cons_succ]
 rw [q2]
 clear q2
 refine seq_i fun nx3 q3 => ?_
 simp only [asg3,o3,lst3,cons3,v3,List.length_cons,List.length_nil,Nat.zero_add,Nat.reduceAdd,Nat.reduceLT,getElem?_pos,List.getElem_cons_succ,List.getElem_cons_zero,c3,nil3,sizeLine_eq,Nat.reduceLeDiff,cb3,Nat.zero_lt_succ,gn3,List.set_cons_succ,List.set_cons_zero,true_and]
 intro p2 hp2
 have hpa2 := L3'.ne hp2
 refine pick_i (L3'.new hpa2) (by decide) (by decide) (by omega) fun e G4 e1 e2 L4 E4 => ?_
 have g4 := E4 p2 _ hpa2 gu_same
 obtain ⟨u,hu,u',rfl,u1,u2⟩ := idx3 e1 e2 (P := fun t => ∃ w,t = T.int w∧1 ≤ w∧w ≤ 100) ⟨1 + b,rfl,by omega,by omega⟩ ⟨10,rfl,by decide⟩ ⟨100,rfl,by decide⟩
 simp only [ixR,getL,g4,hu]
 rw [q3]
 clear q3
 simp only [ret3,tup3,cons3,c3,v3,List.length_cons,List.length_nil,Nat.zero_add,Nat.reduceAdd,Nat.reduceLT,getElem?_pos,List.getElem_cons_succ,List.getElem_cons_zero,cb3,Nat.zero_lt_succ,Nat.lt_add_one,nil3,sizeLine_eq,Nat.reduceLeDiff,true_and]
 refine pick_i L4 u1 (by omega) (by omega) fun x G5 x1 x2 L5 E5 => ?_
 try simp [seq3,asg3,gn3,ret3,retN3,ifS3,drop3,nev3,next3,v3,c3,o3,u3,neg3,L3.ixT,L3.ixR,cat3,iI,iC,iB,eqA3,scalT,isN3,tb3,and3,or3,not3,andV3,orV3,notV3,if3,ch3,cb3,cons3,nil3,isi3,tyT,subT,tup3,lst3,tsl3,np3,sp3,gtup3,gcons3,gnil3,gsub3,set3,par3,start3,bm3,app3,ext3,len3,abs3,min3,max3,int3,tuple3,list3,all3,any3,aug3,cut3,HT.sIx,getL,in3,flatT,eqF,gu,sizeLine_eq,List.getElem?_cons_zero,List.getElem?_cons_succ]
 refine pick_i L5 u1 (by omega) (by omega) fun y G6 y1 y2 L6 E6 => ?_
 try simp [seq3,asg3,gn3,ret3,retN3,ifS3,drop3,nev3,next3,v3,c3,o3,u3,neg3,L3.ixT,L3.ixR,cat3,iI,iC,iB,eqA3,scalT,isN3,tb3,and3,or3,not3,andV3,orV3,notV3,if3,ch3,cb3,cons3,nil3,isi3,tyT,subT,tup3,lst3,tsl3,np3,sp3,gtup3,gcons3,gnil3,gsub3,set3,par3,start3,bm3,app3,ext3,len3,abs3,min3,max3,int3,tuple3,list3,all3,any3,aug3,cut3,HT.sIx,getL,in3,flatT,eqF,gu,sizeLine_eq,List.getElem?_cons_zero,List.getElem?_cons_succ]
 exact h r c (1 + b) x y G6 ⟨⟨r1,by omega,c1,by omega,by omega,by omega,x1,by omega,y1,by omega⟩,r2,c2,by show 1 + b ≤ 32;omega⟩ (L6.mono (by omega)) (E1.trans (((ext_new hp).trans E2).trans (E3.trans (((ext_new hp2).trans E4).trans (E5.trans E6)))))
theorem cop {b p : Int} (hb : 1 ≤ b) : ∃ k : Nat,(k : Int) < b∧Int.gcd b (p + k) = 1 := by
 refine ⟨((1 - p) % b).toNat,?_,?_⟩
 ·have := Int.emod_nonneg (1 - p) (show b ≠ 0 by omega)
  have := Int.emod_lt_of_pos (1 - p) (show 0 < b by omega)
  omega
 ·have h1 := Int.emod_nonneg (1 - p) (show b ≠ 0 by omega)
  have h2 := Int.emod_add_mul_ediv (1 - p) b
  have e : p + (((1 - p) % b).toNat : Int) = 1 + b * (-((1 - p) / b)) := by
   rw [Int.toNat_of_nonneg h1,Int.mul_neg];omega
  rw [e];simp
structure Plc (b p0 pl : Int) (i : Nat) : Prop where
 lo : p0 ≤ pl
 hi : pl ≤ p0 + i
 at_ : Int.gcd b pl = 1 ∨ (pl = p0 + i∧∀ k : Nat,k < i → Int.gcd b (p0 + k) ≠ 1)
theorem Plc.done {b p0 pl : Int} {n : Nat} (h : Plc b p0 pl n) (hb : 1 ≤ b) (hn : b ≤ n) : Int.gcd b pl = 1 := by
 rcases h.at_ with h | ⟨_,h⟩
 ·exact h
 ·obtain ⟨k,h1,h2⟩ := cop (p := p0) hb
  exact absurd h2 (h k (by omega))
theorem Plc.next {b p0 pl : Int} {i : Nat} (h : Plc b p0 pl i) (hb : 1 ≤ b) (hp : 1 ≤ p0) (hg : (1 : Int) < (Int.gcd b pl : Nat)) : Plc b p0 (pl + 1) (i + 1) := by
 rcases h.at_ with z | ⟨z1,z2⟩
 ·rw [z] at hg;simp at hg
 ·refine ⟨by have := h.lo;omega,by omega,.inr ⟨by omega,fun k hk => ?_⟩⟩
  rcases Nat.lt_or_ge k i with q | q
  ·exact z2 k q
  ·have : k = i := by omega
   subst this
   rw [← z1]
   omega
theorem Plc.stay {b p0 pl : Int} {i : Nat} (h : Plc b p0 pl i) (hb : 1 ≤ b) (hp : 1 ≤ p0) (hg : ¬ (1 : Int) < (Int.gcd b pl : Nat)) : Plc b p0 pl (i + 1) := by
 have g0 : 0 < Int.gcd b pl := Int.gcd_pos_of_ne_zero_left _ (by omega)
 exact ⟨h.lo,by have := h.hi;omega,.inl (by omega)⟩
theorem up_div {r c b : Int} (hr : 1 ≤ r) (hc : 1 ≤ c) (hb : 1 ≤ b) : 1 ≤ -(-r * c / b)∧r * c ≤ b * -(-r * c / b)∧-(-r * c / b) ≤ r * c := by
 have h1 := one_le_mul hr hc
 have e : -r * c = -(r * c) := Int.neg_mul ..
 rw [e]
 have h2 := Int.ediv_neg_of_neg_of_pos (a := -(r * c)) (b := b) (by omega) (by omega)
 have h3 := Int.mul_ediv_self_le (x := -(r * c)) (k := b) (by omega)
 have h4 : -(r * c) ≤ -(r * c) / b := by
  have := Int.le_ediv_of_mul_le (a := -(r * c)) (b := -(r * c)) (c := b) (by omega) (by
   have := Int.mul_le_mul_of_nonneg_left hb (show (0 : Int) ≤ r * c by omega)
   rw [Int.neg_mul];omega)
  exact this
 rw [Int.mul_neg]
 omega
theorem rd_law_rests : ∀ ts G q,sp_law_rests ts G q → ts.length = 1∧t_law_rests sp_law_sides sp_law_pick sp_law_gcd (ends q) (start3 ["_law_left_here","_law_rows","_law_columns","_law_banks","_law_places","_law_turn"] ts) G := by
 rintro ts G q ⟨a,n,rfl,hL,hn,h⟩
 refine ⟨rfl,?_⟩
 unfold t_law_rests
 refine seq_i fun nx1 q1 => ?_
 simp only [asg3,cb3,cons3,v3,start3,List.map_cons,List.map_nil,List.length_cons,List.length_nil,Nat.zero_add,Nat.reduceAdd,Nat.add_one_sub_one,List.reduceReplicate,List.cons_append,List.nil_append,Nat.zero_lt_succ,getElem?_pos,List.getElem_cons_zero,nil3,gtup3,gcons3,gn3,gnil3,List.set_cons_succ,List.set_cons_zero]
 refine ⟨a,n,rfl,hL,by omega,fun r c G1 r1 r2 c1 c2 L1 E1 => ?_⟩
 simp only [List.length_cons,List.length_nil,Nat.zero_add,Nat.reduceAdd,true_and]
 rw [q1]
 clear q1
 refine seq_i fun nx2 q2 => ?_
 simp only [asg3,o3,c3,cb3,cons3,v3,List.length_cons,List.length_nil,Nat.zero_add,Nat.reduceAdd,Nat.zero_lt_succ,getElem?_pos,List.getElem_cons_zero,lst3,nil3,sizeLine_eq,Nat.reduceLeDiff,cat3,ne_eq,gn3,List.set_cons_succ,List.set_cons_zero,true_and]
 intro p hp
 have hpa := L1.ne hp
 refine pick_i (L1.new hpa) (by decide) (by decide) (by omega) fun d G2 d1 d2 L2' E2 => ?_
 have g2 := E2 p _ hpa gu_same
 obtain ⟨w,hw,w',rfl,w1,w2⟩ := idx3 d1 d2 (P := fun t => ∃ w,t = T.int w∧1 ≤ w∧w ≤ 32) ⟨8,rfl,by decide⟩ ⟨17,rfl,by decide⟩ ⟨32,rfl,by decide⟩
 simp only [ixR,getL,g2,hw]
 refine pick_i L2' w1 (by omega) (by omega) fun b G3 b1 b2 L3' E3 => ?_
 simp [seq3,asg3,gn3,ret3,retN3,ifS3,drop3,nev3,next3,v3,c3,o3,u3,neg3,L3.ixT,L3.ixR,cat3,iI,iC,iB,eqA3,scalT,isN3,tb3,and3,or3,not3,andV3,orV3,notV3,if3,ch3,cb3,cons3,nil3,isi3,tyT,subT,tup3,lst3,tsl3,np3,sp3,gtup3,gcons3,gnil3,gsub3,set3,par3,start3,bm3,app3,ext3,len3,abs3,min3,max3,int3,tuple3,list3,all3,any3,aug3,cut3,HT.sIx,getL,in3,flatT,eqF,gu,sizeLine_eq,List.getElem?_cons_zero,List.getElem?_cons_succ]
 rw [q2]
 clear q2
 refine seq_i fun nx3 q3 => ?_
 simp only [asg3,o3,u3,v3,List.length_cons,List.length_nil,Nat.zero_add,Nat.reduceAdd,Nat.reduceLT,getElem?_pos,List.getElem_cons_succ,List.getElem_cons_zero,neg3,iC,cb3,cons3,Nat.zero_lt_succ,c3,nil3,cat3,ne_eq,sizeLine_eq,gn3,List.set_cons_succ,List.set_cons_zero]
 refine ⟨cm (by omega) (by omega),⟨by omega,by omega⟩,pick_i L3' (by omega) (by omega) (by omega) fun e G4 e1 e2 L4 E4 => ?_⟩
 obtain ⟨u1,u2,u3⟩ := up_div r1 c1 (show 1 ≤ 1 + b by omega)
 have rc : r * c ≤ 16 * 16 := Int.mul_le_mul r2 c2 (by omega) (by omega)
 simp [seq3,asg3,gn3,ret3,retN3,ifS3,drop3,nev3,next3,v3,c3,o3,u3,neg3,L3.ixT,L3.ixR,cat3,iI,iC,iB,eqA3,scalT,isN3,tb3,and3,or3,not3,andV3,orV3,notV3,if3,ch3,cb3,cons3,nil3,isi3,tyT,subT,tup3,lst3,tsl3,np3,sp3,gtup3,gcons3,gnil3,gsub3,set3,par3,start3,bm3,app3,ext3,len3,abs3,min3,max3,int3,tuple3,list3,all3,any3,aug3,cut3,HT.sIx,getL,in3,flatT,eqF,gu,sizeLine_eq,List.getElem?_cons_zero,List.getElem?_cons_succ]
 rw [q3]
 clear q3
 simp only [seq3,for3,irng3,cons3,c3,nil3,Int.reducePow,Int.reduceNeg,Int.neg_ofNat_le_ofNat,Int.reduceLT,and_self,Int.reduceToNat,true_and]
 obtain ⟨p0,hp0⟩ : ∃ p0,p0 = -(-r * c / (1 + b)) + e := ⟨_,rfl⟩
 refine forGo_inv _ (fun i τ G' => G' = G4∧∃ (pl : Int) (x : Option T),τ = [some (.ref a),some (.int r),some (.int c),some (.int (1 + b)),some (.int pl),x]∧Plc (1 + b) p0 pl i) ⟨rfl,_,none,by rw [← hp0],⟨by omega,by omega,.inr ⟨by omega,by omega⟩⟩⟩ (fun _ _ _ _ _ => True.intro) ?_ ?_
 ·rintro i x τ G' nx hx ⟨rfl,pl,y,rfl,P⟩ hn
  simp only [gn3,ifS3,tb3,o3,cb3,cons3,v3,List.set_cons_succ,List.set_cons_zero,List.length_cons,List.length_nil,Nat.zero_add,Nat.reduceAdd,Nat.reduceLT,getElem?_pos,List.getElem_cons_succ,List.getElem_cons_zero,nil3,c3,iB,decide_eq_true_eq,asg3,cat3,next3]
  refine ⟨1 + b,pl,rfl,by omega,by have := P.lo;omega,?_⟩
  simp
  split
  ·rename_i hg
   exact hn _ _ ⟨rfl,_,_,rfl,P.next (by omega) (by omega) (by omega)⟩
  ·rename_i hg
   exact hn _ _ ⟨rfl,_,_,rfl,P.stay (by omega) (by omega) (by omega)⟩
 ·rintro τ G' ⟨rfl,pl,x,rfl,P⟩
  simp only [ret3,tup3,cons3,c3,v3,List.length_cons,List.length_nil,Nat.zero_add,Nat.reduceAdd,Nat.reduceLT,getElem?_pos,List.getElem_cons_succ,List.getElem_cons_zero,nil3,sizeLine_eq,Nat.reduceLeDiff,true_and]
  rw [rng_len] at P
  have lo := P.lo;have hi := P.hi
  have m1 : (1 + b) * -(-r * c / (1 + b)) ≤ (1 + b) * pl := Int.mul_le_mul_of_nonneg_left (by omega) (by omega)
  exact h r c (1 + b) pl G' ⟨⟨r1,by omega,c1,by omega,by omega,by omega,by omega,by omega,P.done (by omega) (by omega),by omega⟩,r2,c2,by show 1 + b ≤ 32;omega⟩ (L4.mono (by omega)) (E1.trans (((ext_new hp).trans E2).trans (E3.trans E4)))
end Bk
namespace Bk
open PySem L2 L3
noncomputable def DepLe : Nat → PyData → Prop
 | _,.none => True
 | _,.bool _ => True
 | _,.int _ => True
 | _,.str _ => True
 | n + 1,.list ds => ds.length ≤ 1000000∧∀ d ∈ ds,DepLe n d
 | n + 1,.tuple ds => ds.length ≤ 1000000∧∀ d ∈ ds,DepLe n d
 | _,_ => False
noncomputable def sp_law_same : Nat → Sp3
 | 0 => sp_none
 | n + 1 => fun ts G q => ∃ (x y : T) (d : PyData),ts = [x,y]∧Dp G x d∧Dp G y d∧DepLe n d∧∀ G',Ex G G' → q (.bl true) G'
theorem seqOf_up {G G' : Gp} (e : Ex G G') {x : T} {us : List T} (h : seqOf G x = some us) : seqOf G' x = some us := by
 cases x <;> simp [seqOf] at h ⊢
 ·exact h
 ·exact e.getL h
theorem allB_rep (n : Nat) : allB (List.replicate n (.bl true)) = some true := by
 induction n with
 | zero => rfl
 | succ n ih => rw [List.replicate_succ];simp [allB,ih]
theorem same_all {G : Gp} {n : Nat} {x y : T} {us vs : List T} {ds : List PyData} {q : Q3} (hx : seqOf G x = some us) (hy : seqOf G y = some vs) (du : Dps G us ds) (dv : Dps G vs ds) (hl : us.length ≤ 1000000) (hd : ∀ d ∈ ds,∃ m,n = m + 1∧DepLe m d) (h : ∀ G',Ex G G' → q (.bl true) G') :
  lcGo (fun G => seqOf G x = some us∧seqOf G y = some vs) (gtup3 2 (gcons3 (gn3 0) (gcons3 (gn3 1) gnil3))) tt3 (cb3 (sp_law_same n) (cons3 (v3 0) (cons3 (v3 1) nil3))) (fun x G1 => all3 [x] G1 q) (zipT us vs) [] [none,none] G := by
 have e1 := du.length
 have e2 := dv.length
 refine lcGo_inv _ (fun i ys τ G' => Ex G G'∧ys = List.replicate i (.bl true)∧∃ x0 x1,τ = [x0,x1]) ⟨Ex.refl,rfl,none,none,rfl⟩ (fun i ys τ G' _ hp => ⟨seqOf_up hp.1 hx,seqOf_up hp.1 hy⟩) ?_ ?_
 ·rintro i z ys τ G' R hz ⟨E,rfl,x0,x1,rfl⟩ hR
  obtain ⟨a,b,ha,hb,rfl⟩ := zipT_get hz
  obtain ⟨d,hd1,da⟩ := du.get ha
  obtain ⟨d',hd2,db⟩ := dv.get hb
  rw [hd1] at hd2;cases hd2
  obtain ⟨m,rfl,dl⟩ := hd d (List.mem_of_getElem? hd1)
  have hi := (List.getElem?_eq_some_iff.mp ha).1
  simp only [gtup3,List.length_cons,List.length_nil,Nat.zero_add,Nat.reduceAdd,gcons3,gn3,gnil3,tt3,↓reduceIte,cb3,cons3,v3,List.set_cons_zero,List.set_cons_succ,Nat.zero_lt_succ,getElem?_pos,List.getElem_cons_zero,Nat.lt_add_one,List.getElem_cons_succ,nil3,List.length_replicate,sizeLine_eq,true_and]
  refine ⟨a,b,d,rfl,da.up E,db.up E,dl,fun G2 E2 => ⟨by omega,hR _ _ _ ⟨E.trans E2,?_,_,_,rfl⟩⟩⟩
  rw [List.replicate_succ']
 ·rintro ys τ G' ⟨E,rfl,x0,x1,rfl⟩ p hp
  simp [all3,getL,gu_same,allB_rep]
  exact h _ (E.trans (ex_new hp))
theorem dep_list {n : Nat} {ds : List PyData} (h : DepLe n (.list ds)) : ds.length ≤ 1000000∧∀ d ∈ ds,∃ m,n = m + 1∧DepLe m d := by
 cases n with
 | zero => exact h.elim
 | succ n => exact ⟨h.1,fun d hd => ⟨n,rfl,h.2 d hd⟩⟩
theorem dep_tuple {n : Nat} {ds : List PyData} (h : DepLe n (.tuple ds)) : ds.length ≤ 1000000∧∀ d ∈ ds,∃ m,n = m + 1∧DepLe m d := by
 cases n with
 | zero => exact h.elim
 | succ n => exact ⟨h.1,fun d hd => ⟨n,rfl,h.2 d hd⟩⟩
theorem eqA_t {x : T} {G : Gp} {q : Q3} (h : scalT x x = some true) (k : q (.bl true) G) : eqA3 false x x G q := by
 unfold eqA3;rw [h];exact k
theorem ret_and {ta tb : TE3} {e : Ends3} {τ : St3} {G : Gp} {x : T} (h : ∀ q',q' x G → ta τ G q') (k : x = .bl true) (h2 : tb τ G e.rt) : ret3 (andV3 ta tb) e τ G := h _ (by subst k;exact h2)
theorem o_eq {ta tb : TE3} {τ : St3} {G : Gp} {x : T} (ha : ∀ q',q' x G → ta τ G q') (hb : ∀ q',q' x G → tb τ G q') (h : scalT x x = some true) : ∀ q',q' (.bl true) G → o3 (eqA3 false) ta tb τ G q' := fun q' k => ha _ (hb _ (eqA_t h k))
theorem ifS_i {c : TT3} {a b : TS3} {e : Ends3} {τ : St3} {G : Gp} (h : ∀ A,A = a → ifS3 c A b e τ G) : ifS3 c a b e τ G := h _ rfl
theorem rd_law_same (n : Nat) : ∀ ts G q,sp_law_same (n + 1) ts G q → ts.length = 2∧t_law_same (sp_law_same n) (ends q) (start3 ["_law_found","_law_due"] ts) G := by
 rintro ts G q ⟨x,y,d,rfl,hx,hy,hd,h⟩
 refine ⟨rfl,?_⟩
 have h0 := h G Ex.refl
 cases hx with
 | non => cases hy;exact h0
 | bl b => cases hy;cases b <;> exact h0
 | int i => cases hy;exact eqA_t (x := .int i) (by simp [scalT]) h0
 | str s =>
  cases hy
  refine seq_i fun nx1 q1 => ?_
  refine ifS_i fun A1 hA => ?_
  clear hA
  show nx1 _ _
  rw [q1];clear q1
  refine seq_i fun nx2 q2 => ?_
  refine ifS_i fun A2 hA => ?_
  show A2 _ _ _
  rw [hA]
  exact ret_and (o_eq (x := .str s) (fun _ k => k) (fun _ k => k) (by simp [scalT])) rfl h0
 | tup dx =>
  cases hy with
  | tup dy =>
   rename_i xs ds ys
   have e1 := dx.length
   have e2 := dy.length
   obtain ⟨l1,l2⟩ := dep_tuple hd
   have key := same_all (n := n) (x := .tup xs) (y := .tup ys) (us := xs) (vs := ys) (q := q) rfl rfl dx dy (by omega) l2 h
   have e3 : xs.length = ys.length := by omega
   refine seq_i fun nx1 q1 => ?_
   clear q1
   refine ifS_i fun A1 hA => ?_
   show A1 _ _ _
   rw [hA];clear hA
   refine seq_i fun nx2 q2 => ?_
   refine ifS_i fun A2 hA => ?_
   show nx2 _ _
   rw [q2];clear q2
   exact ret_and (o_eq (x := .int ys.length) (fun _ k => by rw [← e3] at k;exact k) (fun _ k => k) (by simp [scalT])) rfl key
 | lst gx dx =>
  cases hy with
  | lst gy dy =>
   rename_i p1 xs ds p2 ys
   have e1 := dx.length
   have e2 := dy.length
   obtain ⟨l1,l2⟩ := dep_list hd
   have key := same_all (n := n) (x := .ref p1) (y := .ref p2) (us := xs) (vs := ys) (q := q) gx gy dx dy (by omega) l2 h
   have e3 : xs.length = ys.length := by omega
   refine seq_i fun nx1 q1 => ?_
   clear q1
   refine ifS_i fun A1 hA => ?_
   simp only [ifS3,tb3,isi3,v3,start3,List.map_cons,List.map_nil,List.length_cons,List.length_nil,Nat.zero_add,Nat.reduceAdd,Nat.sub_self,List.replicate_zero,List.append_nil,Nat.lt_add_one,getElem?_pos,List.getElem_cons_succ,List.getElem_cons_zero,tyT,gx,gy,Option.isSome_some,↓reduceIte,subT,BEq.rfl,String.reduceBEq,Bool.and_self,Bool.or_false,Bool.or_self,or3,o3,Nat.zero_lt_succ,eqA3,scalT,decide_true,Bool.not_true,Bool.false_eq_true,next3]
   rw [hA];clear hA
   refine seq_i fun nx2 q2 => ?_
   refine ifS_i fun A2 hA => ?_
   clear hA
   simp only [ifS3,tb3,isi3,v3,start3,List.map_cons,List.map_nil,List.length_cons,List.length_nil,Nat.zero_add,Nat.reduceAdd,Nat.sub_self,List.replicate_zero,List.append_nil,Nat.lt_add_one,getElem?_pos,List.getElem_cons_succ,List.getElem_cons_zero,tyT,gx,gy,Option.isSome_some,↓reduceIte,subT,BEq.rfl,String.reduceBEq,Bool.and_self,Bool.or_false,Bool.or_self,or3,o3,Nat.zero_lt_succ,eqA3,scalT,decide_true,Bool.not_true,Bool.false_eq_true,next3]
   rw [q2];clear q2
   simp only [seqOf,all3,start3,List.map_cons,List.map_nil,List.length_cons,List.length_nil,Nat.zero_add,Nat.reduceAdd,Nat.sub_self,List.replicate_zero,List.append_nil,Nat.lt_add_one,getElem?_pos,List.getElem_cons_succ,List.getElem_cons_zero,gy,↓reduceIte,o3,v3,Nat.zero_lt_succ,gx,eqA3,scalT,decide_true,Bool.false_eq_true,ret3,andV3,cb3,cons3,nil3,len3,e3,lc3,izip3,cap] at key ⊢
   exact key
end Bk
namespace Bk
open PySem L2 L3
noncomputable def sp_law_size : Nat → Sp3
 | 0 => sp_none
 | n + 1 => fun ts G q => ∃ d : Dl,ts = [d.t]∧d.dep ≤ n∧d.Ok∧∀ G',Ex G G' → q (sizeT d) G'
theorem atI_two : ∀ {d : Nat},d ≤ 9 → L2.atI [T.int 1,.int 2,.int 4,.int 8,.int 16,.int 32,.int 64,.int 128,.int 256,.int 512] (d : Int) = some (.int (2 ^ d))
 | 0,_ => rfl
 | 1,_ => rfl
 | 2,_ => rfl
 | 3,_ => rfl
 | 4,_ => rfl
 | 5,_ => rfl
 | 6,_ => rfl
 | 7,_ => rfl
 | 8,_ => rfl
 | 9,_ => rfl
 | k + 10,h => absurd h (Nat.not_le.mpr (Nat.lt_of_lt_of_le (Nat.lt_succ_self _) (Nat.le_add_left _ _)))
theorem atI_two9 : ∀ {d : Nat},d ≤ 8 → L2.atI [T.int 1,.int 2,.int 4,.int 8,.int 16,.int 32,.int 64,.int 128,.int 256] (d : Int) = some (.int (2 ^ d))
 | 0,_ => rfl
 | 1,_ => rfl
 | 2,_ => rfl
 | 3,_ => rfl
 | 4,_ => rfl
 | 5,_ => rfl
 | 6,_ => rfl
 | 7,_ => rfl
 | 8,_ => rfl
 | k + 9,h => absurd h (Nat.not_le.mpr (Nat.lt_of_lt_of_le (Nat.lt_succ_self _) (Nat.le_add_left _ _)))
theorem atI_two5 : ∀ {d : Nat},d ≤ 4 → L2.atI [T.int 1,.int 2,.int 4,.int 8,.int 16] (d : Int) = some (.int (2 ^ d))
 | 0,_ => rfl
 | 1,_ => rfl
 | 2,_ => rfl
 | 3,_ => rfl
 | 4,_ => rfl
 | k + 5,h => absurd h (Nat.not_le.mpr (Nat.lt_of_lt_of_le (Nat.lt_succ_self _) (Nat.le_add_left _ _)))
theorem atI_0 {α : Type} {x : α} {xs : List α} : L2.atI (x :: xs) 0 = some x := by simp [L2.atI,ixN]
theorem atI_1 {α : Type} {x y : α} {xs : List α} : L2.atI (x :: y :: xs) 1 = some y := by
 rw [atI_nat' (by omega) (by simp;omega)];rfl
theorem atI_2 {α : Type} {x y z : α} {xs : List α} : L2.atI (x :: y :: z :: xs) 2 = some z := by
 rw [atI_nat' (by omega) (by simp;omega)];rfl
theorem atI_3 {α : Type} {x y z w : α} {xs : List α} : L2.atI (x :: y :: z :: w :: xs) 3 = some w := by
 rw [atI_nat' (by omega) (by simp;omega)];rfl
theorem if_str0 {s l : Str} {xs : List T} {R S : TS3} {d : Ends3} {τ : St3} {G : Gp} (hτ : τ[0]? = some (some (T.tup (.str s :: xs)))) : seq3 (ifS3 (tb3 (o3 (eqA3 false) (o3 ix3 (v3 0) (c3 (.int 0))) (c3 (.str l)))) R next3) S d τ G = (if s = l then R { d with nx := S d } τ G else S d τ G) := by
 simp only [seq3,ifS3,tb3,o3,v3,hτ,c3,L3.ixT,atI_0,eqA3,scalT,next3]
 by_cases e : s = l <;> simp [e]
theorem if_in2 {s l1 l2 : Str} {xs : List T} {R S : TS3} {d : Ends3} {τ : St3} {G : Gp} (hτ : τ[0]? = some (some (T.tup (.str s :: xs)))) : seq3 (ifS3 (tb3 (o3 (in3 false) (o3 ix3 (v3 0) (c3 (.int 0))) (tup3 (cons3 (c3 (.str l1)) (cons3 (c3 (.str l2)) nil3))))) R next3) S d τ G = (if s = l1 ∨ s = l2 then R { d with nx := S d } τ G else S d τ G) := by
 have s2 : [T.str l1,T.str l2].length ≤ sizeLine := by simp [sizeLine_eq]
 simp only [seq3,ifS3,tb3,o3,v3,hτ,c3,L3.ixT,atI_0,tup3,cons3,nil3,in3,next3]
 by_cases e1 : s = l1
 ·subst e1;simp [flatT,eqF,sizeLine_eq]
 ·have e1' : ¬ l1 = s := fun z => e1 z.symm
  by_cases e2 : s = l2
  ·subst e2;simp [flatT,eqF,sizeLine_eq]
  ·have e2' : ¬ l2 = s := fun z => e2 z.symm
   simp [flatT,eqF,sizeLine_eq,e1,e2,e1',e2']
theorem lc_picks {te : TE3} {q : Q3} {a : Addr} {n many : Int} {rest : St3} {items : List T} {x0 : Option T} {G : Gp} (hte : ∀ x0 G3 (Q : T → Gp → Prop),sp_law_pick [.ref a,.int many] G3 Q → te (x0 :: rest) G3 Q) (hL : Lf G a n) (m1 : 1 ≤ many) (m2 : many < 1073741824) (hl : items.length ≤ 1000) (hn : n < 1000000000)
  (h : ∀ (ds : List Int) G' p,ds.length = items.length → (∀ d ∈ ds,0 ≤ d∧d < many) → Lf G' a (n + items.length) → Ext a G G' → G' p = none → q (.ref p) (gu G' p (.lst (ds.map T.int)))) :
  lcGo (fun _ => True) (gn3 0) tt3 te q items [] (x0 :: rest) G := by
 refine lcGo_inv _ (fun i ys τ G' => ∃ (ds : List Int) (x0 : Option T),τ = x0 :: rest∧ys = ds.map T.int∧ds.length = i∧(∀ d ∈ ds,0 ≤ d∧d < many)∧Lf G' a (n + i)∧Ext a G G') ⟨[],x0,rfl,rfl,rfl,by simp,by simpa using hL,Ext.refl⟩ (fun _ _ _ _ _ _ => True.intro) ?_ ?_
 ·rintro i z ys τ G' R hz ⟨ds,x0,rfl,rfl,e,hd,hL',E⟩ hR
  have hi := (List.getElem?_eq_some_iff.mp hz).1
  simp only [gn3,tt3,List.set_cons_zero,if_true]
  refine hte _ _ _ (pick_i hL' m1 m2 (by omega) fun d G2 d1 d2 L2 E2 => ⟨by simp [sizeLine_eq];omega,hR _ _ _ ⟨ds ++ [d],_,rfl,by simp,by simp [e],fun x hx => ?_,L2.mono (by omega),E.trans E2⟩⟩)
  rcases List.mem_append.mp hx with hx | hx
  ·exact hd x hx
  ·simp at hx;subst hx;exact ⟨d1,d2⟩
 ·rintro ys τ G' ⟨ds,x0,rfl,rfl,e,hd,hL',E⟩ p hp
  exact h ds G' p e hd hL' E hp
noncomputable def sp_law_bits : Sp3 := fun ts G q => ∃ a n most,ts = [.ref a,.int most]∧Lf G a n∧n < 10000000∧0 ≤ most∧most ≤ 4∧∀ (h l : Nat) (ms : List Int) G',(h : Int) ≤ most → (l : Int) ≤ most → (Dl.bits h l ms).Ok → Lf G' a (n + 10) → Ext a G G' → q (Dl.bits h l ms).t G'
theorem masks_lc {wide : Int} {p : Addr} {ds : List Int} {x0 : Option T} {G : Gp} {q : Q3} (hw : 0 < wide) (hl : ds.length ≤ 1000) (hG : getL G p = some (ds.map T.int)) (h : ∀ p2,G p2 = none → q (.ref p2) (gu G p2 (.lst ((ds.map (· % wide)).map T.int)))) :
  lcGo (fun G => getL G p = some (ds.map T.int)) (gn3 0) tt3 (o3 (iC (fun _ j => 0 < j) (· % ·)) (v3 0) (v3 1)) q (ds.map T.int) [] [x0,some (.int wide)] G := by
 refine lcGo_map (fun t => match t with | .int m => T.int (m % wide) | t => t) (fun τ => ∃ x0,τ = [x0,some (.int wide)]) hG _ _ _ ⟨_,rfl⟩ ?_ (by simp [sizeLine_eq];omega) fun p2 hp2 => ?_
 ·rintro z hz τ ⟨x0,rfl⟩ R hR
  rw [List.mem_map] at hz
  obtain ⟨m,_,rfl⟩ := hz
  simp [gn3,o3,v3,iC]
  exact ⟨hw,hR _ ⟨_,rfl⟩⟩
 ·have := h p2 hp2
  simpa [List.map_map,Function.comp_def] using this
theorem rd_law_bits : ∀ ts G q,sp_law_bits ts G q → ts.length = 2∧t_law_bits sp_law_pick (ends q) (start3 ["_law_left_here","_law_most","_law_high","_law_low","_law_masks","_law_wide"] ts) G := by
 rintro ts G q ⟨a,n,most,rfl,hL,hn,m1,m2,h⟩
 refine ⟨rfl,?_⟩
 simp only [t_law_bits,seq3,par3,cons3,cb3,v3,start3,List.map_cons,List.map_nil,List.length_cons,List.length_nil,Nat.zero_add,Nat.reduceAdd,Nat.reduceSub,List.reduceReplicate,List.cons_append,List.nil_append,Nat.zero_lt_succ,getElem?_pos,List.getElem_cons_zero,o3,Nat.reduceLT,List.getElem_cons_succ,c3,cat3,nil3,asg3,List.set_cons_succ,List.set_cons_zero,gn3,lst3,sizeLine_eq,Nat.reduceLeDiff,ne_eq,ret3,tup3,tuple3,true_and,getL,gu,ixR,↓reduceIte]
 refine pick_i hL (by omega) (by omega) (by omega) fun hi G1 h1 h2 L1 E1 => ?_
 try simp
 refine pick_i L1 (by omega) (by omega) (by omega) fun lo G2 l1 l2 L2' E2 => ?_
 simp only [lc3,irng3,cons3,cb3,v3,List.length_cons,List.length_nil,Nat.zero_add,Nat.reduceAdd,Nat.zero_lt_succ,getElem?_pos,List.getElem_cons_zero,c3,nil3,Int.reducePow,Int.reduceNeg,cap,List.map_cons,Nat.lt_add_one,List.getElem_cons_succ,Option.join_some,List.map_nil]
 refine pick_i L2' (by omega) (by omega) (by omega) fun k G3 k1 k2 L3' E3 => ?_
 refine ⟨⟨by omega,by omega⟩,lc_picks (many := 256) (fun x0 G3 Q hq => by simpa [cb3,cons3,v3,c3,nil3] using hq) L3' (by omega) (by omega) (by rw [rng_len];omega) (by omega) fun ds G4 p e1 e2 L4 E4 hp => ?_⟩
 rw [rng_len] at e1 L4
 obtain ⟨H,rfl⟩ := Int.eq_ofNat_of_zero_le h1
 obtain ⟨W,rfl⟩ := Int.eq_ofNat_of_zero_le l1
 have hpa := L4.ne hp
 try simp
 intro p2 hp2
 have pp : p ≠ p2 := by rintro rfl;rw [gu_same] at hp2;cases hp2
 have e3 : ((H : Int) + (W : Int)) = ((H + W : Nat) : Int) := by omega
 have w1 := p2_pos (H + W)
 have hG : ∀ B,getL (gu (gu G4 p (.lst (ds.map T.int))) p2 B) p = some (ds.map T.int) := fun B => by simp only [getL,gu_ne pp,gu_same]
 rw [e3,atI_two9 (d := H + W) (by omega)]
 simp only [iseq3,v3,List.getElem?_cons_zero,List.getElem?_cons_succ,hG]
 refine masks_lc (by omega) (by omega) (hG _) fun p3 hp3 => ?_
 simp only [gu_same]
 refine h H W _ _ (by omega) (by omega) ⟨by omega,by omega,by simp;omega,fun m hm => ?_⟩ ((((L4.new hpa).new ((L4.new hpa).ne hp2)).new (((L4.new hpa).new ((L4.new hpa).ne hp2)).ne hp3)).mono (by omega)) (((E1.trans E2).trans (E3.trans E4)).trans (((ext_new hp).trans (ext_new hp2)).trans (ext_new hp3)))
 rw [List.mem_map] at hm
 obtain ⟨x,_,rfl⟩ := hm
 exact ⟨Int.emod_nonneg _ (by omega),Int.emod_lt_of_pos _ (by omega)⟩
end Bk
namespace Bk
open PySem L2 L3
structure Cells (cells : List (List Int)) (r c b : Int) : Prop where
 r : (cells.length : Int) = r
 c : ∀ row ∈ cells,(row.length : Int) = c∧∀ x ∈ row,0 ≤ x∧x < b
theorem table_lc {q : Q3} {a : Addr} {n r c b : Int} {x0 : Option T} {G : Gp} (hL : Lf G a n) (hn : n < 100000000) (r1 : 1 ≤ r) (r2 : r ≤ 16) (c1 : 1 ≤ c) (c2 : c ≤ 16) (b1 : 1 ≤ b) (b2 : b ≤ 1000)
  (h : ∀ cells G' p,Cells cells r c b → Lf G' a (n + 256) → Ext a G G' → G' p = none → q (.ref p) (gu G' p (.lst (cells.map rowT)))) :
  lcGo (fun _ => True) (gn3 0) tt3 (cb3 tuple3 (cons3 (lc3 (irng3 (cons3 (v3 3) nil3)) (gn3 0) tt3 (cb3 sp_law_pick (cons3 (v3 1) (cons3 (v3 2) nil3))) [none,some 1,some 2]) nil3)) q (rngT 0 r.toNat) [] [x0,some (.ref a),some (.int b),some (.int c)] G := by
 refine lcGo_inv _ (fun i ys τ G' => ∃ (cells : List (List Int)) (x0 : Option T),τ = [x0,some (.ref a),some (.int b),some (.int c)]∧ys = cells.map rowT∧Cells cells i c b∧Lf G' a (n + 16 * i)∧Ext a G G') ⟨[],x0,rfl,rfl,⟨rfl,by simp⟩,by simpa using hL,Ext.refl⟩ (fun _ _ _ _ _ _ => True.intro) ?_ ?_
 ·rintro i z ys τ G' R hz ⟨cells,x0,rfl,rfl,C,hL',E⟩ hR
  obtain ⟨hi,rfl⟩ := rng_get hz
  have hc := C.r
  simp only [gn3,tt3,↓reduceIte,cb3,cons3,lc3,irng3,v3,Int.zero_add,List.set_cons_zero,List.length_cons,List.length_nil,Nat.zero_add,Nat.reduceAdd,Nat.lt_add_one,getElem?_pos,List.getElem_cons_succ,List.getElem_cons_zero,nil3,Int.reducePow,Int.reduceNeg,tuple3,List.length_map,sizeLine_eq,getL,cap,List.map_cons,Nat.reduceLT,Option.join_some,List.map_nil]
  refine ⟨⟨by omega,by omega⟩,lc_picks (many := b) (fun x0 G3 Q hq => by simpa [cb3,cons3,v3,c3,nil3] using hq) hL' (by omega) (by omega) (by rw [rng_len];omega) (by omega) fun ds G4 p e1 e2 L4 E4 hp => ?_⟩
  rw [rng_len] at e1 L4
  simp only [gu_same]
  refine ⟨by omega,hR _ _ _ ⟨cells ++ [ds],_,rfl,by simp [rowT],⟨by simp;omega,fun row hrow => ?_⟩,((L4.new (L4.ne hp)).mono (by omega)),(E.trans E4).trans (ext_new hp)⟩⟩
  rcases List.mem_append.mp hrow with hr | hr
  ·exact C.c row hr
  ·simp at hr;subst hr;exact ⟨by omega,e2⟩
 ·rintro ys τ G' ⟨cells,x0,rfl,rfl,C,hL',E⟩ p hp
  rw [rng_len] at C hL'
  exact h cells G' p ⟨by have := C.r;omega,C.c⟩ (hL'.mono (by omega)) E hp
theorem Cells.ok {cells : List (List Int)} {r c b : Int} (C : Cells cells r c b) (r1 : 1 ≤ r) (r2 : r ≤ 60) (c1 : 1 ≤ c) (c2 : c ≤ 60) (b1 : 1 ≤ b) (b2 : b ≤ 1000) : (Dl.table b cells).Ok∧(Dl.table b cells).R = r∧(Dl.table b cells).C = c := by
 have hl := C.r
 have ok : (Dl.table b cells).Ok := ⟨b1,b2,by omega,by omega,c.toNat,by omega,by omega,fun row hr => ⟨by have := (C.c row hr).1;omega,(C.c row hr).2⟩⟩
 have e0 : cells[0]? = some cells[0] := List.getElem?_eq_getElem (by omega)
 exact ⟨ok,hl,by simp [Dl.C,e0];exact (C.c cells[0] (List.getElem_mem _)).1⟩
noncomputable def sp_law_small : Sp3 := fun ts G q => ∃ a n,ts = [.ref a]∧Lf G a n∧n < 10000000∧∀ (d : Dl) G',Dr d 4 4 5 → d.dep = 0 → Lf G' a (n + 300) → Ext a G G' → q d.t G'
theorem rd_law_small : ∀ ts G q,sp_law_small ts G q → ts.length = 1∧t_law_small sp_law_pick sp_law_gcd (ends q) (start3 ["_law_left_here","_law_rows","_law_columns","_law_banks","_law_way","_law_high","_law_low","_law_masks","_law_wide","_law_places","_law_turn","_law_cells"] ts) G := by
 rintro ts G q ⟨a,n,rfl,hL,hn,h⟩
 refine ⟨rfl,?_⟩
 unfold t_law_small
 refine seq_i fun nx1 q1 => ?_
 simp only [asg3,tup3,cons3,o3,c3,cb3,v3,start3,List.map_cons,List.map_nil,List.length_cons,List.length_nil,Nat.zero_add,Nat.reduceAdd,Nat.add_one_sub_one,List.reduceReplicate,List.cons_append,List.nil_append,Nat.zero_lt_succ,getElem?_pos,List.getElem_cons_zero,nil3,cat3,ne_eq,sizeLine_eq,Nat.reduceLeDiff,gtup3,gcons3,gn3,gnil3,List.set_cons_succ,List.set_cons_zero,true_and]
 refine pick_i hL (by omega) (by omega) (by omega) fun r G1 r1 r2 L1 E1 => ?_
 try simp
 refine pick_i L1 (by omega) (by omega) (by omega) fun c G2 c1 c2 L2' E2 => ?_
 try simp
 refine pick_i L2' (by omega) (by omega) (by omega) fun b G3 b1 b2 L3' E3 => ?_
 try simp
 rw [q1]
 refine seq_i fun nx2 q2 => ?_
 simp only [asg3,cb3,cons3,v3,List.length_cons,List.length_nil,Nat.zero_add,Nat.reduceAdd,Nat.zero_lt_succ,getElem?_pos,List.getElem_cons_zero,c3,nil3,gn3,List.set_cons_succ,List.set_cons_zero]
 refine pick_i L3' (by omega) (by omega) (by omega) fun way G4 w1 w2 L4 E4 => ?_
 have EE := (E1.trans E2).trans (E3.trans E4)
 rw [q2]
 refine seq_i fun nx3 q3 => ?_
 by_cases k0 : way = 0
 ·subst k0
  simp only [ifS3,tb3,o3,v3,List.length_cons,List.length_nil,Nat.zero_add,Nat.reduceAdd,Nat.reduceLT,getElem?_pos,List.getElem_cons_succ,List.getElem_cons_zero,c3,eqA3,scalT,decide_true,Bool.false_eq_true,↓reduceIte,ret3,tup3,cons3,cb3,Nat.zero_lt_succ,nil3,sizeLine_eq,Nat.reduceLeDiff,true_and]
  refine pick_i L4 (by omega) (by omega) (by omega) fun x G5 x1 x2 L5 E5 => ?_
  try simp
  refine pick_i L5 (by omega) (by omega) (by omega) fun y G6 y1 y2 L6 E6 => ?_
  try simp
  exact h (.skew (1 + r) (1 + c) (1 + b) x y) G6 ⟨⟨by omega,by omega,by omega,by omega,by omega,by omega,by omega,by omega,by omega,by omega⟩,by show 1 + r ≤ 4;omega,by show 1 + c ≤ 4;omega,by show 1 + b ≤ 5;omega⟩ rfl (L6.mono (by omega)) (EE.trans (E5.trans E6))
 simp only [ifS3,tb3,o3,v3,c3,eqA3,scalT,List.getElem?_cons_zero,List.getElem?_cons_succ,k0,decide_false,Bool.false_eq_true,if_false,next3]
 rw [q3]
 refine seq_i fun nx4 q4 => ?_
 by_cases k1 : way = 1
 ·subst k1
  simp only [ifS3,tb3,o3,v3,List.length_cons,List.length_nil,Nat.zero_add,Nat.reduceAdd,Nat.reduceLT,getElem?_pos,List.getElem_cons_succ,List.getElem_cons_zero,c3,eqA3,scalT,decide_true,Bool.false_eq_true,↓reduceIte,seq3,par3,cons3,cb3,Nat.zero_lt_succ,nil3,asg3,List.set_cons_succ,List.set_cons_zero,gn3,lst3,sizeLine_eq,Nat.reduceLeDiff,cat3,ne_eq,ret3,tup3,tuple3,true_and,getL,gu,ixR]
  refine pick_i L4 (by omega) (by omega) (by omega) fun hi G5 h1 h2 L5 E5 => ?_
  try simp
  refine pick_i L5 (by omega) (by omega) (by omega) fun lo G6 l1 l2 L6 E6 => ?_
  simp only [lc3,irng3,cons3,cb3,v3,List.length_cons,List.length_nil,Nat.zero_add,Nat.reduceAdd,Nat.zero_lt_succ,getElem?_pos,List.getElem_cons_zero,c3,nil3,Int.reducePow,Int.reduceNeg,cap,List.map_cons,Nat.reduceLT,List.getElem_cons_succ,Option.join_some,List.map_nil]
  refine pick_i L6 (by omega) (by omega) (by omega) fun k G7 k1 k2 L7 E7 => ?_
  refine ⟨⟨by omega,by omega⟩,lc_picks (many := 16) (fun x0 G3 Q hq => by simpa [cb3,cons3,v3,c3,nil3] using hq) L7 (by omega) (by omega) (by rw [rng_len];omega) (by omega) fun ds G8 p e1 e2 L8 E8 hp => ?_⟩
  rw [rng_len] at e1 L8
  obtain ⟨H,rfl⟩ := Int.eq_ofNat_of_zero_le h1
  obtain ⟨W,rfl⟩ := Int.eq_ofNat_of_zero_le l1
  have hpa := L8.ne hp
  try simp
  intro p2 hp2
  have pp : p ≠ p2 := by rintro rfl;rw [gu_same] at hp2;cases hp2
  have e3 : ((H : Int) + (W : Int)) = ((H + W : Nat) : Int) := by omega
  have w1 := p2_pos (H + W)
  have hG : ∀ B,getL (gu (gu G8 p (.lst (ds.map T.int))) p2 B) p = some (ds.map T.int) := fun B => by simp only [getL,gu_ne pp,gu_same]
  rw [e3,atI_two5 (d := H + W) (by omega)]
  simp only [iseq3,v3,List.getElem?_cons_zero,List.getElem?_cons_succ,hG]
  refine masks_lc (by omega) (by omega) (hG _) fun p3 hp3 => ?_
  simp only [gu_same]
  have bl : (Dl.bits H W (ds.map (· % 2 ^ (H + W)))).Ok := ⟨by omega,by omega,by simp;omega,fun m hm => by
   rw [List.mem_map] at hm
   obtain ⟨x,_,rfl⟩ := hm
   exact ⟨Int.emod_nonneg _ (by omega),Int.emod_lt_of_pos _ (by omega)⟩⟩
  have q1 := p2_le (n := H) (k := 2) (by omega)
  have q2 := p2_le (n := W) (k := 2) (by omega)
  have q3 := p2_le (n := ds.length) (k := 2) (by omega)
  exact h (.bits H W _) _ ⟨bl,by show (2 : Int) ^ H ≤ 4;omega,by show (2 : Int) ^ W ≤ 4;omega,by simp [Dl.B];omega⟩ rfl ((((L8.new hpa).new ((L8.new hpa).ne hp2)).new (((L8.new hpa).new ((L8.new hpa).ne hp2)).ne hp3)).mono (by omega)) (EE.trans (((E5.trans E6).trans (E7.trans E8)).trans (((ext_new hp).trans (ext_new hp2)).trans (ext_new hp3))))
 simp only [ifS3,tb3,o3,v3,c3,eqA3,scalT,List.getElem?_cons_zero,List.getElem?_cons_succ,k1,decide_false,Bool.false_eq_true,if_false,next3]
 rw [q4]
 refine seq_i fun nx5 q5 => ?_
 by_cases k2 : way = 2
 ·subst k2
  simp only [ifS3,tb3,o3,v3,List.length_cons,List.length_nil,Nat.zero_add,Nat.reduceAdd,Nat.reduceLT,getElem?_pos,List.getElem_cons_succ,List.getElem_cons_zero,c3,eqA3,scalT,decide_true,Bool.false_eq_true,↓reduceIte,seq3,asg3,u3,neg3,iC,cb3,cons3,Nat.zero_lt_succ,nil3,cat3,ne_eq,sizeLine_eq,gn3,List.set_cons_succ,List.set_cons_zero]
  refine ⟨cm (by omega) (by omega),⟨by omega,by omega⟩,pick_i L4 (by omega) (by omega) (by omega) fun e G5 e1 e2 L5 E5 => ?_⟩
  obtain ⟨u1,u2,u3⟩ := up_div (show 1 ≤ 1 + r by omega) (show 1 ≤ 1 + c by omega) (show 1 ≤ 1 + b by omega)
  have rc : (1 + r) * (1 + c) ≤ 4 * 4 := Int.mul_le_mul (by omega) (by omega) (by omega) (by omega)
  simp only [for3,irng3,cons3,c3,nil3,Int.reducePow,Int.reduceNeg,Int.neg_ofNat_le_ofNat,Int.reduceLT,and_self,Int.reduceToNat,true_and]
  obtain ⟨p0,hp0⟩ : ∃ p0,p0 = -(-(1 + r) * (1 + c) / (1 + b)) + e := ⟨_,rfl⟩
  refine forGo_inv _ (fun i τ G' => G' = G5∧∃ (pl : Int) (x : Option T),τ = [some (.ref a),some (.int (1 + r)),some (.int (1 + c)),some (.int (1 + b)),some (.int 2),none,none,none,none,some (.int pl),x,none]∧Plc (1 + b) p0 pl i) ⟨rfl,_,none,by rw [← hp0],⟨by omega,by omega,.inr ⟨by omega,by omega⟩⟩⟩ (fun _ _ _ _ _ => True.intro) ?_ ?_
  ·rintro i x τ G' nx hx ⟨rfl,pl,y,rfl,P⟩ hn
   simp only [gn3,ifS3,tb3,o3,cb3,cons3,v3,List.set_cons_succ,List.set_cons_zero,List.length_cons,List.length_nil,Nat.zero_add,Nat.reduceAdd,Nat.reduceLT,getElem?_pos,List.getElem_cons_succ,List.getElem_cons_zero,nil3,c3,iB,decide_eq_true_eq,asg3,cat3,next3]
   refine ⟨1 + b,pl,rfl,by omega,by have := P.lo;omega,?_⟩
   simp
   split
   ·exact hn _ _ ⟨rfl,_,_,rfl,P.next (by omega) (by omega) (by omega)⟩
   ·exact hn _ _ ⟨rfl,_,_,rfl,P.stay (by omega) (by omega) (by omega)⟩
  ·rintro τ G' ⟨rfl,pl,x,rfl,P⟩
   simp only [ret3,tup3,cons3,c3,v3,List.length_cons,List.length_nil,Nat.zero_add,Nat.reduceAdd,Nat.reduceLT,getElem?_pos,List.getElem_cons_succ,List.getElem_cons_zero,nil3,sizeLine_eq,Nat.reduceLeDiff,true_and]
   rw [rng_len] at P
   have lo := P.lo;have hi := P.hi
   have m1 : (1 + b) * -(-(1 + r) * (1 + c) / (1 + b)) ≤ (1 + b) * pl := Int.mul_le_mul_of_nonneg_left (by omega) (by omega)
   exact h (.rests (1 + r) (1 + c) (1 + b) pl) G' ⟨⟨by omega,by omega,by omega,by omega,by omega,by omega,by omega,by omega,P.done (by omega) (by omega),by omega⟩,by show 1 + r ≤ 4;omega,by show 1 + c ≤ 4;omega,by show 1 + b ≤ 5;omega⟩ rfl (L5.mono (by omega)) (EE.trans E5)
 ·simp only [ifS3,tb3,o3,v3,c3,eqA3,scalT,List.getElem?_cons_zero,List.getElem?_cons_succ,k2,decide_false,Bool.false_eq_true,if_false,next3]
  rw [q5]
  simp only [seq3,asg3,lc3,irng3,cons3,v3,List.length_cons,List.length_nil,Nat.zero_add,Nat.reduceAdd,Nat.reduceLT,getElem?_pos,List.getElem_cons_succ,List.getElem_cons_zero,nil3,Int.reducePow,Int.reduceNeg,gn3,ret3,tup3,c3,List.set_cons_succ,List.set_cons_zero,cb3,Nat.lt_add_one,tuple3,sizeLine_eq,Nat.reduceLeDiff,true_and,getL,cap,List.map_cons,Nat.zero_lt_succ,Option.join_some,List.map_nil]
  refine ⟨⟨by omega,by omega⟩,table_lc L4 (by omega) (by omega) (by omega) (by omega) (by omega) (by omega) (by omega) fun cells G5 p C L5 E5 hp => ?_⟩
  obtain ⟨ok,eR,eC⟩ := C.ok (by omega) (by omega) (by omega) (by omega) (by omega) (by omega)
  simp only [gu_same]
  exact h (.table (1 + b) cells) _ ⟨ok,by omega,by omega,by show 1 + b ≤ 5;omega⟩ rfl ((L5.new (L5.ne hp)).mono (by omega)) (EE.trans (E5.trans (ext_new hp)))
end Bk
namespace Bk
open PySem L2 L3
noncomputable def sp_law_table : Sp3 := fun ts G q => ∃ a n,ts = [.ref a]∧Lf G a n∧n < 10000000∧∀ (b : Int) cells r c G',Cells cells r c b → Dr (.table b cells) 16 16 32 → (Dl.table b cells).R = r → (Dl.table b cells).C = c → Lf G' a (n + 300) → Ext a G G' → q (Dl.table b cells).t G'
theorem rd_law_table : ∀ ts G q,sp_law_table ts G q → ts.length = 1∧t_law_table sp_law_sides sp_law_pick (ends q) (start3 ["_law_left_here","_law_rows","_law_columns","_law_banks","_law_cells"] ts) G := by
 rintro ts G q ⟨a,n,rfl,hL,hn,h⟩
 refine ⟨rfl,?_⟩
 simp only [t_law_table,seq3,asg3,cb3,cons3,v3,start3,List.map_cons,List.map_nil,List.length_cons,List.length_nil,Nat.zero_add,Nat.reduceAdd,Nat.add_one_sub_one,List.reduceReplicate,List.cons_append,List.nil_append,Nat.zero_lt_succ,getElem?_pos,List.getElem_cons_zero,nil3,gtup3,gcons3,gn3,gnil3,o3,c3,List.set_cons_succ,List.set_cons_zero,lst3,sizeLine_eq,Nat.reduceLeDiff,cat3,ne_eq,ret3,tup3,Nat.reduceLT,List.getElem_cons_succ,Nat.lt_add_one,tuple3,true_and,getL]
 refine ⟨a,n,rfl,hL,by omega,fun r c G1 r1 r2 c1 c2 L1 E1 => ?_⟩
 simp
 intro p hp
 have hpa := L1.ne hp
 refine pick_i (L1.new hpa) (by omega) (by omega) (by omega) fun d G2 d1 d2 L2' E2 => ?_
 have g2 := E2 p _ hpa gu_same
 obtain ⟨w,hw,w',rfl,w1,w2⟩ := idx3 d1 d2 (P := fun t => ∃ w,t = T.int w∧1 ≤ w∧w ≤ 32) ⟨4,rfl,by omega,by omega⟩ ⟨9,rfl,by omega,by omega⟩ ⟨32,rfl,by omega,by omega⟩
 simp only [ixR,getL,g2,hw]
 refine pick_i L2' w1 (by omega) (by omega) fun b G3 b1 b2 L3' E3 => ?_
 simp only [lc3,irng3,cons3,v3,List.length_cons,List.length_nil,Nat.zero_add,Nat.reduceAdd,Nat.reduceLT,getElem?_pos,List.getElem_cons_succ,List.getElem_cons_zero,nil3,Int.reducePow,Int.reduceNeg,cap,List.map_cons,Nat.zero_lt_succ,Option.join_some,List.map_nil]
 refine ⟨⟨by omega,by omega⟩,table_lc L3' (by omega) (by omega) (by omega) (by omega) (by omega) (by omega) (by omega) fun cells G5 p C L5 E5 hp5 => ?_⟩
 obtain ⟨ok,eR,eC⟩ := C.ok (by omega) (by omega) (by omega) (by omega) (by omega) (by omega)
 simp only [gu_same]
 exact h (1 + b) cells r c _ C ⟨ok,by omega,by omega,by show 1 + b ≤ 32;omega⟩ eR eC ((L5.new (L5.ne hp5)).mono (by omega)) (E1.trans (((ext_new hp).trans E2).trans (E3.trans (E5.trans (ext_new hp5)))))
theorem mul_le2 {a b x y : Int} (h0 : 1 ≤ a) (h1 : a ≤ x) (h2 : 1 ≤ b) (h3 : b ≤ y) : a * b ≤ x * y := Int.mul_le_mul h1 h3 (by omega) (by omega)
theorem Dr.join {d e : Dl} {r c b r' c' b' : Int} (D : Dr d r c b) (E : Dr e r' c' b') (h1 : r * r' ≤ 4096) (h2 : c * c' ≤ 4096) (h3 : b * b' ≤ 4096) : Dr (.joined d e) (r * r') (c * c') (b * b') := by
 have Ld := Dl.lims D.ok
 have Le := Dl.lims E.ok
 have a1 := mul_le2 Ld.r1 D.r2 Le.r1 E.r2
 have a2 := mul_le2 Ld.c1 D.c2 Le.c1 E.c2
 have a3 := mul_le2 Ld.b1 D.b2 Le.b1 E.b2
 exact ⟨⟨D.ok,E.ok,by omega,by omega,by omega⟩,a1,a2,a3⟩
theorem Dr.mono {d : Dl} {r c b r' c' b' : Int} (D : Dr d r c b) (h1 : r ≤ r') (h2 : c ≤ c') (h3 : b ≤ b') : Dr d r' c' b' := ⟨D.ok,by have := D.r2;omega,by have := D.c2;omega,by have := D.b2;omega⟩
noncomputable def sp_law_dealing : Sp3 := fun ts G q => ∃ a n,ts = [.ref a]∧Lf G a n∧n < 1000000∧∀ (d : Dl) G',Dr d 16 16 32 → d.dep ≤ 2 → Lf G' a (n + 1000) → Ext a G G' → q d.t G'
theorem inner_ok {x : Int} (h0 : 0 ≤ x) (h1 : x < 2) : Dr (.joined (.skew (1 + x) 1 2 1 1) (.table 2 [[1,0]])) 2 2 4 := by
 have a : Dr (.skew (1 + x) 1 2 1 1) 2 1 2 := ⟨⟨by omega,by omega,by omega,by omega,by omega,by omega,by omega,by omega,by omega,by omega⟩,by show 1 + x ≤ 2;omega,Int.le_refl 1,Int.le_refl 2⟩
 have b : Dr (.table 2 [[1,0]]) 1 2 2 := ⟨⟨by decide,by decide,by decide,by decide,2,by decide,by decide,by simp⟩,by decide,by decide,by decide⟩
 exact (a.join b (by decide) (by decide) (by decide)).mono (by decide) (by decide) (by decide)
theorem fix1 : Dr (.joined (.skew 8 1 3 1 1) (.rests 2 16 5 7)) 16 16 15 := by
 have a : Dr (.skew 8 1 3 1 1) 8 1 3 := ⟨⟨by decide,by decide,by decide,by decide,by decide,by decide,by decide,by decide,by decide,by decide⟩,by decide,by decide,by decide⟩
 have b : Dr (.rests 2 16 5 7) 2 16 5 := ⟨⟨by decide,by decide,by decide,by decide,by decide,by decide,by decide,by decide,by decide,by decide⟩,by decide,by decide,by decide⟩
 exact (a.join b (by decide) (by decide) (by decide)).mono (by decide) (by decide) (by decide)
theorem fix2 : Dr (.joined (.rests 1 8 3 4) (.skew 16 2 5 2 1)) 16 16 15 := by
 have a : Dr (.rests 1 8 3 4) 1 8 3 := ⟨⟨by decide,by decide,by decide,by decide,by decide,by decide,by decide,by decide,by decide,by decide⟩,by decide,by decide,by decide⟩
 have b : Dr (.skew 16 2 5 2 1) 16 2 5 := ⟨⟨by decide,by decide,by decide,by decide,by decide,by decide,by decide,by decide,by decide,by decide⟩,by decide,by decide,by decide⟩
 exact (a.join b (by decide) (by decide) (by decide)).mono (by decide) (by decide) (by decide)
theorem rd_law_dealing : ∀ ts G q,sp_law_dealing ts G q → ts.length = 1∧t_law_dealing sp_law_pick sp_law_skew sp_law_rests sp_law_bits sp_law_table sp_law_small (ends q) (start3 ["_law_left_here","_law_way","_law_inner","_law_some"] ts) G := by
 rintro ts G q ⟨a,n,rfl,hL,hn,h⟩
 refine ⟨rfl,?_⟩
 unfold t_law_dealing
 refine seq_i fun nx1 q1 => ?_
 simp only [asg3,cb3,cons3,v3,start3,List.map_cons,List.map_nil,List.length_cons,List.length_nil,Nat.zero_add,Nat.reduceAdd,Nat.add_one_sub_one,List.reduceReplicate,List.cons_append,List.nil_append,Nat.zero_lt_succ,getElem?_pos,List.getElem_cons_zero,c3,nil3,gn3,List.set_cons_succ,List.set_cons_zero]
 refine pick_i hL (by omega) (by omega) (by omega) fun w G1 w1 w2 L1 E1 => ?_
 try simp
 rw [q1]
 clear q1
 refine seq_i fun nx2 q2 => ?_
 by_cases k0 : w < 2
 ·simp only [ifS3,tb3,o3,v3,List.length_cons,List.length_nil,Nat.zero_add,Nat.reduceAdd,Nat.reduceLT,getElem?_pos,List.getElem_cons_succ,List.getElem_cons_zero,c3,iB,k0,decide_true,↓reduceIte,ret3,cb3,cons3,Nat.zero_lt_succ,nil3]
  exact ⟨a,n + 1,rfl,L1,by omega,fun r c b x y G2 D L2' E2 => h _ G2 D (Nat.zero_le _) (L2'.mono (by omega)) (E1.trans E2)⟩
 simp only [ifS3,tb3,o3,v3,c3,iB,List.getElem?_cons_zero,List.getElem?_cons_succ,k0,decide_false,Bool.false_eq_true,if_false,next3]
 rw [q2]
 clear q2
 refine seq_i fun nx3 q3 => ?_
 by_cases k1 : w = 2
 ·subst k1
  simp only [ifS3,tb3,o3,v3,List.length_cons,List.length_nil,Nat.zero_add,Nat.reduceAdd,Nat.reduceLT,getElem?_pos,List.getElem_cons_succ,List.getElem_cons_zero,c3,eqA3,scalT,decide_true,Bool.false_eq_true,↓reduceIte,ret3,cb3,cons3,Nat.zero_lt_succ,nil3]
  exact ⟨a,n + 1,rfl,L1,by omega,fun r c b p G2 D L2' E2 => h _ G2 D (Nat.zero_le _) (L2'.mono (by omega)) (E1.trans E2)⟩
 simp only [ifS3,tb3,o3,v3,c3,eqA3,scalT,List.getElem?_cons_zero,List.getElem?_cons_succ,k1,decide_false,Bool.false_eq_true,if_false,next3]
 rw [q3]
 clear q3
 refine seq_i fun nx4 q4 => ?_
 by_cases k2 : w = 3
 ·subst k2
  simp only [ifS3,tb3,o3,v3,List.length_cons,List.length_nil,Nat.zero_add,Nat.reduceAdd,Nat.reduceLT,getElem?_pos,List.getElem_cons_succ,List.getElem_cons_zero,c3,eqA3,scalT,decide_true,Bool.false_eq_true,↓reduceIte,ret3,cb3,cons3,Nat.zero_lt_succ,nil3]
  refine ⟨a,n + 1,4,rfl,L1,by omega,by omega,by omega,fun hh l ms G2 h1 h2 ok L2' E2 => h _ G2 ⟨ok,?_,?_,?_⟩ (Nat.zero_le _) (L2'.mono (by omega)) (E1.trans E2)⟩
  ·have := p2_le (n := hh) (k := 4) (by omega);show (2 : Int) ^ hh ≤ 16;omega
  ·have := p2_le (n := l) (k := 4) (by omega);show (2 : Int) ^ l ≤ 16;omega
  ·have := p2_le ok.2.2.1;show (2 : Int) ^ ms.length ≤ 32;omega
 simp only [ifS3,tb3,o3,v3,c3,eqA3,scalT,List.getElem?_cons_zero,List.getElem?_cons_succ,k2,decide_false,Bool.false_eq_true,if_false,next3]
 rw [q4]
 clear q4
 refine seq_i fun nx5 q5 => ?_
 by_cases k3 : w = 4
 ·subst k3
  simp only [ifS3,tb3,o3,v3,List.length_cons,List.length_nil,Nat.zero_add,Nat.reduceAdd,Nat.reduceLT,getElem?_pos,List.getElem_cons_succ,List.getElem_cons_zero,c3,eqA3,scalT,decide_true,Bool.false_eq_true,↓reduceIte,ret3,cb3,cons3,Nat.zero_lt_succ,nil3]
  exact ⟨a,n + 1,rfl,L1,by omega,fun b cells r c G2 C D eR eC L2' E2 => h _ G2 D (Nat.zero_le _) (L2'.mono (by omega)) (E1.trans E2)⟩
 simp only [ifS3,tb3,o3,v3,c3,eqA3,scalT,List.getElem?_cons_zero,List.getElem?_cons_succ,k3,decide_false,Bool.false_eq_true,if_false,next3]
 rw [q5]
 clear q5
 refine seq_i fun nx6 q6 => ?_
 by_cases k4 : w = 5
 ·subst k4
  simp only [ifS3,tb3,o3,v3,List.length_cons,List.length_nil,Nat.zero_add,Nat.reduceAdd,Nat.reduceLT,getElem?_pos,List.getElem_cons_succ,List.getElem_cons_zero,c3,eqA3,scalT,decide_true,Bool.false_eq_true,↓reduceIte,seq3,asg3,tup3,cons3,cb3,Nat.zero_lt_succ,nil3,cat3,ne_eq,sizeLine_eq,Nat.reduceLeDiff,gn3,lst3,List.set_cons_succ,List.set_cons_zero,drop3,bm3,Nat.lt_add_one,getL,gu,Option.isSome_some,app3,List.cons_append,List.nil_append,ret3,true_and]
  refine pick_i L1 (by omega) (by omega) (by omega) fun x G2 x1 x2 L2' E2 => ?_
  have I := inner_ok x1 x2
  try simp
  refine ⟨a,n + 1 + 1,rfl,L2',by omega,fun d G3 Dd dd L3' E3 => ?_⟩
  try simp
  refine ⟨a,n + 1 + 1 + 300,rfl,L3',by omega,fun e G4 De de L4 E4 => ?_⟩
  try simp
  intro p hp
  have hpa := L4.ne hp
  refine pick_i (((L4.new hpa).new hpa).new hpa) (by omega) (by omega) (by omega) fun k G5 k1 k2 L5 E5 => ?_
  have g5 := E5 p _ hpa gu_same
  have EE : Ext a G G5 := (E1.trans E2).trans ((E3.trans E4).trans (Ext.trans (fun b o hb e => by
   have hbp : b ≠ p := by rintro rfl;rw [hp] at e;cases e
   rw [gu_ne hbp,gu_ne hbp,gu_ne hbp];exact e) E5))
  have P1 : ∃ d' : Dl,(Dl.joined (.joined (.skew (1 + x) 1 2 1 1) (.table 2 [[1,0]])) d).t = d'.t∧Dr d' 16 16 32∧d'.dep ≤ 2 := ⟨_,rfl,(I.join Dd (by decide) (by decide) (by decide)).mono (by decide) (by decide) (by decide),by simp [Dl.dep,dd]⟩
  have P2 : ∃ d' : Dl,(Dl.joined e (.joined (.skew (1 + x) 1 2 1 1) (.table 2 [[1,0]]))).t = d'.t∧Dr d' 16 16 32∧d'.dep ≤ 2 := ⟨_,rfl,(De.join I (by decide) (by decide) (by decide)).mono (by decide) (by decide) (by decide),by simp [Dl.dep,de]⟩
  have P3 : ∃ d' : Dl,(Dl.joined (.skew 8 1 3 1 1) (.rests 2 16 5 7)).t = d'.t∧Dr d' 16 16 32∧d'.dep ≤ 2 := ⟨_,rfl,fix1.mono (by decide) (by decide) (by decide),by simp [Dl.dep]⟩
  have P4 : ∃ d' : Dl,(Dl.joined (.rests 1 8 3 4) (.skew 16 2 5 2 1)).t = d'.t∧Dr d' 16 16 32∧d'.dep ≤ 2 := ⟨_,rfl,fix2.mono (by decide) (by decide) (by decide),by simp [Dl.dep]⟩
  obtain ⟨t,ht,d',rfl,D',dl⟩ := idx4 k1 k2 (P := fun t => ∃ d' : Dl,t = d'.t∧Dr d' 16 16 32∧d'.dep ≤ 2) P1 P2 P3 P4
  have hg : getL G5 p = some [(Dl.joined (.joined (.skew (1 + x) 1 2 1 1) (.table 2 [[1,0]])) d).t,(Dl.joined e (.joined (.skew (1 + x) 1 2 1 1) (.table 2 [[1,0]]))).t,(Dl.joined (.skew 8 1 3 1 1) (.rests 2 16 5 7)).t,(Dl.joined (.rests 1 8 3 4) (.skew 16 2 5 2 1)).t] := by
   unfold getL;rw [g5];rfl
  rw [L3.ixR,hg]
  simp only [ht]
  exact h d' G5 D' dl (L5.mono (by omega)) EE
 ·simp only [ifS3,tb3,o3,v3,c3,eqA3,scalT,List.getElem?_cons_zero,List.getElem?_cons_succ,k4,decide_false,Bool.false_eq_true,if_false,next3]
  rw [q6]
  simp only [ret3,tup3,cons3,c3,cb3,v3,List.length_cons,List.length_nil,Nat.zero_add,Nat.reduceAdd,Nat.zero_lt_succ,getElem?_pos,List.getElem_cons_zero,nil3,sizeLine_eq,Nat.reduceLeDiff,true_and]
  refine ⟨a,n + 1,rfl,L1,by omega,fun d G3 Dd dd L3' E3 => ?_⟩
  refine ⟨a,n + 1 + 300,rfl,L3',by omega,fun e G4 De de L4 E4 => ?_⟩
  try simp
  exact h (.joined d e) G4 ((Dd.join De (by decide) (by decide) (by decide)).mono (by decide) (by decide) (by decide)) (by simp [Dl.dep];omega) (L4.mono (by omega)) (E1.trans (E3.trans E4))
end Bk
namespace Bk
open PySem L2 L3
end Bk
namespace Bk
open PySem L2 L3
structure SD (k n : Nat) (d : PyData) : Prop where
 sh : d.showable = true
 nd : d.hasDict = false
 dp : d.depth ≤ k
 lv : d.leavesShort 13 = true
 bk : d.bulk ≤ n
theorem SD.ok {k n : Nat} {d : PyData} (h : SD k n d) (hk : k ≤ 40) (hn : n ≤ 2 ^ 20) : ShOk d := ⟨h.sh,h.nd,Nat.le_trans h.dp hk,h.lv,Nat.le_trans h.bk hn⟩
theorem SD.w {k n : Nat} {d : PyData} (h : SD k n d) (hk : k ≤ 40) (hn : n ≤ 2 ^ 20) : ShW d := (h.ok hk hn).w
theorem SD.mono {k n k' n' : Nat} {d : PyData} (h : SD k n d) (hk : k ≤ k') (hn : n ≤ n') : SD k' n' d := ⟨h.sh,h.nd,Nat.le_trans h.dp hk,h.lv,Nat.le_trans h.bk hn⟩
theorem sd_int (k n : Nat) {i : Int} (h : -1000000 ≤ i∧i ≤ 1000000) : SD k n (.int i) := by
 refine ⟨?_,rfl,Nat.zero_le _,?_,Nat.zero_le _⟩
 ·simp only [PyData.showable]
  have : i.natAbs < 2 ^ 20 := by omega
  have h2 : i.natAbs.log2 < 20 ∨ i.natAbs = 0 := by
   rcases Nat.eq_zero_or_pos i.natAbs with z | z
   ·exact .inr z
   ·exact .inl ((Nat.log2_lt (by omega)).mpr this)
  rcases h2 with h2 | h2
  ·simp;omega
  ·simp [h2]
 ·have := PyProof.Rows.intsShortAll_ints2 [i] (by intro n hn;simp at hn;subst hn;omega)
  simpa [PyData.intsShortAll,PyData.intsShort,PyData.leavesShort] using this
theorem sd_str (k n : Nat) {x : Str} (h : x.cps.size ≤ n) (hc : (x.cps.toList.all fun c => decide (c < 16 ^ 8)) = true) : SD k n (.str x) := ⟨rfl,rfl,Nat.zero_le _,hc,h⟩
structure SDs (k n : Nat) (ds : List PyData) : Prop where
 sh : PyData.showableAll ds = true
 nd : PyData.hasDictAll ds = false
 dp : PyData.depthAll ds ≤ k
 lv : PyData.leavesShortAll 13 ds = true
 bk : PyData.bulkAll ds ≤ n
theorem sds_nil (k n : Nat) : SDs k n [] := ⟨rfl,rfl,Nat.zero_le _,rfl,Nat.zero_le _⟩
theorem sds_cons {k n m s : Nat} {d : PyData} {ds : List PyData} (h : SD k n d) (t : SDs k m ds) (hs : n + 1 + m ≤ s) : SDs k s (d :: ds) := by
 refine ⟨?_,?_,?_,?_,?_⟩
 ·simp [PyData.showableAll,h.sh,t.sh]
 ·simp [PyData.hasDictAll,h.nd,t.nd]
 ·simp only [PyData.depthAll];exact Nat.max_le.mpr ⟨h.dp,t.dp⟩
 ·simp [PyData.leavesShortAll,h.lv,t.lv]
 ·simp only [PyData.bulkAll];have := h.bk;have := t.bk;omega
theorem sd_tuple {k n : Nat} {ds : List PyData} (t : SDs k n ds) : SD (k + 1) n (.tuple ds) := by
 refine ⟨?_,?_,?_,?_,?_⟩
 ·simpa [PyData.showable] using t.sh
 ·simpa [PyData.hasDict] using t.nd
 ·simp only [PyData.depth];have := t.dp;omega
 ·simpa [PyData.leavesShort] using t.lv
 ·simp only [PyData.bulk];exact t.bk
theorem sd_list {k n : Nat} {ds : List PyData} (t : SDs k n ds) : SD (k + 1) n (.list ds) := by
 refine ⟨?_,?_,?_,?_,?_⟩
 ·simpa [PyData.showable] using t.sh
 ·simpa [PyData.hasDict] using t.nd
 ·simp only [PyData.depth];have := t.dp;omega
 ·simpa [PyData.leavesShort] using t.lv
 ·simp only [PyData.bulk];exact t.bk
theorem sds_all {k n : Nat} : ∀ {ds : List PyData},(∀ d ∈ ds,SD k n d) → SDs k (ds.length * (n + 1)) ds
 | [],_ => sds_nil _ _
 | d :: ds,h => sds_cons (h d (by simp)) (sds_all fun x hx => h x (by simp [hx])) (by rw [List.length_cons,Nat.succ_mul];omega)
theorem sds_ints {k : Nat} {ns : List Int} (h : ∀ n ∈ ns,-1000000 ≤ n∧n ≤ 1000000) : SDs k ns.length (ns.map PyData.int) := by
 have := sds_all (k := k) (n := 0) (ds := ns.map PyData.int) (by intro d hd;obtain ⟨i,hi,rfl⟩ := List.mem_map.mp hd;exact sd_int _ _ (h i hi))
 simpa using this
theorem _root_.L3.Dps.append {G : Gp} : ∀ {xs ys : List T} {ds es : List PyData},Dps G xs ds → Dps G ys es → Dps G (xs ++ ys) (ds ++ es)
 | _,_,_,_,.nil,b => b
 | _,_,_,_,.cons a t,b => .cons a (L3.Dps.append t b)
theorem _root_.L3.Dps.take {G : Gp} : ∀ {xs : List T} {ds : List PyData} (i : Nat),Dps G xs ds → Dps G (xs.take i) (ds.take i)
 | _,_,0,_ => .nil
 | _,_,_ + 1,.nil => .nil
 | _,_,i + 1,.cons a t => .cons a (L3.Dps.take i t)
theorem _root_.L3.Dps.drop {G : Gp} : ∀ {xs : List T} {ds : List PyData} (i : Nat),Dps G xs ds → Dps G (xs.drop i) (ds.drop i)
 | _,_,0,h => h
 | _,_,_ + 1,.nil => .nil
 | _,_,i + 1,.cons a t => L3.Dps.drop i t
end Bk
namespace Bk
open PySem L2 L3
end Bk
namespace Bk
open PySem L2 L3
noncomputable def t_strung : TS3 := (ret3 (lc3 (irng3 (cons3 (v3 2) nil3)) (gn3 0) tt3 (tup3 (cons3 (o3 (iC CMul (· * ·)) (v3 0) (v3 1)) (cons3 (o3 (iC CMul (· * ·)) (v3 0) (v3 2)) nil3))) [none,some 0,some 1]))
noncomputable def t_cells_of (S_strung : Sp3) : TS3 := (seq3 (asg3 (o3 ix3 (v3 0) (c3 (.int 0))) (gn3 1)) (seq3 (ifS3 (tb3 (o3 (eqA3 false) (v3 1) (c3 (.str "cells")))) (ret3 (cb3 list3 (cons3 (o3 ix3 (v3 0) (c3 (.int 1))) nil3))) next3) (seq3 (ifS3 (tb3 (o3 (eqA3 false) (v3 1) (c3 (.str "block")))) (ret3 (lc23 (irng3 (cons3 (o3 ix3 (v3 0) (c3 (.int 1))) nil3)) (gn3 0) tt3 (irng3 (cons3 (o3 ix3 (v3 2) (c3 (.int 2))) nil3)) (gn3 1) tt3 (tup3 (cons3 (v3 0) (cons3 (v3 1) nil3))) [none,none,some 0])) next3) (seq3 (ifS3 (tb3 (o3 (eqA3 false) (v3 1) (c3 (.str "step")))) (ret3 (cb3 S_strung (cons3 (o3 ix3 (v3 0) (c3 (.int 1))) (cons3 (o3 ix3 (v3 0) (c3 (.int 2))) (cons3 (o3 ix3 (v3 0) (c3 (.int 3))) nil3))))) next3) (seq3 (asg3 (tget3 stridesT (v3 1)) (gtup3 2 (gcons3 (gn3 2) (gcons3 (gn3 3) gnil3)))) (ret3 (cb3 S_strung (cons3 (v3 2) (cons3 (v3 3) (cons3 (o3 ix3 (v3 0) (c3 (.int 1))) nil3))))))))))
noncomputable def t_starts (S_size_of : Sp3) (S_cells_of : Sp3) : TS3 := (seq3 (asg3 (cb3 S_size_of (cons3 (v3 0) nil3)) (gtup3 3 (gcons3 (gn3 2) (gcons3 (gn3 3) (gcons3 (gn3 4) gnil3))))) (seq3 (asg3 (cb3 S_cells_of (cons3 (v3 1) nil3)) (gn3 5)) (seq3 (asg3 (lc3 (iseq3 (v3 5)) (gtup3 2 (gcons3 (gn3 0) (gcons3 (gn3 1) gnil3))) tt3 (v3 0) [none,none]) (gn3 6)) (seq3 (asg3 (lc3 (iseq3 (v3 5)) (gtup3 2 (gcons3 (gn3 0) (gcons3 (gn3 1) gnil3))) tt3 (v3 1) [none,none]) (gn3 7)) (ret3 (lc23 (irng3 (cons3 (u3 neg3 (cb3 minL3 (cons3 (v3 6) nil3))) (cons3 (o3 (iI (· - ·)) (v3 2) (cb3 maxL3 (cons3 (v3 6) nil3))) nil3))) (gn3 0) tt3 (irng3 (cons3 (u3 neg3 (cb3 minL3 (cons3 (v3 3) nil3))) (cons3 (o3 (iI (· - ·)) (v3 2) (cb3 maxL3 (cons3 (v3 3) nil3))) nil3))) (gn3 1) tt3 (tup3 (cons3 (v3 0) (cons3 (v3 1) nil3))) [none,none,some 3,some 7]))))))
noncomputable def t_law_many (S_law_pick : Sp3) : TS3 := (ret3 (o3 cat3 (c3 (.int 1)) (cb3 S_law_pick (cons3 (v3 0) (cons3 (o3 ix3 (lst3 (cons3 (c3 (.int 5)) (cons3 (c3 (.int 5)) (cons3 (c3 (.int 5)) (cons3 (c3 (.int 5)) (cons3 (c3 (.int 5)) (cons3 (c3 (.int 5)) (cons3 (c3 (.int 8)) (cons3 (c3 (.int 16)) nil3))))))))) (cb3 S_law_pick (cons3 (v3 0) (cons3 (c3 (.int 8)) nil3)))) nil3)))))
noncomputable def t_law_walk (S_law_pick : Sp3) (S_law_many : Sp3) : TS3 := (seq3 (asg3 (cb3 S_law_pick (cons3 (v3 0) (cons3 (c3 (.int 9)) nil3))) (gn3 1)) (seq3 (ifS3 (tb3 (o3 (iB fun i j => decide (i < j)) (v3 1) (c3 (.int 4)))) (ret3 (tup3 (cons3 (o3 ix3 (lst3 (cons3 (c3 (.str "row")) (cons3 (c3 (.str "column")) (cons3 (c3 (.str "slant")) (cons3 (c3 (.str "back")) nil3))))) (v3 1)) (cons3 (cb3 S_law_many (cons3 (v3 0) nil3)) nil3)))) next3) (seq3 (ifS3 (tb3 (o3 (iB fun i j => decide (i < j)) (v3 1) (c3 (.int 6)))) (seq3 (par3 2 3 (cons3 (cb3 S_law_pick (cons3 (v3 0) (cons3 (c3 (.int 2)) nil3))) (cons3 (o3 cat3 (c3 (.int 1)) (cb3 S_law_pick (cons3 (v3 0) (cons3 (c3 (.int 4)) nil3)))) nil3))) (seq3 (asg3 (o3 cat3 (c3 (.int 1)) (cb3 S_law_pick (cons3 (v3 0) (cons3 (o3 (iC CDiv (· / ·)) (c3 (.int 16)) (v3 3)) nil3)))) (gn3 4)) (ret3 (o3 ix3 (lst3 (cons3 (tup3 (cons3 (c3 (.str "block")) (cons3 (v3 3) (cons3 (v3 4) nil3)))) (cons3 (tup3 (cons3 (c3 (.str "block")) (cons3 (v3 4) (cons3 (v3 3) nil3)))) nil3))) (v3 2))))) next3) (seq3 (ifS3 (tb3 (o3 (iB fun i j => decide (i < j)) (v3 1) (c3 (.int 8)))) (seq3 (par3 5 6 (cons3 (o3 (iI (· - ·)) (cb3 S_law_pick (cons3 (v3 0) (cons3 (c3 (.int 7)) nil3))) (c3 (.int 3))) (cons3 (o3 (iI (· - ·)) (cb3 S_law_pick (cons3 (v3 0) (cons3 (c3 (.int 9)) nil3))) (c3 (.int 4))) nil3))) (seq3 (ifS3 (tb3 (o3 (eqA3 false) (cb3 S_law_pick (cons3 (v3 0) (cons3 (c3 (.int 6)) nil3))) (c3 (.int 0)))) (ret3 (tup3 (cons3 (c3 (.str "step")) (cons3 (o3 (iC CMul (· * ·)) (c3 (.int 5)) (v3 5)) (cons3 (o3 cat3 (o3 (iC CMul (· * ·)) (c3 (.int 3)) (v3 6)) (cb3 int3 (cons3 (andV3 (o3 (eqA3 false) (v3 5) (c3 (.int 0))) (o3 (eqA3 false) (v3 6) (c3 (.int 0)))) nil3))) (cons3 (o3 cat3 (c3 (.int 1)) (cb3 S_law_pick (cons3 (v3 0) (cons3 (c3 (.int 4)) nil3)))) nil3)))))) next3) (ret3 (tup3 (cons3 (c3 (.str "step")) (cons3 (v3 5) (cons3 (o3 cat3 (v3 6) (cb3 int3 (cons3 (andV3 (o3 (eqA3 false) (v3 5) (c3 (.int 0))) (o3 (eqA3 false) (v3 6) (c3 (.int 0)))) nil3))) (cons3 (cb3 S_law_many (cons3 (v3 0) nil3)) nil3)))))))) next3) (seq3 (par3 7 8 (cons3 (lst3 nil3) (cons3 (o3 cat3 (c3 (.int 1)) (o3 (iC CMul (· * ·)) (c3 (.int 4)) (cb3 int3 (cons3 (o3 (eqA3 false) (cb3 S_law_pick (cons3 (v3 0) (cons3 (c3 (.int 5)) nil3))) (c3 (.int 0))) nil3)))) nil3))) (seq3 (for3 (irng3 (cons3 (cb3 S_law_many (cons3 (v3 0) nil3)) nil3)) (gn3 9) (seq3 (asg3 (tup3 (cons3 (o3 (iC CMul (· * ·)) (v3 8) (o3 (iI (· - ·)) (cb3 S_law_pick (cons3 (v3 0) (cons3 (c3 (.int 6)) nil3))) (c3 (.int 2)))) (cons3 (o3 (iC CMul (· * ·)) (v3 8) (o3 (iI (· - ·)) (cb3 S_law_pick (cons3 (v3 0) (cons3 (c3 (.int 6)) nil3))) (c3 (.int 2)))) nil3))) (gn3 10)) (ifS3 (tb3 (o3 (inA3 true) (v3 10) (v3 7))) (drop3 (bm3 app3 (v3 7) (cons3 (v3 10) nil3))) next3))) (ret3 (tup3 (cons3 (c3 (.str "cells")) (cons3 (cb3 tuple3 (cons3 (v3 7) nil3)) nil3))))))))))
noncomputable def t_law_cells : TS3 := (seq3 (ifS3 (tb3 (o3 (eqA3 false) (o3 ix3 (v3 0) (c3 (.int 0))) (c3 (.str "cells")))) (ret3 (cb3 list3 (cons3 (o3 ix3 (v3 0) (c3 (.int 1))) nil3))) next3) (seq3 (ifS3 (tb3 (o3 (eqA3 false) (o3 ix3 (v3 0) (c3 (.int 0))) (c3 (.str "block")))) (seq3 (asg3 (lst3 nil3) (gn3 1)) (seq3 (for3 (irng3 (cons3 (o3 ix3 (v3 0) (c3 (.int 1))) nil3)) (gn3 2) (drop3 (bm3 ext3 (v3 1) (cons3 (lc3 (irng3 (cons3 (o3 ix3 (v3 0) (c3 (.int 2))) nil3)) (gn3 0) tt3 (tup3 (cons3 (v3 1) (cons3 (v3 0) nil3))) [none,some 2]) nil3)))) (ret3 (v3 1)))) next3) (seq3 (asg3 (dsub3 ["row","column","slant","back","step"] (cons3 (tup3 (cons3 (c3 (.int 0)) (cons3 (c3 (.int 1)) nil3))) (cons3 (tup3 (cons3 (c3 (.int 1)) (cons3 (c3 (.int 0)) nil3))) (cons3 (tup3 (cons3 (c3 (.int 1)) (cons3 (c3 (.int 1)) nil3))) (cons3 (tup3 (cons3 (c3 (.int 1)) (cons3 (u3 neg3 (c3 (.int 1))) nil3))) (cons3 (tsl3 (v3 0) (sp3 (c3 (.int 1))) (sp3 (c3 (.int 3)))) nil3))))) (o3 ix3 (v3 0) (c3 (.int 0)))) (gtup3 2 (gcons3 (gn3 3) (gcons3 (gn3 4) gnil3)))) (ret3 (lc3 (irng3 (cons3 (o3 ix3 (v3 0) (u3 neg3 (c3 (.int 1)))) nil3)) (gn3 0) tt3 (tup3 (cons3 (o3 (iC CMul (· * ·)) (v3 0) (v3 1)) (cons3 (o3 (iC CMul (· * ·)) (v3 0) (v3 2)) nil3))) [none,some 3,some 4])))))
theorem getL_lst {G : Gp} {p : Addr} {xs : List T} (h : G p = some (.lst xs)) : getL G p = some xs := by unfold getL;rw [h]
theorem atI_mem {xs : List T} {d : Int} (h0 : 0 ≤ d) (h1 : d < (xs.length : Int)) : ∃ z,L2.atI xs d = some z∧z ∈ xs := by
 rw [atI_nat' h0 h1]
 have : d.toNat < xs.length := by omega
 exact ⟨xs[d.toNat],List.getElem?_eq_getElem this,List.getElem_mem this⟩
inductive Wk where
 | line (k m : Nat)
 | block (h w : Nat)
 | step (d a : Int) (m : Nat)
 | cells (ps : List (Int × Int))
noncomputable def lnName : Nat → Str
 | 0 => "row" | 1 => "column" | 2 => "slant" | _ => "back"
noncomputable def lnD : Nat → Int
 | 0 => 0 | _ => 1
noncomputable def lnA : Nat → Int
 | 0 => 1 | 1 => 0 | 2 => 1 | _ => -1
noncomputable def pT (p : Int × Int) : T := .tup [.int p.1,.int p.2]
noncomputable def Wk.t : Wk → T
 | .line k m => .tup [.str (lnName k),.int m]
 | .block h w => .tup [.str "block",.int h,.int w]
 | .step d a m => .tup [.str "step",.int d,.int a,.int m]
 | .cells ps => .tup [.str "cells",.tup (ps.map pT)]
noncomputable def along (d a : Int) (m : Nat) : List (Int × Int) := (List.range m).map fun (t : Nat) => ((t : Int) * d,(t : Int) * a)
noncomputable def blockC (h w : Nat) : List (Int × Int) := (List.range h).flatMap fun (p : Nat) => (List.range w).map fun (q : Nat) => ((p : Int),(q : Int))
noncomputable def Wk.pc : Wk → List (Int × Int)
 | .line k m => along (lnD k) (lnA k) m
 | .block h w => blockC h w
 | .step d a m => along d a m
 | .cells ps => ps
noncomputable def Wk.Ok : Wk → Prop
 | .line k m => k < 4∧1 ≤ m∧m ≤ 16
 | .block h w => 1 ≤ h∧1 ≤ w∧h ≤ 16∧w ≤ 16∧h * w ≤ 16
 | .step d a m => (-16 ≤ d∧d ≤ 16)∧(-16 ≤ a∧a ≤ 16)∧1 ≤ m∧m ≤ 16
 | .cells ps => 1 ≤ ps.length∧ps.length ≤ 16∧ps.Nodup∧∀ p ∈ ps,(-16 ≤ p.1∧p.1 ≤ 16)∧(-16 ≤ p.2∧p.2 ≤ 16)
theorem block_succ (h w : Nat) : blockC (h + 1) w = blockC h w ++ (List.range w).map fun (q : Nat) => ((h : Int),(q : Int)) := by
 simp [blockC,List.range_succ]
theorem block_len (h w : Nat) : (blockC h w).length = h * w := by
 induction h with
 | zero => simp [blockC]
 | succ h ih => rw [block_succ,List.length_append,ih,List.length_map,List.length_range,Nat.succ_mul]
theorem pc_len {w : Wk} (ok : w.Ok) : 1 ≤ w.pc.length∧w.pc.length ≤ 16 := by
 cases w with
 | line k m => simp only [Wk.pc,along,List.length_map,List.length_range];exact ok.2
 | block h v =>
  obtain ⟨h1,h2,h3,h4,h5⟩ := ok
  simp only [Wk.pc,block_len]
  exact ⟨Nat.mul_le_mul h1 h2,h5⟩
 | step d a m => simp only [Wk.pc,along,List.length_map,List.length_range];exact ok.2.2
 | cells ps => exact ⟨ok.1,ok.2.1⟩
end Bk
namespace Bk
open PySem L2 L3
noncomputable def sp_law_many : Sp3 := fun ts G q => ∃ a n,ts = [.ref a]∧Lf G a n∧n < 10000000∧∀ (m : Nat) G',1 ≤ m → m ≤ 16 → Lf G' a (n + 2) → Ext a G G' → q (.int m) G'
theorem rd_law_many : ∀ ts G q,sp_law_many ts G q → ts.length = 1∧t_law_many sp_law_pick (ends q) (start3 ["_law_left_here"] ts) G := by
 rintro ts G q ⟨a,n,rfl,hL,hn,h⟩
 refine ⟨rfl,?_⟩
 simp only [t_law_many,ret3,o3,c3,cb3,cons3,v3,start3,List.map_cons,List.map_nil,List.length_cons,List.length_nil,Nat.zero_add,Nat.sub_self,List.replicate_zero,List.append_nil,Nat.lt_add_one,getElem?_pos,List.getElem_cons_zero,lst3,nil3,Nat.reduceAdd,sizeLine_eq,Nat.reduceLeDiff,cat3,ne_eq,true_and]
 intro p hp
 have np := hL.ne hp
 refine pick_i (hL.new np) (by omega) (by omega) (by omega) fun d G1 d0 d1 L1 E1 => ?_
 have g := getL_lst (E1 _ _ np gu_same)
 obtain ⟨z,hz,hm⟩ := atI_mem (xs := [T.int 5,.int 5,.int 5,.int 5,.int 5,.int 5,.int 8,.int 16]) d0 (by simpa using d1)
 simp only [L3.ixR,g,hz]
 have : ∃ k : Int,z = .int k∧1 ≤ k∧k ≤ 16 := by
  simp only [List.mem_cons,List.not_mem_nil,or_false] at hm
  rcases hm with rfl | rfl | rfl | rfl | rfl | rfl | rfl | rfl <;> exact ⟨_,rfl,by omega,by omega⟩
 obtain ⟨k,rfl,k1,k2⟩ := this
 refine pick_i L1 (by omega) (by omega) (by omega) fun e G2 e0 e1 L2' E2 => ?_
 simp
 obtain ⟨e',rfl⟩ := Int.eq_ofNat_of_zero_le e0
 have := h (e' + 1) G2 (by omega) (by omega) (L2'.mono (by omega)) ((ext_new hp).trans (E1.trans E2))
 rw [show (1 : Int) + (e' : Int) = ((e' + 1 : Nat) : Int) by omega]
 exact this
noncomputable def pD (p : Int × Int) : PyData := .tuple [.int p.1,.int p.2]
theorem pT_dp (G : Gp) (p : Int × Int) : Dp G (pT p) (pD p) := .tup (.cons (.int _) (.cons (.int _) .nil))
theorem pTs_dp (G : Gp) : ∀ ps : List (Int × Int),Dps G (ps.map pT) (ps.map pD)
 | [] => .nil
 | p :: ps => .cons (pT_dp G p) (pTs_dp G ps)
theorem pD_eq (p r : Int × Int) : pyEq (pD p) (pD r) = some (decide (p = r)) := by
 obtain ⟨a,b⟩ := p
 obtain ⟨c,d⟩ := r
 simp only [pD,pyEq,pyEqs]
 by_cases h : a = c <;> by_cases h' : b = d <;> simp [h,h']
theorem pIn (r : Int × Int) : ∀ ps : List (Int × Int),pyIn (pD r) (ps.map pD) = some (decide (r ∈ ps))
 | [] => by simp [pyIn]
 | p :: ps => by
  simp only [List.map_cons,pyIn,pD_eq,pIn r ps]
  by_cases h : p = r
  ·subst h;simp
  ·have h' : ¬ r = p := fun z => h z.symm
   simp [h,h']
theorem pD_dpt (p : Int × Int) : dpt (pD p) ≤ 40 := by simp [pD,dpt,dpts]
noncomputable def sp_law_walk : Sp3 := fun ts G q => ∃ a n,ts = [.ref a]∧Lf G a n∧n < 1000000∧∀ (w : Wk) G',w.Ok → Lf G' a (n + 60) → Ext a G G' → q w.t G'
theorem rd_law_walk : ∀ ts G q,sp_law_walk ts G q → ts.length = 1∧t_law_walk sp_law_pick sp_law_many (ends q) (start3 ["_law_left_here","_law_way","_law_lying","_law_high","_law_wide","_law_down","_law_along","_law_pairs","_law_far","_law_turn","_law_pair"] ts) G := by
 rintro ts G q ⟨a,n,rfl,hL,hn,h⟩
 refine ⟨rfl,?_⟩
 unfold t_law_walk
 refine seq_i fun nx1 q1 => ?_
 simp only [asg3,cb3,cons3,v3,start3,List.map_cons,List.map_nil,List.length_cons,List.length_nil,Nat.zero_add,Nat.reduceAdd,Nat.add_one_sub_one,List.reduceReplicate,List.cons_append,List.nil_append,Nat.zero_lt_succ,getElem?_pos,List.getElem_cons_zero,c3,nil3,gn3,List.set_cons_succ,List.set_cons_zero]
 refine pick_i hL (by omega) (by omega) (by omega) fun way G1 w0 w1 L1 E1 => ?_
 try simp
 rw [q1]
 clear q1
 refine seq_i fun nx2 q2 => ?_
 by_cases lt : way < 4
 ·simp only [ifS3,tb3,o3,v3,List.length_cons,List.length_nil,Nat.zero_add,Nat.reduceAdd,Nat.reduceLT,getElem?_pos,List.getElem_cons_succ,List.getElem_cons_zero,c3,iB,lt,decide_true,↓reduceIte,ret3,tup3,cons3,lst3,nil3,sizeLine_eq,Nat.reduceLeDiff,cb3,Nat.zero_lt_succ,true_and,ixR]
  intro p hp
  have np := L1.ne hp
  have L3' := L1.new np (ob := .lst [.str "row",.str "column",.str "slant",.str "back"])
  obtain ⟨k,rfl⟩ := Int.eq_ofNat_of_zero_le w0
  have hk : k < 4 := by omega
  have e1 : L2.atI [T.str (Str.ofString "row"),.str (Str.ofString "column"),.str (Str.ofString "slant"),.str (Str.ofString "back")] (k : Int) = some (.str (lnName k)) := by
   rcases k with _ | _ | _ | _ | k
   ·rfl
   ·rfl
   ·rfl
   ·rfl
   ·omega
  simp only [L3.ixR,getL_lst gu_same,e1]
  refine ⟨a,_,rfl,L3',by omega,fun m G2 m1 m2 L4 E4 => ?_⟩
  exact h (.line k m) _ ⟨hk,m1,m2⟩ (L4.mono (by omega)) (E1.trans ((ext_new hp).trans E4))
 simp only [ifS3,tb3,o3,v3,c3,iB,List.getElem?_cons_zero,List.getElem?_cons_succ,lt,decide_false,Bool.false_eq_true,if_false,next3]
 rw [q2]
 clear q2
 refine seq_i fun nx3 q3 => ?_
 by_cases lt6 : way < 6
 ·simp only [ifS3,tb3,o3,v3,c3,iB,List.getElem?_cons_zero,List.getElem?_cons_succ,lt6,decide_true,if_true]
  refine seq_i fun nx4 q4 => ?_
  simp only [par3,cons3,cb3,v3,List.length_cons,List.length_nil,Nat.zero_add,Nat.reduceAdd,Nat.zero_lt_succ,getElem?_pos,List.getElem_cons_zero,c3,nil3,o3,cat3,ne_eq,sizeLine_eq,List.set_cons_succ,List.set_cons_zero]
  refine pick_i L1 (by omega) (by omega) (by omega) fun ly G2 y0 y1 L2' E2 => ?_
  try simp
  refine pick_i L2' (by omega) (by omega) (by omega) fun hi G3 h0 h1 L3' E3 => ?_
  try simp
  rw [q4]
  clear q4
  obtain ⟨hh,rfl⟩ := Int.eq_ofNat_of_zero_le h0
  refine seq_i fun nx5 q5 => ?_
  simp only [asg3,o3,c3,cb3,cons3,v3,List.length_cons,List.length_nil,Nat.zero_add,Nat.reduceAdd,Nat.zero_lt_succ,getElem?_pos,List.getElem_cons_zero,Nat.reduceLT,List.getElem_cons_succ,iC,nil3,cat3,ne_eq,sizeLine_eq,gn3,List.set_cons_succ,List.set_cons_zero]
  have dv : 1 ≤ (16 : Int) / (1 + (hh : Int))∧(16 : Int) / (1 + (hh : Int)) ≤ 16 := by
   have : hh = 0 ∨ hh = 1 ∨ hh = 2 ∨ hh = 3 := by omega
   rcases this with rfl | rfl | rfl | rfl <;> decide
  refine ⟨⟨by omega,by omega⟩,pick_i L3' (by omega) (by omega) (by omega) fun wi G4 u0 u1 L4 E4 => ?_⟩
  try simp
  rw [q5]
  clear q5
  obtain ⟨ww,rfl⟩ := Int.eq_ofNat_of_zero_le u0
  have pr : (hh + 1) * (ww + 1) ≤ 16 := by
   have : hh = 0 ∨ hh = 1 ∨ hh = 2 ∨ hh = 3 := by omega
   rcases this with rfl | rfl | rfl | rfl <;> simp at u1 <;> omega
  simp only [ret3,o3,lst3,cons3,tup3,c3,v3,List.length_cons,List.length_nil,Nat.zero_add,Nat.reduceAdd,Nat.reduceLT,getElem?_pos,List.getElem_cons_succ,List.getElem_cons_zero,nil3,sizeLine_eq,Nat.reduceLeDiff,ixR,true_and]
  intro p hp
  have np := L4.ne hp
  have X4 := E1.trans (E2.trans (E3.trans E4))
  have z1 : (1 : Int) + (hh : Int) = ((hh + 1 : Nat) : Int) := by omega
  have z2 : (1 : Int) + (ww : Int) = ((ww + 1 : Nat) : Int) := by omega
  rw [z1,z2]
  have hl : ly = 0 ∨ ly = 1 := by omega
  rcases hl with rfl | rfl
  ·simp only [L3.ixR,getL_lst gu_same,atI_0]
   exact h (.block (hh + 1) (ww + 1)) _ ⟨by omega,by omega,by omega,by omega,pr⟩ ((L4.new np).mono (by omega)) (X4.trans (ext_new hp))
  ·simp only [L3.ixR,getL_lst gu_same,atI_1]
   exact h (.block (ww + 1) (hh + 1)) _ ⟨by omega,by omega,by omega,by omega,by rw [Nat.mul_comm];exact pr⟩ ((L4.new np).mono (by omega)) (X4.trans (ext_new hp))
 simp only [ifS3,tb3,o3,v3,c3,iB,List.getElem?_cons_zero,List.getElem?_cons_succ,lt6,decide_false,Bool.false_eq_true,if_false,next3]
 rw [q3]
 clear q3
 refine seq_i fun nx4 q4 => ?_
 by_cases lt8 : way < 8
 ·simp only [ifS3,tb3,o3,v3,c3,iB,List.getElem?_cons_zero,List.getElem?_cons_succ,lt8,decide_true,if_true]
  refine seq_i fun nx5 q5 => ?_
  simp only [par3,cons3,o3,cb3,v3,List.length_cons,List.length_nil,Nat.zero_add,Nat.reduceAdd,Nat.zero_lt_succ,getElem?_pos,List.getElem_cons_zero,c3,nil3,iI,List.set_cons_succ,List.set_cons_zero]
  refine pick_i L1 (by omega) (by omega) (by omega) fun d G2 d0 d1 L2' E2 => ?_
  try simp
  refine pick_i L2' (by omega) (by omega) (by omega) fun al G3 a0 a1 L3' E3 => ?_
  try simp
  rw [q5]
  clear q5
  obtain ⟨D,hD⟩ : ∃ D,D = d - 3 := ⟨_,rfl⟩
  obtain ⟨A,hA⟩ : ∃ A,A = al - 4 := ⟨_,rfl⟩
  rw [← hD,← hA]
  refine seq_i fun nx6 q6 => ?_
  simp only [ifS3,tb3,o3,cb3,cons3,v3,List.length_cons,List.length_nil,Nat.zero_add,Nat.reduceAdd,Nat.zero_lt_succ,getElem?_pos,List.getElem_cons_zero,c3,nil3,eqA3,scalT,Bool.false_eq_true,↓reduceIte,ret3,tup3,Nat.reduceLT,List.getElem_cons_succ,iC,andV3,decide_eq_true_eq,int3,cat3,ne_eq,sizeLine_eq,Nat.reduceLeDiff,true_and,Int.add_zero,next3,exists_and_left,Bool.exists_bool]
  refine pick_i L3' (by omega) (by omega) (by omega) fun six G4 s0 s1 L4 E4 => ?_
  have X4 := E1.trans (E2.trans (E3.trans E4))
  by_cases k0 : six = 0
  ·subst k0
   simp only [decide_true,↓reduceIte]
   refine ⟨cm (by omega) (by omega),cm (by omega) (by omega),?_⟩
   have fin : ∀ e : Int,0 ≤ e → e ≤ 1 → sp_law_pick [.ref a,.int 4] G4 fun x G' => (match T.int 1,x with | .int i,.int j => q (.tup [.str (Str.ofString "step"),.int (5 * D),.int (3 * A + e),.int (i + j)]) G' | _,_ => False) := by
    intro e e0 e1
    refine pick_i L4 (by omega) (by omega) (by omega) fun m G5 m0 m1 L5 E5 => ?_
    obtain ⟨m',rfl⟩ := Int.eq_ofNat_of_zero_le m0
    have := h (.step (5 * D) (3 * A + e) (m' + 1)) G5 ⟨⟨by omega,by omega⟩,⟨by omega,by omega⟩,by omega,by omega⟩ (L5.mono (by omega)) (X4.trans E5)
    simp only [Wk.t] at this
    rw [show ((m' + 1 : Nat) : Int) = 1 + (m' : Int) by omega] at this
    exact this
   by_cases hD0 : D = 0
   ·by_cases hA0 : A = 0
    ·have := fin 1 (by omega) (by omega)
     simp only [hD0,Int.mul_zero,hA0,Int.zero_add,↓reduceIte] at this ⊢
     exact this
    ·have := fin 0 (by omega) (by omega)
     simp only [hD0,Int.mul_zero,Int.add_zero,↓reduceIte,hA0] at this ⊢
     exact this
   ·have := fin 0 (by omega) (by omega)
    simp only [Int.add_zero,hD0,↓reduceIte] at this ⊢
    exact this
  ·simp [k0]
   rw [q6]
   clear q6
   have fin : ∀ e : Int,0 ≤ e → e ≤ 1 → sp_law_many [.ref a] G4 fun x G' => q (.tup [.str (Str.ofString "step"),.int D,.int (A + e),x]) G' := by
    intro e e0 e1
    refine ⟨a,_,rfl,L4,by omega,fun m G5 m0 m1 L5 E5 => ?_⟩
    exact h (.step D (A + e) m) G5 ⟨⟨by omega,by omega⟩,⟨by omega,by omega⟩,by omega,by omega⟩ (L5.mono (by omega)) (X4.trans E5)
   by_cases hD0 : D = 0
   ·by_cases hA0 : A = 0
    ·have := fin 1 (by omega) (by omega)
     simp only [hD0,hA0,Int.zero_add,ret3,tup3,cons3,c3,v3,List.length_cons,List.length_nil,Nat.zero_add,Nat.reduceAdd,Nat.reduceLT,getElem?_pos,List.getElem_cons_succ,List.getElem_cons_zero,o3,cb3,andV3,eqA3,scalT,decide_true,Bool.false_eq_true,↓reduceIte,nil3,int3,cat3,Nat.zero_lt_succ,sizeLine_eq,Nat.reduceLeDiff,true_and] at this ⊢
     exact this
    ·have := fin 0 (by omega) (by omega)
     simp only [hD0,Int.add_zero,ret3,tup3,cons3,c3,v3,List.length_cons,List.length_nil,Nat.zero_add,Nat.reduceAdd,Nat.reduceLT,getElem?_pos,List.getElem_cons_succ,List.getElem_cons_zero,o3,cb3,andV3,eqA3,scalT,decide_true,Bool.false_eq_true,↓reduceIte,hA0,decide_false,nil3,int3,cat3,Nat.zero_lt_succ,sizeLine_eq,Nat.reduceLeDiff,true_and] at this ⊢
     exact this
   ·have := fin 0 (by omega) (by omega)
    simp only [Int.add_zero,ret3,tup3,cons3,c3,v3,List.length_cons,List.length_nil,Nat.zero_add,Nat.reduceAdd,Nat.reduceLT,getElem?_pos,List.getElem_cons_succ,List.getElem_cons_zero,o3,cb3,andV3,eqA3,scalT,hD0,decide_false,Bool.false_eq_true,↓reduceIte,nil3,int3,cat3,Nat.zero_lt_succ,sizeLine_eq,Nat.reduceLeDiff,true_and] at this ⊢
    exact this
 simp only [ifS3,tb3,o3,v3,c3,iB,List.getElem?_cons_zero,List.getElem?_cons_succ,lt8,decide_false,Bool.false_eq_true,if_false,next3]
 rw [q4]
 clear q4
 refine seq_i fun nx5 q5 => ?_
 simp only [par3,cons3,lst3,nil3,List.length_nil,sizeLine_eq,Nat.zero_le,o3,c3,cb3,v3,List.length_cons,Nat.zero_add,Nat.reduceAdd,Nat.zero_lt_succ,getElem?_pos,List.getElem_cons_zero,eqA3,scalT,int3,iC,Bool.false_eq_true,↓reduceIte,cat3,List.set_cons_succ,List.set_cons_zero,ne_eq,exists_and_left,Bool.exists_bool,Int.mul_zero,Int.add_zero,Int.mul_one,Int.reduceAdd,true_and]
 intro pp hpp
 have npp := L1.ne hpp
 have Lp := L1.new npp (ob := .lst [])
 refine pick_i Lp (by omega) (by omega) (by omega) fun fv G2 f0 f1 L2' E2 => ?_
 have gp2 := E2 _ _ npp gu_same
 have X2 : Ext a G G2 := E1.trans ((ext_new hpp).trans E2)
 have hf : ∃ far : Int,(far = 1 ∨ far = 5)∧nx5 = nx5 := ⟨1,.inl rfl,rfl⟩
 clear hf
 have fin : ∀ far : Int,far = 1 ∨ far = 5 → nx5 [some (.ref a),some (.int way),none,none,none,none,none,some (.ref pp),some (.int far),none,none] G2 := by
  intro far hfar
  rw [q5]
  clear q5
  refine seq_i fun nx6 q6 => ?_
  simp only [for3,irng3,cb3,cons3,nil3,v3,List.getElem?_cons_zero,List.getElem?_cons_succ]
  refine ⟨a,_,rfl,L2',by omega,fun m G3 m1 m2 L3' E3 => ?_⟩
  have gp3 := E3 _ _ npp gp2
  refine ⟨⟨by omega,by omega⟩,?_⟩
  rw [Int.toNat_natCast]
  refine forGo_inv _ (fun i τ G' => ∃ ps : List (Int × Int),G' pp = some (.lst (ps.map pT))∧(1 ≤ i → 1 ≤ ps.length)∧ps.length ≤ i∧ps.Nodup∧(∀ p ∈ ps,(-16 ≤ p.1∧p.1 ≤ 16)∧(-16 ≤ p.2∧p.2 ≤ 16))∧Lf G' a (n + 5 + 2 * i)∧Ext a G G'∧∃ x9 x10,τ = [some (.ref a),some (.int way),none,none,none,none,none,some (.ref pp),some (.int far),x9,x10])
   ⟨[],gp3,by omega,by simp,by simp,(by intro p hp;cases hp),by simpa using L3'.mono (by omega),X2.trans E3,none,none,rfl⟩ (fun _ _ _ _ _ => True.intro) ?_ ?_
  ·rintro i z τ G' nx hz ⟨ps,gp,i1,pl,nd,bd,L,E,x9,x10,rfl⟩ hnx
   obtain ⟨hi,rfl⟩ := rng_get hz
   simp only [gn3,List.set_cons_succ,List.set_cons_zero]
   refine seq_i fun nx7 q7 => ?_
   simp only [asg3,tup3,cons3,o3,v3,Int.zero_add,List.length_cons,List.length_nil,Nat.zero_add,Nat.reduceAdd,Nat.reduceLT,getElem?_pos,List.getElem_cons_succ,List.getElem_cons_zero,cb3,Nat.zero_lt_succ,c3,nil3,iI,iC,sizeLine_eq,Nat.reduceLeDiff,gn3,List.set_cons_succ,List.set_cons_zero,true_and]
   refine pick_i L (by omega) (by omega) (by omega) fun u G4 u0 u1 L4 E4 => ?_
   try simp
   refine ⟨cm (by omega) (by omega),pick_i L4 (by omega) (by omega) (by omega) fun v G5 v0 v1 L5 E5 => ?_⟩
   try simp
   refine ⟨cm (by omega) (by omega),?_⟩
   rw [q7]
   clear q7
   have gp5 := E5 _ _ npp (E4 _ _ npp gp)
   have X5 := E.trans (E4.trans E5)
   have pe : T.tup [.int (far * (u - 2)),.int (far * (v - 2))] = pT (far * (u - 2),far * (v - 2)) := rfl
   rw [pe]
   have pb : (-16 ≤ far * (u - 2)∧far * (u - 2) ≤ 16)∧(-16 ≤ far * (v - 2)∧far * (v - 2) ≤ 16) := by rcases hfar with rfl | rfl <;> omega
   generalize hP : (far * (u - 2),far * (v - 2)) = P at *
   have pb' : (-16 ≤ P.1∧P.1 ≤ 16)∧(-16 ≤ P.2∧P.2 ≤ 16) := by rw [← hP];exact pb
   simp only [ifS3,tb3,o3,v3,List.getElem?_cons_zero,List.getElem?_cons_succ]
   refine ⟨_,_,_,_,getL_lst gp5,pT_dp _ _,pTs_dp _ _,pIn _ _,fun d hd => ?_,?_⟩
   ·obtain ⟨p,_,rfl⟩ := List.mem_map.mp hd
    exact pD_dpt p
   ·by_cases hm : P ∈ ps
    ·simp only [↓reduceIte,hm,decide_true,Bool.not_true,Bool.false_eq_true,next3]
     exact hnx _ _ ⟨ps,gp5,fun _ => List.length_pos_of_mem hm,by omega,nd,bd,L5.mono (by omega),X5,_,_,rfl⟩
    ·simp only [↓reduceIte,hm,decide_false,Bool.not_false,drop3,bm3,v3,List.length_cons,List.length_nil,Nat.zero_add,Nat.reduceAdd,Nat.reduceLT,getElem?_pos,List.getElem_cons_succ,List.getElem_cons_zero,cons3,Nat.lt_add_one,nil3,app3,gp5,List.length_map,sizeLine_eq]
     refine ⟨by rw [getL_lst gp5];rfl,by omega,?_⟩
     refine hnx _ _ ⟨ps ++ [P],by rw [gu_same];simp,fun _ => by simp,by simp;omega,?_,fun p hp => ?_,L5.new npp |>.mono (by omega),fun b o hb eb => ?_,_,_,rfl⟩
     ·rw [List.nodup_append]
      exact ⟨nd,by simp,fun x hx y hy => by simp at hy;subst hy;rintro rfl;exact hm hx⟩
     ·rcases List.mem_append.mp hp with hp | hp
      ·exact bd p hp
      ·simp at hp;subst hp;exact pb'
     ·have : b ≠ pp := by
       rintro rfl
       have := E1 _ _ hb eb
       rw [hpp] at this;cases this
      rw [gu_ne this]
      exact X5 _ _ hb eb
  ·rintro τ G' ⟨ps,gp,i1,pl,nd,bd,L,E,x9,x10,rfl⟩
   rw [rng_len] at i1 pl L
   show nx6 _ _
   rw [q6]
   simp only [ret3,tup3,cons3,c3,cb3,v3,List.length_cons,List.length_nil,Nat.zero_add,Nat.reduceAdd,Nat.reduceLT,getElem?_pos,List.getElem_cons_succ,List.getElem_cons_zero,nil3,tuple3,getL_lst gp,sizeLine_eq,Nat.reduceLeDiff,true_and]
   exact h (.cells ps) G' ⟨i1 m1,by omega,nd,bd⟩ (L.mono (by omega)) E
 by_cases k0 : fv = 0
 ·have := fin 5 (.inr rfl)
  simp only [k0,decide_true,↓reduceIte,Int.mul_one,Int.reduceAdd]
  exact ⟨cm (by omega) (by omega),this⟩
 ·have := fin 1 (.inl rfl)
  simp only [k0,decide_false,Bool.false_eq_true,↓reduceIte,Int.mul_zero,Int.add_zero]
  exact ⟨cm (by omega) (by omega),this⟩
end Bk
namespace Bk
open PySem L2 L3
end Bk
namespace Bk
open PySem L2 L3
end Bk
namespace Bk
open PySem L2 L3
end Bk
namespace Bk
open PySem L2 L3
end Bk
namespace Bk
open PySem L2 L3
def Un2 (ns : List Int) (i : Nat) : Prop := ∀ a b,a < i → a < b → b < ns.length → ns[a]? ≠ ns[b]?
structure Fst (ns : List Int) (i j : Nat) : Prop where
 ij : i < j
 jl : j < ns.length
 un : Un2 ns i
 nb : ∀ b,i < b → b < j → ns[i]? ≠ ns[b]?
 eq : ns[i]? = ns[j]?
theorem Fst.uniq {ns : List Int} {i j i' j' : Nat} (F : Fst ns i j) (F' : Fst ns i' j') : i = i'∧j = j' := by
 have e : i = i' := by
  rcases Nat.lt_trichotomy i i' with z | z | z
  ·exact absurd F.eq (F'.un i j z F.ij F.jl)
  ·exact z
  ·exact absurd F'.eq (F.un i' j' z F'.ij F'.jl)
 subst e
 refine ⟨rfl,?_⟩
 rcases Nat.lt_trichotomy j j' with z | z | z
 ·exact absurd F.eq (F'.nb j F.ij z)
 ·exact z
 ·exact absurd F'.eq (F.nb j' F'.ij z)
open Classical in
noncomputable def faO (ns : List Int) : Option (Nat × Nat) := if h : ∃ ij : Nat × Nat,Fst ns ij.1 ij.2 then some h.choose else none
theorem faO_some {ns : List Int} {i j : Nat} (F : Fst ns i j) : faO ns = some (i,j) := by
 have h : ∃ ij : Nat × Nat,Fst ns ij.1 ij.2 := ⟨(i,j),F⟩
 unfold faO
 rw [dif_pos h]
 have := h.choose_spec
 obtain ⟨e1,e2⟩ := this.uniq F
 exact congrArg some (Prod.ext e1 e2)
theorem faO_none {ns : List Int} (h : Un2 ns ns.length) : faO ns = none := by
 unfold faO
 rw [dif_neg]
 rintro ⟨ij,F⟩
 exact h ij.1 ij.2 (Nat.lt_trans F.ij F.jl) F.ij F.jl F.eq
end Bk
namespace Bk
open PySem L2 L3
theorem ex_fst {ns : List Int} (h : ¬ Un2 ns ns.length) : ∃ i j,Fst ns i j := by
 have key : ∀ k,k ≤ ns.length → Un2 ns k ∨ ∃ i j,Fst ns i j := by
  intro k
  induction k with
  | zero => exact fun _ => .inl fun a b ha => by omega
  | succ k ih =>
   intro hk
   rcases ih (by omega) with hu | he
   ·have inner : ∀ n,(∀ b,k < b → b < k + 1 + n → b < ns.length → ns[k]? ≠ ns[b]?) ∨ ∃ j,Fst ns k j := by
     intro n
     induction n with
     | zero => exact .inl fun b h1 h2 => by omega
     | succ n ihn =>
      rcases ihn with hn | he
      ·by_cases hb : k + 1 + n < ns.length∧ns[k]? = ns[k + 1 + n]?
       ·exact .inr ⟨k + 1 + n,by omega,hb.1,hu,fun b h1 h2 => hn b h1 h2 (by omega),hb.2⟩
       ·refine .inl fun b h1 h2 h3 => ?_
        by_cases e : b = k + 1 + n
        ·subst e;exact fun z => hb ⟨h3,z⟩
        ·exact hn b h1 (by omega) h3
      ·exact .inr he
    rcases inner ns.length with hn | ⟨j,F⟩
    ·refine .inl fun a b ha hab hb => ?_
     by_cases e : a = k
     ·subst e;exact hn b hab (by omega) hb
     ·exact hu a b (by omega) hab hb
    ·exact .inr ⟨k,j,F⟩
   ·exact .inr he
 rcases key ns.length (Nat.le_refl _) with hu | he
 ·exact absurd hu h
 ·exact he
end Bk
namespace Bk
open PySem L2 L3
theorem getD_some {ns : List Int} {k : Nat} (h : k < ns.length) : ns[k]? = some (ns.getD k 0) := by simp [h]
end Bk
namespace Bk
open PySem L2 L3
end Bk
namespace Bk
open PySem L2 L3
end Bk
namespace Bk
open PySem L2 L3
end Bk
namespace Pu
open PySem L2 L3
noncomputable def cif {α : Type} (P : Prop) (a b : α) : α := @ite α P (Classical.propDecidable P) a b
theorem cif_pos {α : Type} {P : Prop} {a b : α} (h : P) : cif P a b = a := @if_pos P (Classical.propDecidable P) h α a b
theorem cif_neg {α : Type} {P : Prop} {a b : α} (h : ¬ P) : cif P a b = b := @if_neg P (Classical.propDecidable P) h α a b
structure Tru (b : Bool) : Prop where
 h : b = true
mutual
inductive Dq (G : Gp) : T → PyData → Prop
 | non : Dq G .non .none
 | bl (b : Bool) : Dq G (.bl b) (.bool b)
 | int (i : Int) : Dq G (.int i) (.int i)
 | str (x : Str) : Dq G (.str x) (.str x)
 | tup {xs : List T} {ds : List PyData} : Dqs G xs ds → Dq G (.tup xs) (.tuple ds)
 | lst {p : Addr} {xs : List T} {ds : List PyData} : G p = some (.lst xs) → Dqs G xs ds → Dq G (.ref p) (.list ds)
inductive Dqs (G : Gp) : List T → List PyData → Prop
 | nil : Dqs G [] []
 | cons {x : T} {d : PyData} {xs : List T} {ds : List PyData} : Dq G x d → Dqs G xs ds → Dqs G (x :: xs) (d :: ds)
end
mutual
theorem Dq.up {G G' : Gp} (e : Ex G G') : ∀ {x : T} {d : PyData},Dq G x d → Dq G' x d
 | _,_,.non => .non
 | _,_,.bl b => .bl b
 | _,_,.int i => .int i
 | _,_,.str x => .str x
 | _,_,.tup h => .tup (Dqs.up e h)
 | _,_,.lst h1 h2 => .lst (e _ _ h1) (Dqs.up e h2)
theorem Dqs.up {G G' : Gp} (e : Ex G G') : ∀ {x : List T} {d : List PyData},Dqs G x d → Dqs G' x d
 | _,_,.nil => .nil
 | _,_,.cons a b => .cons (Dq.up e a) (Dqs.up e b)
end
theorem getL_of {G : Gp} {p : Addr} {xs : List T} (h : G p = some (.lst xs)) : getL G p = some xs := by unfold getL;rw [h]
mutual
theorem Dq.dp {G : Gp} : ∀ {x : T} {d : PyData},Dq G x d → Dp G x d
 | _,_,.non => .non
 | _,_,.bl b => .bl b
 | _,_,.int i => .int i
 | _,_,.str x => .str x
 | _,_,.tup h => .tup (Dqs.dp h)
 | _,_,.lst h1 h2 => .lst (getL_of h1) (Dqs.dp h2)
theorem Dqs.dp {G : Gp} : ∀ {x : List T} {d : List PyData},Dqs G x d → Dps G x d
 | _,_,.nil => .nil
 | _,_,.cons a b => .cons (Dq.dp a) (Dqs.dp b)
end
theorem Dqs.length {G : Gp} : ∀ {xs : List T} {ds : List PyData},Dqs G xs ds → xs.length = ds.length
 | _,_,.nil => rfl
 | _,_,.cons _ b => by simp [Dqs.length b]
theorem Dqs.get {G : Gp} : ∀ {xs : List T} {ds : List PyData} {i : Nat} {d : PyData},Dqs G xs ds → ds[i]? = some d → ∃ x,xs[i]? = some x∧Dq G x d
 | _,_,_,_,.nil,e => by simp at e
 | _,_,0,_,.cons r _,e => by simp at e;subst e;exact ⟨_,rfl,r⟩
 | _,_,i + 1,d,.cons _ t,e => by
  obtain ⟨u,h1,h2⟩ := Dqs.get (i := i) (d := d) t (by simpa using e)
  exact ⟨u,by simpa using h1,h2⟩
theorem Dqs.append {G : Gp} : ∀ {xs : List T} {ds : List PyData} {ys : List T} {es : List PyData},Dqs G xs ds → Dqs G ys es → Dqs G (xs ++ ys) (ds ++ es)
 | _,_,_,_,.nil,h => h
 | _,_,_,_,.cons a b,h => .cons a (Dqs.append b h)
theorem Dqs.drop {G : Gp} : ∀ {xs : List T} {ds : List PyData} (n : Nat),Dqs G xs ds → Dqs G (xs.drop n) (ds.drop n)
 | _,_,0,h => h
 | _,_,_ + 1,.nil => .nil
 | _,_,n + 1,.cons _ b => Dqs.drop n b
theorem Dqs.take {G : Gp} : ∀ {xs : List T} {ds : List PyData} (n : Nat),Dqs G xs ds → Dqs G (xs.take n) (ds.take n)
 | _,_,0,h => by simp;exact .nil
 | _,_,_ + 1,.nil => .nil
 | _,_,n + 1,.cons a b => .cons a (Dqs.take n b)
theorem Dqs.rev {G : Gp} : ∀ {xs : List T} {ds : List PyData},Dqs G xs ds → Dqs G xs.reverse ds.reverse
 | _,_,.nil => .nil
 | _,_,.cons a b => by simp only [List.reverse_cons];exact (Dqs.rev b).append (.cons a .nil)
theorem Dqs.ints {G : Gp} : ∀ {ns : List Int} {xs : List T},Dqs G xs (ns.map PyData.int) → xs = ns.map T.int
 | [],_,.nil => rfl
 | n :: ns,_,.cons a b => by cases a;rw [Dqs.ints b];rfl
theorem Dqs.ofInts {G : Gp} : ∀ (ns : List Int),Dqs G (ns.map T.int) (ns.map PyData.int)
 | [] => .nil
 | n :: r => .cons (.int n) (Dqs.ofInts r)
noncomputable def rs (D : Addr → Prop) (G : Gp) : Gp := fun b => cif (D b) none (G b)
theorem rs_some {D : Addr → Prop} {G : Gp} {b : Addr} {o : O} (h : rs D G b = some o) : ¬ D b∧G b = some o := by
 unfold rs cif at h
 split at h
 ·cases h
 ·rename_i n;exact ⟨n,h⟩
theorem rs_of {D : Addr → Prop} {G : Gp} {b : Addr} (n : ¬ D b) : rs D G b = G b := by unfold rs;exact cif_neg n
theorem rs_ex {D : Addr → Prop} {G : Gp} : Ex (rs D G) G := fun b o h => (rs_some h).2
theorem rs_up {D : Addr → Prop} {G G' : Gp} (e : Ex G G') : Ex (rs D G) (rs D G') := fun b o h => by
 obtain ⟨n,h⟩ := rs_some h
 rw [rs_of n];exact e _ _ h
theorem rs_less {D D' : Addr → Prop} {G : Gp} (h : ∀ b,D' b → D b) : Ex (rs D G) (rs D' G) := fun b o e => by
 obtain ⟨n,e⟩ := rs_some e
 rw [rs_of fun z => n (h b z)];exact e
def Dom (D : Addr → Prop) (G : Gp) : Prop := ∀ b,D b → G b ≠ none
theorem Dom.up {D : Addr → Prop} {G G' : Gp} (h : Dom D G) (e : Ex G G') : Dom D G' := fun b d z => by
 cases g : G b with
 | none => exact h b d g
 | some o => rw [e _ _ g] at z;cases z
theorem rs_new {D : Addr → Prop} {G : Gp} {p : Addr} {o : O} (hd : Dom D G) (hp : G p = none) : rs D (gu G p o) p = some o := by
 rw [rs_of fun z => hd p z hp,gu_same]
inductive Sl where
 | un | sh (d : PyData) | ow (ds : List PyData)
noncomputable abbrev Rho := List Sl
noncomputable def Sl.d : Sl → Option PyData
 | .un => none | .sh d => some d | .ow ds => some (.list ds)
noncomputable def vw (ρ : Rho) (i : Nat) : Option PyData := (ρ[i]?).bind Sl.d
def View (fv : List Nat) (D : Addr → Prop) (G : Gp) (τ : St3) (ρ : Rho) : Prop := ∀ i ∈ fv,∀ d,vw ρ i = some d → ∃ t,τ[i]? = some (some t)∧Dq (rs D G) t d
theorem View.up {fv : List Nat} {D : Addr → Prop} {G G' : Gp} {τ : St3} {ρ : Rho} (h : View fv D G τ ρ) (e : Ex G G') : View fv D G' τ ρ := fun i hi d hd =>
 let ⟨t,a,b⟩ := h i hi d hd;⟨t,a,b.up (rs_up e)⟩
theorem View.l {fv gv : List Nat} {D : Addr → Prop} {G : Gp} {τ : St3} {ρ : Rho} (h : View (fv ++ gv) D G τ ρ) : View fv D G τ ρ := fun i hi => h i (by simp [hi])
theorem View.r {fv gv : List Nat} {D : Addr → Prop} {G : Gp} {τ : St3} {ρ : Rho} (h : View (fv ++ gv) D G τ ρ) : View gv D G τ ρ := fun i hi => h i (by simp [hi])
def Nw (D : Addr → Prop) (G G' : Gp) (x : T) (d : PyData) : Prop := d = .none ∨ ∃ p xs ds,x = .ref p∧d = .list ds∧G p = none∧G' p = some (.lst xs)∧Dqs (rs (fun b => D b ∨ b = p) G') xs ds
theorem Nw.back {D : Addr → Prop} {G0 G G' : Gp} {x : T} {d : PyData} (h : Nw D G G' x d) (e : Ex G0 G) : Nw D G0 G' x d := by
 rcases h with h | ⟨p,xs,ds,a,b,c,r⟩
 ·exact .inl h
 refine .inr ⟨p,xs,ds,a,b,?_,r⟩
 cases z : G0 p with
 | none => rfl
 | some o => rw [e _ _ z] at c;cases c
structure PuE (t : TE3) where
 f : Rho → Option PyData
 fv : List Nat
 nw : Bool
 ok : ∀ {D τ ρ G} {q : Q3} {d},View fv D G τ ρ → Dom D G → f ρ = some d → (∀ x G',Ex G G' → Dq (rs D G') x d → (nw = true → Nw D G G' x d) → q x G') → t τ G q
structure PuC (t : TT3) where
 f : Rho → Option Bool
 fv : List Nat
 ok : ∀ {D τ ρ G} {q : Bool → Gp → Prop} {k},View fv D G τ ρ → Dom D G → f ρ = some k → (∀ G',Ex G G' → q k G') → t τ G q
structure PuA (t : TA3) where
 f : Rho → Option (List PyData)
 fv : List Nat
 n : Nat
 ln : ∀ {ρ d},f ρ = some d → d.length = n
 ok : ∀ {D τ ρ G} {q : List T → Gp → Prop} {d},View fv D G τ ρ → Dom D G → f ρ = some d → (∀ x G',Ex G G' → Dqs (rs D G') x d → q x G') → t τ G q
structure PuO (t : TO3) where
 f : Rho → Option (Option Int)
 fv : List Nat
 ok : ∀ {D τ ρ G} {q : Option Int → Gp → Prop} {k},View fv D G τ ρ → Dom D G → f ρ = some k → (∀ G',Ex G G' → q k G') → t τ G q
structure PuI (t : TI3) where
 f : Rho → Option (List PyData)
 fv : List Nat
 /-- numbers alone -/
 nm : Bool
 ok : ∀ {D τ ρ G} {r : List T → (Gp → Prop) → Gp → Prop} {ds},View fv D G τ ρ → Dom D G → f ρ = some ds →
  (∀ items stay G',Ex G G' → Dqs (rs D G') items ds → (∀ G'',(nm = true ∨ Ex (rs D G') G'') → stay G'') → (nm = true → ∃ ns : List Int,ds = ns.map PyData.int) → r items stay G') → t τ G r
structure OpD (r : R3) where
 f : PyData → PyData → Option PyData
 nw : Bool
 ok : ∀ {D G x y d e v} {q : Q3},Dq (rs D G) x d → Dq (rs D G) y e → Dom D G → f d e = some v → (∀ z G',Ex G G' → Dq (rs D G') z v → (nw = true → Nw D G G' z v) → q z G') → r x y G q
structure FnD (r : List T → Gp → Q3 → Prop) where
 f : List PyData → Option PyData
 nw : Bool
 ok : ∀ {D G xs ds v} {q : Q3},Dqs (rs D G) xs ds → Dom D G → f ds = some v → (∀ z G',Ex G G' → Dq (rs D G') z v → (nw = true → Nw D G G' z v) → q z G') → r xs G q
noncomputable def bV (i : Nat) : PuE (v3 i) := ⟨fun ρ => vw ρ i,[i],false,fun hv hd hf k => by
 obtain ⟨t,e,h⟩ := hv i (by simp) _ hf
 unfold v3
 rw [e]
 exact k t _ Ex.refl h (fun z => by cases z)⟩
noncomputable def bInt (i : Int) : PuE (c3 (.int i)) := ⟨fun _ => some (.int i),[],false,fun hv hd hf k => by cases hf;exact k _ _ Ex.refl (.int i) (fun z => by cases z)⟩
noncomputable def bBl (i : Bool) : PuE (c3 (.bl i)) := ⟨fun _ => some (.bool i),[],false,fun hv hd hf k => by cases hf;exact k _ _ Ex.refl (.bl i) (fun z => by cases z)⟩
noncomputable def bStr (i : Str) : PuE (c3 (.str i)) := ⟨fun _ => some (.str i),[],false,fun hv hd hf k => by cases hf;exact k _ _ Ex.refl (.str i) (fun z => by cases z)⟩
noncomputable def bO {r : R3} {ta tb : TE3} (R : OpD r) (a : PuE ta) (b : PuE tb) : PuE (o3 r ta tb) :=
 ⟨fun ρ => (a.f ρ).bind fun x => (b.f ρ).bind fun y => R.f x y,a.fv ++ b.fv,R.nw,fun hv hd hf k => by
  obtain ⟨x,e1,hf⟩ := Option.bind_eq_some_iff.mp hf
  obtain ⟨y,e2,hf⟩ := Option.bind_eq_some_iff.mp hf
  exact a.ok hv.l hd e1 fun x' G1 E1 D1 _ => b.ok (hv.r.up E1) (hd.up E1) e2 fun y' G2 E2 D2 _ => R.ok (D1.up (rs_up E2)) D2 ((hd.up E1).up E2) hf fun z G3 E3 D3 N3 => k z G3 ((E1.trans E2).trans E3) D3 fun h => (N3 h).back (E1.trans E2)⟩
noncomputable def bNil : PuA nil3 := ⟨fun _ => some [],[],0,(fun h => by cases h;rfl),fun hv hd hf k => by cases hf;exact k _ _ Ex.refl .nil⟩
noncomputable def bCons {ta : TE3} {tr : TA3} (a : PuE ta) (r : PuA tr) : PuA (cons3 ta tr) :=
 ⟨fun ρ => (a.f ρ).bind fun x => (r.f ρ).bind fun xs => some (x :: xs),a.fv ++ r.fv,r.n + 1,(fun hf => by
  obtain ⟨x,e1,hf⟩ := Option.bind_eq_some_iff.mp hf
  obtain ⟨xs,e2,hf⟩ := Option.bind_eq_some_iff.mp hf
  cases hf
  simp [r.ln e2]),fun hv hd hf k => by
  obtain ⟨x,e1,hf⟩ := Option.bind_eq_some_iff.mp hf
  obtain ⟨xs,e2,hf⟩ := Option.bind_eq_some_iff.mp hf
  cases hf
  exact a.ok hv.l hd e1 fun x' G1 E1 D1 _ => r.ok (hv.r.up E1) (hd.up E1) e2 fun y' G2 E2 D2 => k _ G2 (E1.trans E2) (.cons (D1.up (rs_up E2)) D2)⟩
theorem few {n : Nat} (h : Tru (Nat.ble n 1000)) : n ≤ sizeLine := Nat.le_trans (Nat.le_of_ble_eq_true h.h) (by rw [sizeLine_eq];omega)
noncomputable def bTup {t : TA3} (a : PuA t) (hn : Tru (Nat.ble a.n 1000)) : PuE (tup3 t) := ⟨fun ρ => (a.f ρ).map .tuple,a.fv,false,fun hv hd hf k => by
 obtain ⟨xs,e1,rfl⟩ := Option.map_eq_some_iff.mp hf
 exact a.ok hv hd e1 fun x G1 E1 D1 => ⟨by rw [D1.length,a.ln e1];exact few hn,k _ _ E1 (.tup D1) (fun z => by cases z)⟩⟩
theorem nw_new {D : Addr → Prop} {G : Gp} {p : Addr} {xs : List T} {ds : List PyData} (hp : G p = none) (h : Dqs (rs D G) xs ds) : Nw D G (gu G p (.lst xs)) (.ref p) (.list ds) :=
 .inr ⟨p,xs,ds,rfl,rfl,hp,gu_same,h.up fun b o e => by
  obtain ⟨n,e⟩ := rs_some e
  have : b ≠ p := by rintro rfl;rw [hp] at e;cases e
  rw [rs_of (by rintro (z | z);exact n z;exact this z),gu_ne this];exact e⟩
theorem dq_new {D : Addr → Prop} {G : Gp} {p : Addr} {xs : List T} {ds : List PyData} (hd : Dom D G) (hp : G p = none) (h : Dqs (rs D G) xs ds) : Dq (rs D (gu G p (.lst xs))) (.ref p) (.list ds) :=
 .lst (rs_new hd hp) (h.up (rs_up (ex_new hp)))
noncomputable def bLst {t : TA3} (a : PuA t) (hn : Tru (Nat.ble a.n 1000)) : PuE (lst3 t) := ⟨fun ρ => (a.f ρ).map .list,a.fv,true,fun hv hd hf k => by
 obtain ⟨xs,e1,rfl⟩ := Option.map_eq_some_iff.mp hf
 exact a.ok hv hd e1 fun x G1 E1 D1 => ⟨by rw [D1.length,a.ln e1];exact few hn,fun p hp => k _ _ (E1.trans (ex_new hp)) (dq_new (hd.up E1) hp D1) fun _ => (nw_new hp D1).back E1⟩⟩
noncomputable def bCall {r : List T → Gp → Q3 → Prop} {t : TA3} (R : FnD r) (a : PuA t) : PuE (cb3 r t) :=
 ⟨fun ρ => (a.f ρ).bind R.f,a.fv,R.nw,fun hv hd hf k => by
  obtain ⟨x,e1,hf⟩ := Option.bind_eq_some_iff.mp hf
  exact a.ok hv hd e1 fun x' G1 E1 D1 => R.ok D1 (hd.up E1) hf fun z G3 E3 D3 N3 => k z G3 (E1.trans E3) D3 fun h => (N3 h).back E1⟩
noncomputable def asB : PyData → Option Bool
 | .bool b => some b
 | _ => none
noncomputable def asI : PyData → Option Int
 | .int b => some b
 | _ => none
theorem asB_eq {d : PyData} {b : Bool} (h : asB d = some b) : d = .bool b := by cases d <;> simp [asB] at h;subst h;rfl
theorem asI_eq {d : PyData} {b : Int} (h : asI d = some b) : d = .int b := by cases d <;> simp [asI] at h;subst h;rfl
noncomputable def bTb {t : TE3} (a : PuE t) : PuC (tb3 t) := ⟨fun ρ => (a.f ρ).bind asB,a.fv,fun hv hd hf k => by
 obtain ⟨x,e1,hf⟩ := Option.bind_eq_some_iff.mp hf
 have := asB_eq hf;subst this
 exact a.ok hv hd e1 fun x' G1 E1 D1 _ => by cases D1;exact k G1 E1⟩
noncomputable def bOr {t u : TT3} (a : PuC t) (b : PuC u) : PuC (or3 t u) := ⟨fun ρ => (a.f ρ).bind fun k => if k then some true else b.f ρ,a.fv ++ b.fv,fun hv hd hf k => by
 obtain ⟨x,e1,hf⟩ := Option.bind_eq_some_iff.mp hf
 refine a.ok hv.l hd e1 fun G1 E1 => ?_
 cases x with
 | false => exact b.ok (hv.r.up E1) (hd.up E1) hf fun G2 E2 => k G2 (E1.trans E2)
 | true => cases hf;exact k G1 E1⟩
noncomputable def bNot {t : TT3} (a : PuC t) : PuC (not3 t) := ⟨fun ρ => (a.f ρ).map (! ·),a.fv,fun hv hd hf k => by
 obtain ⟨x,e1,hf⟩ := Option.map_eq_some_iff.mp hf
 subst hf
 exact a.ok hv hd e1 fun G1 E1 => k G1 E1⟩
noncomputable def bTt : PuC tt3 := ⟨fun _ => some true,[],fun hv hd hf k => by cases hf;exact k _ Ex.refl⟩
noncomputable def bNeg {ta : TE3} (a : PuE ta) : PuE (u3 neg3 ta) := ⟨fun ρ => ((a.f ρ).bind asI).map fun i => .int (-i),a.fv,false,fun hv hd hf k => by
 obtain ⟨x,e1,hf⟩ := Option.map_eq_some_iff.mp hf
 obtain ⟨y,e1,e2⟩ := Option.bind_eq_some_iff.mp e1
 have := asI_eq e2;subst this
 subst hf
 refine a.ok hv hd e1 fun x' G1 E1 D1 _ => ?_
 cases D1
 exact k _ G1 E1 (.int _) (fun z => by cases z)⟩
noncomputable def bCh {r r' : R3} {ta tb tc : TE3} (R : OpD r) (R' : OpD r') (a : PuE ta) (b : PuE tb) (c : PuE tc) : PuE (ch3 r r' ta tb tc) :=
 ⟨fun ρ => (a.f ρ).bind fun x => (b.f ρ).bind fun y => ((R.f x y).bind asB).bind fun k => if k then (c.f ρ).bind fun z => R'.f y z else some (.bool false),a.fv ++ (b.fv ++ c.fv),false,fun {D τ ρ G q d} hv hd hf k => by
  obtain ⟨x,e1,hf⟩ := Option.bind_eq_some_iff.mp hf
  obtain ⟨y,e2,hf⟩ := Option.bind_eq_some_iff.mp hf
  obtain ⟨j,e3,hf⟩ := Option.bind_eq_some_iff.mp hf
  obtain ⟨v,e3,e4⟩ := Option.bind_eq_some_iff.mp e3
  have := asB_eq e4;subst this
  refine a.ok hv.l hd e1 fun x' G1 E1 D1 _ => b.ok (hv.r.l.up E1) (hd.up E1) e2 fun y' G2 E2 D2 _ => R.ok (D1.up (rs_up E2)) D2 ((hd.up E1).up E2) e3 fun z G3 E3 D3 _ => ?_
  cases D3
  have E := (E1.trans E2).trans E3
  cases j with
  | true =>
   obtain ⟨w,e5,hf⟩ := Option.bind_eq_some_iff.mp hf
   exact c.ok (hv.r.r.up E) (hd.up E) e5 fun w' G4 E4 D4 _ => R'.ok ((D2.up (rs_up E3)).up (rs_up E4)) D4 ((hd.up E).up E4) hf fun u G5 E5 D5 _ => k u G5 ((E.trans E4).trans E5) D5 (fun z => by cases z)
  | false => cases hf;exact k _ G3 E (.bl false) (fun z => by cases z)⟩
noncomputable def bSp {t : TE3} (a : PuE t) : PuO (sp3 t) := ⟨fun ρ => ((a.f ρ).bind asI).map some,a.fv,fun hv hd hf k => by
 obtain ⟨x,e1,hf⟩ := Option.map_eq_some_iff.mp hf
 obtain ⟨y,e1,e2⟩ := Option.bind_eq_some_iff.mp e1
 have := asI_eq e2;subst this
 subst hf
 refine a.ok hv hd e1 fun x' G1 E1 D1 _ => ?_
 cases D1
 exact k G1 E1⟩
theorem Dqs.cut {G : Gp} {xs : List T} {ds : List PyData} (h : Dqs G xs ds) (lo hi : Option Int) : Dqs G (cut3 xs lo hi) (cut3 ds lo hi) := by
 unfold cut3
 rw [h.length]
 exact (h.drop _).take _
noncomputable def slD (d : PyData) (lo hi : Option Int) : Option PyData := match d with
 | .tuple xs => cif (HT.sIx xs.length 0 lo = 0∧HT.sIx xs.length xs.length hi = xs.length) none (some (.tuple (cut3 xs lo hi)))
 | .list xs => some (.list (cut3 xs lo hi))
 | _ => none
noncomputable def bSl {te : TE3} {tl th : TO3} (a : PuE te) (l : PuO tl) (h : PuO th) : PuE (tsl3 te tl th) := ⟨fun ρ => (a.f ρ).bind fun d => (l.f ρ).bind fun lo => (h.f ρ).bind fun hi => slD d lo hi,a.fv ++ (l.fv ++ h.fv),false,fun hv hd hf k => by
 obtain ⟨d,e1,hf⟩ := Option.bind_eq_some_iff.mp hf
 obtain ⟨lo,e2,hf⟩ := Option.bind_eq_some_iff.mp hf
 obtain ⟨hi,e3,hf⟩ := Option.bind_eq_some_iff.mp hf
 refine a.ok hv.l hd e1 fun x' G1 E1 D1 _ => l.ok (hv.r.l.up E1) (hd.up E1) e2 fun G2 E2 => h.ok (hv.r.r.up (E1.trans E2)) (hd.up (E1.trans E2)) e3 fun G3 E3 => ?_
 have E := (E1.trans E2).trans E3
 have D3 := (D1.up (rs_up E2)).up (rs_up E3)
 unfold slD at hf
 cases D3 with
 | tup hs =>
  simp only [cif] at hf
  split at hf
  ·cases hf
  ·rename_i n
   cases hf
   exact ⟨by rw [hs.length];exact n,k _ _ E (.tup (hs.cut _ _)) (fun z => by cases z)⟩
 | lst g hs =>
  simp only at hf
  cases hf
  simp only [sl3,getL_of (rs_some g).2]
  intro p hp
  exact k _ _ (E.trans (ex_new hp)) (dq_new (hd.up E) hp (hs.cut _ _)) (fun z => by cases z)
 | _ => simp at hf⟩
noncomputable def intsD : List PyData → Option (List Int)
 | [] => some []
 | .int i :: r => (intsD r).map (i :: ·)
 | _ => none
theorem intsD_map (ns : List Int) : intsD (ns.map PyData.int) = some ns := by
 induction ns with
 | nil => rfl
 | cons n r ih => simp [intsD,ih]
theorem intsD_eq : ∀ {xs : List PyData} {ns : List Int},intsD xs = some ns → xs = ns.map PyData.int
 | [],_,h => by simp [intsD] at h;subst h;rfl
 | .int i :: r,ns,h => by
  simp only [intsD] at h
  obtain ⟨ms,e,rfl⟩ := Option.map_eq_some_iff.mp h
  rw [intsD_eq e];rfl
 | .none :: r,ns,h => by simp [intsD] at h
 | .bool _ :: r,ns,h => by simp [intsD] at h
 | .str _ :: r,ns,h => by simp [intsD] at h
 | .list _ :: r,ns,h => by simp [intsD] at h
 | .tuple _ :: r,ns,h => by simp [intsD] at h
 | .dict _ :: r,ns,h => by simp [intsD] at h
end Pu
namespace Pu
open PySem L2 L3
noncomputable def opI (g : Int → Int → Int) : OpD (iI g) := ⟨fun d e => match d,e with | .int i,.int j => some (.int (g i j)) | _,_ => none,false,fun {D G x y d e v q} hx hy hd hf k => by
 cases hx <;> try (simp at hf;done)
 cases hy <;> try (simp at hf;done)
 cases hf
 exact k _ _ Ex.refl (.int _) (fun z => by cases z)⟩
noncomputable def cI (C : Int → Int → Prop) (g : Int → Int → Int) (d e : PyData) : Option PyData := match d,e with | .int i,.int j => cif (C i j) (some (.int (g i j))) none | _,_ => none
noncomputable def opC (C : Int → Int → Prop) (g : Int → Int → Int) : OpD (iC C g) := ⟨cI C g,false,fun {D G x y d e v q} hx hy hd hf k => by
 unfold cI at hf
 cases hx <;> try (simp at hf;done)
 cases hy <;> try (simp at hf;done)
 simp only [cif] at hf
 split at hf
 ·rename_i c
  cases hf
  exact ⟨c,k _ _ Ex.refl (.int _) (fun z => by cases z)⟩
 ·cases hf⟩
noncomputable def opB (g : Int → Int → Bool) : OpD (iB g) := ⟨fun d e => match d,e with | .int i,.int j => some (.bool (g i j)) | _,_ => none,false,fun {D G x y d e v q} hx hy hd hf k => by
 cases hx <;> try (simp at hf;done)
 cases hy <;> try (simp at hf;done)
 cases hf
 exact k _ _ Ex.refl (.bl _) (fun z => by cases z)⟩
noncomputable def scalD : PyData → PyData → Option Bool
 | .none,.none => some true | .none,.int _ => some false | .int _,.none => some false | .none,.bool _ => some false | .bool _,.none => some false | .none,.str _ => some false | .str _,.none => some false
 | .int i,.int j => some (decide (i = j)) | .bool i,.bool j => some (decide (i = j)) | .str i,.str j => some (decide (i = j))
 | .int _,.str _ => some false | .str _,.int _ => some false | .bool _,.str _ => some false | .str _,.bool _ => some false
 | _,_ => none
theorem scal_same {G : Gp} {x y : T} {d e : PyData} (hx : Dq G x d) (hy : Dq G y e) : scalT x y = scalD d e := by
 cases hx <;> cases hy <;> rfl
noncomputable def eqD (neg : Bool) (d e : PyData) : Option PyData := match scalD d e with
 | some k => some (.bool (if neg then !k else k))
 | none => cif (dpt d ≤ 40∧dpt d ≠ 0) ((pyEq d e).map fun b => .bool (if neg then !b else b)) none
noncomputable def opEq (neg : Bool) : OpD (eqA3 neg) := ⟨eqD neg,false,fun {D G x y d e v q} hx hy hd hf k => by
 unfold eqA3
 rw [scal_same hx hy]
 unfold eqD at hf
 cases h : scalD d e with
 | some b => rw [h] at hf;cases hf;exact k _ _ Ex.refl (.bl _) (fun z => by cases z)
 | none =>
  rw [h] at hf
  simp only [cif] at hf ⊢
  split at hf
  ·rename_i c
   obtain ⟨b,e1,rfl⟩ := Option.map_eq_some_iff.mp hf
   exact ⟨d,e,b,(hx.up rs_ex).dp,(hy.up rs_ex).dp,e1,c.1,c.2,k _ _ Ex.refl (.bl _) (fun z => by cases z)⟩
  ·cases hf⟩
noncomputable def ixD (d e : PyData) : Option PyData := match d,e with
 | .tuple xs,.int i => atI xs i
 | .list xs,.int i => atI xs i
 | _,_ => none
theorem Dqs.atI {G : Gp} {xs : List T} {ds : List PyData} {i : Int} {d : PyData} (h : Dqs G xs ds) (e : L2.atI ds i = some d) : ∃ x,L2.atI xs i = some x∧Dq G x d := by
 unfold L2.atI at e ⊢
 rw [h.length]
 obtain ⟨j,e1,e2⟩ := Option.bind_eq_some_iff.mp e
 obtain ⟨x,hx,r⟩ := h.get e2
 exact ⟨x,by rw [e1];exact hx,r⟩
noncomputable def opIx : OpD ix3 := ⟨ixD,false,fun {D G x y d e v q} hx hy hd hf k => by
 unfold ixD at hf
 cases hx with
 | tup hs =>
  cases hy <;> try (simp at hf;done)
  obtain ⟨x,e1,r⟩ := hs.atI hf
  simp only [ix3,e1]
  exact k _ _ Ex.refl r (fun z => by cases z)
 | lst g hs =>
  cases hy <;> try (simp at hf;done)
  obtain ⟨x,e1,r⟩ := hs.atI hf
  simp only [ix3,getL_of (rs_some g).2,e1]
  exact k _ _ Ex.refl r (fun z => by cases z)
 | _ => simp at hf⟩
noncomputable def catD (d e : PyData) : Option PyData := match d,e with
 | .tuple xs,.tuple ys => cif (xs ≠ []∧xs.length + ys.length ≤ sizeLine) (some (.tuple (xs ++ ys))) none
 | .list xs,.list ys => cif (xs.length + ys.length ≤ sizeLine) (some (.list (xs ++ ys))) none
 | .int i,.int j => some (.int (i + j))
 | _,_ => none
noncomputable def opCat : OpD cat3 := ⟨catD,false,fun {D G x y d e v q} hx hy hd hf k => by
  unfold catD at hf
  cases hx with
  | int i => cases hy <;> try (simp at hf;done)
             cases hf
             exact k _ _ Ex.refl (.int _) (fun z => by cases z)
  | tup hs =>
    cases hy <;> try (simp at hf;done)
    rename_i hs2
    simp only [cif] at hf
    split at hf
    · rename_i c
      cases hf
      refine ⟨?_,by rw [hs.length,hs2.length];exact c.2,k _ _ Ex.refl (.tup (hs.append hs2)) (fun z => by cases z)⟩
      rintro rfl
      cases hs
      exact c.1 rfl
    · cases hf
  | lst g hs =>
    cases hy <;> try (simp at hf;done)
    rename_i g2 hs2
    simp only [cif] at hf
    split at hf
    · rename_i c
      cases hf
      simp only [cat3,(rs_some g).2,(rs_some g2).2]
      exact ⟨by rw [hs.length,hs2.length];exact c,fun p hp => k _ _ (ex_new hp) (dq_new hd hp (hs.append hs2)) (fun z => by cases z)⟩
    · cases hf
  | _ => simp at hf⟩
noncomputable def lenD : List PyData → Option PyData
 | [.tuple xs] => some (.int xs.length)
 | [.list xs] => some (.int xs.length)
 | _ => none
noncomputable def fLen : FnD len3 := ⟨lenD,false,fun {D G xs ds v q} hx hd hf k => by
 unfold lenD at hf
 split at hf
 ·cases hx with
  | cons a b => cases b;cases a;rename_i hs;cases hf;simp only [len3];rw [hs.length];exact k _ _ Ex.refl (.int _) (fun z => by cases z)
 ·cases hx with
  | cons a b => cases b;cases a;rename_i g hs;cases hf;simp only [len3,getL_of (rs_some g).2];rw [hs.length];exact k _ _ Ex.refl (.int _) (fun z => by cases z)
 ·cases hf⟩
noncomputable def lstD : List PyData → Option PyData
 | [.tuple xs] => some (.list xs)
 | [.list xs] => some (.list xs)
 | _ => none
noncomputable def fLst : FnD list3 := ⟨lstD,true,fun {D G xs ds v q} hx hd hf k => by
 unfold lstD at hf
 split at hf
 ·cases hx with
  | cons a b => cases b;cases a;rename_i hs;cases hf;exact fun p hp => k _ _ (ex_new hp) (dq_new hd hp hs) fun _ => nw_new hp hs
 ·cases hx with
  | cons a b => cases b;cases a;rename_i g hs;cases hf;simp only [list3,getL_of (rs_some g).2];exact fun p hp => k _ _ (ex_new hp) (dq_new hd hp hs) fun _ => nw_new hp hs
 ·cases hf⟩
noncomputable def mn : List Int → Int
 | [] => 0 | [a] => a | a :: b :: r => min a (mn (b :: r))
noncomputable def mx : List Int → Int
 | [] => 0 | [a] => a | a :: b :: r => max a (mx (b :: r))
theorem mn_le : ∀ {ns : List Int} {m : Int},m ∈ ns → mn ns ≤ m
 | [a],m,h => by simp at h;subst h;exact Int.le_refl _
 | a :: b :: r,m,h => by
  unfold mn
  rcases List.mem_cons.mp h with rfl | h
  ·omega
  ·have := mn_le h;omega
theorem mn_mem : ∀ {ns : List Int},ns ≠ [] → mn ns ∈ ns
 | [a],_ => by simp [mn]
 | a :: b :: r,_ => by
  unfold mn
  have := mn_mem (ns := b :: r) (by simp)
  rcases Int.le_total a (mn (b :: r)) with h | h
  ·rw [Int.min_eq_left h];simp
  ·rw [Int.min_eq_right h];exact List.mem_cons_of_mem _ this
theorem mx_le : ∀ {ns : List Int} {m : Int},m ∈ ns → m ≤ mx ns
 | [a],m,h => by simp at h;subst h;exact Int.le_refl _
 | a :: b :: r,m,h => by
  unfold mx
  rcases List.mem_cons.mp h with rfl | h
  ·omega
  ·have := mx_le h;omega
theorem mx_mem : ∀ {ns : List Int},ns ≠ [] → mx ns ∈ ns
 | [a],_ => by simp [mx]
 | a :: b :: r,_ => by
  unfold mx
  have := mx_mem (ns := b :: r) (by simp)
  rcases Int.le_total a (mx (b :: r)) with h | h
  ·rw [Int.max_eq_right h];exact List.mem_cons_of_mem _ this
  ·rw [Int.max_eq_left h];simp
noncomputable def mnD : List PyData → Option PyData
 | [.list xs] => (intsD xs).bind fun ns => cif (ns ≠ []) (some (.int (mn ns))) none
 | _ => none
noncomputable def fMinL : FnD minL3 := ⟨mnD,false,fun {D G xs ds v q} hx hd hf k => by
 unfold mnD at hf
 split at hf
 ·obtain ⟨ns,e,hf⟩ := Option.bind_eq_some_iff.mp hf
  unfold cif at hf
  split at hf
  ·rename_i c
   cases hf
   cases hx with
   | cons a b =>
    cases b;cases a;rename_i g hs;have := intsD_eq e;subst this;have := hs.ints;subst this;simp only [minL3,getL_of (rs_some g).2,intsT_map]
    refine ⟨c,fun m hm hl => ?_⟩
    have : m = mn ns := Int.le_antisymm (hl _ (mn_mem c)) (mn_le hm)
    subst this
    exact k _ _ Ex.refl (.int _) (fun z => by cases z)
  ·cases hf
 ·cases hf⟩
noncomputable def mxD : List PyData → Option PyData
 | [.list xs] => (intsD xs).bind fun ns => cif (ns ≠ []) (some (.int (mx ns))) none
 | _ => none
noncomputable def fMaxL : FnD maxL3 := ⟨mxD,false,fun {D G xs ds v q} hx hd hf k => by
 unfold mxD at hf
 split at hf
 ·obtain ⟨ns,e,hf⟩ := Option.bind_eq_some_iff.mp hf
  unfold cif at hf
  split at hf
  ·rename_i c
   cases hf
   cases hx with
   | cons a b =>
    cases b;cases a;rename_i g hs;have := intsD_eq e;subst this;have := hs.ints;subst this;simp only [maxL3,getL_of (rs_some g).2,intsT_map]
    refine ⟨c,fun m hm hl => ?_⟩
    have : m = mx ns := Int.le_antisymm (mx_le hm) (hl _ (mx_mem c))
    subst this
    exact k _ _ Ex.refl (.int _) (fun z => by cases z)
  ·cases hf
 ·cases hf⟩
noncomputable def PSp (F : List PyData → Option PyData) (fr : Bool) : Sp3 := fun ts G q => ∃ (D : Addr → Prop) (ds : List PyData) (d : PyData),Dqs (rs D G) ts ds∧Dom D G∧F ds = some d∧∀ x G',Ex G G' → Dq (rs D G') x d → (fr = true → Nw D G G' x d) → q x G'
noncomputable def fCall (F : List PyData → Option PyData) (fr : Bool) : FnD (PSp F fr) := ⟨F,fr,fun {D G xs ds v q} hx hd hf k => ⟨D,ds,v,hx,hd,hf,k⟩⟩
noncomputable def seqD : PyData → Option (List PyData)
 | .tuple xs => some xs
 | .list xs => some xs
 | _ => none
noncomputable def iSeq {t : TE3} (a : PuE t) : PuI (iseq3 t) := ⟨fun ρ => (a.f ρ).bind seqD,a.fv,false,fun {D τ ρ G r ds} hv hd hf k => by
 obtain ⟨d,e1,hf⟩ := Option.bind_eq_some_iff.mp hf
 refine a.ok hv hd e1 fun x G1 E1 D1 _ => ?_
 unfold seqD at hf
 cases D1 with
 | tup hs => cases hf;exact k _ _ _ E1 hs (fun _ _ => trivial) (fun z => by cases z)
 | lst g hs =>
  cases hf
  simp only [getL_of (rs_some g).2]
  refine k _ _ _ E1 hs (fun G2 h => ?_) (fun z => by cases z)
  rcases h with h | h
  ·cases h
  ·exact getL_of (h _ _ g)
 | _ => simp at hf⟩
noncomputable def rngI (lo : Int) (n : Nat) : List Int := (List.range n).map fun (i : Nat) => lo + (i : Int)
theorem rngI_T (lo : Int) (n : Nat) : rngT lo n = (rngI lo n).map T.int := by simp [rngT,rngI,List.map_map,Function.comp_def]
noncomputable def rngD : List PyData → Option (List PyData)
 | [.int j] => cif (-(2 ^ 62) ≤ j∧j < 2 ^ 62) (some ((rngI 0 j.toNat).map PyData.int)) none
 | [.int i,.int j] => cif (-(2 ^ 62) ≤ i∧i < 2 ^ 62∧-(2 ^ 62) ≤ j∧j < 2 ^ 62) (some ((rngI i (j - i).toNat).map PyData.int)) none
 | _ => none
noncomputable def iRng {t : TA3} (a : PuA t) : PuI (irng3 t) := ⟨fun ρ => (a.f ρ).bind rngD,a.fv,true,fun {D τ ρ G r ds} hv hd hf k => by
 obtain ⟨d,e1,hf⟩ := Option.bind_eq_some_iff.mp hf
 refine a.ok hv hd e1 fun x G1 E1 D1 => ?_
 unfold rngD at hf
 split at hf
 ·unfold cif at hf
  split at hf
  ·rename_i c
   cases hf
   cases D1 with
   | cons a b => cases b;cases a;simp only;rw [rngI_T];exact ⟨c,k _ _ _ E1 (Dqs.ofInts _) (fun _ _ => trivial) fun _ => ⟨_,rfl⟩⟩
  ·cases hf
 ·unfold cif at hf
  split at hf
  ·rename_i c
   cases hf
   cases D1 with
   | cons a b => cases b with
    | cons b c' => cases c';cases a;cases b;simp only;rw [rngI_T];exact ⟨c,k _ _ _ E1 (Dqs.ofInts _) (fun _ _ => trivial) fun _ => ⟨_,rfl⟩⟩
  ·cases hf
 ·cases hf⟩
noncomputable def zipD (us vs : List PyData) : List PyData := (us.zip vs).map fun p => .tuple [p.1,p.2]
theorem Dqs.zip {G : Gp} : ∀ {xs : List T} {ds : List PyData} {ys : List T} {es : List PyData},Dqs G xs ds → Dqs G ys es → Dqs G (zipT xs ys) (zipD ds es)
 | _,_,_,_,.nil,_ => by simp [zipT,zipD];exact .nil
 | _,_,_,_,.cons _ _,.nil => by simp [zipT,zipD];exact .nil
 | _,_,_,_,.cons a b,.cons c d => .cons (.tup (.cons a (.cons c .nil))) (Dqs.zip b d)
inductive Bd (H : Gp) : List (Nat × T) → List (Nat × PyData) → Prop
 | nil : Bd H [] []
 | cons {i : Nat} {x : T} {d : PyData} {ts : List (Nat × T)} {bs : List (Nat × PyData)} : Dq H x d → Bd H ts bs → Bd H ((i,x) :: ts) ((i,d) :: bs)
theorem Bd.append {H : Gp} : ∀ {ts : List (Nat × T)} {bs : List (Nat × PyData)} {us : List (Nat × T)} {cs : List (Nat × PyData)},Bd H ts bs → Bd H us cs → Bd H (ts ++ us) (bs ++ cs)
 | _,_,_,_,.nil,h => h
 | _,_,_,_,.cons a b,h => .cons a (Bd.append b h)
theorem Bd.up {H H' : Gp} (e : Ex H H') : ∀ {ts : List (Nat × T)} {bs : List (Nat × PyData)},Bd H ts bs → Bd H' ts bs
 | _,_,.nil => .nil
 | _,_,.cons a b => .cons (a.up e) (Bd.up e b)
noncomputable def sets : St3 → List (Nat × T) → St3
 | τ,[] => τ
 | τ,p :: r => sets (τ.set p.1 (some p.2)) r
noncomputable def setS : Rho → List (Nat × PyData) → Rho
 | ρ,[] => ρ
 | ρ,p :: r => setS (ρ.set p.1 (.sh p.2)) r
theorem sets_app : ∀ (τ : St3) (a b : List (Nat × T)),sets τ (a ++ b) = sets (sets τ a) b
 | τ,[],b => rfl
 | τ,p :: a,b => by simp only [List.cons_append,sets];exact sets_app _ a b
structure PuG (g : TG3) where
 f : PyData → Option (List (Nat × PyData))
 tg : List Nat
 at' : ∀ {d bs},f d = some bs → ∀ p ∈ bs,p.1 ∈ tg
 ok : ∀ {H x d bs},Dq H x d → f d = some bs → ∃ ts,Bd H ts bs∧∀ τ G (q : St3 → Gp → Prop),q (sets τ ts) G → g x τ G q
structure PuGs (g : TGs3) where
 f : List PyData → Option (List (Nat × PyData))
 tg : List Nat
 at' : ∀ {d bs},f d = some bs → ∀ p ∈ bs,p.1 ∈ tg
 ok : ∀ {H x d bs},Dqs H x d → f d = some bs → ∃ ts,Bd H ts bs∧∀ τ G (q : St3 → Gp → Prop),q (sets τ ts) G → g x τ G q
noncomputable def gN (i : Nat) : PuG (gn3 i) := ⟨fun d => some [(i,d)],[i],fun h p hp => by cases h;simp at hp;subst hp;simp,fun hx h => by cases h;exact ⟨_,.cons hx .nil,fun τ G q hq => hq⟩⟩
noncomputable def gNil : PuGs gnil3 := ⟨fun ds => match ds with | [] => some [] | _ => none,[],(fun h p hp => by split at h;cases h;cases hp;cases h),fun hx h => by
 split at h
 ·cases h;cases hx;exact ⟨[],.nil,fun τ G q hq => hq⟩
 ·cases h⟩
noncomputable def gCons {t : TG3} {u : TGs3} (a : PuG t) (b : PuGs u) : PuGs (gcons3 t u) := ⟨fun ds => match ds with | d :: r => (a.f d).bind fun x => (b.f r).map fun y => x ++ y | [] => none,a.tg ++ b.tg,(fun h p hp => by
 split at h
 ·obtain ⟨x,e1,h⟩ := Option.bind_eq_some_iff.mp h
  obtain ⟨y,e2,rfl⟩ := Option.map_eq_some_iff.mp h
  rcases List.mem_append.mp hp with z | z
  ·exact List.mem_append.mpr (.inl (a.at' e1 p z))
  ·exact List.mem_append.mpr (.inr (b.at' e2 p z))
 ·cases h),fun hx h => by
 split at h
 ·obtain ⟨x,e1,h⟩ := Option.bind_eq_some_iff.mp h
  obtain ⟨y,e2,rfl⟩ := Option.map_eq_some_iff.mp h
  cases hx with
  | cons hx hr =>
   obtain ⟨ts,b1,k1⟩ := a.ok hx e1
   obtain ⟨us,b2,k2⟩ := b.ok hr e2
   refine ⟨ts ++ us,b1.append b2,fun τ G q hq => k1 τ G _ (k2 _ G q ?_)⟩
   rw [← sets_app];exact hq
 ·cases h⟩
noncomputable def gTup {u : TGs3} (n : Nat) (b : PuGs u) : PuG (gtup3 n u) := ⟨fun d => match d with | .tuple ds => if ds.length = n then b.f ds else none | _ => none,b.tg,(fun h p hp => by
 split at h
 ·split at h
  ·exact b.at' h p hp
  ·cases h
 ·cases h),fun hx h => by
 split at h
 ·split at h
  ·rename_i c
   cases hx with
   | tup hs =>
    obtain ⟨ts,b1,k1⟩ := b.ok hs h
    exact ⟨ts,b1,fun τ G q hq => ⟨by rw [hs.length];exact c,k1 τ G q hq⟩⟩
  ·cases h
 ·cases h⟩
end Pu
namespace Pu
open PySem L2 L3
structure VA (D : Addr → Prop) (G : Gp) (τ : St3) (ρ : Rho) : Prop where
 len : ρ.length = τ.length
 vw : ∀ i d,vw ρ i = some d → ∃ t,τ[i]? = some (some t)∧Dq (rs D G) t d
theorem VA.view {D : Addr → Prop} {G : Gp} {τ : St3} {ρ : Rho} (h : VA D G τ ρ) (fv : List Nat) : View fv D G τ ρ := fun i _ d e => h.vw i d e
theorem VA.upx {D : Addr → Prop} {G G' : Gp} {τ : St3} {ρ : Rho} (h : VA D G τ ρ) (e : Ex (rs D G) (rs D G')) : VA D G' τ ρ := ⟨h.len,fun i d hd => let ⟨t,a,b⟩ := h.vw i d hd;⟨t,a,b.up e⟩⟩
theorem VA.up {D : Addr → Prop} {G G' : Gp} {τ : St3} {ρ : Rho} (h : VA D G τ ρ) (e : Ex G G') : VA D G' τ ρ := h.upx (rs_up e)
theorem vw_set {ρ : Rho} {i j : Nat} {s : Sl} : vw (ρ.set i s) j = if i = j then (if i < ρ.length then s.d else none) else vw ρ j := by
 unfold vw
 rw [List.getElem?_set]
 split
 ·subst j;split
  ·rfl
  ·rfl
 ·rfl
theorem VA.set {D : Addr → Prop} {G : Gp} {τ : St3} {ρ : Rho} (h : VA D G τ ρ) {i : Nat} {x : T} {d : PyData} (hx : Dq (rs D G) x d) : VA D G (τ.set i (some x)) (ρ.set i (.sh d)) := by
 refine ⟨by simp [h.len],fun j e he => ?_⟩
 rw [vw_set] at he
 split at he
 ·subst j
  split at he
  ·rename_i l
   cases he
   refine ⟨x,?_,hx⟩
   rw [List.getElem?_set,if_pos rfl,if_pos (by rw [← h.len];exact l)]
  ·cases he
 ·rename_i n
  obtain ⟨t,a,b⟩ := h.vw j e he
  exact ⟨t,by rw [List.getElem?_set,if_neg n];exact a,b⟩
theorem VA.sets {D : Addr → Prop} {G : Gp} : ∀ {ts : List (Nat × T)} {bs : List (Nat × PyData)} {τ : St3} {ρ : Rho},VA D G τ ρ → Bd (rs D G) ts bs → VA D G (Pu.sets τ ts) (setS ρ bs)
 | _,_,_,_,h,.nil => h
 | _,_,_,_,h,.cons a b => by unfold Pu.sets setS;exact VA.sets (h.set a) b
theorem VA.keep {D : Addr → Prop} {G : Gp} {ρ : Rho} : ∀ {ts : List (Nat × T)} {τ : St3},VA D G τ ρ → (∀ p ∈ ts,Pu.vw ρ p.1 = none) → VA D G (Pu.sets τ ts) ρ
 | [],_,h,_ => h
 | p :: r,τ,h,hn => VA.keep (ts := r) ⟨by rw [List.length_set];exact h.len,fun j d hd => by
   have : p.1 ≠ j := by rintro rfl;rw [hn p (by simp)] at hd;cases hd
   obtain ⟨t,a,b⟩ := h.vw j d hd
   exact ⟨t,by rw [List.getElem?_set,if_neg this];exact a,b⟩⟩ fun q hq => hn q (by simp [hq])
noncomputable def capS (m : List (Option Nat)) (ρ : Rho) : Rho := m.map fun o => match o with | some j => (match vw ρ j with | some d => .sh d | none => .un) | none => .un
theorem VA.cap {m : List (Option Nat)} {D : Addr → Prop} {G : Gp} {τ : St3} {ρ : Rho} (h : View (m.filterMap id) D G τ ρ) : VA D G (L3.cap m τ) (capS m ρ) := by
 refine ⟨by simp [capS,L3.cap],fun i d hd => ?_⟩
 unfold Pu.vw capS at hd
 rw [List.getElem?_map] at hd
 cases e : m[i]? with
 | none => rw [e] at hd;cases hd
 | some o =>
  rw [e] at hd
  cases o with
  | none => cases hd
  | some j =>
   simp only [Option.map_some,Option.bind_some] at hd
   cases e2 : Pu.vw ρ j with
   | none => rw [e2] at hd;cases hd
   | some d' =>
    rw [e2] at hd
    have hd' : d' = d := by simpa [Sl.d] using hd
    subst hd'
    obtain ⟨t,a,b⟩ := h j (List.mem_filterMap.mpr ⟨some j,List.mem_of_getElem? e,rfl⟩) d' e2
    refine ⟨t,?_,b⟩
    unfold L3.cap
    rw [List.getElem?_map,e]
    simp [a]
theorem capS_no {m : List (Option Nat)} {ρ : Rho} {i : Nat} (h : m[i]? = some none) : vw (capS m ρ) i = none := by
 unfold vw capS
 rw [List.getElem?_map,h]
 rfl
noncomputable def lcP (h : PyData → Option (Option PyData)) : List PyData → Option (List PyData)
 | [] => some []
 | d :: r => (h d).bind fun o => (lcP h r).bind fun ys => some (match o with | some y => y :: ys | none => ys)
noncomputable def lcH (gf : PyData → Option (List (Nat × PyData))) (cf : Rho → Option Bool) (ef : Rho → Option PyData) (ρ : Rho) (d : PyData) : Option (Option PyData) :=
 (gf d).bind fun bs => (cf (setS ρ bs)).bind fun k => if k then (ef (setS ρ bs)).map some else some none
theorem lcP_map {h : PyData → Option (Option PyData)} {α : Type} {g : α → PyData} {k : α → PyData} {xs : List α} (hh : ∀ a ∈ xs,h (g a) = some (some (k a))) : lcP h (xs.map g) = some (xs.map k) := by
 induction xs with
 | nil => rfl
 | cons a r ih => simp only [List.map_cons,lcP,hh a (by simp),Option.bind_some,ih fun b hb => hh b (by simp [hb])]
theorem lcP_filter {h : PyData → Option (Option PyData)} {α : Type} {g : α → PyData} {k : α → PyData} {c : α → Bool} {xs : List α} (hh : ∀ a ∈ xs,h (g a) = some (if c a then some (k a) else none)) : lcP h (xs.map g) = some ((xs.filter c).map k) := by
 induction xs with
 | nil => rfl
 | cons a r ih =>
  simp only [List.map_cons,lcP,hh a (by simp),Option.bind_some,ih fun b hb => hh b (by simp [hb])]
  cases e : c a with
  | true => simp [e]
  | false => simp [e]
theorem bd_at {H : Gp} : ∀ {ts : List (Nat × T)} {bs : List (Nat × PyData)},Bd H ts bs → ∀ p ∈ ts,∃ q ∈ bs,q.1 = p.1
 | _,_,.nil,p,hp => by cases hp
 | _,_,.cons a b,p,hp => by
  rcases List.mem_cons.mp hp with rfl | hp
  ·exact ⟨_,List.mem_cons_self,rfl⟩
  ·obtain ⟨q,hq,e⟩ := bd_at b p hp
   exact ⟨q,by simp [hq],e⟩
theorem lc_go {stay : Gp → Prop} {g : TG3} {tif : TT3} {te : TE3} {q : Q3} (pg : PuG g) (pc : PuC tif) (pe : PuE te) {D : Addr → Prop} {ρ0 : Rho} {G0 : Gp} (hs : ∀ G,Ex G0 G → stay G) (hm : ∀ i ∈ pg.tg,vw ρ0 i = none) (fin : List PyData) (hfin : fin.length ≤ sizeLine)
  (k : ∀ G ys,Ex G0 G → Dqs (rs D G) ys fin → ∀ p,G p = none → q (.ref p) (gu G p (.lst ys))) :
  ∀ (ds : List PyData) (items ys : List T) (es fs : List PyData) (τ : St3) (G : Gp),Dqs (rs D G0) items ds → VA D G τ ρ0 → Ex G0 G → Dom D G → Dqs (rs D G) ys es → lcP (lcH pg.f pc.f pe.f ρ0) ds = some fs → es ++ fs = fin → lcGo stay g tif te q items ys τ G
 | _,_,ys,es,fs,τ,G,.nil,va,E,hd,hy,hf,hl => by
  cases hf
  rw [List.append_nil] at hl
  subst hl
  exact ⟨hs G E,k G ys E hy⟩
 | d :: ds,x :: items,ys,es,fs,τ,G,.cons hx hr,va,E,hd,hy,hf,hl => by
  unfold lcP at hf
  obtain ⟨o,e1,hf⟩ := Option.bind_eq_some_iff.mp hf
  obtain ⟨rest,e2,hf⟩ := Option.bind_eq_some_iff.mp hf
  unfold lcH at e1
  obtain ⟨bs,e3,e1⟩ := Option.bind_eq_some_iff.mp e1
  obtain ⟨c,e4,e1⟩ := Option.bind_eq_some_iff.mp e1
  obtain ⟨ts,bd,kg⟩ := pg.ok (hx.up (rs_up E)) e3
  refine ⟨hs G E,kg τ G _ ?_⟩
  have va1 := va.sets bd
  have va2 := va.keep (ts := ts) fun p hp => by
   obtain ⟨q,hq,e⟩ := bd_at bd p hp
   rw [← e];exact hm _ (pg.at' e3 q hq)
  refine pc.ok (va1.view _) hd e4 fun G1 E1 => ?_
  cases c with
  | true =>
   rw [if_pos rfl]
   rw [if_pos rfl] at e1
   obtain ⟨y,e5,rfl⟩ := Option.map_eq_some_iff.mp e1
   simp only [Option.some.injEq] at hf
   subst hf
   refine pe.ok ((va1.up E1).view _) (hd.up E1) e5 fun z G2 E2 D2 _ => ⟨?_,?_⟩
   ·rw [hy.length]
    rw [← hl] at hfin
    simp at hfin;omega
   ·refine lc_go pg pc pe hs hm fin hfin k ds items (ys ++ [z]) (es ++ [y]) rest _ G2 hr ((va2.up E1).up E2) (E.trans (E1.trans E2)) ((hd.up E1).up E2) (((hy.up (rs_up E1)).up (rs_up E2)).append (.cons D2 .nil)) e2 ?_
    rw [← hl];simp
  | false =>
   rw [if_neg Bool.false_ne_true]
   simp at e1
   subst e1
   simp only [Option.some.injEq] at hf
   subst hf
   exact lc_go pg pc pe hs hm fin hfin k ds items ys es rest _ G1 hr (va2.up E1) (E.trans E1) (hd.up E1) (hy.up (rs_up E1)) e2 hl
noncomputable def lcF (pi : Rho → Option (List PyData)) (h : Rho → PyData → Option (Option PyData)) (m : List (Option Nat)) (ρ : Rho) : Option PyData :=
 (pi ρ).bind fun ds => (lcP (h (capS m ρ)) ds).bind fun fs => cif (fs.length ≤ sizeLine) (some (.list fs)) none
noncomputable def bLc {wi : TI3} {g : TG3} {tif : TT3} {te : TE3} (pi : PuI wi) (pg : PuG g) (pc : PuC tif) (pe : PuE te) (m : List (Option Nat)) (hm : Tru (pg.tg.all fun i => m[i]? == some none)) : PuE (lc3 wi g tif te m) :=
 ⟨lcF pi.f (lcH pg.f pc.f pe.f) m,pi.fv ++ m.filterMap id,true,fun {D τ ρ G q d} hv hd hf k => by
  unfold lcF at hf
  obtain ⟨ds,e1,hf⟩ := Option.bind_eq_some_iff.mp hf
  obtain ⟨fs,e2,hf⟩ := Option.bind_eq_some_iff.mp hf
  unfold cif at hf
  split at hf
  ·rename_i hl
   cases hf
   refine pi.ok hv.l hd e1 fun items stay G1 E1 D1 hs _ => ?_
   have va := (VA.cap (m := m) hv.r).up E1
   refine lc_go pg pc pe (D := D) (ρ0 := capS m ρ) (G0 := G1) (fun G2 E2 => hs G2 (.inr (rs_ex.trans E2))) (fun i hi => capS_no ?_) fs hl (fun G2 ys E2 D2 p hp => ?_) ds items [] [] fs _ G1 D1 va Ex.refl (hd.up E1) .nil e2 (by simp)
   ·have := List.all_eq_true.mp hm.h i hi
    simpa using this
   ·exact k _ _ ((E1.trans E2).trans (ex_new hp)) (dq_new ((hd.up E1).up E2) hp D2) fun _ => (nw_new hp D2).back (E1.trans E2)
  ·cases hf⟩
def E0 (p : Addr) (G G' : Gp) : Prop := ∀ b o,b ≠ p → G b = some o → G' b = some o
theorem E0.refl {p : Addr} {G : Gp} : E0 p G G := fun _ _ _ e => e
theorem E0.trans {p : Addr} {G G1 G2 : Gp} (a : E0 p G G1) (b : E0 p G1 G2) : E0 p G G2 := fun x o n e => b x o n (a x o n e)
theorem E0.of {p : Addr} {G G1 : Gp} (a : Ex G G1) : E0 p G G1 := fun x o _ e => a x o e
theorem E0.wr {p : Addr} {G : Gp} {o : O} : E0 p G (gu G p o) := fun b ob n e => by rw [gu_ne n];exact e
theorem E0.rs {p : Addr} {D : Addr → Prop} {G G1 : Gp} (a : E0 p G G1) : Ex (rs (fun b => D b ∨ b = p) G) (rs (fun b => D b ∨ b = p) G1) := fun b o h => by
 obtain ⟨n,h⟩ := rs_some h
 rw [rs_of n]
 exact a b o (fun z => n (.inr z)) h
theorem dom_wr {D : Addr → Prop} {G : Gp} {p : Addr} {o : O} (h : Dom D G) : Dom D (gu G p o) := fun b d z => by
 by_cases e : b = p
 ·subst e;rw [gu_same] at z;cases z
 ·rw [gu_ne e] at z;exact h b d z
theorem in_go {p : Addr} {stay : Gp → Prop} {g : TG3} {tif : TT3} {te : TE3} {N : St3 → Gp → Prop} (pg : PuG g) (pc : PuC tif) (pe : PuE te) {D : Addr → Prop} {ρ0 : Rho} {G0 : Gp} (hs : ∀ G,Ex (rs (fun b => D b ∨ b = p) G0) G → stay G) (hm : ∀ i ∈ pg.tg,vw ρ0 i = none) (fin : List PyData) (hfin : fin.length ≤ sizeLine)
  (k : ∀ τ G ys,VA (fun b => D b ∨ b = p) G τ ρ0 → E0 p G0 G → Dom (fun b => D b ∨ b = p) G → G p = some (.lst ys) → Dqs (rs (fun b => D b ∨ b = p) G) ys fin → N τ G) :
  ∀ (ds : List PyData) (items ys : List T) (es fs : List PyData) (τ : St3) (G : Gp),Dqs (rs (fun b => D b ∨ b = p) G0) items ds → VA (fun b => D b ∨ b = p) G τ ρ0 → E0 p G0 G → Dom (fun b => D b ∨ b = p) G → G p = some (.lst ys) → Dqs (rs (fun b => D b ∨ b = p) G) ys es → lcP (lcH pg.f pc.f pe.f ρ0) ds = some fs → es ++ fs = fin → inGo p stay g tif te N items τ G
 | _,_,ys,es,fs,τ,G,.nil,va,E,hd,gp,hy,hf,hl => by
  cases hf
  rw [List.append_nil] at hl
  subst hl
  exact ⟨hs G (E.rs.trans rs_ex),k τ G ys va E hd gp hy⟩
 | d :: ds,x :: items,ys,es,fs,τ,G,.cons hx hr,va,E,hd,gp,hy,hf,hl => by
  unfold lcP at hf
  obtain ⟨o,e1,hf⟩ := Option.bind_eq_some_iff.mp hf
  obtain ⟨rest,e2,hf⟩ := Option.bind_eq_some_iff.mp hf
  unfold lcH at e1
  obtain ⟨bs,e3,e1⟩ := Option.bind_eq_some_iff.mp e1
  obtain ⟨c,e4,e1⟩ := Option.bind_eq_some_iff.mp e1
  obtain ⟨ts,bd,kg⟩ := pg.ok (hx.up E.rs) e3
  refine ⟨hs G (E.rs.trans rs_ex),kg τ G _ ?_⟩
  have va1 := va.sets bd
  have va2 := va.keep (ts := ts) fun p hp => by
   obtain ⟨q,hq,e⟩ := bd_at bd p hp
   rw [← e];exact hm _ (pg.at' e3 q hq)
  refine pc.ok (va1.view _) hd e4 fun G1 E1 => ?_
  cases c with
  | true =>
   rw [if_pos rfl]
   rw [if_pos rfl] at e1
   obtain ⟨y,e5,rfl⟩ := Option.map_eq_some_iff.mp e1
   simp only [Option.some.injEq] at hf
   subst hf
   refine pe.ok ((va1.up E1).view _) (hd.up E1) e5 fun z G2 E2 D2 _ => ?_
   simp only [E2 _ _ (E1 _ _ gp)]
   have W : E0 p G2 (gu G2 p (.lst (ys ++ [z]))) := E0.wr
   refine ⟨?_,?_⟩
   ·rw [hy.length]
    rw [← hl] at hfin
    simp at hfin;omega
   ·refine in_go pg pc pe hs hm fin hfin k ds items (ys ++ [z]) (es ++ [y]) rest _ _ hr (((va2.up E1).up E2).upx W.rs) ((E.trans (E0.of (E1.trans E2))).trans W) (dom_wr ((hd.up E1).up E2)) gu_same ((((hy.up (rs_up E1)).up (rs_up E2)).append (.cons D2 .nil)).up W.rs) e2 ?_
    rw [← hl];simp
  | false =>
   rw [if_neg Bool.false_ne_true]
   simp at e1
   subst e1
   simp only [Option.some.injEq] at hf
   subst hf
   exact in_go pg pc pe hs hm fin hfin k ds items ys es rest _ G1 hr (va2.up E1) (E.trans (E0.of E1)) (hd.up E1) (E1 _ _ gp) (hy.up (rs_up E1)) e2 hl
noncomputable def lc2P (h : PyData → Option (Option (List PyData))) : List PyData → Option (List PyData)
 | [] => some []
 | d :: r => (h d).bind fun o => (lc2P h r).bind fun ys => some (match o with | some y => y ++ ys | none => ys)
noncomputable def lc2H (gf : PyData → Option (List (Nat × PyData))) (cf : Rho → Option Bool) (it : Rho → Option (List PyData)) (h : Rho → PyData → Option (Option PyData)) (ρ : Rho) (d : PyData) : Option (Option (List PyData)) :=
 (gf d).bind fun bs => (cf (setS ρ bs)).bind fun k => if k then ((it (setS ρ bs)).bind fun ds => lcP (h (setS ρ bs)) ds).map some else some none
theorem vw_setS : ∀ {bs : List (Nat × PyData)} {ρ : Rho} {i : Nat},(∀ p ∈ bs,p.1 ≠ i) → vw (setS ρ bs) i = vw ρ i
 | [],_,_,_ => rfl
 | p :: r,ρ,i,h => by
  unfold setS
  rw [vw_setS (fun q hq => h q (by simp [hq])),vw_set,if_neg (h p (by simp))]
theorem setS_len : ∀ (bs : List (Nat × PyData)) (ρ : Rho),(setS ρ bs).length = ρ.length
 | [],τ => rfl
 | p :: r,τ => by unfold setS;rw [setS_len r];simp
theorem lc2_go {p : Addr} {stay : Gp → Prop} {g g2 : TG3} {tif tif2 : TT3} {wi2 : TI3} {te : TE3} {q : Q3} (pg : PuG g) (pc : PuC tif) (pi2 : PuI wi2) (pg2 : PuG g2) (pc2 : PuC tif2) (pe : PuE te) {D : Addr → Prop} {ρ0 : Rho} {G0 : Gp} (hs : ∀ G,Ex (rs (fun b => D b ∨ b = p) G0) G → stay G) (hm : ∀ i ∈ pg.tg,vw ρ0 i = none) (hm2 : ∀ i ∈ pg2.tg,vw ρ0 i = none) (hdj : ∀ i ∈ pg2.tg,i ∉ pg.tg) (fin : List PyData) (hfin : fin.length ≤ sizeLine)
  (k : ∀ G ys,E0 p G0 G → G p = some (.lst ys) → Dqs (rs (fun b => D b ∨ b = p) G) ys fin → q (.ref p) G) :
  ∀ (ds : List PyData) (items ys : List T) (es fs : List PyData) (τ : St3) (G : Gp),Dqs (rs (fun b => D b ∨ b = p) G0) items ds → VA (fun b => D b ∨ b = p) G τ ρ0 → E0 p G0 G → Dom (fun b => D b ∨ b = p) G → G p = some (.lst ys) → Dqs (rs (fun b => D b ∨ b = p) G) ys es → lc2P (lc2H pg.f pc.f pi2.f (lcH pg2.f pc2.f pe.f) ρ0) ds = some fs → es ++ fs = fin → lc2Go p stay g tif wi2 g2 tif2 te q items τ G
 | _,_,ys,es,fs,τ,G,.nil,va,E,hd,gp,hy,hf,hl => by
  cases hf
  rw [List.append_nil] at hl
  subst hl
  exact ⟨hs G (E.rs.trans rs_ex),k G ys E gp hy⟩
 | d :: ds,x :: items,ys,es,fs,τ,G,.cons hx hr,va,E,hd,gp,hy,hf,hl => by
  unfold lc2P at hf
  obtain ⟨o,e1,hf⟩ := Option.bind_eq_some_iff.mp hf
  obtain ⟨rest,e2,hf⟩ := Option.bind_eq_some_iff.mp hf
  unfold lc2H at e1
  obtain ⟨bs,e3,e1⟩ := Option.bind_eq_some_iff.mp e1
  obtain ⟨c,e4,e1⟩ := Option.bind_eq_some_iff.mp e1
  obtain ⟨ts,bd,kg⟩ := pg.ok (hx.up E.rs) e3
  refine ⟨hs G (E.rs.trans rs_ex),kg τ G _ ?_⟩
  have va1 := va.sets bd
  have va2 := va.keep (ts := ts) fun p hp => by
   obtain ⟨q,hq,e⟩ := bd_at bd p hp
   rw [← e];exact hm _ (pg.at' e3 q hq)
  refine pc.ok (va1.view _) hd e4 fun G1 E1 => ?_
  cases c with
  | true =>
   rw [if_pos rfl]
   rw [if_pos rfl] at e1
   obtain ⟨y,e5,rfl⟩ := Option.map_eq_some_iff.mp e1
   obtain ⟨ds2,e6,e5⟩ := Option.bind_eq_some_iff.mp e5
   simp only [Option.some.injEq] at hf
   subst hf
   refine pi2.ok ((va1.up E1).view _) (hd.up E1) e6 fun items2 stay2 G2 E2 D2 hs2 _ => ?_
   have l2 : (es ++ y).length ≤ sizeLine := by
    rw [← hl] at hfin
    simp at hfin ⊢;omega
   refine in_go pg2 pc2 pe (ρ0 := setS ρ0 bs) (G0 := G2) (fun G3 E3 => hs2 G3 (.inr E3)) (fun i hi => ?_) (es ++ y) l2 (fun τ3 G3 zs va3 E3 hd3 gp3 hz => ?_) ds2 items2 ys es y _ G2 D2 ((va1.up E1).up E2) E0.refl ((hd.up E1).up E2) (E2 _ _ (E1 _ _ gp)) ((hy.up (rs_up E1)).up (rs_up E2)) e5 rfl
   ·rw [vw_setS fun q hq e => hdj i hi (by rw [← e];exact pg.at' e3 q hq)];exact hm2 i hi
   ·have E4 : E0 p G G3 := (E0.of (E1.trans E2)).trans E3
    have va4 : VA (fun b => D b ∨ b = p) G3 τ3 ρ0 := ⟨by rw [← va3.len,setS_len],fun i d' hd' => va3.vw i d' (by
     rw [vw_setS fun q hq e => ?_];exact hd'
     rw [← e,hm _ (pg.at' e3 q hq)] at hd';cases hd')⟩
    exact lc2_go pg pc pi2 pg2 pc2 pe hs hm hm2 hdj fin hfin k ds items zs (es ++ y) rest τ3 G3 hr va4 (E.trans E4) hd3 gp3 hz e2 (by rw [← hl];simp)
  | false =>
   rw [if_neg Bool.false_ne_true]
   simp at e1
   subst e1
   simp only [Option.some.injEq] at hf
   subst hf
   exact lc2_go pg pc pi2 pg2 pc2 pe hs hm hm2 hdj fin hfin k ds items ys es rest _ G1 hr (va2.up E1) (E.trans (E0.of E1)) (hd.up E1) (E1 _ _ gp) (hy.up (rs_up E1)) e2 hl
noncomputable def lc2F (pi : Rho → Option (List PyData)) (h : Rho → PyData → Option (Option (List PyData))) (m : List (Option Nat)) (ρ : Rho) : Option PyData :=
 (pi ρ).bind fun ds => (lc2P (h (capS m ρ)) ds).bind fun fs => cif (fs.length ≤ sizeLine) (some (.list fs)) none
theorem lc2P_map {h : PyData → Option (Option (List PyData))} {α : Type} {g : α → PyData} {k : α → List PyData} {xs : List α} (hh : ∀ a ∈ xs,h (g a) = some (some (k a))) : lc2P h (xs.map g) = some (xs.flatMap k) := by
 induction xs with
 | nil => rfl
 | cons a r ih => simp only [List.map_cons,lc2P,hh a (by simp),Option.bind_some,ih fun b hb => hh b (by simp [hb]),List.flatMap_cons]
noncomputable def bLc2 {wi wi2 : TI3} {g g2 : TG3} {tif tif2 : TT3} {te : TE3} (pi : PuI wi) (pg : PuG g) (pc : PuC tif) (pi2 : PuI wi2) (pg2 : PuG g2) (pc2 : PuC tif2) (pe : PuE te) (m : List (Option Nat)) (hm : Tru (pg.tg.all fun i => m[i]? == some none)) (hm2 : Tru (pg2.tg.all fun i => m[i]? == some none)) (hdj : Tru (pg2.tg.all fun i => !pg.tg.contains i)) : PuE (lc23 wi g tif wi2 g2 tif2 te m) :=
 ⟨lc2F pi.f (lc2H pg.f pc.f pi2.f (lcH pg2.f pc2.f pe.f)) m,pi.fv ++ m.filterMap id,true,fun {D τ ρ G q d} hv hd hf k => by
  unfold lc2F at hf
  obtain ⟨ds,e1,hf⟩ := Option.bind_eq_some_iff.mp hf
  obtain ⟨fs,e2,hf⟩ := Option.bind_eq_some_iff.mp hf
  unfold cif at hf
  split at hf
  ·rename_i hl
   cases hf
   refine pi.ok hv.l hd e1 fun items stay G1 E1 D1 hs _ p hp => ?_
   have va := (VA.cap (m := m) hv.r).up E1
   have np : ∀ {b o},G1 b = some o → b ≠ p := fun e => by rintro rfl;rw [hp] at e;cases e
   have X1 : Ex (rs D G1) (rs (fun b => D b ∨ b = p) (gu G1 p (.lst []))) := fun b o e => by
    obtain ⟨n,e⟩ := rs_some e
    rw [rs_of (by rintro (z | z);exact n z;exact np e z),gu_ne (np e)];exact e
   refine lc2_go pg pc pi2 pg2 pc2 pe (D := D) (ρ0 := capS m ρ) (G0 := gu G1 p (.lst [])) (p := p) (fun G2 E2 => hs G2 (.inr (X1.trans E2))) (fun i hi => capS_no ?_) (fun i hi => capS_no ?_) (fun i hi hj => ?_) fs hl (fun G2 ys E2 gp D2 => ?_) ds items [] [] fs _ _ (D1.up X1) ⟨va.len,fun i d hd => let ⟨t,a,b⟩ := va.vw i d hd;⟨t,a,b.up X1⟩⟩ E0.refl ?_ gu_same .nil e2 (by simp)
   ·simpa using List.all_eq_true.mp hm.h i hi
   ·simpa using List.all_eq_true.mp hm2.h i hi
   ·have := List.all_eq_true.mp hdj.h i hi
    simp at this
    exact this hj
   ·have EE : Ex G1 G2 := fun b o e => E2 b o (np e) (by rw [gu_ne (np e)];exact e)
    have hdp : ¬ D p := fun z => (hd.up E1) p z hp
    refine k _ _ (E1.trans EE) (.lst (by rw [rs_of hdp];exact gp) (D2.up (rs_less fun b z => .inl z))) fun _ => Nw.back (.inr ⟨p,ys,fs,rfl,rfl,hp,gp,D2⟩) E1
   ·intro b hb z
    by_cases e : b = p
    ·subst e;rw [gu_same] at z;cases z
    ·rw [gu_ne e] at z
     rcases hb with hb | hb
     ·exact (hd.up E1) b hb z
     ·exact e hb
  ·cases hf⟩
end Pu
namespace Pu
open PySem L2 L3
def AD (D : Addr → Prop) (A : Nat → Option Addr) (b : Addr) : Prop := D b ∨ ∃ i,A i = some b
structure RS (D : Addr → Prop) (G0 : Gp) (A : Nat → Option Addr) (τ : St3) (ρ : Rho) (G : Gp) : Prop where
 ex : Ex G0 G
 dm : Dom D G0
 fr : ∀ i p,A i = some p → G0 p = none
 da : ∀ i p,A i = some p → G p ≠ none
 inj : ∀ i j p,A i = some p → A j = some p → i = j
 len : ρ.length = τ.length
 sh : ∀ (i : Nat) (d : PyData),ρ[i]? = some (Sl.sh d) → ∃ t,τ[i]? = some (some t)∧Dq (rs (AD D A) G) t d
 ow : ∀ (i : Nat) (ds : List PyData),ρ[i]? = some (Sl.ow ds) → ∃ p xs,A i = some p∧τ[i]? = some (some (.ref p))∧G p = some (.lst xs)∧Dqs (rs (AD D A) G) xs ds
section
variable {D : Addr → Prop} {G0 G G' : Gp} {A A' : Nat → Option Addr} {τ : St3} {ρ : Rho}
theorem RS.nd (h : RS D G0 A τ ρ G) {i : Nat} {p : Addr} (e : A i = some p) : ¬ D p := fun z => h.dm p z (h.fr i p e)
theorem RS.dom (h : RS D G0 A τ ρ G) : Dom (AD D A) G := fun b hb => by
 rcases hb with hb | ⟨i,hi⟩
 ·exact (h.dm.up h.ex) b hb
 ·exact h.da i b hi
theorem RS.domD (h : RS D G0 A τ ρ G) : Dom D G := h.dm.up h.ex
theorem RS.up (h : RS D G0 A τ ρ G) (e : Ex G G') : RS D G0 A τ ρ G' :=
 ⟨h.ex.trans e,h.dm,h.fr,fun i p a z => (h.da i p a) (by
  cases g : G p with
  | none => rfl
  | some o => rw [e _ _ g] at z;cases z),h.inj,h.len,fun i d a => let ⟨t,b,c⟩ := h.sh i d a;⟨t,b,c.up (rs_up e)⟩,fun i ds a => let ⟨p,xs,b,c,d,f⟩ := h.ow i ds a;⟨p,xs,b,c,e _ _ d,f.up (rs_up e)⟩⟩
theorem RS.viewAll (h : RS D G0 A τ ρ G) (fv : List Nat) : View fv D G τ ρ := fun i _ d hd => by
 unfold vw at hd
 obtain ⟨s,e,hd⟩ := Option.bind_eq_some_iff.mp hd
 have less : Ex (rs (AD D A) G) (rs D G) := rs_less fun b z => .inl z
 cases s with
 | un => cases hd
 | sh d' =>
  cases hd
  obtain ⟨t,b,c⟩ := h.sh i _ e
  exact ⟨t,b,c.up less⟩
 | ow ds =>
  cases hd
  obtain ⟨p,xs,b,c,g,f⟩ := h.ow i _ e
  exact ⟨_,c,.lst (by rw [rs_of (h.nd b)];exact g) (f.up less)⟩
theorem RS.view (h : RS D G0 A τ ρ G) {fv : List Nat} (hn : ∀ i ∈ fv,A i = none) : View fv (AD D A) G τ ρ := fun i hi d hd => by
 unfold vw at hd
 obtain ⟨s,e,hd⟩ := Option.bind_eq_some_iff.mp hd
 cases s with
 | un => cases hd
 | sh d' =>
  cases hd
  exact h.sh i _ e
 | ow ds =>
  obtain ⟨p,xs,b,_⟩ := h.ow i _ e
  rw [hn i hi] at b;cases b
noncomputable def Sl.dem : Sl → Sl
 | .ow ds => .sh (.list ds)
 | s => s
noncomputable def dm : List Bool → Rho → Rho
 | b :: m,s :: r => (match b with | true => s.dem | false => s) :: dm m r
 | _,r => r
noncomputable def mkb (m : List Bool) (i : Nat) : Bool := (m[i]?).getD false
theorem dm_at : ∀ (m : List Bool) (ρ : Rho) (i : Nat),(dm m ρ)[i]? = (ρ[i]?).map fun s => if mkb m i = true then s.dem else s
 | [],ρ,i => by simp [dm,mkb]
 | b :: m,[],i => by simp [dm]
 | b :: m,s :: r,0 => by cases b <;> simp [dm,mkb]
 | b :: m,s :: r,i + 1 => by
  have := dm_at m r i
  simp only [dm,List.getElem?_cons_succ,mkb] at this ⊢
  exact this
theorem dem_d (s : Sl) : s.dem.d = s.d := by cases s <;> rfl
theorem dm_vw (m : List Bool) (ρ : Rho) (i : Nat) : vw (dm m ρ) i = vw ρ i := by
 unfold vw
 rw [dm_at]
 cases ρ[i]? with
 | none => rfl
 | some s =>
  simp only [Option.map_some,Option.bind_some]
  split
  ·exact dem_d s
  ·rfl
theorem dm_len : ∀ (m : List Bool) (ρ : Rho),(dm m ρ).length = ρ.length
 | [],ρ => rfl
 | b :: m,[] => rfl
 | b :: m,s :: r => by simp [dm,dm_len m r]
noncomputable def Ad (m : List Bool) (A : Nat → Option Addr) : Nat → Option Addr := fun i => if mkb m i = true then none else A i
theorem Ad_sub {m : List Bool} {i : Nat} {p : Addr} (h : Ad m A i = some p) : A i = some p∧mkb m i = false := by
 unfold Ad at h
 split at h
 ·cases h
 ·rename_i n;exact ⟨h,by simpa using n⟩
theorem RS.dem (h : RS D G0 A τ ρ G) (m : List Bool) : RS D G0 (Ad m A) τ (Pu.dm m ρ) G := by
 have less : Ex (rs (AD D A) G) (rs (AD D (Ad m A)) G) := rs_less fun b z => by
  rcases z with z | ⟨i,z⟩
  ·exact .inl z
  ·exact .inr ⟨i,(Ad_sub z).1⟩
 refine ⟨h.ex,h.dm,fun i p e => h.fr i p (Ad_sub e).1,fun i p e => h.da i p (Ad_sub e).1,fun i j p a b => h.inj i j p (Ad_sub a).1 (Ad_sub b).1,by rw [dm_len];exact h.len,fun i d e => ?_,fun i ds e => ?_⟩
 ·rw [dm_at] at e
  obtain ⟨s,e1,e2⟩ := Option.map_eq_some_iff.mp e
  cases s with
  | un => split at e2 <;> cases e2
  | sh d' =>
   have : d' = d := by split at e2 <;> (cases e2;rfl)
   subst this
   obtain ⟨t,b,c⟩ := h.sh i _ e1
   exact ⟨t,b,c.up less⟩
  | ow ds =>
   split at e2
   ·rename_i hm
    cases e2
    obtain ⟨p,xs,b,c,g,f⟩ := h.ow i _ e1
    refine ⟨_,c,.lst ?_ (f.up less)⟩
    rw [rs_of]
    ·exact g
    ·rintro (z | ⟨j,z⟩)
     ·exact h.nd b z
     ·have := h.inj i j p b (Ad_sub z).1
      subst this
      rw [(Ad_sub z).2] at hm;cases hm
   ·cases e2
 ·rw [dm_at] at e
  obtain ⟨s,e1,e2⟩ := Option.map_eq_some_iff.mp e
  cases s with
  | un => split at e2 <;> cases e2
  | sh d' => split at e2 <;> cases e2
  | ow ds' =>
   split at e2
   ·cases e2
   ·rename_i hm
    cases e2
    obtain ⟨p,xs,b,c,g,f⟩ := h.ow i _ e1
    exact ⟨p,xs,by unfold Ad;rw [if_neg hm];exact b,c,g,f.up less⟩
theorem RS.viewD (h : RS D G0 A τ ρ G) {m : List Bool} {fv : List Nat} (hm : Tru (fv.all (mkb m))) : View fv (AD D (Ad m A)) G τ ρ := by
 have := (h.dem m).view (fv := fv) fun i hi => by unfold Ad;rw [if_pos (List.all_eq_true.mp hm.h i hi)]
 intro i hi d hd
 exact this i hi d (by rw [dm_vw];exact hd)
noncomputable def Er (A : Nat → Option Addr) (i : Nat) : Nat → Option Addr := fun j => if j = i then none else A j
theorem Er_sub {i j : Nat} {p : Addr} (h : Er A i j = some p) : A j = some p∧j ≠ i := by
 unfold Er at h
 split at h
 ·cases h
 ·rename_i n;exact ⟨h,n⟩
theorem RS.put (h : RS D G0 A τ ρ G) (i : Nat) {x : T} {d : PyData} (hx : Dq (rs (AD D A) G) x d) : RS D G0 (Er A i) (τ.set i (some x)) (ρ.set i (.sh d)) G := by
 have less : Ex (rs (AD D A) G) (rs (AD D (Er A i)) G) := rs_less fun b z => by
  rcases z with z | ⟨j,z⟩
  ·exact .inl z
  ·exact .inr ⟨j,(Er_sub z).1⟩
 refine ⟨h.ex,h.dm,fun j p e => h.fr j p (Er_sub e).1,fun j p e => h.da j p (Er_sub e).1,fun j k p a b => h.inj j k p (Er_sub a).1 (Er_sub b).1,by simp [h.len],fun j e he => ?_,fun j ds e => ?_⟩
 ·rw [List.getElem?_set] at he ⊢
  split at he
  ·rename_i hj
   rw [if_pos hj]
   split at he
   ·rename_i hl
    cases he
    exact ⟨x,by rw [if_pos (by rw [← h.len];exact hl)],hx.up less⟩
   ·cases he
  ·rename_i hj
   rw [if_neg hj]
   obtain ⟨t,b,c⟩ := h.sh j _ he
   exact ⟨t,b,c.up less⟩
 ·rw [List.getElem?_set] at e ⊢
  split at e
  ·split at e <;> cases e
  ·rename_i hj
   rw [if_neg hj]
   obtain ⟨p,xs,b,c,g,f⟩ := h.ow j _ e
   exact ⟨p,xs,by unfold Er;rw [if_neg (fun z => hj z.symm)];exact b,c,g,f.up less⟩
theorem RS.puts : ∀ {ts : List (Nat × T)} {bs : List (Nat × PyData)} {A : Nat → Option Addr} {τ : St3} {ρ : Rho},RS D G0 A τ ρ G → Bd (rs (AD D A) G) ts bs → ∃ A',RS D G0 A' (sets τ ts) (setS ρ bs) G
 | _,_,A,_,_,h,.nil => ⟨A,h⟩
 | _,_,A,_,_,h,.cons (i := i) a b => by
  unfold sets setS
  exact RS.puts (h.put i a) (b.up (rs_less fun b z => by
   rcases z with z | ⟨j,z⟩
   ·exact .inl z
   ·exact .inr ⟨j,(Er_sub z).1⟩))
theorem RS.putN (h : RS D G0 A τ ρ G) (i : Nat) {x : T} {d : PyData} {ds : List PyData} (hd : d = .list ds) (E : Ex G G') (hx : Nw (AD D A) G G' x d) : RS D G0 (fun j => if j = i then (match x with | .ref p => some p | _ => none) else A j) (τ.set i (some x)) (ρ.set i (.ow ds)) G' := by
 rcases hx with hx | ⟨p,xs,ds',rfl,e',gp,gp',hs⟩
 ·rw [hd] at hx;cases hx
 rw [hd] at e'
 cases e'
 have np : ∀ {j q},A j = some q → q ≠ p := fun e => by rintro rfl;exact h.da _ _ e gp
 have X1 : Ex (rs (AD D A) G) (rs (AD D (fun j => if j = i then some p else A j)) G') := fun b o e => by
  obtain ⟨n,e⟩ := rs_some e
  rw [rs_of]
  ·exact E _ _ e
  ·rintro (z | ⟨j,z⟩)
   ·exact n (.inl z)
   ·simp only at z
    split at z
    ·cases z;rw [gp] at e;cases e
    ·exact n (.inr ⟨j,z⟩)
 refine ⟨h.ex.trans E,h.dm,fun j q e => ?_,fun j q e => ?_,fun j k q a b => ?_,by simp [h.len],fun j e he => ?_,fun j es e => ?_⟩
 ·simp only at e
  split at e
  ·cases e
   cases z : G0 p with
   | none => rfl
   | some o => rw [h.ex _ _ z] at gp;cases gp
  ·exact h.fr j q e
 ·simp only at e
  split at e
  ·cases e;rw [gp'];simp
  ·exact (h.up E).da j q e
 ·simp only at a b
  split at a
  ·cases a
   split at b
   ·rename_i h1 h2;rw [h1,h2]
   ·exact absurd rfl (np b)
  ·split at b
   ·cases b;exact absurd rfl (np a)
   ·exact h.inj j k q a b
 ·rw [List.getElem?_set] at he ⊢
  split at he
  ·split at he <;> cases he
  ·rename_i hj
   rw [if_neg hj]
   obtain ⟨t,b,c⟩ := h.sh j _ he
   exact ⟨t,b,c.up X1⟩
 ·rw [List.getElem?_set] at e ⊢
  split at e
  ·rename_i hj
   subst hj
   split at e
   ·rename_i hl
    cases e
    refine ⟨p,xs,by simp,by rw [if_pos rfl,if_pos (by rw [← h.len];exact hl)],gp',hs.up (rs_less fun b z => ?_)⟩
    rcases z with z | ⟨j,z⟩
    ·exact .inl (.inl z)
    ·simp only at z
     split at z
     ·cases z;exact .inr rfl
     ·exact .inl (.inr ⟨j,z⟩)
   ·cases e
  ·rename_i hj
   rw [if_neg hj]
   obtain ⟨q,ys,b,c,g,f⟩ := h.ow j _ e
   exact ⟨q,ys,by rw [if_neg (fun z => hj z.symm)];exact b,c,E _ _ g,f.up X1⟩
theorem RS.wr (h : RS D G0 A τ ρ G) {i : Nat} {p : Addr} {xs : List T} {ds : List PyData} (hi : A i = some p) (ht : τ[i]? = some (some (.ref p))) (hs : Dqs (rs (AD D A) G) xs ds) : RS D G0 A τ (ρ.set i (.ow ds)) (gu G p (.lst xs)) := by
 have X1 : Ex (rs (AD D A) G) (rs (AD D A) (gu G p (.lst xs))) := fun b o e => by
  obtain ⟨n,e⟩ := rs_some e
  rw [rs_of n,gu_ne (by rintro rfl;exact n (.inr ⟨i,hi⟩))];exact e
 refine ⟨fun b o e => ?_,h.dm,h.fr,fun j q e => ?_,h.inj,by simp [h.len],fun j e he => ?_,fun j es e => ?_⟩
 ·rw [gu_ne (by rintro rfl;rw [h.fr i _ hi] at e;cases e)];exact h.ex _ _ e
 ·by_cases z : q = p
  ·subst z;rw [gu_same];simp
  ·rw [gu_ne z];exact h.da j q e
 ·rw [List.getElem?_set] at he
  split at he
  ·split at he <;> cases he
  ·obtain ⟨t,b,c⟩ := h.sh j _ he
   exact ⟨t,b,c.up X1⟩
 ·rw [List.getElem?_set] at e
  split at e
  ·rename_i hj
   subst hj
   split at e
   ·cases e
    exact ⟨p,xs,hi,ht,gu_same,hs.up X1⟩
   ·cases e
  ·rename_i hj
   obtain ⟨q,ys,b,c,g,f⟩ := h.ow j _ e
   exact ⟨q,ys,b,c,by rw [gu_ne (by rintro rfl;exact hj (h.inj i j _ hi b))];exact g,f.up X1⟩
theorem RS.base {Gb : Gp} (h : RS D Gb A τ ρ G) (e : Ex G0 Gb) (hd : Dom D G0) : RS D G0 A τ ρ G :=
 ⟨e.trans h.ex,hd,(fun i p a => by
  cases z : G0 p with
  | none => rfl
  | some o => have := h.fr i p a;rw [e _ _ z] at this;cases this),h.da,h.inj,h.len,h.sh,h.ow⟩
end
inductive Ot where
 | nx (ρ : Rho) | bk (ρ : Rho) | ct (ρ : Rho) | rt (d : PyData) (fr : Bool)
noncomputable def Post (D : Addr → Prop) (G0 : Gp) (e : Ends3) : Ot → Prop
 | .nx ρ => ∀ A τ G,RS D G0 A τ ρ G → e.nx τ G
 | .bk ρ => ∀ A τ G,RS D G0 A τ ρ G → e.bk τ G
 | .ct ρ => ∀ A τ G,RS D G0 A τ ρ G → e.ct τ G
 | .rt d fr => ∀ x G,Ex G0 G → Dq (rs D G) x d → (fr = true → Nw D G0 G x d) → e.rt x G
theorem Post.base {D : Addr → Prop} {G0 Gb : Gp} {e : Ends3} {o : Ot} (h : Post D G0 e o) (x : Ex G0 Gb) (hd : Dom D G0) : Post D Gb e o := by
 cases o with
 | nx ρ => exact fun A τ G r => h A τ G (r.base x hd)
 | bk ρ => exact fun A τ G r => h A τ G (r.base x hd)
 | ct ρ => exact fun A τ G r => h A τ G (r.base x hd)
 | rt d fr => exact fun y G a b c => h y G (x.trans a) b fun z => (c z).back x
structure PuS (t : TS3) where
 f : Nat → Rho → Option Ot
 ok : ∀ {D G0 A τ ρ G n o} {e : Ends3},RS D G0 A τ ρ G → f n ρ = some o → Post D G0 e o → t e τ G
noncomputable def sNext : PuS next3 := ⟨fun _ ρ => some (.nx ρ),fun h hf k => by cases hf;exact k _ _ _ h⟩
noncomputable def seqF (a b : Nat → Rho → Option Ot) (n : Nat) (ρ : Rho) : Option Ot := (a n ρ).bind fun o => match o with | .nx ρ' => b n ρ' | o => some o
noncomputable def sSeq {t u : TS3} (a : PuS t) (b : PuS u) : PuS (seq3 t u) := ⟨seqF a.f b.f,fun {D G0 A τ ρ G n o e} h hf k => by
 unfold seqF at hf
 obtain ⟨o1,e1,hf⟩ := Option.bind_eq_some_iff.mp hf
 refine a.ok h e1 ?_
 cases o1 with
 | nx ρ' => exact fun A' τ' G' h' => b.ok h' hf k
 | bk ρ' => cases hf;exact k
 | ct ρ' => cases hf;exact k
 | rt d fr => cases hf;exact k⟩
noncomputable def sIf {c : TT3} {t u : TS3} (pc : PuC c) (a : PuS t) (b : PuS u) : PuS (ifS3 c t u) := ⟨fun n ρ => (pc.f ρ).bind fun k => if k then a.f n ρ else b.f n ρ,fun h hf k => by
 obtain ⟨o1,e1,hf⟩ := Option.bind_eq_some_iff.mp hf
 refine pc.ok (h.viewAll _) h.domD e1 fun G1 E1 => ?_
 cases o1 with
 | true => exact a.ok (h.up E1) hf k
 | false => exact b.ok (h.up E1) hf k⟩
noncomputable def sRet {t : TE3} (a : PuE t) : PuS (ret3 t) := ⟨fun _ ρ => (a.f ρ).map fun d => .rt d a.nw,fun h hf k => by
 obtain ⟨d,e1,rfl⟩ := Option.map_eq_some_iff.mp hf
 exact a.ok (h.viewAll _) h.domD e1 fun x G1 E1 D1 N1 => k x G1 (h.ex.trans E1) D1 fun z => (N1 z).back h.ex⟩
noncomputable def retV (ρ : Rho) (i : Nat) : Option Ot := match ρ[i]? with | some (.ow ds) => some (.rt (.list ds) true) | some (.sh d) => some (.rt d false) | _ => none
noncomputable def sRetV (i : Nat) : PuS (ret3 (v3 i)) := ⟨fun _ ρ => retV ρ i,fun h hf k => by
 unfold retV at hf
 split at hf
 ·rename_i ds e
  cases hf
  obtain ⟨p,xs,b,c,g,f⟩ := h.ow i _ e
  simp only [ret3,v3,c]
  refine k _ _ h.ex (.lst (by rw [rs_of (h.nd b)];exact g) (f.up (rs_less fun b z => .inl z))) fun _ => .inr ⟨p,xs,ds,rfl,rfl,h.fr i p b,g,f.up (rs_less fun q z => ?_)⟩
  rcases z with z | z
  ·exact .inl z
  ·subst z;exact .inr ⟨i,b⟩
 ·rename_i d e
  cases hf
  obtain ⟨t,b,c⟩ := h.sh i _ e
  simp only [ret3,v3,b]
  exact k _ _ h.ex (c.up (rs_less fun b z => .inl z)) (fun z => by cases z)
 ·cases hf⟩
noncomputable def isSc : PyData → Bool
 | .none => true | .bool _ => true | .int _ => true | .str _ => true | _ => false
theorem sc_any {H H' : Gp} {x : T} {d : PyData} (h : Dq H x d) (s : isSc d = true) : Dq H' x d := by
 cases h <;> first | (constructor;done) | (simp [isSc] at s;done)
noncomputable def owOf : PyData → Sl
 | .list ds => .ow ds
 | d => .sh d
noncomputable def asgF (m : List Bool) (nw : Bool) (i : Nat) (d : PyData) (ρ : Rho) : Rho := if isSc d then ρ.set i (.sh d) else (dm m ρ).set i (if nw then owOf d else .sh d)
noncomputable def sAsg {t : TE3} (a : PuE t) (i : Nat) (m : List Bool) (hm : Tru (a.fv.all (mkb m))) : PuS (asg3 t (gn3 i)) := ⟨fun _ ρ => (a.f ρ).map fun d => .nx (asgF m a.nw i d ρ),fun {D G0 A τ ρ G n o e} h hf k => by
 obtain ⟨d,e1,rfl⟩ := Option.map_eq_some_iff.mp hf
 refine a.ok (h.viewD hm) (h.dem m).dom e1 fun x G1 E1 D1 N1 => ?_
 unfold asgF at k
 show e.nx (τ.set i (some x)) G1
 split at k
 ·rename_i hs
  exact k _ _ _ ((h.up E1).put i (sc_any D1 hs))
 ·split at k
  ·rename_i hn
   have N := N1 hn
   rcases id N with h2 | ⟨p,xs,ds,h1,h2,_⟩
   ·subst h2;rename_i hs;exact absurd rfl hs
   subst h2
   exact k _ _ _ ((h.dem m).putN i rfl E1 N)
  ·exact k _ _ _ (((h.dem m).up E1).put i D1)⟩
noncomputable def sAsgT {t : TE3} {g : TG3} (a : PuE t) (pg : PuG g) (m : List Bool) (hm : Tru (a.fv.all (mkb m))) : PuS (asg3 t g) := ⟨fun _ ρ => (a.f ρ).bind fun d => (pg.f d).map fun bs => .nx (setS (dm m ρ) bs),fun {D G0 A τ ρ G n o e} h hf k => by
 obtain ⟨d,e1,hf⟩ := Option.bind_eq_some_iff.mp hf
 obtain ⟨bs,e2,rfl⟩ := Option.map_eq_some_iff.mp hf
 refine a.ok (h.viewD hm) (h.dem m).dom e1 fun x G1 E1 D1 N1 => ?_
 obtain ⟨ts,bd,kg⟩ := pg.ok D1 e2
 refine kg _ _ _ ?_
 obtain ⟨A',h'⟩ := ((h.dem m).up E1).puts bd
 exact k _ _ _ h'⟩
theorem er_ex {D : Addr → Prop} {A : Nat → Option Addr} {G : Gp} {i : Nat} : Ex (rs (AD D A) G) (rs (AD D (Er A i)) G) := rs_less fun b z => by
 rcases z with z | ⟨j,z⟩
 ·exact .inl z
 ·exact .inr ⟨j,(Er_sub z).1⟩
noncomputable def slot (ρ : Rho) (i : Nat) : Option (List PyData) := match ρ[i]? with | some (.ow ds) => some ds | _ => none
theorem slot_eq {ρ : Rho} {i : Nat} {ds : List PyData} (h : slot ρ i = some ds) : ρ[i]? = some (.ow ds) := by
 unfold slot at h
 split at h
 ·rename_i e;cases h;exact e
 ·cases h
noncomputable def dmS (m : List Bool) (d : PyData) (ρ : Rho) : Rho := if isSc d then ρ else dm m ρ
theorem RS.evalS {D : Addr → Prop} {G0 G : Gp} {A : Nat → Option Addr} {τ : St3} {ρ : Rho} (h : RS D G0 A τ ρ G) {t : TE3} (a : PuE t) (m : List Bool) (hm : Tru (a.fv.all (mkb m))) {d : PyData} (hf : a.f ρ = some d) : ∃ A1,RS D G0 A1 τ (dmS m d ρ) G∧∀ q : Q3,(∀ x G',Ex G G' → Dq (rs (AD D A1) G') x d → q x G') → t τ G q := by
 unfold dmS
 by_cases hs : isSc d = true
 ·rw [if_pos hs]
  exact ⟨A,h,fun q k => a.ok (h.viewAll _) h.domD hf fun x G1 E1 D1 _ => k x G1 E1 (sc_any D1 hs)⟩
 ·rw [if_neg hs]
  exact ⟨Ad m A,h.dem m,fun q k => a.ok (h.viewD hm) (h.dem m).dom hf fun x G1 E1 D1 _ => k x G1 E1 D1⟩
noncomputable def extF (i : Nat) (d : PyData) (ρ : Rho) : Option Ot := match d with | .list es => (slot ρ i).bind fun ds => cif (ds.length + es.length ≤ sizeLine) (some (.nx (ρ.set i (.ow (ds ++ es))))) none | _ => none
noncomputable def sExt {t : TE3} (a : PuE t) (i : Nat) (m : List Bool) (hm : Tru (a.fv.all (mkb m))) : PuS (drop3 (bm3 ext3 (v3 i) (cons3 t nil3))) := ⟨fun _ ρ => (a.f ρ).bind fun d => extF i d (dmS m d ρ),fun {D G0 A τ ρ G n o e} h hf k => by
 obtain ⟨d,e1,hf⟩ := Option.bind_eq_some_iff.mp hf
 obtain ⟨A1,h1,ev⟩ := h.evalS a m hm e1
 unfold extF at hf
 split at hf
 ·obtain ⟨ds,e2,hf⟩ := Option.bind_eq_some_iff.mp hf
  unfold cif at hf
  split at hf
  ·rename_i hl
   cases hf
   obtain ⟨p,xs,b,c,g,f⟩ := h1.ow i _ (slot_eq e2)
   simp only [drop3,bm3,v3,c,getL_of g]
   refine ⟨rfl,ev _ fun x G1 E1 D1 => ?_⟩
   cases D1 with
   | lst g2 hs2 =>
    simp only [nil3,ext3,E1 _ _ g,(rs_some g2).2]
    exact ⟨by rw [f.length,hs2.length];exact hl,k _ _ _ ((h1.up E1).wr b c ((f.up (rs_up E1)).append hs2))⟩
  ·cases hf
 ·cases hf⟩
noncomputable def forP (gf : PyData → Option (List (Nat × PyData))) (bf : Rho → Option Ot) : List PyData → Rho → Option Ot
 | [],ρ => some (.nx ρ)
 | d :: r,ρ => (gf d).bind fun bs => (bf (setS ρ bs)).bind fun o => match o with
  | .nx ρ' => forP gf bf r ρ'
  | .ct ρ' => forP gf bf r ρ'
  | .bk ρ' => some (.nx ρ')
  | .rt d b => some (.rt d b)
theorem for_go {stay : Gp → Prop} {g : TG3} {tb : TS3} {e : Ends3} (pg : PuG g) (pb : PuS tb) {D : Addr → Prop} {G0 : Gp} {n : Nat} {o : Ot} {items0 : List T} (hs : ∀ A τ ρ G,RS D G0 A τ ρ G → stay G) (k : Post D G0 e o) :
  ∀ (ds : List PyData) (items : List T),(∀ A τ ρ G,RS D G0 A τ ρ G → Dqs (rs (AD D A) G) items ds) → ∀ A τ ρ G,RS D G0 A τ ρ G → forP pg.f (pb.f n) ds ρ = some o → forGo stay g tb e items τ G
 | [],items,hi,A,τ,ρ,G,h,hf => by
  cases hf
  have := hi _ _ _ _ h
  cases this
  exact ⟨hs _ _ _ _ h,k _ _ _ h⟩
 | d :: ds,items,hi,A,τ,ρ,G,h,hf => by
  have hh := hi _ _ _ _ h
  cases hh with
  | cons hx hr =>
   rename_i x items
   unfold forP at hf
   obtain ⟨bs,e1,hf⟩ := Option.bind_eq_some_iff.mp hf
   obtain ⟨o1,e2,hf⟩ := Option.bind_eq_some_iff.mp hf
   obtain ⟨ts,bd,kg⟩ := pg.ok hx e1
   refine ⟨hs _ _ _ _ h,kg _ _ _ ?_⟩
   obtain ⟨A',h'⟩ := h.puts bd
   refine pb.ok h' e2 ?_
   have hi' : ∀ A τ ρ G,RS D G0 A τ ρ G → Dqs (rs (AD D A) G) items ds := fun A τ ρ G h => by
    have := hi _ _ _ _ h
    cases this with
    | cons a b => exact b
   cases o1 with
   | nx ρ' => exact fun A2 τ2 G2 h2 => for_go (items0 := items0) pg pb hs k ds items hi' _ _ _ _ h2 hf
   | ct ρ' => exact fun A2 τ2 G2 h2 => for_go (items0 := items0) pg pb hs k ds items hi' _ _ _ _ h2 hf
   | bk ρ' => cases hf;exact k
   | rt d fr => cases hf;exact k
noncomputable def forF (pi : Rho → Option (List PyData)) (nm : Bool) (m : List Bool) (gf : PyData → Option (List (Nat × PyData))) (bf : Nat → Rho → Option Ot) (n : Nat) (ρ : Rho) : Option Ot := (pi ρ).bind fun ds => forP gf (bf n) ds (if nm then ρ else dm m ρ)
noncomputable def sFor {wi : TI3} {g : TG3} {tb : TS3} (pi : PuI wi) (pg : PuG g) (pb : PuS tb) (m : List Bool) (hm : Tru (pi.fv.all (mkb m))) : PuS (for3 wi g tb) := ⟨forF pi.f pi.nm m pg.f pb.f,fun {D G0 A τ ρ G n o e} h hf k => by
 unfold forF at hf
 obtain ⟨ds,e1,hf⟩ := Option.bind_eq_some_iff.mp hf
 refine pi.ok (h.viewD hm) (h.dem m).dom e1 fun items stay G1 E1 D1 hs hnm => ?_
 cases hb : pi.nm with
 | true =>
  rw [hb,if_pos rfl] at hf
  obtain ⟨ns,rfl⟩ := hnm hb
  have := D1.ints
  subst this
  exact for_go (items0 := []) pg pb (fun _ _ _ _ _ => hs _ (.inl hb)) k _ _ (fun A τ ρ G _ => Dqs.ofInts _) _ _ _ _ (h.up E1) hf
 | false =>
  rw [hb,if_neg Bool.false_ne_true] at hf
  have h1 := (h.dem m).up E1
  have b1 : Ex G0 (rs (fun b => ∃ i,Ad m A i = some b) G1) := fun b o e => by
   rw [rs_of]
   ·exact h1.ex _ _ e
   ·rintro ⟨i,z⟩;rw [h1.fr i _ z] at e;cases e
  have h2 : RS D (rs (fun b => ∃ i,Ad m A i = some b) G1) (Ad m A) τ (dm m ρ) G1 := ⟨rs_ex,h.dm.up b1,fun i p z => by unfold rs;exact cif_pos ⟨i,z⟩,h1.da,h1.inj,h1.len,h1.sh,h1.ow⟩
  have X : ∀ A2 τ2 ρ2 G2,RS D (rs (fun b => ∃ i,Ad m A i = some b) G1) A2 τ2 ρ2 G2 → Ex (rs (AD D (Ad m A)) G1) (rs (AD D A2) G2) := fun A2 τ2 ρ2 G2 r b o e => by
   obtain ⟨n1,e⟩ := rs_some e
   have eb : rs (fun b => ∃ i,Ad m A i = some b) G1 b = some o := by rw [rs_of (fun z => n1 (.inr z))];exact e
   rw [rs_of]
   ·exact r.ex _ _ eb
   ·rintro (z | ⟨i,z⟩)
    ·exact n1 (.inl z)
    ·rw [r.fr i _ z] at eb;cases eb
  exact for_go (items0 := []) pg pb (fun A2 τ2 ρ2 G2 r => hs _ (.inr ((X _ _ _ _ r).trans rs_ex))) (k.base b1 h.dm) _ _ (fun A2 τ2 ρ2 G2 r => D1.up (X _ _ _ _ r)) _ _ _ _ h2 hf⟩
noncomputable def outF (fr : Bool) : Option Ot → Option PyData
 | some (.rt d b) => if fr = true∧b = false then (match d with | .none => some .none | _ => none) else some d
 | some (.nx _) => if fr then none else some .none
 | _ => none
noncomputable def st (ds : List PyData) (N : Nat) : Rho := ds.map Sl.sh ++ List.replicate (N - ds.length) .un
noncomputable def run (f : Nat → Rho → Option Ot) (k N n : Nat) (fr : Bool) (ds : List PyData) : Option PyData := if ds.length = k then outF fr (f n (st ds N)) else none
theorem pu_read {t : TS3} (b : PuS t) (N : List Str) (k n : Nat) (fr : Bool) : ∀ ts G q,PSp (run b.f k N.length n fr) fr ts G q → ts.length = k∧t { nx := fun _ G' => q .non G',rt := q } (start3 N ts) G := by
 rintro ts G q ⟨D,ds,d,hs,hd,hf,h⟩
 unfold run at hf
 split at hf
 ·rename_i hk
  refine ⟨by rw [hs.length];exact hk,?_⟩
  have r : RS D G (fun _ => none) (start3 N ts) (st ds N.length) G := by
   refine ⟨Ex.refl,hd,(fun i p e => by cases e),(fun i p e => by cases e),(fun i j p e => by cases e),(by simp [st,start3,hs.length]),fun i d' e => ?_,fun i es e => ?_⟩
   ·unfold st at e
    unfold start3
    by_cases hi : i < ds.length
    ·rw [List.getElem?_append_left (by simpa using hi),List.getElem?_map] at e
     obtain ⟨d2,e3,e4⟩ := Option.map_eq_some_iff.mp e
     cases e4
     obtain ⟨x,e5,hx⟩ := hs.get e3
     refine ⟨x,?_,hx.up (rs_less fun b z => ?_)⟩
     ·rw [List.getElem?_append_left (by simp [hs.length];exact hi),List.getElem?_map,e5];rfl
     ·rcases z with z | ⟨i,z⟩
      ·exact z
      ·cases z
    ·rw [List.getElem?_append_right (by simpa using hi),List.getElem?_replicate] at e
     split at e <;> cases e
   ·unfold st at e
    by_cases hi : i < ds.length
    ·rw [List.getElem?_append_left (by simpa using hi),List.getElem?_map] at e
     obtain ⟨d2,e3,e4⟩ := Option.map_eq_some_iff.mp e
     cases e4
    ·rw [List.getElem?_append_right (by simpa using hi),List.getElem?_replicate] at e
     split at e <;> cases e
  unfold outF at hf
  split at hf
  ·rename_i d' b' e
   split at hf
   ·split at hf
    ·cases hf
     exact b.ok r e fun x G' a c z => h x G' a c fun _ => .inl rfl
    ·cases hf
   ·rename_i hb
    cases hf
    exact b.ok r e fun x G' a c z => h x G' a c fun w => z (by
     cases b' with
     | true => rfl
     | false => exact absurd ⟨w,rfl⟩ hb)
  ·rename_i ρ' e
   split at hf
   ·cases hf
   ·rename_i hb
    cases hf
    exact b.ok r e fun A τ G' r' => h .non G' r'.ex .non fun w => absurd w hb
  ·cases hf
 ·cases hf
end Pu
namespace Pu
open PySem L2 L3
mutual
noncomputable def tD : T → Option PyData
 | .non => some .none | .bl b => some (.bool b) | .int i => some (.int i) | .str x => some (.str x) | .tup xs => (tDs xs).map .tuple | .ref _ => none
noncomputable def tDs : List T → Option (List PyData)
 | [] => some []
 | x :: r => (tD x).bind fun d => (tDs r).map (d :: ·)
end
mutual
theorem tD_ok {G : Gp} : ∀ (t : T) {d : PyData},tD t = some d → Dq G t d
 | .non,_,h => by cases h;exact .non
 | .bl b,_,h => by cases h;exact .bl b
 | .int b,_,h => by cases h;exact .int b
 | .str b,_,h => by cases h;exact .str b
 | .tup xs,_,h => by
  unfold tD at h
  obtain ⟨ds,e,rfl⟩ := Option.map_eq_some_iff.mp h
  exact .tup (tDs_ok xs e)
 | .ref _,_,h => by cases h
theorem tDs_ok {G : Gp} : ∀ (t : List T) {d : List PyData},tDs t = some d → Dqs G t d
 | [],_,h => by cases h;exact .nil
 | x :: r,_,h => by
  unfold tDs at h
  obtain ⟨d,e,h⟩ := Option.bind_eq_some_iff.mp h
  obtain ⟨ds,e2,rfl⟩ := Option.map_eq_some_iff.mp h
  exact .cons (tD_ok x e) (tDs_ok r e2)
end
noncomputable def asS : PyData → Option Str
 | .str s => some s
 | _ => none
theorem asS_eq {d : PyData} {b : Str} (h : asS d = some b) : d = .str b := by cases d <;> simp [asS] at h;subst h;rfl
noncomputable def bTget (tab : List (Str × T)) {te : TE3} (a : PuE te) : PuE (tget3 tab te) := ⟨fun ρ => ((a.f ρ).bind asS).bind fun s => (tabGet tab s).bind tD,a.fv,false,fun hv hd hf k => by
 obtain ⟨s,e1,hf⟩ := Option.bind_eq_some_iff.mp hf
 obtain ⟨d,e1,e2⟩ := Option.bind_eq_some_iff.mp e1
 have := asS_eq e2;subst this
 obtain ⟨t,e3,hf⟩ := Option.bind_eq_some_iff.mp hf
 refine a.ok hv hd e1 fun x' G1 E1 D1 _ => ?_
 cases D1
 simp only [e3]
 exact k _ _ E1 (tD_ok t hf) (fun z => by cases z)⟩
noncomputable def dGet : List Str → List PyData → Str → Option PyData
 | k :: ks,x :: xs,s => if k = s then some x else dGet ks xs s
 | _,_,_ => none
theorem dGet_ok {G : Gp} : ∀ (ks : List Str) {xs : List T} {ds : List PyData} {s : Str} {d : PyData},Dqs G xs ds → dGet ks ds s = some d → ∃ x,tabGet (ks.zip xs) s = some x∧Dq G x d
 | [],_,_,_,_,_,h => by simp [dGet] at h
 | k :: ks,_,_,_,_,.nil,h => by simp [dGet] at h
 | k :: ks,_,_,s,d,.cons a b,h => by
  unfold dGet at h
  simp only [List.zip_cons_cons,tabGet]
  split at h
  ·rename_i e
   cases h
   exact ⟨_,by rw [if_pos e],a⟩
  ·rename_i e
   obtain ⟨x,h1,h2⟩ := dGet_ok ks b h
   exact ⟨x,by rw [if_neg e];exact h1,h2⟩
noncomputable def bDsub (ks : List Str) {t : TA3} {te : TE3} (a : PuA t) (b : PuE te) : PuE (dsub3 ks t te) := ⟨fun ρ => (a.f ρ).bind fun ds => ((b.f ρ).bind asS).bind fun s => dGet ks ds s,a.fv ++ b.fv,false,fun hv hd hf k => by
 obtain ⟨ds,e1,hf⟩ := Option.bind_eq_some_iff.mp hf
 obtain ⟨s,e2,hf⟩ := Option.bind_eq_some_iff.mp hf
 obtain ⟨d,e2,e3⟩ := Option.bind_eq_some_iff.mp e2
 have := asS_eq e3;subst this
 refine a.ok hv.l hd e1 fun xs G1 E1 D1 => b.ok (hv.r.up E1) (hd.up E1) e2 fun y G2 E2 D2 _ => ?_
 cases D2
 obtain ⟨x,h1,h2⟩ := dGet_ok ks (D1.up (rs_up E2)) hf
 simp only [h1]
 exact k _ _ (E1.trans E2) h2 (fun z => by cases z)⟩
theorem psp_none {fr : Bool} : ∀ ts G q,PSp (fun _ => none) fr ts G q → False := fun ts G q ⟨_,_,_,_,_,h,_⟩ => by cases h
theorem Fn3.pz {P : Program} {w : World} {K : PySem.W.Frag} {mg : Str → Option Value} {base : Heap} {k : Nat} {x : Str} {sp : Sp3} (F : Fn3 P w K mg base k x sp) (fr : Bool) : Fn3 P w K mg base k x (PSp (fun _ => none) fr) := F.imp fun ts G q h => (psp_none ts G q h).elim
end Pu
namespace Pu
open PySem L2 L3
theorem bV_f {i : Nat} : (bV i).f = fun ρ => vw ρ i := id rfl
theorem bInt_f {i : Int} : (bInt i).f = fun _ => some (.int i) := id rfl
theorem bBl_f {i : Bool} : (bBl i).f = fun _ => some (.bool i) := id rfl
theorem bStr_f {i : Str} : (bStr i).f = fun _ => some (.str i) := id rfl
theorem bO_f {r : R3} {ta tb : TE3} {R : OpD r} {a : PuE ta} {b : PuE tb} : (bO R a b).f = fun ρ => (a.f ρ).bind fun x => (b.f ρ).bind fun y => R.f x y := id rfl
theorem bNil_f : bNil.f = fun _ => some [] := id rfl
theorem bCons_f {ta : TE3} {tr : TA3} {a : PuE ta} {r : PuA tr} : (bCons a r).f = fun ρ => (a.f ρ).bind fun x => (r.f ρ).bind fun xs => some (x :: xs) := id rfl
theorem bTup_f {t : TA3} {a : PuA t} {hn : Tru (Nat.ble a.n 1000)} : (bTup a hn).f = fun ρ => (a.f ρ).map .tuple := id rfl
theorem bLst_f {t : TA3} {a : PuA t} {hn : Tru (Nat.ble a.n 1000)} : (bLst a hn).f = fun ρ => (a.f ρ).map .list := id rfl
theorem bCall_f {r : List T → Gp → Q3 → Prop} {t : TA3} {R : FnD r} {a : PuA t} : (bCall R a).f = fun ρ => (a.f ρ).bind R.f := id rfl
theorem bTb_f {t : TE3} {a : PuE t} : (bTb a).f = fun ρ => (a.f ρ).bind asB := id rfl
theorem bOr_f {t u : TT3} {a : PuC t} {b : PuC u} : (bOr a b).f = fun ρ => (a.f ρ).bind fun k => if k then some true else b.f ρ := id rfl
theorem bNot_f {t : TT3} {a : PuC t} : (bNot a).f = fun ρ => (a.f ρ).map (! ·) := id rfl
theorem bTt_f : bTt.f = fun _ => some true := id rfl
theorem bNeg_f {ta : TE3} {a : PuE ta} : (bNeg a).f = fun ρ => ((a.f ρ).bind asI).map fun i => .int (-i) := id rfl
theorem bCh_f {r r' : R3} {ta tb tc : TE3} {R : OpD r} {R' : OpD r'} {a : PuE ta} {b : PuE tb} {c : PuE tc} : (bCh R R' a b c).f = fun ρ => (a.f ρ).bind fun x => (b.f ρ).bind fun y => ((R.f x y).bind asB).bind fun k => if k then (c.f ρ).bind fun z => R'.f y z else some (.bool false) := id rfl
theorem bSp_f {t : TE3} {a : PuE t} : (bSp a).f = fun ρ => ((a.f ρ).bind asI).map some := id rfl
theorem bSl_f {te : TE3} {tl th : TO3} {a : PuE te} {l : PuO tl} {h : PuO th} : (bSl a l h).f = fun ρ => (a.f ρ).bind fun d => (l.f ρ).bind fun lo => (h.f ρ).bind fun hi => slD d lo hi := id rfl
theorem bTget_f {tab : List (Str × T)} {te : TE3} {a : PuE te} : (bTget tab a).f = fun ρ => ((a.f ρ).bind asS).bind fun s => (tabGet tab s).bind tD := id rfl
theorem bDsub_f {ks : List Str} {t : TA3} {te : TE3} {a : PuA t} {b : PuE te} : (bDsub ks a b).f = fun ρ => (a.f ρ).bind fun ds => ((b.f ρ).bind asS).bind fun s => dGet ks ds s := id rfl
theorem bLc_f {wi : TI3} {g : TG3} {tif : TT3} {te : TE3} {pi : PuI wi} {pg : PuG g} {pc : PuC tif} {pe : PuE te} {m : List (Option Nat)} {hm : Tru (pg.tg.all fun i => m[i]? == some none)} : (bLc pi pg pc pe m hm).f = lcF pi.f (lcH pg.f pc.f pe.f) m := id rfl
theorem bLc2_f {wi wi2 : TI3} {g g2 : TG3} {tif tif2 : TT3} {te : TE3} {pi : PuI wi} {pg : PuG g} {pc : PuC tif} {pi2 : PuI wi2} {pg2 : PuG g2} {pc2 : PuC tif2} {pe : PuE te} {m : List (Option Nat)} {hm : Tru (pg.tg.all fun i => m[i]? == some none)} {hm2 : Tru (pg2.tg.all fun i => m[i]? == some none)} {hdj : Tru (pg2.tg.all fun i => !pg.tg.contains i)} : (bLc2 pi pg pc pi2 pg2 pc2 pe m hm hm2 hdj).f = lc2F pi.f (lc2H pg.f pc.f pi2.f (lcH pg2.f pc2.f pe.f)) m := id rfl
theorem fLen_f : fLen.f = lenD := id rfl
theorem fLst_f : fLst.f = lstD := id rfl
theorem fMinL_f : fMinL.f = mnD := id rfl
theorem fMaxL_f : fMaxL.f = mxD := id rfl
theorem fCall_f {F : List PyData → Option PyData} {fr : Bool} : (fCall F fr).f = F := id rfl
theorem opI_f {g : Int → Int → Int} {i j : Int} : (opI g).f (.int i) (.int j) = some (.int (g i j)) := id rfl
theorem opB_f {g : Int → Int → Bool} {i j : Int} : (opB g).f (.int i) (.int j) = some (.bool (g i j)) := id rfl
theorem opC_f {C : Int → Int → Prop} {g : Int → Int → Int} : (opC C g).f = cI C g := id rfl
theorem opEq_f {n : Bool} : (opEq n).f = eqD n := id rfl
theorem opIx_f : opIx.f = ixD := id rfl
theorem opCat_f : opCat.f = catD := id rfl
theorem iSeq_f {t : TE3} {a : PuE t} : (iSeq a).f = fun ρ => (a.f ρ).bind seqD := id rfl
theorem iRng_f {t : TA3} {a : PuA t} : (iRng a).f = fun ρ => (a.f ρ).bind rngD := id rfl
theorem iSeq_nm {t : TE3} {a : PuE t} : (iSeq a).nm = false := id rfl
theorem iRng_nm {t : TA3} {a : PuA t} : (iRng a).nm = true := id rfl
theorem gN_f {i : Nat} : (gN i).f = fun d => some [(i,d)] := id rfl
theorem gNil_f : gNil.f [] = some [] := id rfl
theorem gCons_f {t : TG3} {u : TGs3} {a : PuG t} {b : PuGs u} {d : PyData} {r : List PyData} : (gCons a b).f (d :: r) = (a.f d).bind fun x => (b.f r).map fun y => x ++ y := id rfl
theorem gTup_f {u : TGs3} {n : Nat} {b : PuGs u} {ds : List PyData} : (gTup n b).f (.tuple ds) = if ds.length = n then b.f ds else none := id rfl
theorem sNext_f : sNext.f = fun _ ρ => some (.nx ρ) := id rfl
theorem sSeq_f {t u : TS3} {a : PuS t} {b : PuS u} : (sSeq a b).f = seqF a.f b.f := id rfl
theorem sIf_f {c : TT3} {t u : TS3} {pc : PuC c} {a : PuS t} {b : PuS u} : (sIf pc a b).f = fun n ρ => (pc.f ρ).bind fun k => if k then a.f n ρ else b.f n ρ := id rfl
theorem sRet_f {t : TE3} {a : PuE t} : (sRet a).f = fun _ ρ => (a.f ρ).map fun d => .rt d a.nw := id rfl
theorem sRetV_f {i : Nat} : (sRetV i).f = fun _ ρ => retV ρ i := id rfl
theorem sAsg_f {t : TE3} {a : PuE t} {i : Nat} {m : List Bool} {hm : Tru (a.fv.all (mkb m))} : (sAsg a i m hm).f = fun _ ρ => (a.f ρ).map fun d => .nx (asgF m a.nw i d ρ) := id rfl
theorem sAsgT_f {t : TE3} {g : TG3} {a : PuE t} {pg : PuG g} {m : List Bool} {hm : Tru (a.fv.all (mkb m))} : (sAsgT a pg m hm).f = fun _ ρ => (a.f ρ).bind fun d => (pg.f d).map fun bs => .nx (setS (dm m ρ) bs) := id rfl
theorem sExt_f {t : TE3} {a : PuE t} {i : Nat} {m : List Bool} {hm : Tru (a.fv.all (mkb m))} : (sExt a i m hm).f = fun _ ρ => (a.f ρ).bind fun d => extF i d (dmS m d ρ) := id rfl
theorem sFor_f {wi : TI3} {g : TG3} {tb : TS3} {pi : PuI wi} {pg : PuG g} {pb : PuS tb} {m : List Bool} {hm : Tru (pi.fv.all (mkb m))} : (sFor pi pg pb m hm).f = forF pi.f pi.nm m pg.f pb.f := id rfl
theorem bBl_nw {i : Bool} : (bBl i).nw = false := id rfl
theorem bO_nw {r : R3} {ta tb : TE3} {R : OpD r} {a : PuE ta} {b : PuE tb} : (bO R a b).nw = R.nw := id rfl
theorem bTup_nw {t : TA3} {a : PuA t} {hn : Tru (Nat.ble a.n 1000)} : (bTup a hn).nw = false := id rfl
theorem bLst_nw {t : TA3} {a : PuA t} {hn : Tru (Nat.ble a.n 1000)} : (bLst a hn).nw = true := id rfl
theorem bCall_nw {r : List T → Gp → Q3 → Prop} {t : TA3} {R : FnD r} {a : PuA t} : (bCall R a).nw = R.nw := id rfl
theorem fCall_nw {F : List PyData → Option PyData} {fr : Bool} : (fCall F fr).nw = fr := id rfl
theorem bLc_nw {wi : TI3} {g : TG3} {tif : TT3} {te : TE3} {pi : PuI wi} {pg : PuG g} {pc : PuC tif} {pe : PuE te} {m : List (Option Nat)} {hm : Tru (pg.tg.all fun i => m[i]? == some none)} : (bLc pi pg pc pe m hm).nw = true := id rfl
theorem bLc2_nw {wi wi2 : TI3} {g g2 : TG3} {tif tif2 : TT3} {te : TE3} {pi : PuI wi} {pg : PuG g} {pc : PuC tif} {pi2 : PuI wi2} {pg2 : PuG g2} {pc2 : PuC tif2} {pe : PuE te} {m : List (Option Nat)} {hm : Tru (pg.tg.all fun i => m[i]? == some none)} {hm2 : Tru (pg2.tg.all fun i => m[i]? == some none)} {hdj : Tru (pg2.tg.all fun i => !pg.tg.contains i)} : (bLc2 pi pg pc pi2 pg2 pc2 pe m hm hm2 hdj).nw = true := id rfl
theorem fLst_nw : fLst.nw = true := id rfl
theorem opIx_nw : opIx.nw = false := id rfl
theorem vw_z {s : Sl} {r : Rho} : vw (s :: r) 0 = s.d := id rfl
theorem vw_s {s : Sl} {r : Rho} {i : Nat} : vw (s :: r) (i + 1) = vw r i := id rfl
theorem Sd_sh {d : PyData} : (Sl.sh d).d = some d := id rfl
theorem Sd_ow {ds : List PyData} : (Sl.ow ds).d = some (.list ds) := id rfl
theorem slot_ow {r : Rho} {ds : List PyData} : slot (.ow ds :: r) 0 = some ds := id rfl
theorem slot_s {s : Sl} {r : Rho} {i : Nat} : slot (s :: r) (i + 1) = slot r i := id rfl
theorem retV_ow {r : Rho} {ds : List PyData} : retV (.ow ds :: r) 0 = some (.rt (.list ds) true) := id rfl
theorem retV_s {s : Sl} {r : Rho} {i : Nat} : retV (s :: r) (i + 1) = retV r i := id rfl
theorem ixD_t {xs : List PyData} {i : Int} : ixD (.tuple xs) (.int i) = L2.atI xs i := id rfl
theorem ixD_l {xs : List PyData} {i : Int} : ixD (.list xs) (.int i) = L2.atI xs i := id rfl
theorem at0 {α : Type} {a : α} {r : List α} : L2.atI (a :: r) 0 = some a := by simp [L2.atI,ixN]
theorem at1 {α : Type} {a b : α} {r : List α} : L2.atI (a :: b :: r) 1 = some b := by
 have h : ixN (a :: b :: r).length 1 = some 1 := by unfold ixN;rw [if_pos (by omega),if_pos (by simp;omega)];rfl
 unfold L2.atI;rw [h];rfl
theorem at2 {α : Type} {a b c : α} {r : List α} : L2.atI (a :: b :: c :: r) 2 = some c := by
 have h : ixN (a :: b :: c :: r).length 2 = some 2 := by unfold ixN;rw [if_pos (by omega),if_pos (by simp;omega)];rfl
 unfold L2.atI;rw [h];rfl
theorem at3 {α : Type} {a b c d : α} {r : List α} : L2.atI (a :: b :: c :: d :: r) 3 = some d := by
 have h : ixN (a :: b :: c :: d :: r).length 3 = some 3 := by unfold ixN;rw [if_pos (by omega),if_pos (by simp;omega)];rfl
 unfold L2.atI;rw [h];rfl
theorem atN {α : Type} {xs : List α} {k : Nat} (h : k < xs.length) : L2.atI xs (k : Int) = xs[k]? := by
 have e : ixN xs.length (k : Int) = some k := by unfold ixN;rw [if_pos (by omega),if_pos (by omega)];rfl
 unfold L2.atI;rw [e];rfl
theorem eqS {n : Bool} {a b : Str} : eqD n (.str a) (.str b) = some (.bool (if n then !decide (a = b) else decide (a = b))) := id rfl
theorem cI_ok {C : Int → Int → Prop} {g : Int → Int → Int} {i j : Int} (h : C i j) : cI C g (.int i) (.int j) = some (.int (g i j)) := by simp only [cI];exact cif_pos h
theorem cI_mul {i j : Int} (h : -1000000 < j∧j < 1000000) : cI CMul (· * ·) (.int i) (.int j) = some (.int (i * j)) := cI_ok (.inr ⟨by omega,by omega⟩)
theorem cI_mul' {i j : Int} (h : -1000000 < i∧i < 1000000) : cI CMul (· * ·) (.int i) (.int j) = some (.int (i * j)) := cI_ok (.inl ⟨by omega,by omega⟩)
theorem cI_shl {i j : Int} (h : 0 ≤ j∧j ≤ 1000000∧i.natAbs < 2 ^ 64) : cI CPow (fun i j => i * 2 ^ j.toNat) (.int i) (.int j) = some (.int (i * 2 ^ j.toNat)) := cI_ok h
theorem catI {i j : Int} : catD (.int i) (.int j) = some (.int (i + j)) := id rfl
theorem rng1 {j : Int} (h : -1000000000 ≤ j∧j < 1000000000) : rngD [.int j] = some ((rngI 0 j.toNat).map PyData.int) := by simp only [rngD];exact cif_pos ⟨by omega,by omega⟩
theorem rng2 {i j : Int} (h : -1000000000 ≤ i∧i < 1000000000∧-1000000000 ≤ j∧j < 1000000000) : rngD [.int i,.int j] = some ((rngI i (j - i).toNat).map PyData.int) := by simp only [rngD];exact cif_pos ⟨by omega,by omega,by omega,by omega⟩
theorem lcF_ok {pi : Rho → Option (List PyData)} {h : Rho → PyData → Option (Option PyData)} {m : List (Option Nat)} {ρ : Rho} {ds fs : List PyData} (h1 : pi ρ = some ds) (h2 : lcP (h (capS m ρ)) ds = some fs) (h3 : fs.length ≤ 16777216) : lcF pi h m ρ = some (.list fs) := by unfold lcF;rw [h1];simp only [Option.bind_some,h2];exact cif_pos h3
theorem lc2F_ok {pi : Rho → Option (List PyData)} {h : Rho → PyData → Option (Option (List PyData))} {m : List (Option Nat)} {ρ : Rho} {ds fs : List PyData} (h1 : pi ρ = some ds) (h2 : lc2P (h (capS m ρ)) ds = some fs) (h3 : fs.length ≤ 16777216) : lc2F pi h m ρ = some (.list fs) := by unfold lc2F;rw [h1];simp only [Option.bind_some,h2];exact cif_pos h3
theorem forP_inv {gf : PyData → Option (List (Nat × PyData))} {bf : Rho → Option Ot} {α : Type} {g : α → PyData} (xs : List α) (I : Nat → Rho → Prop) {ρ : Rho} (h0 : I 0 ρ)
  (hs : ∀ i x ρ,xs[i]? = some x → I i ρ → ∃ bs ρ',gf (g x) = some bs∧(bf (setS ρ bs) = some (.nx ρ') ∨ bf (setS ρ bs) = some (.ct ρ'))∧I (i + 1) ρ') : ∃ ρ',forP gf bf (xs.map g) ρ = some (.nx ρ')∧I xs.length ρ' := by
 have key : ∀ (r : List α) (i : Nat) (ρ : Rho),xs.drop i = r → i ≤ xs.length → I i ρ → ∃ ρ',forP gf bf (r.map g) ρ = some (.nx ρ')∧I xs.length ρ' := by
  intro r
  induction r with
  | nil =>
   intro i ρ e hi h
   have : i = xs.length := by
    have := congrArg List.length e
    simp at this;omega
   subst this
   exact ⟨ρ,rfl,h⟩
  | cons x r ih =>
   intro i ρ e hi h
   have hl : i < xs.length := by
    have := congrArg List.length e
    simp at this;omega
   have e' := List.drop_eq_getElem_cons hl
   rw [e] at e'
   injection e' with e1 e2
   obtain ⟨bs,ρ',h1,h2,h3⟩ := hs i x ρ (by rw [List.getElem?_eq_getElem hl,e1]) h
   obtain ⟨ρ2,h4,h5⟩ := ih (i + 1) ρ' e2.symm hl h3
   refine ⟨ρ2,?_,h5⟩
   simp only [List.map_cons,forP,h1,Option.bind_some]
   rcases h2 with h2 | h2 <;> (rw [h2];exact h4)
 exact key xs 0 ρ (by simp) (Nat.zero_le _) h0
noncomputable def sqk (b : Nat → Rho → Option Ot) (n : Nat) (o : Ot) : Option Ot := match o with | .nx ρ' => b n ρ' | o => some o
theorem seqF_k {a b : Nat → Rho → Option Ot} {n : Nat} {ρ : Rho} : seqF a b n ρ = (a n ρ).bind (sqk b n) := id rfl
theorem sqk_nx {b : Nat → Rho → Option Ot} {n : Nat} {ρ : Rho} : sqk b n (.nx ρ) = b n ρ := id rfl
theorem sqk_rt {b : Nat → Rho → Option Ot} {n : Nat} {d : PyData} {f : Bool} : sqk b n (.rt d f) = some (.rt d f) := id rfl
theorem outF_tt {d : PyData} : outF true (some (.rt d true)) = some d := id rfl
theorem outF_f {d : PyData} {b : Bool} : outF false (some (.rt d b)) = some d := by simp [outF]
theorem asB_b {b : Bool} : asB (.bool b) = some b := id rfl
theorem asI_i {b : Int} : asI (.int b) = some b := id rfl
theorem asS_s {b : Str} : asS (.str b) = some b := id rfl
theorem lenD_t {xs : List PyData} : lenD [.tuple xs] = some (.int xs.length) := id rfl
theorem lstD_t {xs : List PyData} : lstD [.tuple xs] = some (.list xs) := id rfl
theorem mnD_l {xs : List Int} (h : xs ≠ []) : mnD [.list (xs.map PyData.int)] = some (.int (mn xs)) := by simp only [mnD,intsD_map,Option.bind_some];exact cif_pos h
theorem mxD_l {xs : List Int} (h : xs ≠ []) : mxD [.list (xs.map PyData.int)] = some (.int (mx xs)) := by simp only [mxD,intsD_map,Option.bind_some];exact cif_pos h
theorem seqD_t {xs : List PyData} : seqD (.tuple xs) = some xs := id rfl
theorem seqD_l {xs : List PyData} : seqD (.list xs) = some xs := id rfl
theorem asg_s {m : List Bool} {nw : Bool} {i : Nat} {v : Str} {ρ : Rho} : asgF m nw i (.str v) ρ = ρ.set i (.sh (.str v)) := id rfl
theorem asg_t {m : List Bool} {nw : Bool} {i : Nat} {v : List PyData} {ρ : Rho} : asgF m nw i (.tuple v) ρ = (dm m ρ).set i (.sh (.tuple v)) := by cases nw <;> rfl
theorem asg_ln {m : List Bool} {i : Nat} {v : List PyData} {ρ : Rho} : asgF m true i (.list v) ρ = (dm m ρ).set i (.ow v) := id rfl
theorem dmS_t {m : List Bool} {v : List PyData} {ρ : Rho} : dmS m (.tuple v) ρ = dm m ρ := id rfl
theorem dmS_l {m : List Bool} {v : List PyData} {ρ : Rho} : dmS m (.list v) ρ = dm m ρ := id rfl
theorem dm_z {ρ : Rho} : dm [] ρ = ρ := id rfl
theorem dm_t {m : List Bool} {s : Sl} {ρ : Rho} : dm (true :: m) (s :: ρ) = s.dem :: dm m ρ := id rfl
theorem dm_f {m : List Bool} {s : Sl} {ρ : Rho} : dm (false :: m) (s :: ρ) = s :: dm m ρ := id rfl
theorem dem_o {ds : List PyData} : (Sl.ow ds).dem = .sh (.list ds) := id rfl
theorem dem_s {d : PyData} : (Sl.sh d).dem = .sh d := id rfl
theorem cap_z {ρ : Rho} : capS [] ρ = [] := id rfl
theorem cap_n {m : List (Option Nat)} {ρ : Rho} : capS (none :: m) ρ = .un :: capS m ρ := id rfl
noncomputable def cp (o : Option PyData) : Sl := match o with | some d => .sh d | none => .un
theorem cap_s {m : List (Option Nat)} {j : Nat} {ρ : Rho} : capS (some j :: m) ρ = cp (vw ρ j) :: capS m ρ := id rfl
theorem cp_s {d : PyData} : cp (some d) = .sh d := id rfl
theorem forF_n {pi : Rho → Option (List PyData)} {m : List Bool} {gf : PyData → Option (List (Nat × PyData))} {bf : Nat → Rho → Option Ot} {n : Nat} {ρ : Rho} : forF pi true m gf bf n ρ = (pi ρ).bind fun ds => forP gf (bf n) ds ρ := id rfl
theorem forF_l {pi : Rho → Option (List PyData)} {m : List Bool} {gf : PyData → Option (List (Nat × PyData))} {bf : Nat → Rho → Option Ot} {n : Nat} {ρ : Rho} : forF pi false m gf bf n ρ = (pi ρ).bind fun ds => forP gf (bf n) ds (dm m ρ) := id rfl
theorem setS_z {ρ : Rho} : setS ρ [] = ρ := id rfl
theorem setS_c {ρ : Rho} {i : Nat} {d : PyData} {r : List (Nat × PyData)} : setS ρ ((i,d) :: r) = setS (ρ.set i (.sh d)) r := id rfl
theorem lcH_k {gf : PyData → Option (List (Nat × PyData))} {cf : Rho → Option Bool} {ef : Rho → Option PyData} {ρ : Rho} {d : PyData} : lcH gf cf ef ρ d = (gf d).bind fun bs => (cf (setS ρ bs)).bind fun k => if k then (ef (setS ρ bs)).map some else some none := id rfl
theorem lc2H_k {gf : PyData → Option (List (Nat × PyData))} {cf : Rho → Option Bool} {it : Rho → Option (List PyData)} {h : Rho → PyData → Option (Option PyData)} {ρ : Rho} {d : PyData} : lc2H gf cf it h ρ d = (gf d).bind fun bs => (cf (setS ρ bs)).bind fun k => if k then ((it (setS ρ bs)).bind fun ds => lcP (h (setS ρ bs)) ds).map some else some none := id rfl
def Nx (o : Option Ot) (P : Rho → Prop) : Prop := match o with | some (.nx ρ) => P ρ | some (.ct ρ) => P ρ | _ => False
theorem Nx_nx {ρ : Rho} {P : Rho → Prop} : Nx (some (.nx ρ)) P = P ρ := id rfl
theorem Nx_is {o : Option Ot} {P : Rho → Prop} (h : Nx o P) : ∃ ρ,(o = some (.nx ρ) ∨ o = some (.ct ρ))∧P ρ := by
 unfold Nx at h
 split at h
 ·exact ⟨_,.inl rfl,h⟩
 ·exact ⟨_,.inr rfl,h⟩
 ·exact h.elim
section
variable {gf : PyData → Option (List (Nat × PyData))} {bf : Rho → Option Ot} {α : Type} {g : α → PyData} {ρ : Rho} {Q : Option Ot → Prop} {F : Ot → Option Ot}
theorem for_last (xs : List α) (I : Nat → Rho → Prop) (h0 : I 0 ρ) (hs : ∀ i x ρ,xs[i]? = some x → I i ρ → Nx ((gf (g x)).bind fun bs => bf (setS ρ bs)) (I (i + 1))) (k : ∀ ρ',I xs.length ρ' → Q (some (.nx ρ'))) : Q (forP gf bf (xs.map g) ρ) := by
 obtain ⟨ρ',e,h⟩ := forP_inv (gf := gf) (bf := bf) (g := g) xs I h0 fun i x ρ hx hi => by
  obtain ⟨ρ2,e,h⟩ := Nx_is (hs i x ρ hx hi)
  cases e1 : gf (g x) with
  | none => rw [e1] at e;rcases e with e | e <;> cases e
  | some bs => rw [e1] at e;exact ⟨bs,ρ2,rfl,e,h⟩
 rw [e]
 exact k ρ' h
theorem for_any (xs : List α) (I : Nat → Rho → Prop) (h0 : I 0 ρ) (hs : ∀ i x ρ,xs[i]? = some x → I i ρ → Nx ((gf (g x)).bind fun bs => bf (setS ρ bs)) (I (i + 1))) (k : ∀ ρ',I xs.length ρ' → Q (F (.nx ρ'))) : Q ((forP gf bf (xs.map g) ρ).bind F) :=
 for_last (Q := fun o => Q (o.bind F)) xs I h0 hs k
end
theorem usl1 {α : Type} {us : List α} (h : us.length = 1) : ∃ a0,us = [a0] := List.length_eq_one_iff.mp h
theorem usl2 {α : Type} {us : List α} (h : us.length = 2) : ∃ a0 a1,us = [a0,a1] := by
 obtain ⟨a0,r,rfl⟩ := List.exists_cons_of_length_pos (show 0 < us.length by omega)
 obtain ⟨a1,rfl⟩ := usl1 (show r.length = 1 by simpa using h)
 exact ⟨a0,a1,rfl⟩
theorem usl3 {α : Type} {us : List α} (h : us.length = 3) : ∃ a0 a1 a2,us = [a0,a1,a2] := by
 obtain ⟨a0,r,rfl⟩ := List.exists_cons_of_length_pos (show 0 < us.length by omega)
 obtain ⟨a1,a2,rfl⟩ := usl2 (show r.length = 2 by simpa using h)
 exact ⟨a0,a1,a2,rfl⟩
end Pu
namespace Pu
open PySem L2 L3
end Pu
namespace Pu
open PySem L2 L3
theorem ex_hide {X : Addr → Prop} {G : Gp} {p : Addr} {o : O} (hp : G p = none) : Ex (rs X G) (rs (fun b => X b ∨ b = p) (gu G p o)) := fun b o' e => by
 obtain ⟨n,e⟩ := rs_some e
 have bp : b ≠ p := by rintro rfl;rw [hp] at e;cases e
 rw [rs_of (by rintro (z | z);exact n z;exact bp z),gu_ne bp];exact e
noncomputable def parE (i j : Nat) (m : List Bool) (nw : Bool) (d : PyData) (ρ : Rho) : Rho := ((dm m ρ).set i (.ow [])).set j (if nw then owOf d else .sh d)
noncomputable def sAsgE {t : TE3} (b : PuE t) (i j : Nat) (m : List Bool) (hm : Tru (b.fv.all (mkb m))) (hij : Tru (i != j)) : PuS (asg3 (tup3 (cons3 (lst3 nil3) (cons3 t nil3))) (gtup3 2 (gcons3 (gn3 i) (gcons3 (gn3 j) gnil3)))) := ⟨fun _ ρ => (b.f ρ).map fun d => .nx (parE i j m b.nw d ρ),fun {D G0 A τ ρ G n o e} h hf k => by
 obtain ⟨d,e1,rfl⟩ := Option.map_eq_some_iff.mp hf
 have ne : i ≠ j := by simpa using hij.h
 show asg3 (tup3 (cons3 (lst3 nil3) (cons3 t nil3))) (gtup3 2 (gcons3 (gn3 i) (gcons3 (gn3 j) gnil3))) e τ G
 simp only [asg3,tup3,cons3,lst3,nil3,gtup3,gcons3,gn3,gnil3]
 refine ⟨Nat.zero_le _,fun p hp => ?_⟩
 have h0 := h.dem m
 have h1 := h0.putN i (d := .list []) rfl (ex_new hp) (nw_new hp .nil)
 have v : View b.fv (fun b => AD D (Ad m A) b ∨ b = p) (gu G p (.lst [])) τ ρ := fun q hq d' hd' => by
  obtain ⟨x,a1,a2⟩ := h.viewD hm q hq d' hd'
  exact ⟨x,a1,a2.up (ex_hide hp)⟩
 have dm' : Dom (fun b => AD D (Ad m A) b ∨ b = p) (gu G p (.lst [])) := fun b z => by
  rcases z with z | z
  ·exact (h0.dom.up (ex_new hp)) b z
  ·subst z;rw [gu_same];simp
 refine b.ok v dm' e1 fun y G2 E2 D2 N2 => ?_
 have less : ∀ q,AD D (fun k => if k = i then some p else Ad m A k) q → AD D (Ad m A) q ∨ q = p := fun q z => by
  rcases z with z | ⟨k,z⟩
  ·exact .inl (.inl z)
  ·simp only at z
   split at z
   ·cases z;exact .inr rfl
   ·exact .inl (.inr ⟨k,z⟩)
 refine ⟨by simp [sizeLine_eq],by simp,?_⟩
 unfold parE at k
 cases hn : b.nw with
 | false =>
  rw [hn,if_neg Bool.false_ne_true] at k
  exact k _ _ _ ((h1.up E2).put j (D2.up (rs_less less)))
 | true =>
  rw [hn,if_pos rfl] at k
  rcases id (N2 hn) with z | ⟨p2,xs,ds,a1,a2,a3,a4,a5⟩
  ·subst z
   exact k _ _ _ ((h1.up E2).put j (D2.up (rs_less less)))
  ·subst a2
   exact k _ _ _ (h1.putN j rfl E2 (.inr ⟨p2,xs,ds,a1,rfl,a3,a4,a5.up (rs_less fun q z => z.imp (less q) id)⟩))⟩
theorem sAsgE_f {t : TE3} {b : PuE t} {i j : Nat} {m : List Bool} {hm : Tru (b.fv.all (mkb m))} {hij : Tru (i != j)} : (sAsgE b i j m hm hij).f = fun _ ρ => (b.f ρ).map fun d => .nx (parE i j m b.nw d ρ) := id rfl
theorem parE_l {i j : Nat} {m : List Bool} {ds : List PyData} {ρ : Rho} : parE i j m true (.list ds) ρ = ((dm m ρ).set i (.ow [])).set j (.ow ds) := id rfl
end Pu
namespace Pv
open PySem L2 L3 Pu
noncomputable def b_strung : PuS (Bk.t_strung) := (sRet (bLc (iRng (bCons (bV 2) bNil)) (gN 0) bTt (bTup (bCons (bO (opC CMul (· * ·)) (bV 0) (bV 1)) (bCons (bO (opC CMul (· * ·)) (bV 0) (bV 2)) bNil)) ⟨rfl⟩) [none,some 0,some 1] ⟨rfl⟩))
noncomputable def F_strung : List PyData → Option PyData := run (b_strung).f 3 3 1000000000 true
theorem rd_strung : ∀ ts G q,PSp (F_strung) true ts G q → ts.length = 3∧Bk.t_strung { nx := fun _ G' => q .non G',rt := q } (start3 ["down","along","many"] ts) G := pu_read (b_strung) ["down","along","many"] 3 1000000000 true
theorem un_strung {x0 x1 x2 : PyData} : F_strung [x0,x1,x2] = outF true ((b_strung).f 1000000000 [.sh x0,.sh x1,.sh x2]) := id rfl
noncomputable def b_cells_of (F_strung : List PyData → Option PyData) : PuS (Bk.t_cells_of (PSp F_strung true)) := (sSeq (sAsg (bO opIx (bV 0) (bInt 0)) 1 [true] ⟨rfl⟩) (sSeq (sIf (bTb (bO (opEq false) (bV 1) (bStr "cells"))) (sRet (bCall fLst (bCons (bO opIx (bV 0) (bInt 1)) bNil))) sNext) (sSeq (sIf (bTb (bO (opEq false) (bV 1) (bStr "block"))) (sRet (bLc2 (iRng (bCons (bO opIx (bV 0) (bInt 1)) bNil)) (gN 0) bTt (iRng (bCons (bO opIx (bV 2) (bInt 2)) bNil)) (gN 1) bTt (bTup (bCons (bV 0) (bCons (bV 1) bNil)) ⟨rfl⟩) [none,none,some 0] ⟨rfl⟩ ⟨rfl⟩ ⟨rfl⟩)) sNext) (sSeq (sIf (bTb (bO (opEq false) (bV 1) (bStr "step"))) (sRet (bCall (fCall F_strung true) (bCons (bO opIx (bV 0) (bInt 1)) (bCons (bO opIx (bV 0) (bInt 2)) (bCons (bO opIx (bV 0) (bInt 3)) bNil))))) sNext) (sSeq (sAsgT (bTget stridesT (bV 1)) (gTup 2 (gCons (gN 2) (gCons (gN 3) gNil))) [false,true] ⟨rfl⟩) (sRet (bCall (fCall F_strung true) (bCons (bV 2) (bCons (bV 3) (bCons (bO opIx (bV 0) (bInt 1)) bNil))))))))))
noncomputable def F_cells_of : List PyData → Option PyData := run (b_cells_of F_strung).f 1 4 1000000000 true
theorem rd_cells_of : ∀ ts G q,PSp (F_cells_of) true ts G q → ts.length = 1∧Bk.t_cells_of (PSp F_strung true) { nx := fun _ G' => q .non G',rt := q } (start3 ["walk","kind","down","along"] ts) G := pu_read (b_cells_of F_strung) ["walk","kind","down","along"] 1 1000000000 true
theorem un_cells_of {x0 : PyData} : F_cells_of [x0] = outF true ((b_cells_of F_strung).f 1000000000 [.sh x0,.un,.un,.un]) := id rfl
noncomputable def b_size_of (F_size_of : List PyData → Option PyData) : PuS (Bk.t_size_of (PSp F_size_of false)) := (sSeq (sAsg (bO opIx (bV 0) (bInt 0)) 1 [true] ⟨rfl⟩) (sSeq (sIf (bTb (bO (opEq false) (bV 1) (bStr "bits"))) (sRet (bTup (bCons (bO (opC CPow (fun i j => i * 2 ^ j.toNat)) (bInt 1) (bO opIx (bV 0) (bInt 1))) (bCons (bO (opC CPow (fun i j => i * 2 ^ j.toNat)) (bInt 1) (bO opIx (bV 0) (bInt 2))) (bCons (bO (opC CPow (fun i j => i * 2 ^ j.toNat)) (bInt 1) (bCall fLen (bCons (bO opIx (bV 0) (bInt 3)) bNil))) bNil))) ⟨rfl⟩)) sNext) (sSeq (sIf (bTb (bO (opEq false) (bV 1) (bStr "table"))) (sRet (bTup (bCons (bCall fLen (bCons (bO opIx (bV 0) (bInt 2)) bNil)) (bCons (bCall fLen (bCons (bO opIx (bO opIx (bV 0) (bInt 2)) (bInt 0)) bNil)) (bCons (bO opIx (bV 0) (bInt 1)) bNil))) ⟨rfl⟩)) sNext) (sSeq (sIf (bTb (bO (opEq false) (bV 1) (bStr "joined"))) (sSeq (sAsgT (bCall (fCall F_size_of false) (bCons (bO opIx (bV 0) (bInt 1)) bNil)) (gTup 3 (gCons (gN 2) (gCons (gN 3) (gCons (gN 4) gNil)))) [true] ⟨rfl⟩) (sSeq (sAsgT (bCall (fCall F_size_of false) (bCons (bO opIx (bV 0) (bInt 2)) bNil)) (gTup 3 (gCons (gN 5) (gCons (gN 6) (gCons (gN 7) gNil)))) [true] ⟨rfl⟩) (sRet (bTup (bCons (bO (opC CMul (· * ·)) (bV 2) (bV 5)) (bCons (bO (opC CMul (· * ·)) (bV 3) (bV 6)) (bCons (bO (opC CMul (· * ·)) (bV 4) (bV 7)) bNil))) ⟨rfl⟩)))) sNext) (sRet (bTup (bCons (bO opIx (bV 0) (bInt 1)) (bCons (bO opIx (bV 0) (bInt 2)) (bCons (bO opIx (bV 0) (bInt 3)) bNil))) ⟨rfl⟩))))))
noncomputable def F_size_of : Nat → List PyData → Option PyData
 | 0 => fun _ => none
 | j + 1 => run (b_size_of (F_size_of j)).f 1 8 1000000000 false
theorem rd_size_of (j : Nat) : ∀ ts G q,PSp (F_size_of (j + 1)) false ts G q → ts.length = 1∧Bk.t_size_of (PSp (F_size_of j) false) { nx := fun _ G' => q .non G',rt := q } (start3 ["dealing","kind","rows","columns","banks","other_rows","other_columns","other_banks"] ts) G := pu_read (b_size_of (F_size_of j)) ["dealing","kind","rows","columns","banks","other_rows","other_columns","other_banks"] 1 1000000000 false
theorem un_size_of {j : Nat} {x0 : PyData} : F_size_of (j + 1) [x0] = outF false ((b_size_of (F_size_of j)).f 1000000000 [.sh x0,.un,.un,.un,.un,.un,.un,.un]) := id rfl
noncomputable def b_starts (F_size_of : List PyData → Option PyData) (F_cells_of : List PyData → Option PyData) : PuS (Bk.t_starts (PSp F_size_of false) (PSp F_cells_of true)) := (sSeq (sAsgT (bCall (fCall F_size_of false) (bCons (bV 0) bNil)) (gTup 3 (gCons (gN 2) (gCons (gN 3) (gCons (gN 4) gNil)))) [true] ⟨rfl⟩) (sSeq (sAsg (bCall (fCall F_cells_of true) (bCons (bV 1) bNil)) 5 [false,true] ⟨rfl⟩) (sSeq (sAsg (bLc (iSeq (bV 5)) (gTup 2 (gCons (gN 0) (gCons (gN 1) gNil))) bTt (bV 0) [none,none] ⟨rfl⟩) 6 [false,false,false,false,false,true] ⟨rfl⟩) (sSeq (sAsg (bLc (iSeq (bV 5)) (gTup 2 (gCons (gN 0) (gCons (gN 1) gNil))) bTt (bV 1) [none,none] ⟨rfl⟩) 7 [false,false,false,false,false,true] ⟨rfl⟩) (sRet (bLc2 (iRng (bCons (bNeg (bCall fMinL (bCons (bV 6) bNil))) (bCons (bO (opI (· - ·)) (bV 2) (bCall fMaxL (bCons (bV 6) bNil))) bNil))) (gN 0) bTt (iRng (bCons (bNeg (bCall fMinL (bCons (bV 3) bNil))) (bCons (bO (opI (· - ·)) (bV 2) (bCall fMaxL (bCons (bV 3) bNil))) bNil))) (gN 1) bTt (bTup (bCons (bV 0) (bCons (bV 1) bNil)) ⟨rfl⟩) [none,none,some 3,some 7] ⟨rfl⟩ ⟨rfl⟩ ⟨rfl⟩))))))
noncomputable def F_starts (j : Nat) : List PyData → Option PyData := run (b_starts (F_size_of j) F_cells_of).f 2 8 1000000000 true
theorem rd_starts (j : Nat) : ∀ ts G q,PSp (F_starts j) true ts G q → ts.length = 2∧Bk.t_starts (PSp (F_size_of j) false) (PSp F_cells_of true) { nx := fun _ G' => q .non G',rt := q } (start3 ["dealing","walk","rows","columns","banks","cells","downs","alongs"] ts) G := pu_read (b_starts (F_size_of j) F_cells_of) ["dealing","walk","rows","columns","banks","cells","downs","alongs"] 2 1000000000 true
theorem un_starts {j : Nat} {x0 x1 : PyData} : F_starts j [x0,x1] = outF true ((b_starts (F_size_of j) F_cells_of).f 1000000000 [.sh x0,.sh x1,.un,.un,.un,.un,.un,.un]) := id rfl
end Pv
namespace Pv
open PySem L2 L3 Pu
open Bk (Wk Dl along blockC lnName lnD lnA)
noncomputable def pD (p : Int × Int) : PyData := .tuple [.int p.1,.int p.2]
noncomputable def Wk.d : Wk → PyData
 | .line k m => .tuple [.str (lnName k),.int m]
 | .block h w => .tuple [.str "block",.int h,.int w]
 | .step d a m => .tuple [.str "step",.int d,.int a,.int m]
 | .cells ps => .tuple [.str "cells",.tuple (ps.map pD)]
noncomputable def rowD (r : List Int) : PyData := .tuple (r.map PyData.int)
noncomputable def dlD : Dl → PyData
 | .skew r c b x y => .tuple [.str "skew",.int r,.int c,.int b,.int x,.int y]
 | .rests r c b p => .tuple [.str "rests",.int r,.int c,.int b,.int p]
 | .bits h l ms => .tuple [.str "bits",.int h,.int l,.tuple (ms.map PyData.int)]
 | .table b cells => .tuple [.str "table",.int b,.tuple (cells.map rowD)]
 | .joined d e => .tuple [.str "joined",dlD d,dlD e]
theorem rows_dq (G : Gp) : ∀ (cs : List (List Int)),Dqs G (cs.map Bk.rowT) (cs.map rowD)
 | [] => .nil
 | r :: cs => .cons (.tup (Dqs.ofInts r)) (rows_dq G cs)
theorem dl_dq (G : Gp) : ∀ (d : Dl),Dq G d.t (dlD d)
 | .skew r c b x y => .tup (.cons (.str _) (.cons (.int _) (.cons (.int _) (.cons (.int _) (.cons (.int _) (.cons (.int _) .nil))))))
 | .rests r c b p => .tup (.cons (.str _) (.cons (.int _) (.cons (.int _) (.cons (.int _) (.cons (.int _) .nil)))))
 | .bits h l ms => .tup (.cons (.str _) (.cons (.int _) (.cons (.int _) (.cons (.tup (Dqs.ofInts ms)) .nil))))
 | .table b cells => .tup (.cons (.str _) (.cons (.int _) (.cons (.tup (rows_dq G cells)) .nil)))
 | .joined d e => .tup (.cons (.str _) (.cons (dl_dq G d) (.cons (dl_dq G e) .nil)))
theorem pairs_dq (G : Gp) : ∀ (cs : List (Int × Int)),Dqs G (cs.map Bk.pT) (cs.map pD)
 | [] => .nil
 | p :: cs => .cons (.tup (.cons (.int _) (.cons (.int _) .nil))) (pairs_dq G cs)
theorem wk_dq (G : Gp) : ∀ (w : Wk),Dq G w.t (Wk.d w)
 | .line k m => .tup (.cons (.str _) (.cons (.int _) .nil))
 | .block h v => .tup (.cons (.str _) (.cons (.int _) (.cons (.int _) .nil)))
 | .step d a m => .tup (.cons (.str _) (.cons (.int _) (.cons (.int _) (.cons (.int _) .nil))))
 | .cells ps => .tup (.cons (.str _) (.cons (.tup (pairs_dq G ps)) .nil))
end Pv
namespace Pu
open PySem L2 L3
open Bk (Lf Ext)
section
variable {D : Addr → Prop} {a : Addr} {G G' G0 : Gp} {n n' : Nat} {fv gv : List Nat} {l : Nat} {τ : St3} {ρ : Rho}
theorem ext_rs (e : Ext a G G') (h : D a) : Ex (rs D G) (rs D G') := fun b o x => by
 obtain ⟨n,x⟩ := rs_some x
 rw [rs_of n];exact e b o (by rintro rfl;exact n h) x
theorem lf_some {k : Int} (h : Lf G a k) : G a ≠ none := by
 obtain ⟨o,c,m,e,_⟩ := h
 rw [e];simp
theorem ext_dom {k : Int} (hd : Dom D G) (e : Ext a G G') (lf : Lf G' a k) : Dom D G' := fun b hb z => by
 by_cases h : b = a
 ·subst h;exact lf_some lf z
 ·cases g : G b with
  | none => exact hd b hb g
  | some o => rw [e b o h g] at z;cases z
theorem Nw.backx {x : T} {d : PyData} {k : Int} (h : Nw D G G' x d) (e : Ext a G0 G) (lf : Lf G a k) : Nw D G0 G' x d := by
 rcases h with h | ⟨p,xs,ds,h1,h2,c,r⟩
 ·exact .inl h
 refine .inr ⟨p,xs,ds,h1,h2,?_,r⟩
 cases z : G0 p with
 | none => rfl
 | some o =>
  by_cases hp : p = a
  ·subst hp;exact absurd c (lf_some lf)
  ·rw [e p o hp z] at c;cases c
structure Ln (fv : List Nat) (l : Nat) (D : Addr → Prop) (G : Gp) (τ : St3) (ρ : Rho) (a : Addr) (n : Nat) : Prop where
 v : View fv D G τ ρ
 d : Dom D G
 da : D a
 tl : τ[l]? = some (some (.ref a))
 ul : vw ρ l = none
 lf : Lf G a n
theorem Ln.up (h : Ln fv l D G τ ρ a n) (e : Ext a G G') (lf : Lf G' a n') : Ln fv l D G' τ ρ a n' :=
 ⟨fun i hi d hd => let ⟨t,x,y⟩ := h.v i hi d hd;⟨t,x,y.up (ext_rs e h.da)⟩,ext_dom h.d e lf,h.da,h.tl,h.ul,lf⟩
theorem Ln.fst (h : Ln (fv ++ gv) l D G τ ρ a n) : Ln fv l D G τ ρ a n := ⟨h.v.l,h.d,h.da,h.tl,h.ul,h.lf⟩
theorem Ln.snd (h : Ln (fv ++ gv) l D G τ ρ a n) : Ln gv l D G τ ρ a n := ⟨h.v.r,h.d,h.da,h.tl,h.ul,h.lf⟩
end
noncomputable abbrev QD := PyData → Nat → Prop
structure PwE (l : Nat) (t : TE3) where
 w : Rho → Nat → QD → Prop
 fv : List Nat
 nw : Bool
 mono : ∀ {ρ n} {Q Q' : QD},w ρ n Q → (∀ d m,Q d m → Q' d m) → w ρ n Q'
 ok : ∀ {D τ ρ G a n} {q : Q3} {Q : QD},Ln fv l D G τ ρ a n → w ρ n Q → (∀ x d G' n',Q d n' → Ext a G G' → Lf G' a n' → Dq (rs D G') x d → (nw = true → Nw D G G' x d) → q x G') → t τ G q
structure PwC (l : Nat) (t : TT3) where
 w : Rho → Nat → (Bool → Nat → Prop) → Prop
 fv : List Nat
 mono : ∀ {ρ n} {Q Q' : Bool → Nat → Prop},w ρ n Q → (∀ d m,Q d m → Q' d m) → w ρ n Q'
 ok : ∀ {D τ ρ G a n} {q : Bool → Gp → Prop} {Q : Bool → Nat → Prop},Ln fv l D G τ ρ a n → w ρ n Q → (∀ k G' n',Q k n' → Ext a G G' → Lf G' a n' → q k G') → t τ G q
structure PwA (l : Nat) (t : TA3) where
 w : Rho → Nat → (List PyData → Nat → Prop) → Prop
 fv : List Nat
 k : Nat
 mono : ∀ {ρ n} {Q Q' : List PyData → Nat → Prop},w ρ n Q → (∀ d m,Q d m → Q' d m) → w ρ n Q'
 ok : ∀ {D τ ρ G a n} {q : List T → Gp → Prop} {Q : List PyData → Nat → Prop},Ln fv l D G τ ρ a n → w ρ n Q → (∀ x d G' n',Q d n' → d.length = k → Ext a G G' → Lf G' a n' → Dqs (rs D G') x d → q x G') → t τ G q
structure PwI (l : Nat) (t : TI3) where
 w : Rho → Nat → (List PyData → Nat → Prop) → Prop
 fv : List Nat
 nm : Bool
 mono : ∀ {ρ n} {Q Q' : List PyData → Nat → Prop},w ρ n Q → (∀ d m,Q d m → Q' d m) → w ρ n Q'
 ok : ∀ {D τ ρ G a n} {r : List T → (Gp → Prop) → Gp → Prop} {Q : List PyData → Nat → Prop},Ln fv l D G τ ρ a n → w ρ n Q →
  (∀ items stay ds G' n',Q ds n' → Ext a G G' → Lf G' a n' → Dqs (rs D G') items ds → (∀ G'',(nm = true ∨ Ex (rs D G') G'') → stay G'') → (nm = true → ∃ ns : List Int,ds = ns.map PyData.int) → r items stay G') → t τ G r
structure DrD (r : List T → Gp → Q3 → Prop) where
 W : List PyData → Nat → QD → Prop
 nw : Bool
 mono : ∀ {ds n} {Q Q' : QD},W ds n Q → (∀ d m,Q d m → Q' d m) → W ds n Q'
 ok : ∀ {D : Addr → Prop} {G : Gp} {a : Addr} {n : Nat} {ts : List T} {ds : List PyData} {q : Q3} {Q : QD},Lf G a n → D a → Dom D G → Dqs (rs D G) ts ds → W ds n Q → (∀ x d G' n',Q d n' → Ext a G G' → Lf G' a n' → Dq (rs D G') x d → (nw = true → Nw D G G' x d) → q x G') → r (.ref a :: ts) G q
section
variable {l : Nat}
noncomputable def eOf {t : TE3} (b : PuE t) : PwE l t := ⟨fun ρ n Q => ∃ d,b.f ρ = some d∧Q d n,b.fv,b.nw,fun ⟨d,h1,h2⟩ h => ⟨d,h1,h _ _ h2⟩,fun h ⟨d,h1,h2⟩ k =>
 b.ok h.v h.d h1 fun x G1 E1 D1 N1 => k x d G1 _ h2 (Bk.ex_ext E1) (h.lf.ex E1) D1 N1⟩
noncomputable def cOf {t : TT3} (b : PuC t) : PwC l t := ⟨fun ρ n Q => ∃ d,b.f ρ = some d∧Q d n,b.fv,fun ⟨d,h1,h2⟩ h => ⟨d,h1,h _ _ h2⟩,fun h ⟨d,h1,h2⟩ k =>
 b.ok h.v h.d h1 fun G1 E1 => k d G1 _ h2 (Bk.ex_ext E1) (h.lf.ex E1)⟩
noncomputable def aOf {t : TA3} (b : PuA t) : PwA l t := ⟨fun ρ n Q => ∃ d,b.f ρ = some d∧Q d n,b.fv,b.n,fun ⟨d,h1,h2⟩ h => ⟨d,h1,h _ _ h2⟩,fun h ⟨d,h1,h2⟩ k =>
 b.ok h.v h.d h1 fun x G1 E1 D1 => k x d G1 _ h2 (b.ln h1) (Bk.ex_ext E1) (h.lf.ex E1) D1⟩
noncomputable def iOf {t : TI3} (b : PuI t) : PwI l t := ⟨fun ρ n Q => ∃ d,b.f ρ = some d∧Q d n,b.fv,b.nm,fun ⟨d,h1,h2⟩ h => ⟨d,h1,h _ _ h2⟩,fun h ⟨d,h1,h2⟩ k =>
 b.ok h.v h.d h1 fun items stay G1 E1 D1 s nm => k items stay d G1 _ h2 (Bk.ex_ext E1) (h.lf.ex E1) D1 s nm⟩
noncomputable def eCons {ta : TE3} {tr : TA3} (a : PwE l ta) (r : PwA l tr) : PwA l (cons3 ta tr) :=
 ⟨fun ρ n Q => a.w ρ n fun x n1 => r.w ρ n1 fun xs n2 => Q (x :: xs) n2,a.fv ++ r.fv,r.k + 1,fun h k => a.mono h fun x n1 h => r.mono h fun xs n2 h => k _ _ h,fun h hw k =>
  a.ok h.fst hw fun x dx G1 n1 h1 E1 L1 D1 _ => r.ok (h.snd.up E1 L1) h1 fun y dy G2 n2 hq hl E2 L2 D2 => k _ _ G2 n2 hq (by simp [hl]) (E1.trans E2) L2 (.cons (D1.up (ext_rs E2 h.da)) D2)⟩
noncomputable def eLst {t : TA3} (b : PwA l t) (hn : Tru (Nat.ble b.k 1000)) : PwE l (lst3 t) := ⟨fun ρ n Q => b.w ρ n fun xs n1 => Q (.list xs) n1,b.fv,true,fun h k => b.mono h fun xs n1 h => k _ _ h,fun h hw k =>
 b.ok h hw fun x dx G1 n1 h1 hl E1 L1 D1 => ⟨by rw [D1.length,hl];exact few hn,fun p hp => k _ _ _ _ h1 (E1.trans (Bk.ex_ext (ex_new hp))) (L1.ex (ex_new hp)) (dq_new (ext_dom h.d E1 L1) hp D1) fun _ => (nw_new hp D1).backx E1 L1⟩⟩
noncomputable def eDr {r : List T → Gp → Q3 → Prop} {t : TA3} (R : DrD r) (b : PwA l t) : PwE l (cb3 r (cons3 (v3 l) t)) := ⟨fun ρ n Q => b.w ρ n fun xs n1 => R.W xs n1 Q,b.fv,R.nw,fun h k => b.mono h fun xs n1 h => R.mono h k,fun {D τ ρ G a n q Q} h hw k => by
 simp only [cb3,cons3,v3,h.tl]
 exact b.ok h hw fun x dx G1 n1 hW hl E1 L1 D1 => R.ok L1 h.da (ext_dom h.d E1 L1) D1 hW fun z d G3 n3 hq E3 L3 D3 N3 => k z d G3 n3 hq (E1.trans E3) L3 D3 fun z => (N3 z).backx E1 L1⟩
end
theorem VA.ext {D : Addr → Prop} {a : Addr} {G G' : Gp} {τ : St3} {ρ : Rho} (h : VA D G τ ρ) (e : Ext a G G') (da : D a) : VA D G' τ ρ := h.upx (ext_rs e da)
end Pu
namespace Pu
open PySem L2 L3
open Bk (Lf Ext)
structure RL (l : Nat) (a : Addr) (z0 : Option (Option T) × Nat) (D : Addr → Prop) (G0 : Gp) (A : Nat → Option Addr) (τ : St3) (ρ : Rho) (G : Gp) (n : Nat) : Prop where
 r : RS D G0 A τ ρ G
 al : A l = some a
 tl : τ[l]? = some (some (.ref a))
 ul : ρ[l]? = some Sl.un
 lf : Lf G a n
 tz : τ[0]? = z0.1∧τ.length = z0.2
section
variable {l : Nat} {a : Addr} {z0 : Option (Option T) × Nat} {D : Addr → Prop} {G0 G G' : Gp} {A : Nat → Option Addr} {τ : St3} {ρ : Rho} {n n' : Nat}
theorem RL.vl (h : RL l a z0 D G0 A τ ρ G n) : vw ρ l = none := by unfold vw;rw [h.ul];rfl
theorem RL.up (h : RL l a z0 D G0 A τ ρ G n) (e : Ext a G G') (lf : Lf G' a n') : RL l a z0 D G0 A τ ρ G' n' := by
 have X : Ex (rs (AD D A) G) (rs (AD D A) G') := ext_rs e (.inr ⟨l,h.al⟩)
 refine ⟨⟨fun b o x => e b o (by rintro rfl;rw [h.r.fr l _ h.al] at x;cases x) (h.r.ex b o x),h.r.dm,h.r.fr,fun i p hp z => ?_,h.r.inj,h.r.len,fun i d x => let ⟨t,y,z⟩ := h.r.sh i d x;⟨t,y,z.up X⟩,fun i ds x => ?_⟩,h.al,h.tl,h.ul,lf,h.tz⟩
 ·by_cases c : p = a
  ·subst c;exact lf_some lf z
  ·cases g : G p with
   | none => exact h.r.da i p hp g
   | some o => rw [e p o c g] at z;cases z
 ·obtain ⟨p,xs,y1,y2,y3,y4⟩ := h.r.ow i ds x
  refine ⟨p,xs,y1,y2,e p _ ?_ y3,y4.up X⟩
  rintro rfl
  have := h.r.inj i l _ y1 h.al
  subst this
  rw [h.ul] at x;cases x
theorem RL.all (h : RL l a z0 D G0 A τ ρ G n) (fv : List Nat) : Ln fv l (fun b => D b ∨ b = a) G τ ρ a n := by
 refine ⟨fun i _ d hd => ?_,fun b hb => ?_,.inr rfl,h.tl,h.vl,h.lf⟩
 ·unfold vw at hd
  obtain ⟨s,e,hd⟩ := Option.bind_eq_some_iff.mp hd
  have less : Ex (rs (AD D A) G) (rs (fun b => D b ∨ b = a) G) := rs_less fun b z => by
   rcases z with z | z
   ·exact .inl z
   ·subst z;exact .inr ⟨l,h.al⟩
  cases s with
  | un => cases hd
  | sh d' =>
   cases hd
   obtain ⟨t,b,c⟩ := h.r.sh i _ e
   exact ⟨t,b,c.up less⟩
  | ow ds =>
   cases hd
   obtain ⟨p,xs,b,c,g,f⟩ := h.r.ow i _ e
   refine ⟨_,c,.lst ?_ (f.up less)⟩
   rw [rs_of]
   ·exact g
   ·rintro (z | z)
    ·exact h.r.nd b z
    ·subst z
     have := h.r.inj i l _ b h.al
     subst this
     rw [h.ul] at e;cases e
 ·rcases hb with hb | hb
  ·exact h.r.domD b hb
  ·subst hb;exact lf_some h.lf
theorem Ad_l {m : List Bool} (hm : mkb m l = false) (al : A l = some a) : Ad m A l = some a := by unfold Ad;rw [if_neg (by rw [hm];simp)];exact al
theorem RL.dem (h : RL l a z0 D G0 A τ ρ G n) {m : List Bool} (hm : mkb m l = false) : RL l a z0 D G0 (Ad m A) τ (Pu.dm m ρ) G n :=
 ⟨h.r.dem m,Ad_l hm h.al,h.tl,by rw [dm_at,h.ul];simp [hm],h.lf,h.tz⟩
theorem RL.ln (h : RL l a z0 D G0 A τ ρ G n) {m : List Bool} {fv : List Nat} (hm : mkb m l = false) (hf : Tru (fv.all (mkb m))) : Ln fv l (AD D (Ad m A)) G τ ρ a n :=
 ⟨h.r.viewD hf,(h.r.dem m).dom,.inr ⟨l,Ad_l hm h.al⟩,h.tl,h.vl,h.lf⟩
theorem RL.put (h : RL l a z0 D G0 A τ ρ G n) {i : Nat} (hi : i ≠ l) (h0 : i ≠ 0) {x : T} {d : PyData} (hx : Dq (rs (AD D A) G) x d) : RL l a z0 D G0 (Er A i) (τ.set i (some x)) (ρ.set i (.sh d)) G n :=
 ⟨h.r.put i hx,by unfold Er;rw [if_neg (fun z => hi z.symm)];exact h.al,by rw [List.getElem?_set,if_neg hi];exact h.tl,by rw [List.getElem?_set,if_neg hi];exact h.ul,h.lf,⟨by rw [List.getElem?_set,if_neg h0];exact h.tz.1,by rw [List.length_set];exact h.tz.2⟩⟩
theorem RL.puts : ∀ {ts : List (Nat × T)} {bs : List (Nat × PyData)} {A : Nat → Option Addr} {τ : St3} {ρ : Rho},RL l a z0 D G0 A τ ρ G n → Bd (rs (AD D A) G) ts bs → (∀ p ∈ bs,p.1 ≠ l∧p.1 ≠ 0) → ∃ A',RL l a z0 D G0 A' (sets τ ts) (setS ρ bs) G n
 | _,_,A,_,_,h,.nil,_ => ⟨A,h⟩
 | _,_,A,_,_,h,.cons x b,hn => by
  unfold sets setS
  exact RL.puts (h.put (hn _ List.mem_cons_self).1 (hn _ List.mem_cons_self).2 x) (b.up er_ex) (fun p hp => hn p (List.mem_cons_of_mem _ hp))
theorem RL.putN (h : RL l a z0 D G0 A τ ρ G n) {i : Nat} (hi : i ≠ l) (h0 : i ≠ 0) {x : T} {d : PyData} {ds : List PyData} (hd : d = .list ds) (E : Ext a G G') (lf : Lf G' a n') (hx : Nw (AD D A) G G' x d) : ∃ A',RL l a z0 D G0 A' (τ.set i (some x)) (ρ.set i (.ow ds)) G' n' := by
 have h1 := h.up E lf
 rcases hx with hx | ⟨p,xs,ds',rfl,e',gp,gp',hs⟩
 ·rw [hd] at hx;cases hx
 rw [hd] at e'
 cases e'
 have np : ∀ {j q},A j = some q → q ≠ p := fun e => by rintro rfl;exact h.r.da _ _ e gp
 have X1 : Ex (rs (AD D A) G) (rs (AD D (fun j => if j = i then some p else A j)) G') := fun b o e => by
  obtain ⟨n,e⟩ := rs_some e
  rw [rs_of]
  ·exact E b o (by rintro rfl;exact n (.inr ⟨l,h.al⟩)) e
  ·rintro (z | ⟨j,z⟩)
   ·exact n (.inl z)
   ·simp only at z
    split at z
    ·cases z;rw [gp] at e;cases e
    ·exact n (.inr ⟨j,z⟩)
 refine ⟨fun j => if j = i then some p else A j,⟨h1.r.ex,h.r.dm,fun j q e => ?_,fun j q e => ?_,fun j k q x y => ?_,by simp [h.r.len],fun j e he => ?_,fun j es e => ?_⟩,by rw [if_neg (fun z => hi z.symm)];exact h.al,by rw [List.getElem?_set,if_neg hi];exact h.tl,by rw [List.getElem?_set,if_neg hi];exact h.ul,lf,⟨by rw [List.getElem?_set,if_neg h0];exact h.tz.1,by rw [List.length_set];exact h.tz.2⟩⟩
 ·split at e
  ·cases e
   cases z : G0 p with
   | none => rfl
   | some o => rw [h.r.ex _ _ z] at gp;cases gp
  ·exact h.r.fr j q e
 ·split at e
  ·cases e;rw [gp'];simp
  ·exact h1.r.da j q e
 ·split at x
  ·cases x
   split at y
   ·rename_i h1 h2;rw [h1,h2]
   ·exact absurd rfl (np y)
  ·split at y
   ·cases y;exact absurd rfl (np x)
   ·exact h.r.inj j k q x y
 ·rw [List.getElem?_set] at he ⊢
  split at he
  ·split at he <;> cases he
  ·rename_i hj
   rw [if_neg hj]
   obtain ⟨t,b,c⟩ := h.r.sh j _ he
   exact ⟨t,b,c.up X1⟩
 ·rw [List.getElem?_set] at e ⊢
  split at e
  ·rename_i hj
   subst hj
   split at e
   ·rename_i hl
    cases e
    refine ⟨p,xs,by simp,by rw [if_pos rfl,if_pos (by rw [← h.r.len];exact hl)],gp',hs.up (rs_less fun b z => ?_)⟩
    rcases z with z | ⟨j,z⟩
    ·exact .inl (.inl z)
    ·simp only at z
     split at z
     ·cases z;exact .inr rfl
     ·exact .inl (.inr ⟨j,z⟩)
   ·cases e
  ·rename_i hj
   rw [if_neg hj]
   obtain ⟨q,ys,b,c,g,f⟩ := h1.r.ow j _ e
   obtain ⟨q',ys',b',c',g',f'⟩ := h.r.ow j _ e
   rw [b] at b';cases b'
   have : G' q = some (.lst ys') := E q _ (by rintro rfl;have := h.r.inj j l _ b h.al;subst this;rw [h.ul] at e;cases e) g'
   exact ⟨q,ys',by rw [if_neg (fun z => hj z.symm)];exact b,c,this,f'.up X1⟩
theorem RL.wr (h : RL l a z0 D G0 A τ ρ G n) {i : Nat} {p : Addr} {xs : List T} {ds ds0 : List PyData} (ho : ρ[i]? = some (Sl.ow ds0)) (hi : A i = some p) (ht : τ[i]? = some (some (.ref p))) (hs : Dqs (rs (AD D A) G) xs ds) : RL l a z0 D G0 A τ (ρ.set i (.ow ds)) (gu G p (.lst xs)) n := by
 have il : i ≠ l := by rintro rfl;rw [h.ul] at ho;cases ho
 have pa : p ≠ a := by rintro rfl;exact il (h.r.inj i l _ hi h.al)
 exact ⟨h.r.wr hi ht hs,h.al,h.tl,by rw [List.getElem?_set,if_neg il];exact h.ul,h.lf.new pa,h.tz⟩
end
noncomputable abbrev QO := Ot → Nat → Prop
noncomputable def PostW (l : Nat) (a : Addr) (z0 : Option (Option T) × Nat) (D : Addr → Prop) (G0 : Gp) (e : Ends3) : Ot → Nat → Prop
 | .nx ρ,n => ∀ A τ G,RL l a z0 D G0 A τ ρ G n → e.nx τ G
 | .bk ρ,n => ∀ A τ G,RL l a z0 D G0 A τ ρ G n → e.bk τ G
 | .ct ρ,n => ∀ A τ G,RL l a z0 D G0 A τ ρ G n → e.ct τ G
 | .rt d fr,n => ∀ x G,Ex G0 G → Lf G a n → Dq (rs (fun b => D b ∨ b = a) G) x d → (fr = true → Nw (fun b => D b ∨ b = a) G0 G x d) → e.rt x G
structure PwS (l : Nat) (t : TS3) where
 w : Rho → Nat → QO → Prop
 mono : ∀ {ρ n} {Q Q' : QO},w ρ n Q → (∀ o m,Q o m → Q' o m) → w ρ n Q'
 ok : ∀ {a z0 D G0 A τ ρ G n} {e : Ends3} {Q : QO},RL l a z0 D G0 A τ ρ G n → w ρ n Q → (∀ o m,Q o m → PostW l a z0 D G0 e o m) → t e τ G
section
variable {l : Nat}
noncomputable def wNext : PwS l next3 := ⟨fun ρ n Q => Q (.nx ρ) n,fun h k => k _ _ h,fun h hw k => k _ _ hw _ _ _ h⟩
noncomputable def sqw (b : Rho → Nat → QO → Prop) (Q : QO) : QO := fun o n => match o with | .nx ρ' => b ρ' n Q | o => Q o n
noncomputable def wSeq {t u : TS3} (x : PwS l t) (y : PwS l u) : PwS l (seq3 t u) := ⟨fun ρ n Q => x.w ρ n (sqw y.w Q),fun h k => x.mono h fun o m h => by
  cases o with
  | nx ρ => exact y.mono h k
  | bk ρ => exact k _ _ h
  | ct ρ => exact k _ _ h
  | rt d f => exact k _ _ h,fun h hw k => x.ok h hw fun o m h => by
  cases o with
  | nx ρ => exact fun A τ G r => y.ok r h k
  | bk ρ => exact k _ _ h
  | ct ρ => exact k _ _ h
  | rt d f => exact k _ _ h⟩
noncomputable def wIf {c : TT3} {t u : TS3} (pc : PwC l c) (x : PwS l t) (y : PwS l u) : PwS l (ifS3 c t u) := ⟨fun ρ n Q => pc.w ρ n fun k n1 => if k then x.w ρ n1 Q else y.w ρ n1 Q,fun h k => pc.mono h fun j m h => by
  cases j with
  | true => rw [if_pos rfl] at h ⊢;exact x.mono h k
  | false => exact y.mono h k,fun h hw k => pc.ok (h.all _) hw fun j G1 n1 hj E1 L1 => by
  cases j with
  | true => rw [if_pos rfl] at hj ⊢;exact x.ok (h.up E1 L1) hj k
  | false => exact y.ok (h.up E1 L1) hj k⟩
theorem ext_ex0 {a : Addr} {z0 : Option (Option T) × Nat} {D : Addr → Prop} {G0 G G' : Gp} {A : Nat → Option Addr} {τ : St3} {ρ : Rho} {n : Nat} (h : RL l a z0 D G0 A τ ρ G n) (e : Ext a G G') : Ex G0 G' := fun b o x => e b o (by rintro rfl;rw [h.r.fr l _ h.al] at x;cases x) (h.r.ex b o x)
noncomputable def wRet {t : TE3} (x : PwE l t) : PwS l (ret3 t) := ⟨fun ρ n Q => x.w ρ n fun d n1 => Q (.rt d x.nw) n1,fun h k => x.mono h fun d m h => k _ _ h,fun h hw k => x.ok (h.all _) hw fun y d G1 n1 hq E1 L1 D1 N1 => k _ _ hq y G1 (ext_ex0 h E1) L1 D1 fun z => (N1 z).back h.r.ex⟩
noncomputable def wAsg {t : TE3} (x : PwE l t) (i : Nat) (m : List Bool) (hm : Tru (x.fv.all (mkb m))) (hl : Tru (!mkb m l && (i != l && i != 0))) : PwS l (asg3 t (gn3 i)) := ⟨fun ρ n Q => x.w ρ n fun d n1 => Q (.nx (asgF m x.nw i d ρ)) n1,fun h k => x.mono h fun d m h => k _ _ h,fun {a z0 D G0 A τ ρ G n e Q} h hw k => by
 have hl' : mkb m l = false∧i ≠ l∧i ≠ 0 := by simpa using hl.h
 refine x.ok (h.ln hl'.1 hm) hw fun y d G1 n1 hq E1 L1 D1 N1 => ?_
 have k := k _ _ hq
 unfold asgF at k
 show e.nx (τ.set i (some y)) G1
 split at k
 ·rename_i hs
  exact k _ _ _ ((h.up E1 L1).put hl'.2.1 hl'.2.2 (sc_any D1 hs))
 ·split at k
  ·rename_i hn
   have N := N1 hn
   rcases id N with h2 | ⟨p,xs,ds,h1,h2,_⟩
   ·subst h2;rename_i hs;exact absurd rfl hs
   subst h2
   obtain ⟨A',r⟩ := (h.dem hl'.1).putN hl'.2.1 hl'.2.2 rfl E1 L1 N
   exact k _ _ _ r
  ·exact k _ _ _ (((h.dem hl'.1).up E1 L1).put hl'.2.1 hl'.2.2 D1)⟩
theorem RL.evalS {a : Addr} {z0 : Option (Option T) × Nat} {D : Addr → Prop} {G0 G : Gp} {A : Nat → Option Addr} {τ : St3} {ρ : Rho} {n : Nat} (h : RL l a z0 D G0 A τ ρ G n) {t : TE3} (x : PwE l t) (m : List Bool) (hm : Tru (x.fv.all (mkb m))) (hl : mkb m l = false) {Q : QD} (hw : x.w ρ n Q) (q : Q3) (k : ∀ y d G' n' A1,Q d n' → RL l a z0 D G0 A1 τ (dmS m d ρ) G' n' → Ext a G G' → Dq (rs (AD D A1) G') y d → q y G') : t τ G q := by
 refine x.ok (h.ln hl hm) hw fun y d G1 n1 hq E1 L1 D1 _ => ?_
 by_cases hs : isSc d = true
 ·exact k y d G1 n1 A hq (by unfold dmS;rw [if_pos hs];exact h.up E1 L1) E1 (sc_any D1 hs)
 ·exact k y d G1 n1 _ hq (by unfold dmS;rw [if_neg hs];exact (h.dem hl).up E1 L1) E1 D1
noncomputable def wApp {t : TE3} (x : PwE l t) (i : Nat) (m : List Bool) (hm : Tru (x.fv.all (mkb m))) (hl : Tru (!mkb m l)) : PwS l (drop3 (bm3 app3 (v3 i) (cons3 t nil3))) := ⟨fun ρ n Q => ∃ ds,slot ρ i = some ds∧x.w ρ n fun d n1 => slot (dmS m d ρ) i = some ds∧ds.length < 16777216∧Q (.nx ((dmS m d ρ).set i (.ow (ds ++ [d])))) n1,fun ⟨v,h0,h⟩ k => ⟨v,h0,x.mono h fun d m ⟨y,h1,h2⟩ => ⟨y,h1,k _ _ h2⟩⟩,fun {a z0 D G0 A τ ρ G n e Q} h ⟨ds,h0,hw⟩ k => by
 have hl' : mkb m l = false := by simpa using hl.h
 obtain ⟨p,xs,b,c,g,f⟩ := h.r.ow i _ (slot_eq h0)
 simp only [drop3,bm3,v3,c,getL_of g]
 refine ⟨rfl,h.evalS x m hm hl' hw _ fun y d G1 n1 A1 ⟨h1,h2,hq⟩ r E1 D1 => ?_⟩
 obtain ⟨p',xs',b',c',g',f'⟩ := r.r.ow i _ (slot_eq h1)
 rw [c] at c'
 cases c'
 simp only [nil3,app3,g']
 exact ⟨by rw [f'.length,sizeLine_eq];exact h2,k _ _ hq _ _ _ (r.wr (slot_eq h1) b' c (f'.append (.cons D1 .nil)))⟩⟩
noncomputable def forW (gf : PyData → Option (List (Nat × PyData))) (bw : Rho → Nat → QO → Prop) : List PyData → Rho → Nat → QO → Prop
 | [],ρ,n,Q => Q (.nx ρ) n
 | d :: r,ρ,n,Q => ∃ bs,gf d = some bs∧bw (setS ρ bs) n fun o n1 => match o with
  | .nx ρ' => forW gf bw r ρ' n1 Q
  | .ct ρ' => forW gf bw r ρ' n1 Q
  | .bk ρ' => Q (.nx ρ') n1
  | .rt d b => Q (.rt d b) n1
theorem forW_mono {g : TG3} {tb : TS3} (pg : PuG g) (pb : PwS l tb) : ∀ {ds : List PyData} {ρ : Rho} {n : Nat} {Q Q' : QO},forW pg.f pb.w ds ρ n Q → (∀ o m,Q o m → Q' o m) → forW pg.f pb.w ds ρ n Q'
 | [],_,_,_,_,h,k => k _ _ h
 | d :: r,_,_,_,_,⟨bs,e,h⟩,k => ⟨bs,e,pb.mono h fun o m h => by
   cases o with
   | nx ρ => exact forW_mono pg pb h k
   | ct ρ => exact forW_mono pg pb h k
   | bk ρ => exact k _ _ h
   | rt d b => exact k _ _ h⟩
theorem forw_go {stay : Gp → Prop} {g : TG3} {tb : TS3} {e : Ends3} (pg : PuG g) (pb : PwS l tb) {a : Addr} {z0 : Option (Option T) × Nat} {D : Addr → Prop} {G0 : Gp} {Q : QO} (hl : ∀ i ∈ pg.tg,i ≠ l∧i ≠ 0) (hs : ∀ A τ ρ G n,RL l a z0 D G0 A τ ρ G n → stay G) (k : ∀ o m,Q o m → PostW l a z0 D G0 e o m) :
  ∀ (ds : List PyData) (items : List T),(∀ A τ ρ G n,RL l a z0 D G0 A τ ρ G n → Dqs (rs (AD D A) G) items ds) → ∀ A τ ρ G n,RL l a z0 D G0 A τ ρ G n → forW pg.f pb.w ds ρ n Q → forGo stay g tb e items τ G
 | [],items,hi,A,τ,ρ,G,n,h,hw => by
  have := hi _ _ _ _ _ h
  cases this
  exact ⟨hs _ _ _ _ _ h,k _ _ hw _ _ _ h⟩
 | d :: ds,items,hi,A,τ,ρ,G,n,h,⟨bs,e1,hw⟩ => by
  have hh := hi _ _ _ _ _ h
  cases hh with
  | cons hx hr =>
   rename_i x items
   obtain ⟨ts,bd,kg⟩ := pg.ok hx e1
   refine ⟨hs _ _ _ _ _ h,kg _ _ _ ?_⟩
   obtain ⟨A',h'⟩ := h.puts bd fun p hp => hl _ (pg.at' e1 p hp)
   have hi' : ∀ A τ ρ G n,RL l a z0 D G0 A τ ρ G n → Dqs (rs (AD D A) G) items ds := fun A τ ρ G n h => by
    have := hi _ _ _ _ _ h
    cases this with
    | cons a b => exact b
   refine pb.ok h' hw fun o m hq => ?_
   cases o with
   | nx ρ' => exact fun A2 τ2 G2 h2 => forw_go pg pb hl hs k ds items hi' _ _ _ _ _ h2 hq
   | ct ρ' => exact fun A2 τ2 G2 h2 => forw_go pg pb hl hs k ds items hi' _ _ _ _ _ h2 hq
   | bk ρ' => exact k _ _ hq
   | rt d fr => exact k _ _ hq
theorem RL.base {a : Addr} {z0 : Option (Option T) × Nat} {D : Addr → Prop} {G0 Gb G : Gp} {A : Nat → Option Addr} {τ : St3} {ρ : Rho} {n : Nat} (h : RL l a z0 D Gb A τ ρ G n) (e : Ex G0 Gb) (hd : Dom D G0) : RL l a z0 D G0 A τ ρ G n := ⟨h.r.base e hd,h.al,h.tl,h.ul,h.lf,h.tz⟩
theorem PostW.base {a : Addr} {z0 : Option (Option T) × Nat} {D : Addr → Prop} {G0 Gb : Gp} {e : Ends3} {o : Ot} {n : Nat} (h : PostW l a z0 D G0 e o n) (x : Ex G0 Gb) (hd : Dom D G0) : PostW l a z0 D Gb e o n := by
 cases o with
 | nx ρ => exact fun A τ G r => h A τ G (r.base x hd)
 | bk ρ => exact fun A τ G r => h A τ G (r.base x hd)
 | ct ρ => exact fun A τ G r => h A τ G (r.base x hd)
 | rt d fr => exact fun y G p q r z => h y G (x.trans p) q r fun w => (z w).back x
noncomputable def wFor {wi : TI3} {g : TG3} {tb : TS3} (pi : PwI l wi) (pg : PuG g) (pb : PwS l tb) (m : List Bool) (hm : Tru (pi.fv.all (mkb m))) (hl : Tru (!mkb m l && pg.tg.all (fun i => i != l && i != 0))) : PwS l (for3 wi g tb) := ⟨fun ρ n Q => pi.w ρ n fun ds n1 => forW pg.f pb.w ds (if pi.nm then ρ else dm m ρ) n1 Q,fun h k => pi.mono h fun d m h => forW_mono pg pb h k,fun {a z0 D G0 A τ ρ G n e Q} h hw k => by
 have hl' : mkb m l = false∧∀ i ∈ pg.tg,i ≠ l∧i ≠ 0 := by simpa using hl.h
 refine pi.ok (h.ln hl'.1 hm) hw fun items stay ds G1 n1 hq E1 L1 D1 hs hnm => ?_
 cases hb : pi.nm with
 | true =>
  rw [hb,if_pos rfl] at hq
  obtain ⟨ns,rfl⟩ := hnm hb
  have := D1.ints
  subst this
  exact forw_go pg pb hl'.2 (fun _ _ _ _ _ _ => hs _ (.inl hb)) k _ _ (fun A τ ρ G _ _ => Dqs.ofInts _) _ _ _ _ _ (h.up E1 L1) hq
 | false =>
  rw [hb,if_neg Bool.false_ne_true] at hq
  have h1 := (h.dem hl'.1).up E1 L1
  have b1 : Ex G0 (rs (fun b => ∃ i,Ad m A i = some b) G1) := fun b o e => by
   rw [rs_of]
   ·exact h1.r.ex _ _ e
   ·rintro ⟨i,z⟩;rw [h1.r.fr i _ z] at e;cases e
  have h2 : RL l a z0 D (rs (fun b => ∃ i,Ad m A i = some b) G1) (Ad m A) τ (dm m ρ) G1 n1 := ⟨⟨rs_ex,h.r.dm.up b1,fun i p z => by unfold rs;exact cif_pos ⟨i,z⟩,h1.r.da,h1.r.inj,h1.r.len,h1.r.sh,h1.r.ow⟩,h1.al,h1.tl,h1.ul,h1.lf,h1.tz⟩
  have X : ∀ A2 τ2 ρ2 G2,RS D (rs (fun b => ∃ i,Ad m A i = some b) G1) A2 τ2 ρ2 G2 → Ex (rs (AD D (Ad m A)) G1) (rs (AD D A2) G2) := fun A2 τ2 ρ2 G2 r b o e => by
   obtain ⟨n1,e⟩ := rs_some e
   have eb : rs (fun b => ∃ i,Ad m A i = some b) G1 b = some o := by rw [rs_of (fun z => n1 (.inr z))];exact e
   rw [rs_of]
   ·exact r.ex _ _ eb
   ·rintro (z | ⟨i,z⟩)
    ·exact n1 (.inl z)
    ·rw [r.fr i _ z] at eb;cases eb
  exact forw_go pg pb hl'.2 (fun A2 τ2 ρ2 G2 n2 r => hs _ (.inr ((X _ _ _ _ r.r).trans rs_ex))) (fun o m hq => (k o m hq).base b1 h.r.dm) _ _ (fun A2 τ2 ρ2 G2 n2 r => D1.up (X _ _ _ _ r.r)) _ _ _ _ _ h2 hq⟩
end
end Pu
namespace Pu
open PySem L2 L3
open Bk (Lf Ext Dl Wk Dr)
noncomputable def okW : QO := fun o _ => match o with | .nx _ => True | .ct _ => True | _ => False
noncomputable def rngK (K : Int) : TE3 := o3 cat3 (c3 (.int 1)) (cb3 min3 (cons3 (c3 (.int K)) (cons3 (cb3 len3 (cons3 (v3 0) nil3)) nil3)))
theorem v3_at {i : Nat} {τ : St3} {t : T} {G : Gp} {q : Q3} (h : τ[i]? = some (some t)) : v3 i τ G q = q t G := by unfold v3;rw [h]
noncomputable def lawT (K : Int) (R : TS3) : TS3 := seq3 (for3 (irng3 (cons3 (rngK K) nil3)) (gn3 1) (seq3 (asg3 (cb3 Bk.sp_law_left (cons3 (v3 0) (cons3 (v3 1) nil3))) (gn3 2)) R)) (ret3 (c3 (.bl true)))
theorem law_read {R : TS3} (b : PwS 2 R) (N : List Str) (K : Int) (M : Nat) (hK : 0 ≤ K∧K ≤ 60) (hN : N.length = M + 3) (h : ∀ k : Nat,k ≤ 60 → b.w ([.un,.sh (.int k),.un] ++ List.replicate M .un) 0 okW) : ∀ ts G q,sp_top ts G q → ts.length = 1∧lawT K R { nx := fun _ G' => q .non G',rt := q } (start3 N ts) G := by
 rintro ts G q ⟨a,ns,rfl,hG,hl,hq⟩
 refine ⟨rfl,?_⟩
 have s0 : (start3 N [T.ref a])[0]? = some (some (.ref a)) := by simp [start3]
 have gl : getL G a = some (ns.map T.int) := by unfold getL;rw [hG]
 simp only [lawT,seq3,for3,irng3,rngK,cons3,nil3,o3,c3,cb3,v3,s0,len3,gl,min3,cat3,List.length_map]
 have cnt : ((1 + (if ((ns.length : Nat) : Int) < K then ((ns.length : Nat) : Int) else K)).toNat) ≤ 61 := by split <;> omega
 refine ⟨⟨by split <;> omega,by split <;> omega⟩,?_⟩
 refine forGo_inv _ (fun _ τ G' => G' a = some (.frz (ns.map T.int))∧τ[0]? = some (some (.ref a))∧τ.length = M + 3) ⟨hG,s0,by simp [start3,hN]⟩ (fun _ _ _ _ _ => True.intro) ?_ ?_
 ·rintro i z τ G' nx hz ⟨gA,t0,tl⟩ hn
  obtain ⟨hi,rfl⟩ := rng_get hz
  have hi2 : i ≤ 60 := by omega
  have t1 : (τ.set 1 (some (T.int (0 + (i : Int)))))[0]? = some (some (.ref a)) := by rw [List.getElem?_set,if_neg (by omega)];exact t0
  have t2 : (τ.set 1 (some (T.int (0 + (i : Int)))))[1]? = some (some (T.int (0 + (i : Int)))) := by rw [List.getElem?_set,if_pos rfl,if_pos (by omega)]
  show v3 0 (τ.set 1 (some (T.int (0 + (i : Int))))) G' (fun x G1 => v3 1 (τ.set 1 (some (T.int (0 + (i : Int))))) G1 fun y G2 => Bk.sp_law_left [x,y] G2 fun z G3 => R _ ((τ.set 1 (some (T.int (0 + (i : Int))))).set 2 (some z)) G3)
  rw [v3_at t1,v3_at t2]
  refine ⟨a,_,ns,rfl,gA,hl,by omega,by omega,fun p o c hp ho => ?_⟩
  have pa : a ≠ p := by rintro rfl;rw [gA] at hp;cases hp
  have r : RL 2 p (some (some (.ref a)),M + 3) (fun _ => False) G' (fun j => if j = 2 then some p else none) ((τ.set 1 (some (T.int (0 + (i : Int))))).set 2 (some (.ref p))) ([.un,.sh (.int i),.un] ++ List.replicate M .un) (gu G' p (.lst [.int o,.int c,.int 0])) 0 := by
   refine ⟨⟨ex_new hp,fun b z => z.elim,fun j q e => ?_,fun j q e => ?_,fun j k q e e' => ?_,by simp [tl],fun j d e => ?_,fun j ds e => ?_⟩,rfl,by rw [List.getElem?_set,if_pos rfl,if_pos (by simp;omega)],rfl,⟨o,c,0,gu_same,ho,by omega,by omega⟩,⟨by rw [List.getElem?_set,if_neg (by omega)];exact t1,by simp [tl]⟩⟩
   ·split at e
    ·cases e;exact hp
    ·cases e
   ·split at e
    ·cases e;rw [gu_same];simp
    ·cases e
   ·split at e
    ·split at e'
     ·rename_i h1 h2;rw [h1,h2]
     ·cases e'
    ·cases e
   ·match j,e with
    | 0,e => cases e
    | 1,e =>
     cases e
     refine ⟨.int (0 + (i : Int)),by rw [List.getElem?_set,if_neg (by omega)];exact t2,?_⟩
     rw [Int.zero_add];exact .int _
    | 2,e => cases e
    | j + 3,e =>
     simp only [List.cons_append,List.nil_append,List.getElem?_cons_succ,List.getElem?_replicate] at e
     split at e <;> cases e
   ·match j,e with
    | 0,e => cases e
    | 1,e => cases e
    | 2,e => cases e
    | j + 3,e =>
     simp only [List.cons_append,List.nil_append,List.getElem?_cons_succ,List.getElem?_replicate] at e
     split at e <;> cases e
  refine b.ok r (h i hi2) fun o' m ho' => ?_
  cases o' with
  | nx ρ' => exact fun A τ' G2 r2 => hn _ _ ⟨r2.r.ex _ _ gA,r2.tz.1,r2.tz.2⟩
  | ct ρ' => exact fun A τ' G2 r2 => hn _ _ ⟨r2.r.ex _ _ gA,r2.tz.1,r2.tz.2⟩
  | bk ρ' => exact ho'.elim
  | rt d f => exact ho'.elim
 ·rintro τ G' ⟨gA,t0,tl⟩
  exact hq G'
theorem dqs_nil {G : Gp} {ts : List T} (h : Dqs G ts []) : ts = [] := by cases h;rfl
theorem lfc {G : Gp} {a : Addr} {n c : Nat} (h : Lf G a ((n : Int) + (c : Int))) : Lf G a ((n + c : Nat) : Int) := by rw [Int.natCast_add];exact h
noncomputable def dWalk : DrD Bk.sp_law_walk := ⟨fun ds n Q => ds = []∧n < 1000000∧∀ w : Wk,w.Ok → Q (Pv.Wk.d w) (n + 60),false,
 fun ⟨h1,h3,h4⟩ k => ⟨h1,h3,fun w x => k _ _ (h4 w x)⟩,fun {D G a n ts ds q Q} lf da hd hs ⟨h1,h3,h4⟩ k => by
 subst h1
 have := dqs_nil hs;subst this
 exact ⟨a,n,rfl,lf,by omega,fun w G' x L E => k _ _ G' (n + 60) (h4 w x) E (lfc (c := 60) L) (Pv.wk_dq _ w) (fun z => by cases z)⟩⟩
noncomputable def dDealing : DrD Bk.sp_law_dealing := ⟨fun ds n Q => ds = []∧n < 100000∧∀ d : Dl,Dr d 16 16 32 → d.dep ≤ 2 → Q (Pv.dlD d) (n + 1000),false,
 fun ⟨h1,h3,h4⟩ k => ⟨h1,h3,fun d x y => k _ _ (h4 d x y)⟩,fun {D G a n ts ds q Q} lf da hd hs ⟨h1,h3,h4⟩ k => by
 subst h1
 have := dqs_nil hs;subst this
 exact ⟨a,n,rfl,lf,by omega,fun d G' a1 a2 L E => k _ _ G' (n + 1000) (h4 d a1 a2) E (lfc (c := 1000) L) (Pv.dl_dq _ _) (fun z => by cases z)⟩⟩
noncomputable def fSame (n : Nat) : FnD (Bk.sp_law_same (n + 1)) := ⟨fun ds => match ds with | [d,e] => cif (d = e∧Bk.DepLe n d) (some (.bool true)) none | _ => none,false,fun {D G xs ds v q} hx hd hf k => by
 split at hf
 ·unfold cif at hf
  split at hf
  ·rename_i c
   cases hf
   obtain ⟨rfl,c⟩ := c
   cases hx with
   | cons x b => cases b with
    | cons y b =>
     cases b
     exact ⟨_,_,_,rfl,(x.up rs_ex).dp,(y.up rs_ex).dp,c,fun G' E => k _ _ E (.bl true) (fun z => by cases z)⟩
  ·cases hf
 ·cases hf⟩
theorem same_ok {n : Nat} {d : PyData} (h : Bk.DepLe n d) : (fSame n).f [d,d] = some (.bool true) := cif_pos ⟨rfl,h⟩
end Pu
namespace Pu
open PySem L2 L3
open Bk (Lf Ext Dl Wk Dr)
theorem eOf_w {l : Nat} {t : TE3} {b : PuE t} : (eOf (l := l) b).w = fun ρ n Q => ∃ d,b.f ρ = some d∧Q d n := id rfl
theorem cOf_w {l : Nat} {t : TT3} {b : PuC t} : (cOf (l := l) b).w = fun ρ n Q => ∃ d,b.f ρ = some d∧Q d n := id rfl
theorem aOf_w {l : Nat} {t : TA3} {b : PuA t} : (aOf (l := l) b).w = fun ρ n Q => ∃ d,b.f ρ = some d∧Q d n := id rfl
theorem iOf_w {l : Nat} {t : TI3} {b : PuI t} : (iOf (l := l) b).w = fun ρ n Q => ∃ d,b.f ρ = some d∧Q d n := id rfl
theorem eCons_w {l : Nat} {ta : TE3} {tr : TA3} {a : PwE l ta} {r : PwA l tr} : (eCons a r).w = fun ρ n Q => a.w ρ n fun x n1 => r.w ρ n1 fun xs n2 => Q (x :: xs) n2 := id rfl
theorem eLst_w {l : Nat} {t : TA3} {b : PwA l t} {hn : Tru (Nat.ble b.k 1000)} : (eLst b hn).w = fun ρ n Q => b.w ρ n fun xs n1 => Q (.list xs) n1 := id rfl
theorem eDr_w {l : Nat} {r : List T → Gp → Q3 → Prop} {t : TA3} {R : DrD r} {b : PwA l t} : (eDr R b).w = fun ρ n Q => b.w ρ n fun xs n1 => R.W xs n1 Q := id rfl
theorem iOf_nm {l : Nat} {t : TI3} {b : PuI t} : (iOf (l := l) b).nm = b.nm := id rfl
theorem eOf_nw {l : Nat} {t : TE3} {b : PuE t} : (eOf (l := l) b).nw = b.nw := id rfl
theorem eLst_nw {l : Nat} {t : TA3} {b : PwA l t} {hn : Tru (Nat.ble b.k 1000)} : (eLst b hn).nw = true := id rfl
theorem eDr_nw {l : Nat} {r : List T → Gp → Q3 → Prop} {t : TA3} {R : DrD r} {b : PwA l t} : (eDr R b).nw = R.nw := id rfl
theorem wNext_w {l : Nat} : (wNext (l := l)).w = fun ρ n Q => Q (.nx ρ) n := id rfl
theorem wSeq_w {l : Nat} {t u : TS3} {x : PwS l t} {y : PwS l u} : (wSeq x y).w = fun ρ n Q => x.w ρ n (sqw y.w Q) := id rfl
theorem sqw_nx {b : Rho → Nat → QO → Prop} {Q : QO} {ρ : Rho} {n : Nat} : sqw b Q (.nx ρ) n = b ρ n Q := id rfl
theorem sqw_rt {b : Rho → Nat → QO → Prop} {Q : QO} {d : PyData} {f : Bool} {n : Nat} : sqw b Q (.rt d f) n = Q (.rt d f) n := id rfl
theorem wIf_w {l : Nat} {c : TT3} {t u : TS3} {pc : PwC l c} {x : PwS l t} {y : PwS l u} : (wIf pc x y).w = fun ρ n Q => pc.w ρ n fun k n1 => if k then x.w ρ n1 Q else y.w ρ n1 Q := id rfl
theorem wRet_w {l : Nat} {t : TE3} {x : PwE l t} : (wRet x).w = fun ρ n Q => x.w ρ n fun d n1 => Q (.rt d x.nw) n1 := id rfl
theorem wAsg_w {l : Nat} {t : TE3} {x : PwE l t} {i : Nat} {m : List Bool} {hm : Tru (x.fv.all (mkb m))} {hl : Tru (!mkb m l && (i != l && i != 0))} : (wAsg x i m hm hl).w = fun ρ n Q => x.w ρ n fun d n1 => Q (.nx (asgF m x.nw i d ρ)) n1 := id rfl
theorem wApp_w {l : Nat} {t : TE3} {x : PwE l t} {i : Nat} {m : List Bool} {hm : Tru (x.fv.all (mkb m))} {hl : Tru (!mkb m l)} : (wApp x i m hm hl).w = fun ρ n Q => ∃ ds,slot ρ i = some ds∧x.w ρ n fun d n1 => slot (dmS m d ρ) i = some ds∧ds.length < 16777216∧Q (.nx ((dmS m d ρ).set i (.ow (ds ++ [d])))) n1 := id rfl
theorem wFor_w {l : Nat} {wi : TI3} {g : TG3} {tb : TS3} {pi : PwI l wi} {pg : PuG g} {pb : PwS l tb} {m : List Bool} {hm : Tru (pi.fv.all (mkb m))} {hl : Tru (!mkb m l && pg.tg.all (fun i => i != l && i != 0))} : (wFor pi pg pb m hm hl).w = fun ρ n Q => pi.w ρ n fun ds n1 => forW pg.f pb.w ds (if pi.nm then ρ else dm m ρ) n1 Q := id rfl
theorem dWalk_W {ds : List PyData} {n : Nat} {Q : QD} : dWalk.W ds n Q = (ds = []∧n < 1000000∧∀ w : Wk,w.Ok → Q (Pv.Wk.d w) (n + 60)) := id rfl
theorem dDealing_W {ds : List PyData} {n : Nat} {Q : QD} : dDealing.W ds n Q = (ds = []∧n < 100000∧∀ d : Dl,Dr d 16 16 32 → d.dep ≤ 2 → Q (Pv.dlD d) (n + 1000)) := id rfl
theorem dDealing_nw : dDealing.nw = false := id rfl
theorem okW_nx {ρ : Rho} {n : Nat} : okW (.nx ρ) n = True := id rfl
theorem ex_eq {α : Type} {v : α} {P : α → Prop} : (∃ d,some v = some d∧P d) = P v := propext ⟨fun ⟨d,h1,h2⟩ => by cases h1;exact h2,fun h => ⟨v,rfl,h⟩⟩
theorem asg_dl {m : List Bool} {nw : Bool} {i : Nat} {d : Dl} {ρ : Rho} : asgF m nw i (Pv.dlD d) ρ = (dm m ρ).set i (.sh (Pv.dlD d)) := by cases d <;> exact asg_t
theorem seq_w {l : Nat} {t u : TS3} {x : PwS l t} {y : PwS l u} {ρ : Rho} {n : Nat} {Q : QO} (h : ∀ Y : Rho → Nat → QO → Prop,Y = y.w → x.w ρ n (sqw Y Q)) : (wSeq x y).w ρ n Q := h _ rfl
structure Mn (bw : Rho → Nat → QO → Prop) : Prop where
 h : ∀ ρ n (Q Q' : QO),bw ρ n Q → (∀ o m,Q o m → Q' o m) → bw ρ n Q'
theorem PwS.mn {l : Nat} {t : TS3} (b : PwS l t) : Mn b.w := ⟨fun _ _ _ _ h k => b.mono h k⟩
section
variable {l : Nat} {g : TG3} {tb : TS3}
theorem forW_inv {gf : PyData → Option (List (Nat × PyData))} {bw : Rho → Nat → QO → Prop} {α : Type} {f : α → PyData} (xs : List α) (mono : Mn bw) (I : Nat → Rho → Nat → Prop) {ρ : Rho} {n : Nat} {Q : QO} (h0 : I 0 ρ n)
  (hs : ∀ i x ρ n,xs[i]? = some x → I i ρ n → ∃ bs,gf (f x) = some bs∧bw (setS ρ bs) n fun o m => match o with | .nx ρ' => I (i + 1) ρ' m | .ct ρ' => I (i + 1) ρ' m | .bk ρ' => Q (.nx ρ') m | .rt d b => Q (.rt d b) m)
  (k : ∀ ρ n,I xs.length ρ n → Q (.nx ρ) n) : forW gf bw (xs.map f) ρ n Q := by
 have key : ∀ (r : List α) (i : Nat) (ρ : Rho) (n : Nat),xs.drop i = r → i ≤ xs.length → I i ρ n → forW gf bw (r.map f) ρ n Q := by
  intro r
  induction r with
  | nil =>
   intro i ρ n e hi h
   have : i = xs.length := by
    have := congrArg List.length e
    simp at this;omega
   subst this
   exact k ρ n h
  | cons x r ih =>
   intro i ρ n e hi h
   have hl : i < xs.length := by
    have := congrArg List.length e
    simp at this;omega
   have e' := List.drop_eq_getElem_cons hl
   rw [e] at e'
   injection e' with e1 e2
   obtain ⟨bs,h1,h2⟩ := hs i x ρ n (by rw [List.getElem?_eq_getElem hl,e1]) h
   refine ⟨bs,h1,mono.h _ _ _ _ h2 fun o m h => ?_⟩
   cases o with
   | nx ρ' => exact ih (i + 1) ρ' m e2.symm hl h
   | ct ρ' => exact ih (i + 1) ρ' m e2.symm hl h
   | bk ρ' => exact h
   | rt d b => exact h
 exact key xs 0 ρ n (by simp) (Nat.zero_le _) h0
end
theorem mo_bind {α β : Type} {x : α} {f : α → Option β} : (some x).bind f = f x := id rfl
theorem mo_map {α β : Type} {x : α} {f : α → β} : (some x).map f = some (f x) := id rfl
theorem mo_lc {α : Type} {x : α} {r : List α} : (x :: r).length = r.length + 1 := id rfl
theorem mo_ln {α : Type} : ([] : List α).length = 0 := id rfl
theorem mo_s0 {α : Type} {x y : α} {r : List α} : (x :: r).set 0 y = y :: r := id rfl
theorem mo_ss {α : Type} {x y : α} {r : List α} {i : Nat} : (x :: r).set (i + 1) y = x :: r.set i y := id rfl
theorem mo_an {α : Type} {r : List α} : r ++ [] = r := List.append_nil r
theorem mo_ac {α : Type} {x : α} {r s : List α} : (x :: r) ++ s = x :: (r ++ s) := id rfl
theorem mo_na {α : Type} {s : List α} : [] ++ s = s := id rfl
theorem mo_za {n : Nat} : 0 + n = n := Nat.zero_add n
theorem mo_t1 {p : Prop} : (True∧p) = p := true_and p
theorem mo_it {α : Type} {a b : α} {i : Decidable True} : @ite α True i a b = a := if_pos trivial
theorem mo_if {α : Type} {a b : α} {i : Decidable False} : @ite α False i a b = b := if_neg not_false
theorem mo_ft : (false = true) = False := Bool.false_eq_true
theorem mo_n1 : (!true) = false := id rfl
theorem mo_n2 : (!false) = true := id rfl
theorem mo_d1 {i : Decidable True} : @decide True i = true := decide_true i
theorem mo_d2 {i : Decidable False} : @decide False i = false := decide_false i
theorem pwA : type_of% (And.intro (And.intro (And.intro (And.intro (And.intro (And.intro (And.intro @Pu.eOf_w @Pu.cOf_w) (And.intro @Pu.aOf_w @Pu.iOf_w)) (And.intro (And.intro @Pu.eCons_w @Pu.eLst_w) (And.intro @Pu.eDr_w (And.intro @Pu.iOf_nm @Pu.eOf_nw)))) (And.intro (And.intro (And.intro @Pu.eLst_nw @Pu.eDr_nw) (And.intro @Pu.wNext_w @Pu.wSeq_w)) (And.intro (And.intro @Pu.sqw_nx @Pu.sqw_rt) (And.intro @Pu.wIf_w (And.intro @Pu.wRet_w @Pu.wAsg_w))))) (And.intro (And.intro (And.intro (And.intro @Pu.wApp_w @Pu.wFor_w) (And.intro @Pu.dWalk_W @Pu.dDealing_W)) (And.intro (And.intro @Pu.dDealing_nw @Pu.okW_nx) (And.intro @Pu.asg_dl (And.intro @Pu.Nx_nx @Pu.bV_f)))) (And.intro (And.intro (And.intro @Pu.bInt_f @Pu.bBl_f) (And.intro @Pu.bStr_f (And.intro @Pu.bO_f @Pu.bNil_f))) (And.intro (And.intro @Pu.bCons_f @Pu.bTup_f) (And.intro @Pu.bLst_f (And.intro @Pu.bCall_f @Pu.bTb_f)))))) (And.intro (And.intro (And.intro (And.intro (And.intro @Pu.bOr_f @Pu.bNot_f) (And.intro @Pu.bTt_f @Pu.bNeg_f)) (And.intro (And.intro @Pu.bCh_f @Pu.bSp_f) (And.intro @Pu.bSl_f (And.intro @Pu.bTget_f @Pu.bDsub_f)))) (And.intro (And.intro (And.intro @Pu.bLc_f @Pu.bLc2_f) (And.intro @Pu.fLen_f (And.intro @Pu.fLst_f @Pu.fMinL_f))) (And.intro (And.intro @Pu.fMaxL_f @Pu.fCall_f) (And.intro @Pu.opI_f (And.intro @Pu.opB_f @Pu.opC_f))))) (And.intro (And.intro (And.intro (And.intro @Pu.opEq_f @Pu.opIx_f) (And.intro @Pu.opCat_f @Pu.iSeq_f)) (And.intro (And.intro @Pu.iRng_f @Pu.iSeq_nm) (And.intro @Pu.iRng_nm (And.intro @Pu.gN_f @Pu.gNil_f)))) (And.intro (And.intro (And.intro @Pu.gCons_f @Pu.gTup_f) (And.intro @Pu.sNext_f (And.intro @Pu.sSeq_f @Pu.sIf_f))) (And.intro (And.intro @Pu.sRet_f @Pu.sRetV_f) (And.intro @Pu.sAsg_f (And.intro @Pu.sAsgT_f @Pu.sExt_f))))))) (And.intro (And.intro (And.intro (And.intro (And.intro (And.intro @Pu.sFor_f @Pu.bBl_nw) (And.intro @Pu.bO_nw @Pu.bTup_nw)) (And.intro (And.intro @Pu.bLst_nw @Pu.bCall_nw) (And.intro @Pu.fCall_nw (And.intro @Pu.bLc_nw @Pu.bLc2_nw)))) (And.intro (And.intro (And.intro @Pu.fLst_nw @Pu.opIx_nw) (And.intro @Pu.vw_z (And.intro @Pu.vw_s @Pu.Sd_sh))) (And.intro (And.intro @Pu.Sd_ow @Pu.slot_ow) (And.intro @Pu.slot_s (And.intro @Pu.retV_ow @Pu.retV_s))))) (And.intro (And.intro (And.intro (And.intro @Pu.ixD_t @Pu.ixD_l) (And.intro @Pu.at0 @Pu.at1)) (And.intro (And.intro @Pu.at2 @Pu.at3) (And.intro @Pu.eqS (And.intro @Pu.catI @Pu.seqF_k)))) (And.intro (And.intro (And.intro @Pu.sqk_nx @Pu.sqk_rt) (And.intro @Pu.outF_tt (And.intro @Pu.outF_f @Pu.asB_b))) (And.intro (And.intro @Pu.asI_i @Pu.asS_s) (And.intro @Pu.lenD_t (And.intro @Pu.lstD_t @Pu.seqD_t)))))) (And.intro (And.intro (And.intro (And.intro (And.intro @Pu.seqD_l @Pu.asg_s) (And.intro @Pu.asg_t @Pu.asg_ln)) (And.intro (And.intro @Pu.dmS_t @Pu.dmS_l) (And.intro @Pu.dm_z (And.intro @Pu.dm_t @Pu.dm_f)))) (And.intro (And.intro (And.intro @Pu.dem_o @Pu.dem_s) (And.intro @Pu.cap_z (And.intro @Pu.cap_n @Pu.cap_s))) (And.intro (And.intro @Pu.cp_s @Pu.forF_n) (And.intro @Pu.forF_l (And.intro @Pu.setS_z @Pu.setS_c))))) (And.intro (And.intro (And.intro (And.intro @Pu.ex_eq @Pu.mo_bind) (And.intro @Pu.mo_map @Pu.mo_lc)) (And.intro (And.intro @Pu.mo_ln @Pu.mo_s0) (And.intro @Pu.mo_ss (And.intro @Pu.mo_an @Pu.mo_ac)))) (And.intro (And.intro (And.intro @Pu.mo_na @Pu.mo_za) (And.intro @Pu.mo_t1 (And.intro @Pu.mo_it @Pu.mo_if))) (And.intro (And.intro @Pu.mo_ft @Pu.mo_n1) (And.intro @Pu.mo_n2 (And.intro @Pu.mo_d1 @Pu.mo_d2)))))))) := (And.intro (And.intro (And.intro (And.intro (And.intro (And.intro (And.intro @Pu.eOf_w @Pu.cOf_w) (And.intro @Pu.aOf_w @Pu.iOf_w)) (And.intro (And.intro @Pu.eCons_w @Pu.eLst_w) (And.intro @Pu.eDr_w (And.intro @Pu.iOf_nm @Pu.eOf_nw)))) (And.intro (And.intro (And.intro @Pu.eLst_nw @Pu.eDr_nw) (And.intro @Pu.wNext_w @Pu.wSeq_w)) (And.intro (And.intro @Pu.sqw_nx @Pu.sqw_rt) (And.intro @Pu.wIf_w (And.intro @Pu.wRet_w @Pu.wAsg_w))))) (And.intro (And.intro (And.intro (And.intro @Pu.wApp_w @Pu.wFor_w) (And.intro @Pu.dWalk_W @Pu.dDealing_W)) (And.intro (And.intro @Pu.dDealing_nw @Pu.okW_nx) (And.intro @Pu.asg_dl (And.intro @Pu.Nx_nx @Pu.bV_f)))) (And.intro (And.intro (And.intro @Pu.bInt_f @Pu.bBl_f) (And.intro @Pu.bStr_f (And.intro @Pu.bO_f @Pu.bNil_f))) (And.intro (And.intro @Pu.bCons_f @Pu.bTup_f) (And.intro @Pu.bLst_f (And.intro @Pu.bCall_f @Pu.bTb_f)))))) (And.intro (And.intro (And.intro (And.intro (And.intro @Pu.bOr_f @Pu.bNot_f) (And.intro @Pu.bTt_f @Pu.bNeg_f)) (And.intro (And.intro @Pu.bCh_f @Pu.bSp_f) (And.intro @Pu.bSl_f (And.intro @Pu.bTget_f @Pu.bDsub_f)))) (And.intro (And.intro (And.intro @Pu.bLc_f @Pu.bLc2_f) (And.intro @Pu.fLen_f (And.intro @Pu.fLst_f @Pu.fMinL_f))) (And.intro (And.intro @Pu.fMaxL_f @Pu.fCall_f) (And.intro @Pu.opI_f (And.intro @Pu.opB_f @Pu.opC_f))))) (And.intro (And.intro (And.intro (And.intro @Pu.opEq_f @Pu.opIx_f) (And.intro @Pu.opCat_f @Pu.iSeq_f)) (And.intro (And.intro @Pu.iRng_f @Pu.iSeq_nm) (And.intro @Pu.iRng_nm (And.intro @Pu.gN_f @Pu.gNil_f)))) (And.intro (And.intro (And.intro @Pu.gCons_f @Pu.gTup_f) (And.intro @Pu.sNext_f (And.intro @Pu.sSeq_f @Pu.sIf_f))) (And.intro (And.intro @Pu.sRet_f @Pu.sRetV_f) (And.intro @Pu.sAsg_f (And.intro @Pu.sAsgT_f @Pu.sExt_f))))))) (And.intro (And.intro (And.intro (And.intro (And.intro (And.intro @Pu.sFor_f @Pu.bBl_nw) (And.intro @Pu.bO_nw @Pu.bTup_nw)) (And.intro (And.intro @Pu.bLst_nw @Pu.bCall_nw) (And.intro @Pu.fCall_nw (And.intro @Pu.bLc_nw @Pu.bLc2_nw)))) (And.intro (And.intro (And.intro @Pu.fLst_nw @Pu.opIx_nw) (And.intro @Pu.vw_z (And.intro @Pu.vw_s @Pu.Sd_sh))) (And.intro (And.intro @Pu.Sd_ow @Pu.slot_ow) (And.intro @Pu.slot_s (And.intro @Pu.retV_ow @Pu.retV_s))))) (And.intro (And.intro (And.intro (And.intro @Pu.ixD_t @Pu.ixD_l) (And.intro @Pu.at0 @Pu.at1)) (And.intro (And.intro @Pu.at2 @Pu.at3) (And.intro @Pu.eqS (And.intro @Pu.catI @Pu.seqF_k)))) (And.intro (And.intro (And.intro @Pu.sqk_nx @Pu.sqk_rt) (And.intro @Pu.outF_tt (And.intro @Pu.outF_f @Pu.asB_b))) (And.intro (And.intro @Pu.asI_i @Pu.asS_s) (And.intro @Pu.lenD_t (And.intro @Pu.lstD_t @Pu.seqD_t)))))) (And.intro (And.intro (And.intro (And.intro (And.intro @Pu.seqD_l @Pu.asg_s) (And.intro @Pu.asg_t @Pu.asg_ln)) (And.intro (And.intro @Pu.dmS_t @Pu.dmS_l) (And.intro @Pu.dm_z (And.intro @Pu.dm_t @Pu.dm_f)))) (And.intro (And.intro (And.intro @Pu.dem_o @Pu.dem_s) (And.intro @Pu.cap_z (And.intro @Pu.cap_n @Pu.cap_s))) (And.intro (And.intro @Pu.cp_s @Pu.forF_n) (And.intro @Pu.forF_l (And.intro @Pu.setS_z @Pu.setS_c))))) (And.intro (And.intro (And.intro (And.intro @Pu.ex_eq @Pu.mo_bind) (And.intro @Pu.mo_map @Pu.mo_lc)) (And.intro (And.intro @Pu.mo_ln @Pu.mo_s0) (And.intro @Pu.mo_ss (And.intro @Pu.mo_an @Pu.mo_ac)))) (And.intro (And.intro (And.intro @Pu.mo_na @Pu.mo_za) (And.intro @Pu.mo_t1 (And.intro @Pu.mo_it @Pu.mo_if))) (And.intro (And.intro @Pu.mo_ft @Pu.mo_n1) (And.intro @Pu.mo_n2 (And.intro @Pu.mo_d1 @Pu.mo_d2))))))))
end Pu
namespace Pu
open PySem L2 L3
open Bk (Lf Ext Dl Wk Dr)
end Pu
namespace Pu
open PySem L2 L3
open Bk (Lf Ext Dl Wk Dr)
theorem dqs_c {H : Gp} {xs : List T} {d : PyData} {ds : List PyData} (h : Dqs H xs (d :: ds)) : ∃ x r,xs = x :: r∧Dq H x d∧Dqs H r ds := by
 cases h with
 | cons a b => exact ⟨_,_,rfl,a,b⟩
theorem dqs_n {H : Gp} {xs : List T} (h : Dqs H xs []) : xs = [] := by cases h;rfl
theorem dq_i {H : Gp} {x : T} {i : Int} (h : Dq H x (.int i)) : x = .int i := by cases h;rfl
theorem dq_s {H : Gp} {x : T} {i : Str} (h : Dq H x (.str i)) : x = .str i := by cases h;rfl
theorem dq_t {H : Gp} {x : T} {ds : List PyData} (h : Dq H x (.tuple ds)) : ∃ xs,x = .tup xs∧Dqs H xs ds := by
 cases h with
 | tup a => exact ⟨_,rfl,a⟩
theorem dqs_i {H : Gp} {xs : List T} {i : Int} {ds : List PyData} (h : Dqs H xs (.int i :: ds)) : ∃ r,xs = .int i :: r∧Dqs H r ds := by
 obtain ⟨x,r,rfl,a,b⟩ := dqs_c h
 exact ⟨r,by rw [dq_i a],b⟩
theorem dqs_s {H : Gp} {xs : List T} {i : Str} {ds : List PyData} (h : Dqs H xs (.str i :: ds)) : ∃ r,xs = .str i :: r∧Dqs H r ds := by
 obtain ⟨x,r,rfl,a,b⟩ := dqs_c h
 exact ⟨r,by rw [dq_s a],b⟩
theorem dq_rows {H : Gp} : ∀ (cs : List (List Int)) {xs : List T},Dqs H xs (cs.map Pv.rowD) → xs = cs.map Bk.rowT := by
 intro cs
 induction cs with
 | nil => intro xs h;exact dqs_n h
 | cons r cs ih =>
  intro xs h
  obtain ⟨x,t,rfl,a,b⟩ := dqs_c h
  obtain ⟨ys,rfl,a1⟩ := dq_t a
  rw [ih b,Dqs.ints a1];rfl
theorem dq_dl {H : Gp} (d : Dl) : ∀ {x : T},Dq H x (Pv.dlD d) → x = d.t := by
 induction d with
 | skew r c b x y =>
  intro z h0
  obtain ⟨_,rfl,h1⟩ := dq_t h0
  obtain ⟨_,rfl,h2⟩ := dqs_s h1
  obtain ⟨_,rfl,h3⟩ := dqs_i h2
  obtain ⟨_,rfl,h4⟩ := dqs_i h3
  obtain ⟨_,rfl,h5⟩ := dqs_i h4
  obtain ⟨_,rfl,h6⟩ := dqs_i h5
  obtain ⟨_,rfl,h7⟩ := dqs_i h6
  rw [dqs_n h7];rfl
 | rests r c b p =>
  intro z h0
  obtain ⟨_,rfl,h1⟩ := dq_t h0
  obtain ⟨_,rfl,h2⟩ := dqs_s h1
  obtain ⟨_,rfl,h3⟩ := dqs_i h2
  obtain ⟨_,rfl,h4⟩ := dqs_i h3
  obtain ⟨_,rfl,h5⟩ := dqs_i h4
  obtain ⟨_,rfl,h6⟩ := dqs_i h5
  rw [dqs_n h6];rfl
 | bits hh l ms =>
  intro z h0
  obtain ⟨_,rfl,h1⟩ := dq_t h0
  obtain ⟨_,rfl,h2⟩ := dqs_s h1
  obtain ⟨_,rfl,h3⟩ := dqs_i h2
  obtain ⟨_,rfl,h4⟩ := dqs_i h3
  obtain ⟨_,_,rfl,a0,h5⟩ := dqs_c h4
  obtain ⟨_,rfl,a1⟩ := dq_t a0
  rw [dqs_n h5,Dqs.ints a1];rfl
 | table b cells =>
  intro z h0
  obtain ⟨_,rfl,h1⟩ := dq_t h0
  obtain ⟨_,rfl,h2⟩ := dqs_s h1
  obtain ⟨_,rfl,h3⟩ := dqs_i h2
  obtain ⟨_,_,rfl,a0,h4⟩ := dqs_c h3
  obtain ⟨_,rfl,a1⟩ := dq_t a0
  rw [dqs_n h4,dq_rows cells a1];rfl
 | joined d e ih1 ih2 =>
  intro z h0
  obtain ⟨_,rfl,h1⟩ := dq_t h0
  obtain ⟨_,rfl,h2⟩ := dqs_s h1
  obtain ⟨_,_,rfl,a0,h3⟩ := dqs_c h2
  obtain ⟨_,_,rfl,b0,h4⟩ := dqs_c h3
  rw [dqs_n h4,ih1 a0,ih2 b0];rfl
theorem int_inj : ∀ (a b : Int),PyData.int a = PyData.int b → a = b := fun _ _ h => by injection h
theorem row_inj : ∀ (a b : List Int),Pv.rowD a = Pv.rowD b → a = b := fun a b h => by
 unfold Pv.rowD at h
 injection h with h
 exact (List.map_inj_right int_inj).mp h
theorem dl_inj : ∀ (d e : Dl),Pv.dlD d = Pv.dlD e → d = e
 | .skew ..,.skew ..,h => by simp [Pv.dlD] at h;simp [h]
 | .rests ..,.rests ..,h => by simp [Pv.dlD] at h;simp [h]
 | .bits _ _ ms,.bits _ _ ns,h => by
  simp only [Pv.dlD,PyData.tuple.injEq,List.cons.injEq,PyData.int.injEq,and_true,true_and,Int.natCast_inj] at h
  have := (List.map_inj_right int_inj).mp h.2.2
  simp [h.1,h.2.1,this]
 | .table _ cs,.table _ es,h => by
  simp only [Pv.dlD,PyData.tuple.injEq,List.cons.injEq,PyData.int.injEq,and_true,true_and] at h
  have := (List.map_inj_right row_inj).mp h.2
  simp [h.1,this]
 | .joined d e,.joined d' e',h => by
  simp only [Pv.dlD,PyData.tuple.injEq,List.cons.injEq,and_true,true_and] at h
  rw [dl_inj d d' h.1,dl_inj e e' h.2]
 | .skew ..,.rests ..,h => by simp [Pv.dlD] at h
 | .skew ..,.bits ..,h => by simp [Pv.dlD] at h
 | .skew ..,.table ..,h => by simp [Pv.dlD] at h
 | .skew ..,.joined ..,h => by simp [Pv.dlD] at h
 | .rests ..,.skew ..,h => by simp [Pv.dlD] at h
 | .rests ..,.bits ..,h => by simp [Pv.dlD] at h
 | .rests ..,.table ..,h => by simp [Pv.dlD] at h
 | .rests ..,.joined ..,h => by simp [Pv.dlD] at h
 | .bits ..,.skew ..,h => by simp [Pv.dlD] at h
 | .bits ..,.rests ..,h => by simp [Pv.dlD] at h
 | .bits ..,.table ..,h => by simp [Pv.dlD] at h
 | .bits ..,.joined ..,h => by simp [Pv.dlD] at h
 | .table ..,.skew ..,h => by simp [Pv.dlD] at h
 | .table ..,.rests ..,h => by simp [Pv.dlD] at h
 | .table ..,.bits ..,h => by simp [Pv.dlD] at h
 | .table ..,.joined ..,h => by simp only [Pv.dlD,PyData.tuple.injEq,List.cons.injEq,PyData.str.injEq] at h;exact absurd h.1 (by decide)
 | .joined ..,.skew ..,h => by simp [Pv.dlD] at h
 | .joined ..,.rests ..,h => by simp [Pv.dlD] at h
 | .joined ..,.bits ..,h => by simp [Pv.dlD] at h
 | .joined ..,.table ..,h => by simp only [Pv.dlD,PyData.tuple.injEq,List.cons.injEq,PyData.str.injEq] at h;exact absurd h.1 (by decide)
noncomputable def the (S : PyData → Prop) : Option PyData := @dite _ (∃ v,S v) (Classical.propDecidable _) (fun h => some (Classical.choose h)) fun _ => none
theorem the_spec {S : PyData → Prop} {v : PyData} (h : the S = some v) : S v := by
 unfold the at h
 split at h
 ·rename_i e
  cases h
  exact Classical.choose_spec e
 ·cases h
theorem the_eq {S : PyData → Prop} {v : PyData} (h : S v) (u : ∀ w,S w → w = v) : the S = some v := by
 unfold the
 rw [dif_pos ⟨v,h⟩]
 exact congrArg some (u _ (Classical.choose_spec (⟨v,h⟩ : ∃ v,S v)))
noncomputable def siz (d : Dl) : PyData := .tuple [.int d.R,.int d.C,.int d.B]
theorem siz_dq (G : Gp) (d : Dl) : Dq G (Bk.sizeT d) (siz d) := .tup (.cons (.int _) (.cons (.int _) (.cons (.int _) .nil)))
def SzR (n : Nat) (ds : List PyData) (v : PyData) : Prop := ∃ d : Dl,ds = [Pv.dlD d]∧d.dep ≤ n∧d.Ok∧v = siz d
noncomputable def fLsz (n : Nat) : FnD (Bk.sp_law_size (n + 1)) := ⟨fun ds => the (SzR n ds),false,fun {D G xs ds v q} hx hd hf k => by
 obtain ⟨d,rfl,h1,h2,rfl⟩ := the_spec hf
 cases hx with
 | cons a b =>
  cases b
  have := dq_dl d a;subst this
  exact ⟨d,rfl,h1,h2,fun G' E => k _ _ E (siz_dq _ d) (fun z => by cases z)⟩⟩
theorem sz_ok {n : Nat} {d : Dl} (h1 : d.dep ≤ n) (h2 : d.Ok) : the (SzR n [Pv.dlD d]) = some (siz d) := the_eq ⟨d,rfl,h1,h2,rfl⟩ fun w ⟨e,a,_,_,b⟩ => by
 injection a with a
 rw [b,dl_inj d e a]
theorem fLsz_f {n : Nat} : (fLsz n).f = fun ds => the (SzR n ds) := id rfl
end Pu
namespace Pu
open PySem L2 L3
open Bk (Lf Ext Dl Wk Dr SD SDs sd_tuple sd_list sds_cons sds_nil sd_int sd_str sds_ints sds_all)
noncomputable def strD : List PyData → Option PyData
 | [.list ds] => cif (ShOk (.list ds)) (some (.str (PyData.list ds).shown)) none
 | [.tuple ds] => cif (ShOk (.tuple ds)) (some (.str (PyData.tuple ds).shown)) none
 | _ => none
noncomputable def fStr : FnD repr3 := ⟨strD,false,fun {D G xs ds v q} hx hd hf k => by
 unfold strD at hf
 split at hf
 ·unfold cif at hf
  split at hf
  ·rename_i c
   cases hf
   cases hx with
   | cons a b =>
    cases b
    have dp := (a.up rs_ex).dp
    cases a with
    | lst g hs => exact ⟨rfl,_,dp,c,k _ _ Ex.refl (.str _) (fun z => by cases z)⟩
  ·cases hf
 ·unfold cif at hf
  split at hf
  ·rename_i c
   cases hf
   cases hx with
   | cons a b =>
    cases b
    have dp := (a.up rs_ex).dp
    cases a with
    | tup hs => exact ⟨rfl,_,dp,c,k _ _ Ex.refl (.str _) (fun z => by cases z)⟩
  ·cases hf
 ·cases hf⟩
theorem fStr_f : fStr.f = strD := id rfl
theorem str_l {ds : List PyData} (h : ShOk (.list ds)) : strD [.list ds] = some (.str (PyData.list ds).shown) := cif_pos h
noncomputable def wRev {l : Nat} (i : Nat) : PwS l (drop3 (bm03 rev3 (v3 i))) := ⟨fun ρ n Q => ∃ ds,slot ρ i = some ds∧Q (.nx (ρ.set i (.ow ds.reverse))) n,fun ⟨ds,h1,h2⟩ k => ⟨ds,h1,k _ _ h2⟩,fun {a z0 D G0 A τ ρ G n e Q} h ⟨ds,h1,h2⟩ k => by
 obtain ⟨p,xs,b,c,g,f⟩ := h.r.ow i _ (slot_eq h1)
 simp only [drop3,bm03,v3,c,rev3,getL_of g,g]
 refine ⟨rfl,?_⟩
 have pa : p ≠ a := by
  rintro rfl
  have := h.r.inj i l _ b h.al
  subst this
  have q := slot_eq h1
  rw [h.ul] at q;cases q
 have il : i ≠ l := by
  rintro rfl
  have q := slot_eq h1
  rw [h.ul] at q;cases q
 have r := h.r.wr b c f.rev
 refine k _ _ h2 _ _ _ ⟨r,h.al,h.tl,?_,?_,h.tz⟩
 ·rw [List.getElem?_set,if_neg il];exact h.ul
 ·obtain ⟨o,c',m',e1,e2⟩ := h.lf
  exact ⟨o,c',m',by rw [gu_ne (Ne.symm pa)];exact e1,e2⟩⟩
theorem wRev_w {l i : Nat} : (wRev (l := l) i).w = fun ρ n Q => ∃ ds,slot ρ i = some ds∧Q (.nx (ρ.set i (.ow ds.reverse))) n := id rfl
theorem sd_dl : ∀ d : Dl,d.Ok → SD (d.dep + 4) (8000 * 4 ^ d.dep) (Pv.dlD d)
 | .skew r c b x y,ok => by
  simp only [Dl.Ok] at ok
  refine (sd_tuple (k := 2) (n := 20) ?_).mono (by simp [Dl.dep]) (by simp [Dl.dep])
  refine sds_cons (sd_str (n := 4) 2 (by decide) (by decide)) (m := 15) (sds_cons (n := 0) (m := 12) (sd_int _ _ (by omega)) (sds_cons (n := 0) (m := 9) (sd_int _ _ (by omega)) (sds_cons (n := 0) (m := 6) (sd_int _ _ (by omega)) (sds_cons (n := 0) (m := 3) (sd_int _ _ (by omega)) (sds_cons (n := 0) (m := 0) (sd_int _ _ (by omega)) (sds_nil _ _) (by omega)) (by omega)) (by omega)) (by omega)) (by omega)) (by omega)
 | .rests r c b p,ok => by
  simp only [Dl.Ok] at ok
  refine (sd_tuple (k := 2) (n := 20) ?_).mono (by simp [Dl.dep]) (by simp [Dl.dep])
  refine sds_cons (sd_str (n := 5) 2 (by decide) (by decide)) (m := 12) (sds_cons (n := 0) (m := 9) (sd_int _ _ (by omega)) (sds_cons (n := 0) (m := 6) (sd_int _ _ (by omega)) (sds_cons (n := 0) (m := 3) (sd_int _ _ (by omega)) (sds_cons (n := 0) (m := 0) (sd_int _ _ (by omega)) (sds_nil _ _) (by omega)) (by omega)) (by omega)) (by omega)) (by omega)
 | .bits h l ms,ok => by
  simp only [Dl.Ok] at ok
  have p8 : (2 : Int) ^ (h + l) ≤ 2 ^ 8 := by
   have := Nat.pow_le_pow_right (n := 2) (by omega) (show h + l ≤ 8 by omega)
   have e1 : ((2 ^ (h + l) : Nat) : Int) = 2 ^ (h + l) := by simp
   have e2 : ((2 ^ 8 : Nat) : Int) = 2 ^ 8 := by simp
   omega
  have e : (2 : Int) ^ 8 = 256 := by decide
  refine (sd_tuple (k := 2) (n := 30) ?_).mono (by simp [Dl.dep]) (by simp [Dl.dep])
  refine sds_cons (sd_str (n := 4) 2 (by decide) (by decide)) (m := 16) (sds_cons (n := 0) (m := 12) (sd_int _ _ (by omega)) (sds_cons (n := 0) (m := 8) (sd_int _ _ (by omega)) (sds_cons (n := ms.length) (m := 0) (sd_tuple (k := 1) (sds_ints fun m hm => by have := ok.2.2.2 m hm;omega)) (sds_nil _ _) (by omega)) (by omega)) (by omega)) (by omega)
 | .table b cells,ok => by
  obtain ⟨b1,b2,l1,l2,c,c1,c2,hc⟩ := ok
  have rows : SDs 2 (cells.length * (60 + 1)) (cells.map Pv.rowD) := by
   have := sds_all (k := 2) (n := 60) (ds := cells.map Pv.rowD) (fun d hd => by
    obtain ⟨r,hr,rfl⟩ := List.mem_map.mp hd
    have h := hc r hr
    exact (sd_tuple (k := 1) (sds_ints fun m hm => by have := h.2 m hm;omega)).mono (by omega) (by rw [h.1];exact c2))
   rwa [List.length_map] at this
  refine (sd_tuple (k := 3) (n := 4000) ?_).mono (by simp [Dl.dep]) (by simp [Dl.dep])
  refine sds_cons (sd_str (n := 5) 3 (by decide) (by decide)) (m := 3900) (sds_cons (n := 0) (m := 3800) (sd_int _ _ (by omega)) (sds_cons (n := cells.length * (60 + 1)) (m := 0) (sd_tuple (k := 2) rows) (sds_nil _ _) (by omega)) (by omega)) (by omega)
 | .joined d e,ok => by
  simp only [Dl.Ok] at ok
  have a := sd_dl d ok.1
  have b := sd_dl e ok.2.1
  have m1 : 4 ^ d.dep ≤ 4 ^ max d.dep e.dep := Nat.pow_le_pow_right (by omega) (Nat.le_max_left ..)
  have m2 : 4 ^ e.dep ≤ 4 ^ max d.dep e.dep := Nat.pow_le_pow_right (by omega) (Nat.le_max_right ..)
  have p0 : 1 ≤ 4 ^ max d.dep e.dep := Nat.pow_pos (by omega)
  show SD (max d.dep e.dep + 1 + 4) (8000 * 4 ^ (max d.dep e.dep + 1)) (.tuple [.str "joined",Pv.dlD d,Pv.dlD e])
  rw [Nat.pow_succ]
  generalize 4 ^ max d.dep e.dep = P at m1 m2 p0
  generalize hM : max d.dep e.dep = M
  have d1 : d.dep ≤ M := by rw [← hM];exact Nat.le_max_left ..
  have d2 : e.dep ≤ M := by rw [← hM];exact Nat.le_max_right ..
  refine sd_tuple (k := M + 4) ?_
  exact sds_cons (n := 6) (m := 16000 * P + 10) (sd_str _ _ (by decide) (by decide)) (sds_cons (n := 8000 * P) (m := 8000 * P + 5) (a.mono (by omega) (by omega)) (sds_cons (n := 8000 * P) (m := 0) (b.mono (by omega) (by omega)) (sds_nil _ _) (by omega)) (by omega)) (by omega)
theorem sd_wk {w : Wk} (ok : w.Ok) : SD 4 200 (Pv.Wk.d w) := by
 cases w with
 | line k m =>
  obtain ⟨h1,h2,h3⟩ := ok
  have : k = 0 ∨ k = 1 ∨ k = 2 ∨ k = 3 := by omega
  refine (sd_tuple (k := 2) (n := 20) ?_).mono (by omega) (by omega)
  rcases this with rfl | rfl | rfl | rfl <;> exact sds_cons (n := 6) (m := 5) (sd_str _ _ (by decide) (by decide)) (sds_cons (n := 0) (m := 0) (sd_int _ _ (by omega)) (sds_nil _ _) (by omega)) (by omega)
 | block h v =>
  obtain ⟨h1,h2,h3,h4,_⟩ := ok
  refine (sd_tuple (k := 2) (n := 20) ?_).mono (by omega) (by omega)
  exact sds_cons (n := 5) (m := 5) (sd_str _ _ (by decide) (by decide)) (sds_cons (n := 0) (m := 2) (sd_int _ _ (by omega)) (sds_cons (n := 0) (m := 0) (sd_int _ _ (by omega)) (sds_nil _ _) (by omega)) (by omega)) (by omega)
 | step d a m =>
  obtain ⟨h1,h2,h3,h4⟩ := ok
  refine (sd_tuple (k := 2) (n := 20) ?_).mono (by omega) (by omega)
  exact sds_cons (n := 4) (m := 8) (sd_str _ _ (by decide) (by decide)) (sds_cons (n := 0) (m := 5) (sd_int _ _ (by omega)) (sds_cons (n := 0) (m := 2) (sd_int _ _ (by omega)) (sds_cons (n := 0) (m := 0) (sd_int _ _ (by omega)) (sds_nil _ _) (by omega)) (by omega)) (by omega)) (by omega)
 | cells ps =>
  obtain ⟨h1,h2,_,h4⟩ := ok
  have pr : SDs 2 (ps.length * (4 + 1)) (ps.map Pv.pD) := by
   have := sds_all (k := 2) (n := 4) (ds := ps.map Pv.pD) (fun d hd => by
    obtain ⟨p,hp,rfl⟩ := List.mem_map.mp hd
    have q := h4 p hp
    exact sd_tuple (k := 1) (sds_cons (n := 0) (m := 2) (sd_int _ _ (by omega)) (sds_cons (n := 0) (m := 0) (sd_int _ _ (by omega)) (sds_nil _ _) (by omega)) (by omega)))
   rwa [List.length_map] at this
  exact sd_tuple (k := 3) (sds_cons (n := 5) (m := 100) (sd_str _ _ (by decide) (by decide)) (sds_cons (n := ps.length * (4 + 1)) (m := 0) (sd_tuple (k := 2) pr) (sds_nil _ _) (by omega)) (by omega))
end Pu
namespace Pv
open PySem L2 L3 Pu
open Bk (Wk along blockC lnName lnD lnA Un2 Fst faO faO_some faO_none ex_fst)
theorem rngI_get {lo : Int} {n i : Nat} {x : Int} (h : (rngI lo n)[i]? = some x) : i < n∧x = lo + i := by
 unfold rngI at h
 rw [List.getElem?_map] at h
 obtain ⟨k,e1,e2⟩ := Option.map_eq_some_iff.mp h
 obtain ⟨hl,hk⟩ := List.getElem?_eq_some_iff.mp e1
 simp at hl hk
 subst hk
 exact ⟨hl,e2.symm⟩
theorem rngI_len (lo : Int) (n : Nat) : (rngI lo n).length = n := by simp [rngI]
theorem F_strung_eq {d a : Int} {m : Nat} (hd : -1000 ≤ d∧d ≤ 1000) (ha : -1000 ≤ a∧a ≤ 1000) (hm : m ≤ 10000) : F_strung [.int d,.int a,.int m] = some (.list ((along d a m).map pD)) := by
 rw [un_strung]
 try simp only [Pu.pwA,b_strung]
 rw [lcF_ok (ds := (rngI 0 m).map PyData.int) (fs := (along d a m).map pD)]
 ·try simp only [Pu.pwA]
 ·try simp (disch := omega) only [Pu.pwA,rng1,Int.toNat_natCast]
 ·have : along d a m = (rngI 0 m).map fun i => (i * d,i * a) := by simp [along,rngI,List.map_map,Function.comp_def]
  rw [this,List.map_map]
  refine lcP_map fun i hi => ?_
  try simp (disch := omega) only [Pu.pwA,lcH_k,cI_mul,Function.comp_def,pD]
 ·simp [along];omega
noncomputable def Big : Wk → Prop
 | .line k m => k < 4∧m ≤ 1000
 | .block h w => h ≤ 1000∧w ≤ 1000
 | .step d a m => (-1000 ≤ d∧d ≤ 1000)∧(-1000 ≤ a∧a ≤ 1000)∧m ≤ 1000
 | .cells ps => ps.length ≤ 1000
theorem F_cells_eq {w : Wk} (ok : Big w) : F_cells_of [Wk.d w] = some (.list (w.pc.map pD)) := by
 cases w with
 | cells ps =>
  rw [un_cells_of]
  try simp only [Pu.pwA,b_cells_of,Wk.d,eq_self,Wk.pc]
 | block h v =>
  obtain ⟨h1,h2⟩ := ok
  rw [un_cells_of]
  try simp only [Pu.pwA,b_cells_of,Wk.d,eq_self,L3.ne_block_cells,Wk.pc]
  rw [lc2F_ok (ds := (rngI 0 h).map PyData.int) (fs := (blockC h v).map pD)]
  ·try simp only [Pu.pwA]
  ·try simp (disch := omega) only [Pu.pwA,rng1,Int.toNat_natCast]
  ·have : (blockC h v).map pD = (rngI 0 h).flatMap fun p => (rngI 0 v).map fun q => pD (p,q) := by
    simp only [blockC,rngI,List.map_flatMap,List.map_map,List.flatMap_map,Function.comp_def,Int.zero_add]
   rw [this]
   refine lc2P_map fun p hp => ?_
   try simp (disch := omega) only [Pu.pwA,lc2H_k,rng1,Int.toNat_natCast]
   rw [lcP_map (k := fun q => pD (p,q)) fun q hq => ?_]
   ·try simp only [Pu.pwA]
   ·try simp only [Pu.pwA,lcH_k,pD]
  ·have := Nat.mul_le_mul h1 h2
   rw [List.length_map,Bk.block_len];omega
 | step d a m =>
  obtain ⟨h1,h2,h3⟩ := ok
  rw [un_cells_of]
  try simp only [Pu.pwA,b_cells_of,Wk.d,eq_self,L3.ne_step_cells,L3.ne_step_block,Wk.pc,F_strung_eq h1 h2 (show m ≤ 10000 by omega)]
 | line k m =>
  obtain ⟨h1,h2⟩ := ok
  have key : ∀ (s : Str) (d a : Int),¬ s = Str.ofString "cells" → ¬ s = Str.ofString "block" → ¬ s = Str.ofString "step" → (-1000 ≤ d∧d ≤ 1000) → (-1000 ≤ a∧a ≤ 1000) → (tabGet stridesT s).bind tD = some (.tuple [.int d,.int a]) → F_cells_of [.tuple [.str s,.int (m : Int)]] = some (.list ((along d a m).map pD)) := by
   intro s d a n1 n2 n3 hd ha e
   rw [un_cells_of]
   try simp only [Pu.pwA,b_cells_of,n1,n2,n3,e,F_strung_eq (d := d) (a := a) (m := m) hd ha (by omega)]
  have : (k = 0 ∨ k = 1 ∨ k = 2 ∨ k = 3) := by omega
  rcases this with rfl | rfl | rfl | rfl
  ·exact key "row" 0 1 L3.ne_row_cells L3.ne_row_block L3.ne_row_step (by decide) (by decide) rfl
  ·exact key "column" 1 0 L3.ne_column_cells L3.ne_column_block L3.ne_column_step (by decide) (by decide) rfl
  ·exact key "slant" 1 1 L3.ne_slant_cells L3.ne_slant_block L3.ne_slant_step (by decide) (by decide) rfl
  ·exact key "back" 1 (-1) L3.ne_back_cells L3.ne_back_block L3.ne_back_step (by decide) (by decide) rfl
end Pv
namespace Pv
open PySem L2 L3 Pu
open Bk (Wk Dl along blockC lnName lnD lnA Un2 Fst faO faO_some faO_none ex_fst)
theorem wk_big {w : Wk} (ok : w.Ok) : Big w := by
 cases w with
 | line k m => obtain ⟨h1,h2,h3⟩ := ok;exact ⟨h1,by omega⟩
 | block h v => obtain ⟨h1,h2,h3,h4,h5⟩ := ok;exact ⟨by omega,by omega⟩
 | step d a m => obtain ⟨h1,h2,h3,h4⟩ := ok;exact ⟨by omega,by omega,by omega⟩
 | cells ps => have h := ok.2.1;show ps.length ≤ 1000;omega
theorem pc_big {w : Wk} (ok : Big w) : w.pc.length ≤ 1000000 := by
 cases w with
 | line k m => simp only [Wk.pc,along,List.length_map,List.length_range];have := ok.2;omega
 | block h v => simp only [Wk.pc,Bk.block_len];exact Nat.mul_le_mul ok.1 ok.2
 | step d a m => simp only [Wk.pc,along,List.length_map,List.length_range];have := ok.2.2;omega
 | cells ps => have : ps.length ≤ 1000 := ok;simp only [Wk.pc];omega
end Pv
namespace Pv
open PySem L2 L3 Pu
open Bk (Wk Dl along blockC lnName lnD lnA Un2 Fst faO faO_some faO_none ex_fst)
end Pv
namespace Pv
open PySem L2 L3 Pu
open Bk (Wk Dl along blockC lnName lnD lnA Un2 Fst faO faO_some faO_none ex_fst)
noncomputable def szD (d : Dl) : PyData := .tuple [.int d.R,.int d.C,.int d.B]
theorem sh1 {n : Nat} (h : n ≤ 1000) : cI CPow (fun i j => i * 2 ^ j.toNat) (.int 1) (.int (n : Int)) = some (.int (2 ^ n)) := by
 rw [cI_shl ⟨by omega,by omega,by decide⟩,Int.one_mul,Int.toNat_natCast]
theorem F_sz : ∀ (d : Dl) (j : Nat),d.dep < j → d.Ok → F_size_of j [dlD d] = some (szD d)
 | .skew r c b x y,j + 1,_,_ => by
  rw [un_size_of]
  try simp only [Pu.pwA,b_size_of,dlD,szD,Dl.R,Dl.C,Dl.B,L3.ne_skew_bits,L3.ne_skew_table,L3.ne_skew_joined]
 | .rests r c b x,j + 1,_,_ => by
  rw [un_size_of]
  try simp only [Pu.pwA,b_size_of,dlD,szD,Dl.R,Dl.C,Dl.B,L3.ne_rests_bits,L3.ne_rests_table,L3.ne_rests_joined]
 | .bits h l ms,j + 1,_,ok => by
  obtain ⟨h1,h2,h3,_⟩ := ok
  rw [un_size_of]
  try simp only [Pu.pwA,b_size_of,dlD,szD,Dl.R,Dl.C,Dl.B,eq_self,List.length_map,sh1 (n := h) (by omega),sh1 (n := l) (by omega),sh1 (n := ms.length) (by omega)]
 | .table b cells,j + 1,_,ok => by
  obtain ⟨h1,h2,h3,h4,c,h5,h6,h7⟩ := ok
  have e0 : cells[0]? = some cells[0] := List.getElem?_eq_getElem (by omega)
  have e1 : L2.atI (cells.map rowD) 0 = some (rowD cells[0]) := by
   have := atN (xs := cells.map rowD) (k := 0) (by simp;omega)
   rw [List.getElem?_map,e0] at this
   exact this
  rw [un_size_of]
  try simp only [Pu.pwA,b_size_of,dlD,szD,Dl.R,Dl.C,Dl.B,eq_self,L3.ne_table_bits,List.length_map,e1,rowD,e0,Option.getD_some]
 | .joined d e,j + 1,hd,ok => by
  have hh : max d.dep e.dep + 1 < j + 1 := hd
  have r1 := F_sz d j (by omega) ok.1
  have r2 := F_sz e j (by omega) ok.2.1
  have l1 := Dl.lims ok.1
  have l2 := Dl.lims ok.2.1
  have a1 := l1.r1;have a2 := l1.r2;have a3 := l1.c1;have a4 := l1.c2;have a5 := l1.b1;have a6 := l1.b2
  rw [un_size_of]
  try simp (disch := omega) only [Pu.pwA,b_size_of,dlD,szD,Dl.R,Dl.C,Dl.B,eq_self,L3.ne_joined_bits,L3.ne_joined_table,r1,r2,cI_mul']
noncomputable def dn (cs : List (Int × Int)) : List Int := cs.map fun p => p.1
noncomputable def al (cs : List (Int × Int)) : List Int := cs.map fun p => p.2
noncomputable def stI (R C : Int) (cs : List (Int × Int)) : List (Int × Int) := (rngI (-(mn (dn cs))) (R - mx (dn cs) - -(mn (dn cs))).toNat).flatMap fun i => (rngI (-(mn (al cs))) (C - mx (al cs) - -(mn (al cs))).toNat).map fun j => (i,j)
theorem flat_len {α β : Type} (xs : List α) (ys : List β) {γ : Type} (f : α → β → γ) : (xs.flatMap fun a => ys.map fun b => f a b).length = xs.length * ys.length := by
 induction xs with
 | nil => simp
 | cons a r ih => simp only [List.flatMap_cons,List.length_append,List.length_map,ih,List.length_cons,Nat.succ_mul];omega
structure Cb (cs : List (Int × Int)) : Prop where
 ne : cs ≠ []
 b : ∀ p ∈ cs,(-1000000 ≤ p.1∧p.1 ≤ 1000000)∧(-1000000 ≤ p.2∧p.2 ≤ 1000000)
theorem Cb.lim {cs : List (Int × Int)} (h : Cb cs) : (-1000000 ≤ mn (dn cs)∧mn (dn cs) ≤ mx (dn cs)∧mx (dn cs) ≤ 1000000)∧(-1000000 ≤ mn (al cs)∧mn (al cs) ≤ mx (al cs)∧mx (al cs) ≤ 1000000) := by
 have n1 : dn cs ≠ [] := by simp [dn,h.ne]
 have n2 : al cs ≠ [] := by simp [al,h.ne]
 have m1 := mn_mem n1;have m2 := mx_mem n1;have m3 := mn_mem n2;have m4 := mx_mem n2
 have l1 := mn_le m2;have l2 := mn_le m4
 have b1 : ∀ x ∈ dn cs,-1000000 ≤ x∧x ≤ 1000000 := fun x hx => by
  obtain ⟨p,hp,rfl⟩ := List.mem_map.mp hx
  exact (h.b p hp).1
 have b2 : ∀ x ∈ al cs,-1000000 ≤ x∧x ≤ 1000000 := fun x hx => by
  obtain ⟨p,hp,rfl⟩ := List.mem_map.mp hx
  exact (h.b p hp).2
 have := b1 _ m1;have := b1 _ m2;have := b2 _ m3;have := b2 _ m4
 omega
theorem stI_len {R C : Int} {cs : List (Int × Int)} (h : Cb cs) (hR : R ≤ 4096) (hC : C ≤ 4096) : (stI R C cs).length ≤ 16777216 := by
 obtain ⟨⟨h1,h2,h3⟩,⟨h4,h5,h6⟩⟩ := h.lim
 unfold stI
 rw [flat_len,rngI_len,rngI_len]
 have a : (R - mx (dn cs) - -(mn (dn cs))).toNat ≤ 4096 := by omega
 have b : (C - mx (al cs) - -(mn (al cs))).toNat ≤ 4096 := by omega
 exact Nat.le_trans (Nat.mul_le_mul a b) (by decide)
theorem F_st {d : Dl} {w : Wk} {j : Nat} (hd : d.dep < j) (okd : d.Ok) (ok : Big w) (hc : Cb w.pc) : F_starts j [dlD d,Wk.d w] = some (.list ((stI d.R d.C w.pc).map pD)) := by
 have hl := pc_big ok
 have l := Dl.lims okd
 have := l.r1;have := l.r2;have := l.c1;have := l.c2
 obtain ⟨⟨h1,h2,h3⟩,⟨h4,h5,h6⟩⟩ := hc.lim
 rw [un_starts]
 try simp only [Pu.pwA,b_starts,F_sz d j hd okd,szD,F_cells_eq ok]
 rw [lcF_ok (ds := w.pc.map pD) (fs := (dn w.pc).map PyData.int) rfl (by
  rw [dn,List.map_map]
  refine lcP_map fun p hp => ?_
  try simp only [Pu.pwA,lcH_k,pD,Function.comp_def]) (by simp [dn];omega)]
 try simp only [Pu.pwA]
 rw [lcF_ok (ds := w.pc.map pD) (fs := (al w.pc).map PyData.int) rfl (by
  rw [al,List.map_map]
  refine lcP_map fun p hp => ?_
  try simp only [Pu.pwA,lcH_k,pD,Function.comp_def]) (by simp [al];omega)]
 try simp only [Pu.pwA]
 have n1 : dn w.pc ≠ [] := by simp [dn,hc.ne]
 have n2 : al w.pc ≠ [] := by simp [al,hc.ne]
 rw [lc2F_ok (ds := (rngI (-(mn (dn w.pc))) (d.R - mx (dn w.pc) - -(mn (dn w.pc))).toNat).map PyData.int) (fs := (stI d.R d.C w.pc).map pD)]
 ·try simp only [Pu.pwA]
 ·try simp (disch := omega) only [Pu.pwA,mnD_l n1,mxD_l n1,rng2]
 ·have : (stI d.R d.C w.pc).map pD = (rngI (-(mn (dn w.pc))) (d.R - mx (dn w.pc) - -(mn (dn w.pc))).toNat).flatMap fun i => (rngI (-(mn (al w.pc))) (d.C - mx (al w.pc) - -(mn (al w.pc))).toNat).map fun j => pD (i,j) := by
   simp only [stI,List.map_flatMap,List.map_map,Function.comp_def]
  rw [this]
  refine lc2P_map fun i hi => ?_
  try simp (disch := omega) only [Pu.pwA,lc2H_k,mnD_l n2,mxD_l n2,rng2]
  rw [lcP_map (k := fun q => pD (i,q)) fun q hq => ?_]
  ·try simp only [Pu.pwA]
  ·try simp only [Pu.pwA,lcH_k,pD]
 ·rw [List.length_map];exact stI_len hc l.r2 l.c2
theorem along_cb {x y : Int} {m : Nat} (hx : -1000 ≤ x∧x ≤ 1000) (hy : -1000 ≤ y∧y ≤ 1000) (h1 : 1 ≤ m) (h2 : m ≤ 1000) : Cb (along x y m) := by
 refine ⟨by simp [along];omega,fun p hp => ?_⟩
 simp only [along,List.mem_map,List.mem_range] at hp
 obtain ⟨t,ht,rfl⟩ := hp
 have k1 : (t : Int) * x ≤ 1000 * 1000 := by
  rcases Int.le_total 0 x with z | z
  ·exact Int.mul_le_mul (by omega) hx.2 z (by omega)
  ·have := Int.mul_nonpos_of_nonneg_of_nonpos (a := (t : Int)) (b := x) (by omega) z;omega
 have k2 : -(1000 * 1000) ≤ (t : Int) * x := by
  rcases Int.le_total 0 x with z | z
  ·have := Int.mul_nonneg (a := (t : Int)) (b := x) (by omega) z;omega
  ·have := Int.mul_le_mul (a := (t : Int)) (b := -x) (c := 1000) (d := 1000) (by omega) (by omega) (by omega) (by omega)
   rw [Int.mul_neg] at this;omega
 have k3 : (t : Int) * y ≤ 1000 * 1000 := by
  rcases Int.le_total 0 y with z | z
  ·exact Int.mul_le_mul (by omega) hy.2 z (by omega)
  ·have := Int.mul_nonpos_of_nonneg_of_nonpos (a := (t : Int)) (b := y) (by omega) z;omega
 have k4 : -(1000 * 1000) ≤ (t : Int) * y := by
  rcases Int.le_total 0 y with z | z
  ·have := Int.mul_nonneg (a := (t : Int)) (b := y) (by omega) z;omega
  ·have := Int.mul_le_mul (a := (t : Int)) (b := -y) (c := 1000) (d := 1000) (by omega) (by omega) (by omega) (by omega)
   rw [Int.mul_neg] at this;omega
 simp only
 omega
end Pv
namespace Pv
open PySem L2 L3 Pu
end Pv
namespace Pv
open PySem L2 L3 Pu
open Bk (pop oddC bitsFrom bitsBank pop_zero pop_more Dl chosen chosen_sum chosen_len chosen_mem)
end Pv
namespace Pv
open PySem L2 L3 Pu
open Bk (pop oddC bitsFrom bitsBank pop_zero pop_more Dl)
end Pv
namespace Pv
open PySem L2 L3 Pu
open Bk (pop oddC bitsFrom bitsBank Dl)
end Pv
namespace K14
open PySem L2 L3 Bk
noncomputable def top (i : Nat) : Stmt := PySem.Challenge.pw_bankwalk_k14_starts_of_walks.main.body.getD i (.Pass ⟨0,0,0,0⟩)
noncomputable abbrev st_size_of : Stmt := top 1
theorem sc_size_of : FnScope ["dealing","kind","rows","columns","banks","other_rows","other_columns","other_banks"] ["dealing"] (defScope st_size_of) := ⟨rfl,rfl,rfl,by decide +kernel,rfl,by decide +kernel,by decide +kernel⟩
theorem ok_size_of {P : Program} {w : World} {K : PySem.W.Frag} {mg : Str → Option Value} {base : Heap} {f : Addr} {fd : FuncData} {k : Nat} {sp : Sp3} {S_size_of : Sp3} (F : Fun K "size_of" "size_of" st_size_of f fd) (bd : Binds K fd ["dealing"] []) (hm : mg "size_of" = some (.ref f)) (F_size_of : Fn3 P w K mg base k "size_of" S_size_of) (m_len : mg "len" = none)
  (read : ∀ ts G q,sp ts G q → ts.length = 1∧(Bk.t_size_of S_size_of) { nx := fun _ G' => q .non G',rt := q } (start3 ["dealing","kind","rows","columns","banks","other_rows","other_columns","other_banks"] ts) G) : Fn3 P w K mg base (k + 1) "size_of" sp :=
 jfn3_of (t3 := (Bk.t_size_of S_size_of)) F sc_size_of bd hm (fun cdv A outer s H E hr => (jb_cons (js_set 1 sc_size_of.nd (je_ix (je_var 0) je_int)) (jb_cons (js_if (jt_cmp (op_eqA hr.units) ref_eqA (je_var 1) je_str (nomark _)) (jb_one (js_ret (je_tup (ja_cons (je_shl je_int (je_ix (je_var 0) je_int)) (ja_cons (je_shl je_int (je_ix (je_var 0) je_int)) (ja_cons (je_shl je_int (je_callB call_len ref_len rfl m_len PySem.boot_len (ja_cons (je_ix (je_var 0) je_int) ja_nil))) ja_nil)))))) jb_nil) (jb_cons (js_if (jt_cmp (op_eqA hr.units) ref_eqA (je_var 1) je_str (nomark _)) (jb_one (js_ret (je_tup (ja_cons (je_callB call_len ref_len rfl m_len PySem.boot_len (ja_cons (je_ix (je_var 0) je_int) ja_nil)) (ja_cons (je_callB call_len ref_len rfl m_len PySem.boot_len (ja_cons (je_ix (je_ix (je_var 0) je_int) je_int) ja_nil)) (ja_cons (je_ix (je_var 0) je_int) ja_nil)))))) jb_nil) (jb_cons (js_if (jt_cmp (op_eqA hr.units) ref_eqA (je_var 1) je_str (nomark _)) (jb_cons (js_asg (je_call F_size_of hr rfl (ja_cons (je_ix (je_var 0) je_int) ja_nil)) (jg_tup rfl (jg_cons (jg_name (i := 2) (sc_size_of.nd)) (jg_cons (jg_name (i := 3) (sc_size_of.nd)) (jg_cons (jg_name (i := 4) (sc_size_of.nd)) jg_nil))))) (jb_cons (js_asg (je_call F_size_of hr rfl (ja_cons (je_ix (je_var 0) je_int) ja_nil)) (jg_tup rfl (jg_cons (jg_name (i := 5) (sc_size_of.nd)) (jg_cons (jg_name (i := 6) (sc_size_of.nd)) (jg_cons (jg_name (i := 7) (sc_size_of.nd)) jg_nil))))) (jb_one (js_ret (je_tup (ja_cons (je_mul (je_var 2) (je_var 5)) (ja_cons (je_mul (je_var 3) (je_var 6)) (ja_cons (je_mul (je_var 4) (je_var 7)) ja_nil)))))))) jb_nil) (jb_one (js_ret (je_tup (ja_cons (je_ix (je_var 0) je_int) (ja_cons (je_ix (je_var 0) je_int) (ja_cons (je_ix (je_var 0) je_int) ja_nil))))))))))) read
noncomputable abbrev st_strung : Stmt := top 4
theorem sc_strung : FnScope ["down","along","many"] ["down","along","many"] (defScope st_strung) := ⟨rfl,rfl,rfl,by decide +kernel,rfl,by decide +kernel,by decide +kernel⟩
theorem ok_strung {P : Program} {w : World} {K : PySem.W.Frag} {mg : Str → Option Value} {base : Heap} {f : Addr} {fd : FuncData} {k : Nat} {sp : Sp3} (F : Fun K "strung" "strung" st_strung f fd) (bd : Binds K fd ["down","along","many"] []) (hm : mg "strung" = some (.ref f))  (m_range : mg "range" = none)
  (read : ∀ ts G q,sp ts G q → ts.length = 3∧(Bk.t_strung) { nx := fun _ G' => q .non G',rt := q } (start3 ["down","along","many"] ts) G) : Fn3 P w K mg base (k + 1) "strung" sp :=
 jfn3_of (t3 := (Bk.t_strung)) F sc_strung bd hm (fun cdv A outer s H E hr => (jb_one (js_ret (je_lc ["t","down","along"] [none,some 0,some 1] rfl (ji_range1 rfl m_range (ja_cons (je_var 2) ja_nil) (h1 := by intro _ _ _ h;simpa [cons3,nil3] using h)) (fun _ _ _ => (jg_name (i := 0) (show (["t","down","along"] : List Str).Nodup by decide +kernel))) (fun _ _ _ => jf_nil) (fun _ _ _ => (je_tup (ja_cons (je_mul (je_var 0) (je_var 1)) (ja_cons (je_mul (je_var 0) (je_var 2)) ja_nil)))) (show scOk (defScope st_strung) _ = true by decide +kernel) (show capOk ["down","along","many"] ["t","down","along"] _ [none,some 0,some 1] = true by decide +kernel))))) read
noncomputable abbrev st_cells_of : Stmt := top 5
theorem sc_cells_of : FnScope ["walk","kind","down","along"] ["walk"] (defScope st_cells_of) := ⟨rfl,rfl,rfl,by decide +kernel,rfl,by decide +kernel,by decide +kernel⟩
theorem ok_cells_of {P : Program} {w : World} {K : PySem.W.Frag} {mg : Str → Option Value} {base : Heap} {f : Addr} {fd : FuncData} {k : Nat} {sp : Sp3} {S_strung : Sp3} (F : Fun K "cells_of" "cells_of" st_cells_of f fd) (bd : Binds K fd ["walk"] []) (hm : mg "cells_of" = some (.ref f)) (F_strung : Fn3 P w K mg base k "strung" S_strung) (m_list : mg "list" = none) (m_range : mg "range" = none) (m_STRIDES : Tb K mg w "STRIDES" stridesT)
  (read : ∀ ts G q,sp ts G q → ts.length = 1∧(Bk.t_cells_of S_strung) { nx := fun _ G' => q .non G',rt := q } (start3 ["walk","kind","down","along"] ts) G) : Fn3 P w K mg base (k + 1) "cells_of" sp :=
 jfn3_of (t3 := (Bk.t_cells_of S_strung)) F sc_cells_of bd hm (fun cdv A outer s H E hr => (jb_cons (js_set 1 sc_cells_of.nd (je_ix (je_var 0) je_int)) (jb_cons (js_if (jt_cmp (op_eqA hr.units) ref_eqA (je_var 1) je_str (nomark _)) (jb_one (js_ret (je_callTy call_list_of ref_list rfl m_list PyProof.Rows.boot_list (ja_cons (je_ix (je_var 0) je_int) ja_nil)))) jb_nil) (jb_cons (js_if (jt_cmp (op_eqA hr.units) ref_eqA (je_var 1) je_str (nomark _)) (jb_one (js_ret (je_lc2 ["p","q","walk"] [none,none,some 0] rfl (ji_range1 rfl m_range (ja_cons (je_ix (je_var 0) je_int) ja_nil) (h1 := by intro _ _ _ h;simpa [cons3,nil3] using h)) (fun _ _ _ => (jg_name (i := 0) (show (["p","q","walk"] : List Str).Nodup by decide +kernel))) (fun _ _ _ => jf_nil) (fun _ _ _ => (ji_range1 rfl m_range (ja_cons (je_ix (je_var 2) je_int) ja_nil) (h1 := by intro _ _ _ h;simpa [cons3,nil3] using h))) (fun _ _ _ => (jg_name (i := 1) (show (["p","q","walk"] : List Str).Nodup by decide +kernel))) (fun _ _ _ => jf_nil) (fun _ _ _ => (je_tup (ja_cons (je_var 0) (ja_cons (je_var 1) ja_nil)))) (show scOk (defScope st_cells_of) _ = true by decide +kernel) (show capOk ["walk","kind","down","along"] ["p","q","walk"] _ [none,none,some 0] = true by decide +kernel)))) jb_nil) (jb_cons (js_if (jt_cmp (op_eqA hr.units) ref_eqA (je_var 1) je_str (nomark _)) (jb_one (js_ret (je_call F_strung hr rfl (ja_cons (je_ix (je_var 0) je_int) (ja_cons (je_ix (je_var 0) je_int) (ja_cons (je_ix (je_var 0) je_int) ja_nil)))))) jb_nil) (jb_cons (js_asg (je_tget m_STRIDES rfl (je_var 1) (fun _ _ => rfl)) (jg_tup rfl (jg_cons (jg_name (i := 2) (sc_cells_of.nd)) (jg_cons (jg_name (i := 3) (sc_cells_of.nd)) jg_nil)))) (jb_one (js_ret (je_call F_strung hr rfl (ja_cons (je_var 2) (ja_cons (je_var 3) (ja_cons (je_ix (je_var 0) je_int) ja_nil)))))))))))) read
noncomputable abbrev st_starts : Stmt := top 6
theorem sc_starts : FnScope ["dealing","walk","rows","columns","banks","cells","downs","alongs"] ["dealing","walk"] (defScope st_starts) := ⟨rfl,rfl,rfl,by decide +kernel,rfl,by decide +kernel,by decide +kernel⟩
theorem ok_starts {P : Program} {w : World} {K : PySem.W.Frag} {mg : Str → Option Value} {base : Heap} {f : Addr} {fd : FuncData} {k : Nat} {sp : Sp3} {S_size_of : Sp3} {S_cells_of : Sp3} (F : Fun K "starts" "starts" st_starts f fd) (bd : Binds K fd ["dealing","walk"] []) (hm : mg "starts" = some (.ref f)) (F_size_of : Fn3 P w K mg base k "size_of" S_size_of) (F_cells_of : Fn3 P w K mg base k "cells_of" S_cells_of) (m_min : mg "min" = none) (m_max : mg "max" = none) (m_range : mg "range" = none)
  (read : ∀ ts G q,sp ts G q → ts.length = 2∧(Bk.t_starts S_size_of S_cells_of) { nx := fun _ G' => q .non G',rt := q } (start3 ["dealing","walk","rows","columns","banks","cells","downs","alongs"] ts) G) : Fn3 P w K mg base (k + 1) "starts" sp :=
 jfn3_of (t3 := (Bk.t_starts S_size_of S_cells_of)) F sc_starts bd hm (fun cdv A outer s H E hr => (jb_cons (js_asg (je_call F_size_of hr rfl (ja_cons (je_var 0) ja_nil)) (jg_tup rfl (jg_cons (jg_name (i := 2) (sc_starts.nd)) (jg_cons (jg_name (i := 3) (sc_starts.nd)) (jg_cons (jg_name (i := 4) (sc_starts.nd)) jg_nil))))) (jb_cons (js_set 5 sc_starts.nd (je_call F_cells_of hr rfl (ja_cons (je_var 1) ja_nil))) (jb_cons (js_lcset 6 ["p","q"] [none,none] rfl sc_starts.nd (ji_seq (je_var 5)) (fun _ _ _ => (jg_tup rfl (jg_cons (jg_name (i := 0) (show (["p","q"] : List Str).Nodup by decide +kernel)) (jg_cons (jg_name (i := 1) (show (["p","q"] : List Str).Nodup by decide +kernel)) jg_nil)))) (fun _ _ _ => jf_nil) (fun _ _ _ => (je_var 0)) (show scOk (defScope st_starts) _ = true by decide +kernel) (show capOk ["dealing","walk","rows","columns","banks","cells","downs","alongs"] ["p","q"] _ [none,none] = true by decide +kernel) rfl rfl) (jb_cons (js_set 7 sc_starts.nd (je_lc ["p","q"] [none,none] rfl (ji_seq (je_var 5)) (fun _ _ _ => (jg_tup rfl (jg_cons (jg_name (i := 0) (show (["p","q"] : List Str).Nodup by decide +kernel)) (jg_cons (jg_name (i := 1) (show (["p","q"] : List Str).Nodup by decide +kernel)) jg_nil)))) (fun _ _ _ => jf_nil) (fun _ _ _ => (je_var 1)) (show scOk (defScope st_starts) _ = true by decide +kernel) (show capOk ["dealing","walk","rows","columns","banks","cells","downs","alongs"] ["p","q"] _ [none,none] = true by decide +kernel))) (jb_one (js_ret (je_lc2 ["i","j","columns","alongs"] [none,none,some 3,some 7] rfl (ji_range2 rfl m_range (ja_cons (je_neg (je_callB (call_minL rfl) ref_minL rfl m_min PyProof.Rows.boot_min (ja_cons (je_var 6) ja_nil))) (ja_cons (je_sub (je_var 2) (je_callB (call_maxL rfl) ref_maxL rfl m_max PyProof.Rows.boot_max (ja_cons (je_var 6) ja_nil))) ja_nil)) (h1 := by intro _ _ _ h;simpa [cons3,nil3] using h)) (fun _ _ _ => (jg_name (i := 0) (show (["i","j","columns","alongs"] : List Str).Nodup by decide +kernel))) (fun _ _ _ => jf_nil) (fun _ _ _ => (ji_range2 rfl m_range (ja_cons (je_neg (je_callB (call_minL rfl) ref_minL rfl m_min PyProof.Rows.boot_min (ja_cons (je_var 3) ja_nil))) (ja_cons (je_sub (je_var 2) (je_callB (call_maxL rfl) ref_maxL rfl m_max PyProof.Rows.boot_max (ja_cons (je_var 3) ja_nil))) ja_nil)) (h1 := by intro _ _ _ h;simpa [cons3,nil3] using h))) (fun _ _ _ => (jg_name (i := 1) (show (["i","j","columns","alongs"] : List Str).Nodup by decide +kernel))) (fun _ _ _ => jf_nil) (fun _ _ _ => (je_tup (ja_cons (je_var 0) (ja_cons (je_var 1) ja_nil)))) (show scOk (defScope st_starts) _ = true by decide +kernel) (show capOk ["dealing","walk","rows","columns","banks","cells","downs","alongs"] ["i","j","columns","alongs"] _ [none,none,some 3,some 7] = true by decide +kernel))))))))) read
noncomputable abbrev st_law_mix : Stmt := top 8
theorem sc_law_mix : FnScope ["_law_cell","_law_k","_law_m"] ["_law_cell","_law_k"] (defScope st_law_mix) := ⟨rfl,rfl,rfl,by decide +kernel,rfl,by decide +kernel,by decide +kernel⟩
theorem ok_law_mix {P : Program} {w : World} {K : PySem.W.Frag} {mg : Str → Option Value} {base : Heap} {f : Addr} {fd : FuncData} {k : Nat} {sp : Sp3} (F : Fun K "_law_mix" "_law_mix" st_law_mix f fd) (bd : Binds K fd ["_law_cell","_law_k"] []) (hm : mg "_law_mix" = some (.ref f))  
  (read : ∀ ts G q,sp ts G q → ts.length = 2∧(Bk.t_law_mix) { nx := fun _ G' => q .non G',rt := q } (start3 ["_law_cell","_law_k","_law_m"] ts) G) : Fn3 P w K mg base (k + 1) "_law_mix" sp :=
 jfn3_of (t3 := (Bk.t_law_mix)) F sc_law_mix bd hm (fun cdv A outer s H E hr => (jb_cons (js_set 2 sc_law_mix.nd (je_mod (je_mul (je_plus (je_plus (je_mod (je_var 0) je_int) (je_mul (je_mul (je_var 1) (je_var 1)) je_int)) je_int) je_int) je_int)) (jb_one (js_ret (je_mod (je_mul (je_var 2) (je_var 2)) je_int))))) read
noncomputable abbrev st_law_left : Stmt := top 9
theorem sc_law_left : FnScope ["_law_script","_law_k","_law_cell","_law_own"] ["_law_script","_law_k"] (defScope st_law_left) := ⟨rfl,rfl,rfl,by decide +kernel,rfl,by decide +kernel,by decide +kernel⟩
theorem ok_law_left {P : Program} {w : World} {K : PySem.W.Frag} {mg : Str → Option Value} {base : Heap} {f : Addr} {fd : FuncData} {k : Nat} {sp : Sp3} (F : Fun K "_law_left" "_law_left" st_law_left f fd) (bd : Binds K fd ["_law_script","_law_k"] []) (hm : mg "_law_left" = some (.ref f))  (m_len : mg "len" = none) (m_abs : mg "abs" = none)
  (read : ∀ ts G q,sp ts G q → ts.length = 2∧(Bk.t_law_left) { nx := fun _ G' => q .non G',rt := q } (start3 ["_law_script","_law_k","_law_cell","_law_own"] ts) G) : Fn3 P w K mg base (k + 1) "_law_left" sp :=
 jfn3_of (t3 := (Bk.t_law_left)) F sc_law_left bd hm (fun cdv A outer s H E hr => (jb_cons (js_set 2 sc_law_left.nd (je_if (jt_cmp op_lt ref_iB (je_var 1) (je_callB call_len ref_len rfl m_len PySem.boot_len (ja_cons (je_var 0) ja_nil)) (nomark _)) (je_ix (je_var 0) (je_var 1)) je_int)) (jb_cons (js_set 3 sc_law_left.nd (je_if (jt_cmp op_ge ref_iB (je_callB call_abs ref_abs rfl m_abs PyProof.Rows.boot_abs (ja_cons (je_var 2) ja_nil)) (je_pow je_int je_int) (nomark _)) (je_callB call_abs ref_abs rfl m_abs PyProof.Rows.boot_abs (ja_cons (je_var 2) ja_nil)) je_int)) (jb_one (js_ret (je_lst (ja_cons (je_var 3) (ja_cons (je_plus (je_var 2) (je_mul je_int (je_var 1))) (ja_cons je_int ja_nil))))))))) read
noncomputable abbrev st_law_pick : Stmt := top 10
theorem sc_law_pick : FnScope ["_law_left_here","_law_many_here","_law_digit"] ["_law_left_here","_law_many_here"] (defScope st_law_pick) := ⟨rfl,rfl,rfl,by decide +kernel,rfl,by decide +kernel,by decide +kernel⟩
theorem ok_law_pick {P : Program} {w : World} {K : PySem.W.Frag} {mg : Str → Option Value} {base : Heap} {f : Addr} {fd : FuncData} {k : Nat} {sp : Sp3} {S_law_mix : Sp3} (F : Fun K "_law_pick" "_law_pick" st_law_pick f fd) (bd : Binds K fd ["_law_left_here","_law_many_here"] []) (hm : mg "_law_pick" = some (.ref f)) (F_law_mix : Fn3 P w K mg base k "_law_mix" S_law_mix) 
  (read : ∀ ts G q,sp ts G q → ts.length = 2∧(Bk.t_law_pick S_law_mix) { nx := fun _ G' => q .non G',rt := q } (start3 ["_law_left_here","_law_many_here","_law_digit"] ts) G) : Fn3 P w K mg base (k + 1) "_law_pick" sp :=
 jfn3_of (t3 := (Bk.t_law_pick S_law_mix)) F sc_law_pick bd hm (fun cdv A outer s H E hr => (jb_cons (js_asg (je_plus (je_ix (je_var 0) je_int) je_int) (jg_sub (je_var 0) je_int)) (jb_cons (js_if (jt_cmp op_gt ref_iB (je_ix (je_var 0) je_int) je_int (nomark _)) (jb_cons (js_set 2 sc_law_pick.nd (je_mod (je_ix (je_var 0) je_int) (je_var 1))) (jb_cons (js_asg (je_div (je_ix (je_var 0) je_int) (je_var 1)) (jg_sub (je_var 0) je_int)) (jb_one (js_ret (je_var 2))))) jb_nil) (jb_one (js_ret (je_mod (je_div (je_call F_law_mix hr rfl (ja_cons (je_call F_law_mix hr rfl (ja_cons (je_ix (je_var 0) je_int) (ja_cons (je_ix (je_var 0) je_int) ja_nil))) (ja_cons (je_plus (je_ix (je_var 0) je_int) je_int) ja_nil))) je_int) (je_var 1))))))) read
noncomputable abbrev st_law_sides : Stmt := top 11
theorem sc_law_sides : FnScope ["_law_left_here","_law_wide","_law_rows","_law_columns"] ["_law_left_here"] (defScope st_law_sides) := ⟨rfl,rfl,rfl,by decide +kernel,rfl,by decide +kernel,by decide +kernel⟩
theorem ok_law_sides {P : Program} {w : World} {K : PySem.W.Frag} {mg : Str → Option Value} {base : Heap} {f : Addr} {fd : FuncData} {k : Nat} {sp : Sp3} {S_law_pick : Sp3} (F : Fun K "_law_sides" "_law_sides" st_law_sides f fd) (bd : Binds K fd ["_law_left_here"] []) (hm : mg "_law_sides" = some (.ref f)) (F_law_pick : Fn3 P w K mg base k "_law_pick" S_law_pick) 
  (read : ∀ ts G q,sp ts G q → ts.length = 1∧(Bk.t_law_sides S_law_pick) { nx := fun _ G' => q .non G',rt := q } (start3 ["_law_left_here","_law_wide","_law_rows","_law_columns"] ts) G) : Fn3 P w K mg base (k + 1) "_law_sides" sp :=
 jfn3_of (t3 := (Bk.t_law_sides S_law_pick)) F sc_law_sides bd hm (fun cdv A outer s H E hr => (jb_cons (js_set 1 sc_law_sides.nd (je_ix (je_lst (ja_cons je_int (ja_cons je_int (ja_cons je_int (ja_cons je_int ja_nil))))) (je_call F_law_pick hr rfl (ja_cons (je_var 0) (ja_cons je_int ja_nil))))) (jb_cons (js_par (i := 2) (j := 3) rfl sc_law_sides.nd rfl rfl (by decide) rfl rfl (ja_cons (je_plus je_int (je_call F_law_pick hr rfl (ja_cons (je_var 0) (ja_cons (je_var 1) ja_nil)))) (ja_cons (je_plus je_int (je_call F_law_pick hr rfl (ja_cons (je_var 0) (ja_cons (je_var 1) ja_nil)))) ja_nil))) (jb_one (js_ret (je_ix (je_lst (ja_cons (je_tup (ja_cons (je_var 2) (ja_cons (je_var 3) ja_nil))) (ja_cons (je_tup (ja_cons (je_var 2) (ja_cons (je_var 3) ja_nil))) (ja_cons (je_tup (ja_cons (je_var 2) (ja_cons (je_var 3) ja_nil))) (ja_cons (je_tup (ja_cons (je_var 2) (ja_cons (je_var 2) ja_nil))) ja_nil))))) (je_call F_law_pick hr rfl (ja_cons (je_var 0) (ja_cons je_int ja_nil))))))))) read
noncomputable abbrev st_law_gcd : Stmt := top 12
theorem sc_law_gcd : FnScope ["_law_one","_law_other"] ["_law_one","_law_other"] (defScope st_law_gcd) := ⟨rfl,rfl,rfl,by decide +kernel,rfl,by decide +kernel,by decide +kernel⟩
theorem ok_law_gcd {P : Program} {w : World} {K : PySem.W.Frag} {mg : Str → Option Value} {base : Heap} {f : Addr} {fd : FuncData} {k : Nat} {sp : Sp3} (F : Fun K "_law_gcd" "_law_gcd" st_law_gcd f fd) (bd : Binds K fd ["_law_one","_law_other"] []) (hm : mg "_law_gcd" = some (.ref f))  
  (read : ∀ ts G q,sp ts G q → ts.length = 2∧(Bk.t_law_gcd) { nx := fun _ G' => q .non G',rt := q } (start3 ["_law_one","_law_other"] ts) G) : Fn3 P w K mg base (k + 1) "_law_gcd" sp :=
 jfn3_of (t3 := (Bk.t_law_gcd)) F sc_law_gcd bd hm (fun cdv A outer s H E hr => (jb_cons (js_while PassesOwn.never (jt_cmp op_gt ref_iB (je_var 1) je_int (nomark _)) (jb_one (js_par (i := 0) (j := 1) rfl sc_law_gcd.nd rfl rfl (by decide) rfl rfl (ja_cons (je_var 1) (ja_cons (je_mod (je_var 0) (je_var 1)) ja_nil))))) (jb_one (js_ret (je_var 0))))) read
noncomputable abbrev st_law_skew : Stmt := top 13
theorem sc_law_skew : FnScope ["_law_left_here","_law_rows","_law_columns","_law_banks","_law_wide"] ["_law_left_here"] (defScope st_law_skew) := ⟨rfl,rfl,rfl,by decide +kernel,rfl,by decide +kernel,by decide +kernel⟩
theorem ok_law_skew {P : Program} {w : World} {K : PySem.W.Frag} {mg : Str → Option Value} {base : Heap} {f : Addr} {fd : FuncData} {k : Nat} {sp : Sp3} {S_law_sides : Sp3} {S_law_pick : Sp3} (F : Fun K "_law_skew" "_law_skew" st_law_skew f fd) (bd : Binds K fd ["_law_left_here"] []) (hm : mg "_law_skew" = some (.ref f)) (F_law_sides : Fn3 P w K mg base k "_law_sides" S_law_sides) (F_law_pick : Fn3 P w K mg base k "_law_pick" S_law_pick) 
  (read : ∀ ts G q,sp ts G q → ts.length = 1∧(Bk.t_law_skew S_law_sides S_law_pick) { nx := fun _ G' => q .non G',rt := q } (start3 ["_law_left_here","_law_rows","_law_columns","_law_banks","_law_wide"] ts) G) : Fn3 P w K mg base (k + 1) "_law_skew" sp :=
 jfn3_of (t3 := (Bk.t_law_skew S_law_sides S_law_pick)) F sc_law_skew bd hm (fun cdv A outer s H E hr => (jb_cons (js_asg (je_call F_law_sides hr rfl (ja_cons (je_var 0) ja_nil)) (jg_tup rfl (jg_cons (jg_name (i := 1) (sc_law_skew.nd)) (jg_cons (jg_name (i := 2) (sc_law_skew.nd)) jg_nil)))) (jb_cons (js_set 3 sc_law_skew.nd (je_plus je_int (je_call F_law_pick hr rfl (ja_cons (je_var 0) (ja_cons (je_ix (je_lst (ja_cons je_int (ja_cons je_int (ja_cons je_int (ja_cons je_int ja_nil))))) (je_call F_law_pick hr rfl (ja_cons (je_var 0) (ja_cons je_int ja_nil)))) ja_nil))))) (jb_cons (js_set 4 sc_law_skew.nd (je_ix (je_lst (ja_cons (je_var 3) (ja_cons je_int (ja_cons je_int ja_nil)))) (je_call F_law_pick hr rfl (ja_cons (je_var 0) (ja_cons je_int ja_nil))))) (jb_one (js_ret (je_tup (ja_cons je_str (ja_cons (je_var 1) (ja_cons (je_var 2) (ja_cons (je_var 3) (ja_cons (je_call F_law_pick hr rfl (ja_cons (je_var 0) (ja_cons (je_var 4) ja_nil))) (ja_cons (je_call F_law_pick hr rfl (ja_cons (je_var 0) (ja_cons (je_var 4) ja_nil))) ja_nil))))))))))))) read
noncomputable abbrev st_law_rests : Stmt := top 14
theorem sc_law_rests : FnScope ["_law_left_here","_law_rows","_law_columns","_law_banks","_law_places","_law_turn"] ["_law_left_here"] (defScope st_law_rests) := ⟨rfl,rfl,rfl,by decide +kernel,rfl,by decide +kernel,by decide +kernel⟩
theorem ok_law_rests {P : Program} {w : World} {K : PySem.W.Frag} {mg : Str → Option Value} {base : Heap} {f : Addr} {fd : FuncData} {k : Nat} {sp : Sp3} {S_law_sides : Sp3} {S_law_pick : Sp3} {S_law_gcd : Sp3} (F : Fun K "_law_rests" "_law_rests" st_law_rests f fd) (bd : Binds K fd ["_law_left_here"] []) (hm : mg "_law_rests" = some (.ref f)) (F_law_sides : Fn3 P w K mg base k "_law_sides" S_law_sides) (F_law_pick : Fn3 P w K mg base k "_law_pick" S_law_pick) (F_law_gcd : Fn3 P w K mg base k "_law_gcd" S_law_gcd) (m_range : mg "range" = none)
  (read : ∀ ts G q,sp ts G q → ts.length = 1∧(Bk.t_law_rests S_law_sides S_law_pick S_law_gcd) { nx := fun _ G' => q .non G',rt := q } (start3 ["_law_left_here","_law_rows","_law_columns","_law_banks","_law_places","_law_turn"] ts) G) : Fn3 P w K mg base (k + 1) "_law_rests" sp :=
 jfn3_of (t3 := (Bk.t_law_rests S_law_sides S_law_pick S_law_gcd)) F sc_law_rests bd hm (fun cdv A outer s H E hr => (jb_cons (js_asg (je_call F_law_sides hr rfl (ja_cons (je_var 0) ja_nil)) (jg_tup rfl (jg_cons (jg_name (i := 1) (sc_law_rests.nd)) (jg_cons (jg_name (i := 2) (sc_law_rests.nd)) jg_nil)))) (jb_cons (js_set 3 sc_law_rests.nd (je_plus je_int (je_call F_law_pick hr rfl (ja_cons (je_var 0) (ja_cons (je_ix (je_lst (ja_cons je_int (ja_cons je_int (ja_cons je_int ja_nil)))) (je_call F_law_pick hr rfl (ja_cons (je_var 0) (ja_cons je_int ja_nil)))) ja_nil))))) (jb_cons (js_set 4 sc_law_rests.nd (je_plus (je_neg (je_div (je_mul (je_neg (je_var 1)) (je_var 2)) (je_var 3))) (je_call F_law_pick hr rfl (ja_cons (je_var 0) (ja_cons je_int ja_nil))))) (jb_cons (js_for PassesOwn.never rfl (ji_range1 rfl m_range (ja_cons je_int ja_nil) (h1 := by intro _ _ _ h;simpa [cons3,nil3] using h)) (jg_name (i := 5) (sc_law_rests.nd)) (jb_one (js_if (jt_cmp op_gt ref_iB (je_call F_law_gcd hr rfl (ja_cons (je_var 3) (ja_cons (je_var 4) ja_nil))) je_int (nomark _)) (jb_one (js_set 4 sc_law_rests.nd (je_plus (je_var 4) je_int))) jb_nil))) (jb_one (js_ret (je_tup (ja_cons je_str (ja_cons (je_var 1) (ja_cons (je_var 2) (ja_cons (je_var 3) (ja_cons (je_var 4) ja_nil))))))))))))) read
noncomputable abbrev st_law_bits : Stmt := top 15
theorem sc_law_bits : FnScope ["_law_left_here","_law_most","_law_high","_law_low","_law_masks","_law_wide"] ["_law_left_here","_law_most"] (defScope st_law_bits) := ⟨rfl,rfl,rfl,by decide +kernel,rfl,by decide +kernel,by decide +kernel⟩
theorem ok_law_bits {P : Program} {w : World} {K : PySem.W.Frag} {mg : Str → Option Value} {base : Heap} {f : Addr} {fd : FuncData} {k : Nat} {sp : Sp3} {S_law_pick : Sp3} (F : Fun K "_law_bits" "_law_bits" st_law_bits f fd) (bd : Binds K fd ["_law_left_here","_law_most"] []) (hm : mg "_law_bits" = some (.ref f)) (F_law_pick : Fn3 P w K mg base k "_law_pick" S_law_pick) (m_range : mg "range" = none) (m_tuple : mg "tuple" = none)
  (read : ∀ ts G q,sp ts G q → ts.length = 2∧(Bk.t_law_bits S_law_pick) { nx := fun _ G' => q .non G',rt := q } (start3 ["_law_left_here","_law_most","_law_high","_law_low","_law_masks","_law_wide"] ts) G) : Fn3 P w K mg base (k + 1) "_law_bits" sp :=
 jfn3_of (t3 := (Bk.t_law_bits S_law_pick)) F sc_law_bits bd hm (fun cdv A outer s H E hr => (jb_cons (js_par (i := 2) (j := 3) rfl sc_law_bits.nd rfl rfl (by decide) rfl rfl (ja_cons (je_call F_law_pick hr rfl (ja_cons (je_var 0) (ja_cons (je_plus (je_var 1) je_int) ja_nil))) (ja_cons (je_call F_law_pick hr rfl (ja_cons (je_var 0) (ja_cons (je_plus (je_var 1) je_int) ja_nil))) ja_nil))) (jb_cons (js_lcset 4 ["_law_t","_law_left_here"] [none,some 0] rfl sc_law_bits.nd (ji_range1 rfl m_range (ja_cons (je_call F_law_pick hr rfl (ja_cons (je_var 0) (ja_cons je_int ja_nil))) ja_nil) (h1 := by intro _ _ _ h;simpa [cons3,nil3] using h)) (fun _ _ _ => (jg_name (i := 0) (show (["_law_t","_law_left_here"] : List Str).Nodup by decide +kernel))) (fun _ _ _ => jf_nil) (fun _ _ _ => (je_call F_law_pick hr rfl (ja_cons (je_var 1) (ja_cons je_int ja_nil)))) (show scOk (defScope st_law_bits) _ = true by decide +kernel) (show capOk ["_law_left_here","_law_most","_law_high","_law_low","_law_masks","_law_wide"] ["_law_t","_law_left_here"] _ [none,some 0] = true by decide +kernel) rfl rfl) (jb_cons (js_set 5 sc_law_bits.nd (je_ix (je_lst (ja_cons je_int (ja_cons je_int (ja_cons je_int (ja_cons je_int (ja_cons je_int (ja_cons je_int (ja_cons je_int (ja_cons je_int (ja_cons je_int ja_nil)))))))))) (je_plus (je_var 2) (je_var 3)))) (jb_one (js_ret (je_tup (ja_cons je_str (ja_cons (je_var 2) (ja_cons (je_var 3) (ja_cons (je_callTy call_tuple_of ref_tuple rfl m_tuple PyProof.Rows.boot_tuple (ja_cons (je_lc ["_law_mask","_law_wide"] [none,some 5] rfl (ji_seq (je_var 4)) (fun _ _ _ => (jg_name (i := 0) (show (["_law_mask","_law_wide"] : List Str).Nodup by decide +kernel))) (fun _ _ _ => jf_nil) (fun _ _ _ => (je_mod (je_var 0) (je_var 1))) (show scOk (defScope st_law_bits) _ = true by decide +kernel) (show capOk ["_law_left_here","_law_most","_law_high","_law_low","_law_masks","_law_wide"] ["_law_mask","_law_wide"] _ [none,some 5] = true by decide +kernel)) ja_nil)) ja_nil))))))))))) read
noncomputable abbrev st_law_table : Stmt := top 16
theorem sc_law_table : FnScope ["_law_left_here","_law_rows","_law_columns","_law_banks","_law_cells_here"] ["_law_left_here"] (defScope st_law_table) := ⟨rfl,rfl,rfl,by decide +kernel,rfl,by decide +kernel,by decide +kernel⟩
theorem ok_law_table {P : Program} {w : World} {K : PySem.W.Frag} {mg : Str → Option Value} {base : Heap} {f : Addr} {fd : FuncData} {k : Nat} {sp : Sp3} {S_law_sides : Sp3} {S_law_pick : Sp3} (F : Fun K "_law_table" "_law_table" st_law_table f fd) (bd : Binds K fd ["_law_left_here"] []) (hm : mg "_law_table" = some (.ref f)) (F_law_sides : Fn3 P w K mg base k "_law_sides" S_law_sides) (F_law_pick : Fn3 P w K mg base k "_law_pick" S_law_pick) (m_range : mg "range" = none) (m_tuple : mg "tuple" = none)
  (read : ∀ ts G q,sp ts G q → ts.length = 1∧(Bk.t_law_table S_law_sides S_law_pick) { nx := fun _ G' => q .non G',rt := q } (start3 ["_law_left_here","_law_rows","_law_columns","_law_banks","_law_cells_here"] ts) G) : Fn3 P w K mg base (k + 1) "_law_table" sp :=
 jfn3_of (t3 := (Bk.t_law_table S_law_sides S_law_pick)) F sc_law_table bd hm (fun cdv A outer s H E hr => (jb_cons (js_asg (je_call F_law_sides hr rfl (ja_cons (je_var 0) ja_nil)) (jg_tup rfl (jg_cons (jg_name (i := 1) (sc_law_table.nd)) (jg_cons (jg_name (i := 2) (sc_law_table.nd)) jg_nil)))) (jb_cons (js_set 3 sc_law_table.nd (je_plus je_int (je_call F_law_pick hr rfl (ja_cons (je_var 0) (ja_cons (je_ix (je_lst (ja_cons je_int (ja_cons je_int (ja_cons je_int ja_nil)))) (je_call F_law_pick hr rfl (ja_cons (je_var 0) (ja_cons je_int ja_nil)))) ja_nil))))) (jb_cons (js_lcset 4 ["_law_i","_law_left_here","_law_banks","_law_columns"] [none,some 0,some 3,some 2] rfl sc_law_table.nd (ji_range1 rfl m_range (ja_cons (je_var 1) ja_nil) (h1 := by intro _ _ _ h;simpa [cons3,nil3] using h)) (fun _ _ _ => (jg_name (i := 0) (show (["_law_i","_law_left_here","_law_banks","_law_columns"] : List Str).Nodup by decide +kernel))) (fun _ _ _ => jf_nil) (fun _ _ _ => (je_callTy call_tuple_of ref_tuple rfl m_tuple PyProof.Rows.boot_tuple (ja_cons (je_lc ["_law_j","_law_left_here","_law_banks"] [none,some 1,some 2] rfl (ji_range1 rfl m_range (ja_cons (je_var 3) ja_nil) (h1 := by intro _ _ _ h;simpa [cons3,nil3] using h)) (fun _ _ _ => (jg_name (i := 0) (show (["_law_j","_law_left_here","_law_banks"] : List Str).Nodup by decide +kernel))) (fun _ _ _ => jf_nil) (fun _ _ _ => (je_call F_law_pick hr rfl (ja_cons (je_var 1) (ja_cons (je_var 2) ja_nil)))) (by rfl) (by rfl)) ja_nil))) (show scOk (defScope st_law_table) _ = true by decide +kernel) (show capOk ["_law_left_here","_law_rows","_law_columns","_law_banks","_law_cells_here"] ["_law_i","_law_left_here","_law_banks","_law_columns"] _ [none,some 0,some 3,some 2] = true by decide +kernel) rfl rfl) (jb_one (js_ret (je_tup (ja_cons je_str (ja_cons (je_var 3) (ja_cons (je_callTy call_tuple_of ref_tuple rfl m_tuple PyProof.Rows.boot_tuple (ja_cons (je_var 4) ja_nil)) ja_nil)))))))))) read
noncomputable abbrev st_law_small : Stmt := top 17
theorem sc_law_small : FnScope ["_law_left_here","_law_rows","_law_columns","_law_banks","_law_way","_law_high","_law_low","_law_masks","_law_wide","_law_places","_law_turn","_law_cells_here"] ["_law_left_here"] (defScope st_law_small) := ⟨rfl,rfl,rfl,by decide +kernel,rfl,by decide +kernel,by decide +kernel⟩
theorem ok_law_small {P : Program} {w : World} {K : PySem.W.Frag} {mg : Str → Option Value} {base : Heap} {f : Addr} {fd : FuncData} {k : Nat} {sp : Sp3} {S_law_pick : Sp3} {S_law_gcd : Sp3} (F : Fun K "_law_small" "_law_small" st_law_small f fd) (bd : Binds K fd ["_law_left_here"] []) (hm : mg "_law_small" = some (.ref f)) (F_law_pick : Fn3 P w K mg base k "_law_pick" S_law_pick) (F_law_gcd : Fn3 P w K mg base k "_law_gcd" S_law_gcd) (m_range : mg "range" = none) (m_tuple : mg "tuple" = none)
  (read : ∀ ts G q,sp ts G q → ts.length = 1∧(Bk.t_law_small S_law_pick S_law_gcd) { nx := fun _ G' => q .non G',rt := q } (start3 ["_law_left_here","_law_rows","_law_columns","_law_banks","_law_way","_law_high","_law_low","_law_masks","_law_wide","_law_places","_law_turn","_law_cells_here"] ts) G) : Fn3 P w K mg base (k + 1) "_law_small" sp :=
 jfn3_of (t3 := (Bk.t_law_small S_law_pick S_law_gcd)) F sc_law_small bd hm (fun cdv A outer s H E hr => (jb_cons (js_asg (je_tup (ja_cons (je_plus je_int (je_call F_law_pick hr rfl (ja_cons (je_var 0) (ja_cons je_int ja_nil)))) (ja_cons (je_plus je_int (je_call F_law_pick hr rfl (ja_cons (je_var 0) (ja_cons je_int ja_nil)))) (ja_cons (je_plus je_int (je_call F_law_pick hr rfl (ja_cons (je_var 0) (ja_cons je_int ja_nil)))) ja_nil)))) (jg_tup rfl (jg_cons (jg_name (i := 1) (sc_law_small.nd)) (jg_cons (jg_name (i := 2) (sc_law_small.nd)) (jg_cons (jg_name (i := 3) (sc_law_small.nd)) jg_nil))))) (jb_cons (js_set 4 sc_law_small.nd (je_call F_law_pick hr rfl (ja_cons (je_var 0) (ja_cons je_int ja_nil)))) (jb_cons (js_if (jt_cmp (op_eqA hr.units) ref_eqA (je_var 4) je_int (nomark _)) (jb_one (js_ret (je_tup (ja_cons je_str (ja_cons (je_var 1) (ja_cons (je_var 2) (ja_cons (je_var 3) (ja_cons (je_call F_law_pick hr rfl (ja_cons (je_var 0) (ja_cons (je_var 3) ja_nil))) (ja_cons (je_call F_law_pick hr rfl (ja_cons (je_var 0) (ja_cons je_int ja_nil))) ja_nil))))))))) jb_nil) (jb_cons (js_if (jt_cmp (op_eqA hr.units) ref_eqA (je_var 4) je_int (nomark _)) (jb_cons (js_par (i := 5) (j := 6) rfl sc_law_small.nd rfl rfl (by decide) rfl rfl (ja_cons (je_call F_law_pick hr rfl (ja_cons (je_var 0) (ja_cons je_int ja_nil))) (ja_cons (je_call F_law_pick hr rfl (ja_cons (je_var 0) (ja_cons je_int ja_nil))) ja_nil))) (jb_cons (js_lcset 7 ["_law_t","_law_left_here"] [none,some 0] rfl sc_law_small.nd (ji_range1 rfl m_range (ja_cons (je_call F_law_pick hr rfl (ja_cons (je_var 0) (ja_cons je_int ja_nil))) ja_nil) (h1 := by intro _ _ _ h;simpa [cons3,nil3] using h)) (fun _ _ _ => (jg_name (i := 0) (show (["_law_t","_law_left_here"] : List Str).Nodup by decide +kernel))) (fun _ _ _ => jf_nil) (fun _ _ _ => (je_call F_law_pick hr rfl (ja_cons (je_var 1) (ja_cons je_int ja_nil)))) (show scOk (defScope st_law_small) _ = true by decide +kernel) (show capOk ["_law_left_here","_law_rows","_law_columns","_law_banks","_law_way","_law_high","_law_low","_law_masks","_law_wide","_law_places","_law_turn","_law_cells_here"] ["_law_t","_law_left_here"] _ [none,some 0] = true by decide +kernel) rfl rfl) (jb_cons (js_set 8 sc_law_small.nd (je_ix (je_lst (ja_cons je_int (ja_cons je_int (ja_cons je_int (ja_cons je_int (ja_cons je_int ja_nil)))))) (je_plus (je_var 5) (je_var 6)))) (jb_one (js_ret (je_tup (ja_cons je_str (ja_cons (je_var 5) (ja_cons (je_var 6) (ja_cons (je_callTy call_tuple_of ref_tuple rfl m_tuple PyProof.Rows.boot_tuple (ja_cons (je_lc ["_law_mask","_law_wide"] [none,some 8] rfl (ji_seq (je_var 7)) (fun _ _ _ => (jg_name (i := 0) (show (["_law_mask","_law_wide"] : List Str).Nodup by decide +kernel))) (fun _ _ _ => jf_nil) (fun _ _ _ => (je_mod (je_var 0) (je_var 1))) (show scOk (defScope st_law_small) _ = true by decide +kernel) (show capOk ["_law_left_here","_law_rows","_law_columns","_law_banks","_law_way","_law_high","_law_low","_law_masks","_law_wide","_law_places","_law_turn","_law_cells_here"] ["_law_mask","_law_wide"] _ [none,some 8] = true by decide +kernel)) ja_nil)) ja_nil)))))))))) jb_nil) (jb_cons (js_if (jt_cmp (op_eqA hr.units) ref_eqA (je_var 4) je_int (nomark _)) (jb_cons (js_set 9 sc_law_small.nd (je_plus (je_neg (je_div (je_mul (je_neg (je_var 1)) (je_var 2)) (je_var 3))) (je_call F_law_pick hr rfl (ja_cons (je_var 0) (ja_cons je_int ja_nil))))) (jb_cons (js_for PassesOwn.never rfl (ji_range1 rfl m_range (ja_cons je_int ja_nil) (h1 := by intro _ _ _ h;simpa [cons3,nil3] using h)) (jg_name (i := 10) (sc_law_small.nd)) (jb_one (js_if (jt_cmp op_gt ref_iB (je_call F_law_gcd hr rfl (ja_cons (je_var 3) (ja_cons (je_var 9) ja_nil))) je_int (nomark _)) (jb_one (js_set 9 sc_law_small.nd (je_plus (je_var 9) je_int))) jb_nil))) (jb_one (js_ret (je_tup (ja_cons je_str (ja_cons (je_var 1) (ja_cons (je_var 2) (ja_cons (je_var 3) (ja_cons (je_var 9) ja_nil)))))))))) jb_nil) (jb_cons (js_lcset 11 ["_law_i","_law_left_here","_law_banks","_law_columns"] [none,some 0,some 3,some 2] rfl sc_law_small.nd (ji_range1 rfl m_range (ja_cons (je_var 1) ja_nil) (h1 := by intro _ _ _ h;simpa [cons3,nil3] using h)) (fun _ _ _ => (jg_name (i := 0) (show (["_law_i","_law_left_here","_law_banks","_law_columns"] : List Str).Nodup by decide +kernel))) (fun _ _ _ => jf_nil) (fun _ _ _ => (je_callTy call_tuple_of ref_tuple rfl m_tuple PyProof.Rows.boot_tuple (ja_cons (je_lc ["_law_j","_law_left_here","_law_banks"] [none,some 1,some 2] rfl (ji_range1 rfl m_range (ja_cons (je_var 3) ja_nil) (h1 := by intro _ _ _ h;simpa [cons3,nil3] using h)) (fun _ _ _ => (jg_name (i := 0) (show (["_law_j","_law_left_here","_law_banks"] : List Str).Nodup by decide +kernel))) (fun _ _ _ => jf_nil) (fun _ _ _ => (je_call F_law_pick hr rfl (ja_cons (je_var 1) (ja_cons (je_var 2) ja_nil)))) (by rfl) (by rfl)) ja_nil))) (show scOk (defScope st_law_small) _ = true by decide +kernel) (show capOk ["_law_left_here","_law_rows","_law_columns","_law_banks","_law_way","_law_high","_law_low","_law_masks","_law_wide","_law_places","_law_turn","_law_cells_here"] ["_law_i","_law_left_here","_law_banks","_law_columns"] _ [none,some 0,some 3,some 2] = true by decide +kernel) rfl rfl) (jb_one (js_ret (je_tup (ja_cons je_str (ja_cons (je_var 3) (ja_cons (je_callTy call_tuple_of ref_tuple rfl m_tuple PyProof.Rows.boot_tuple (ja_cons (je_var 11) ja_nil)) ja_nil))))))))))))) read
noncomputable abbrev st_law_dealing : Stmt := top 18
theorem sc_law_dealing : FnScope ["_law_left_here","_law_way","_law_inner","_law_some"] ["_law_left_here"] (defScope st_law_dealing) := ⟨rfl,rfl,rfl,by decide +kernel,rfl,by decide +kernel,by decide +kernel⟩
theorem ok_law_dealing {P : Program} {w : World} {K : PySem.W.Frag} {mg : Str → Option Value} {base : Heap} {f : Addr} {fd : FuncData} {k : Nat} {sp : Sp3} {S_law_pick : Sp3} {S_law_skew : Sp3} {S_law_rests : Sp3} {S_law_bits : Sp3} {S_law_table : Sp3} {S_law_small : Sp3} (F : Fun K "_law_dealing" "_law_dealing" st_law_dealing f fd) (bd : Binds K fd ["_law_left_here"] []) (hm : mg "_law_dealing" = some (.ref f)) (F_law_pick : Fn3 P w K mg base k "_law_pick" S_law_pick) (F_law_skew : Fn3 P w K mg base k "_law_skew" S_law_skew) (F_law_rests : Fn3 P w K mg base k "_law_rests" S_law_rests) (F_law_bits : Fn3 P w K mg base k "_law_bits" S_law_bits) (F_law_table : Fn3 P w K mg base k "_law_table" S_law_table) (F_law_small : Fn3 P w K mg base k "_law_small" S_law_small) 
  (read : ∀ ts G q,sp ts G q → ts.length = 1∧(Bk.t_law_dealing S_law_pick S_law_skew S_law_rests S_law_bits S_law_table S_law_small) { nx := fun _ G' => q .non G',rt := q } (start3 ["_law_left_here","_law_way","_law_inner","_law_some"] ts) G) : Fn3 P w K mg base (k + 1) "_law_dealing" sp :=
 jfn3_of (t3 := (Bk.t_law_dealing S_law_pick S_law_skew S_law_rests S_law_bits S_law_table S_law_small)) F sc_law_dealing bd hm (fun cdv A outer s H E hr => (jb_cons (js_set 1 sc_law_dealing.nd (je_call F_law_pick hr rfl (ja_cons (je_var 0) (ja_cons je_int ja_nil)))) (jb_cons (js_if (jt_cmp op_lt ref_iB (je_var 1) je_int (nomark _)) (jb_one (js_ret (je_call F_law_skew hr rfl (ja_cons (je_var 0) ja_nil)))) jb_nil) (jb_cons (js_if (jt_cmp (op_eqA hr.units) ref_eqA (je_var 1) je_int (nomark _)) (jb_one (js_ret (je_call F_law_rests hr rfl (ja_cons (je_var 0) ja_nil)))) jb_nil) (jb_cons (js_if (jt_cmp (op_eqA hr.units) ref_eqA (je_var 1) je_int (nomark _)) (jb_one (js_ret (je_call F_law_bits hr rfl (ja_cons (je_var 0) (ja_cons je_int ja_nil))))) jb_nil) (jb_cons (js_if (jt_cmp (op_eqA hr.units) ref_eqA (je_var 1) je_int (nomark _)) (jb_one (js_ret (je_call F_law_table hr rfl (ja_cons (je_var 0) ja_nil)))) jb_nil) (jb_cons (js_if (jt_cmp (op_eqA hr.units) ref_eqA (je_var 1) je_int (nomark _)) (jb_cons (js_set 2 sc_law_dealing.nd (je_tup (ja_cons je_str (ja_cons (je_tup (ja_cons je_str (ja_cons (je_plus je_int (je_call F_law_pick hr rfl (ja_cons (je_var 0) (ja_cons je_int ja_nil)))) (ja_cons je_int (ja_cons je_int (ja_cons je_int (ja_cons je_int ja_nil))))))) (ja_cons (je_tup (ja_cons je_str (ja_cons je_int (ja_cons (je_tup (ja_cons (je_tup (ja_cons je_int (ja_cons je_int ja_nil))) ja_nil)) ja_nil)))) ja_nil))))) (jb_cons (js_set 3 sc_law_dealing.nd (je_lst (ja_cons (je_tup (ja_cons je_str (ja_cons (je_var 2) (ja_cons (je_call F_law_small hr rfl (ja_cons (je_var 0) ja_nil)) ja_nil)))) (ja_cons (je_tup (ja_cons je_str (ja_cons (je_call F_law_small hr rfl (ja_cons (je_var 0) ja_nil)) (ja_cons (je_var 2) ja_nil)))) ja_nil)))) (jb_cons (js_expr (je_append (je_var 3) (ja_cons (je_tup (ja_cons je_str (ja_cons (je_tup (ja_cons je_str (ja_cons je_int (ja_cons je_int (ja_cons je_int (ja_cons je_int (ja_cons je_int ja_nil))))))) (ja_cons (je_tup (ja_cons je_str (ja_cons je_int (ja_cons je_int (ja_cons je_int (ja_cons je_int ja_nil)))))) ja_nil)))) ja_nil))) (jb_cons (js_expr (je_append (je_var 3) (ja_cons (je_tup (ja_cons je_str (ja_cons (je_tup (ja_cons je_str (ja_cons je_int (ja_cons je_int (ja_cons je_int (ja_cons je_int ja_nil)))))) (ja_cons (je_tup (ja_cons je_str (ja_cons je_int (ja_cons je_int (ja_cons je_int (ja_cons je_int (ja_cons je_int ja_nil))))))) ja_nil)))) ja_nil))) (jb_one (js_ret (je_ix (je_var 3) (je_call F_law_pick hr rfl (ja_cons (je_var 0) (ja_cons je_int ja_nil)))))))))) jb_nil) (jb_one (js_ret (je_tup (ja_cons je_str (ja_cons (je_call F_law_small hr rfl (ja_cons (je_var 0) ja_nil)) (ja_cons (je_call F_law_small hr rfl (ja_cons (je_var 0) ja_nil)) ja_nil))))))))))))) read
noncomputable abbrev st_law_size : Stmt := top 19
theorem sc_law_size : FnScope ["_law_dealing_here","_law_two","_law_one","_law_other"] ["_law_dealing_here"] (defScope st_law_size) := ⟨rfl,rfl,rfl,by decide +kernel,rfl,by decide +kernel,by decide +kernel⟩
noncomputable def t_law_size (S_law_size : Sp3) : TS3 := (seq3 (ifS3 (tb3 (o3 (in3 false) (o3 ix3 (v3 0) (c3 (.int 0))) (tup3 (cons3 (c3 (.str "skew")) (cons3 (c3 (.str "rests")) nil3))))) (ret3 (tsl3 (v3 0) (sp3 (c3 (.int 1))) (sp3 (c3 (.int 4))))) next3) (seq3 (ifS3 (tb3 (o3 (eqA3 false) (o3 ix3 (v3 0) (c3 (.int 0))) (c3 (.str "bits")))) (seq3 (asg3 (lst3 (cons3 (c3 (.int 1)) (cons3 (c3 (.int 2)) (cons3 (c3 (.int 4)) (cons3 (c3 (.int 8)) (cons3 (c3 (.int 16)) (cons3 (c3 (.int 32)) nil3))))))) (gn3 1)) (ret3 (tup3 (cons3 (o3 ix3 (v3 1) (o3 ix3 (v3 0) (c3 (.int 1)))) (cons3 (o3 ix3 (v3 1) (o3 ix3 (v3 0) (c3 (.int 2)))) (cons3 (o3 ix3 (v3 1) (cb3 len3 (cons3 (o3 ix3 (v3 0) (c3 (.int 3))) nil3))) nil3)))))) next3) (seq3 (ifS3 (tb3 (o3 (eqA3 false) (o3 ix3 (v3 0) (c3 (.int 0))) (c3 (.str "table")))) (ret3 (tup3 (cons3 (cb3 len3 (cons3 (o3 ix3 (v3 0) (c3 (.int 2))) nil3)) (cons3 (cb3 len3 (cons3 (o3 ix3 (o3 ix3 (v3 0) (c3 (.int 2))) (c3 (.int 0))) nil3)) (cons3 (o3 ix3 (v3 0) (c3 (.int 1))) nil3))))) next3) (seq3 (par3 2 3 (cons3 (cb3 S_law_size (cons3 (o3 ix3 (v3 0) (c3 (.int 1))) nil3)) (cons3 (cb3 S_law_size (cons3 (o3 ix3 (v3 0) (c3 (.int 2))) nil3)) nil3))) (ret3 (cb3 tuple3 (cons3 (lc3 (izip3 (cons3 (v3 2) (cons3 (v3 3) nil3))) (gtup3 2 (gcons3 (gn3 0) (gcons3 (gn3 1) gnil3))) tt3 (o3 (iC CMul (· * ·)) (v3 0) (v3 1)) [none,none]) nil3)))))))
theorem ok_law_size {P : Program} {w : World} {K : PySem.W.Frag} {mg : Str → Option Value} {base : Heap} {f : Addr} {fd : FuncData} {k : Nat} {sp : Sp3} {S_law_size : Sp3} (F : Fun K "_law_size" "_law_size" st_law_size f fd) (bd : Binds K fd ["_law_dealing_here"] []) (hm : mg "_law_size" = some (.ref f)) (F_law_size : Fn3 P w K mg base k "_law_size" S_law_size) (m_len : mg "len" = none) (m_zip : mg "zip" = none) (m_tuple : mg "tuple" = none)
  (read : ∀ ts G q,sp ts G q → ts.length = 1∧(t_law_size S_law_size) { nx := fun _ G' => q .non G',rt := q } (start3 ["_law_dealing_here","_law_two","_law_one","_law_other"] ts) G) : Fn3 P w K mg base (k + 1) "_law_size" sp :=
 jfn3_of (t3 := (t_law_size S_law_size)) F sc_law_size bd hm (fun cdv A outer s H E hr => (jb_cons (js_if (jt_cmp op_in_seq ref_in (je_ix (je_var 0) je_int) (je_tup (ja_cons je_str (ja_cons je_str ja_nil))) (by with_unfolding_all rfl)) (jb_one (js_ret (je_slice (je_var 0) (jp_some je_int) (jp_some je_int)))) jb_nil) (jb_cons (js_if (jt_cmp (op_eqA hr.units) ref_eqA (je_ix (je_var 0) je_int) je_str (nomark _)) (jb_cons (js_set 1 sc_law_size.nd (je_lst (ja_cons je_int (ja_cons je_int (ja_cons je_int (ja_cons je_int (ja_cons je_int (ja_cons je_int ja_nil)))))))) (jb_one (js_ret (je_tup (ja_cons (je_ix (je_var 1) (je_ix (je_var 0) je_int)) (ja_cons (je_ix (je_var 1) (je_ix (je_var 0) je_int)) (ja_cons (je_ix (je_var 1) (je_callB call_len ref_len rfl m_len PySem.boot_len (ja_cons (je_ix (je_var 0) je_int) ja_nil))) ja_nil))))))) jb_nil) (jb_cons (js_if (jt_cmp (op_eqA hr.units) ref_eqA (je_ix (je_var 0) je_int) je_str (nomark _)) (jb_one (js_ret (je_tup (ja_cons (je_callB call_len ref_len rfl m_len PySem.boot_len (ja_cons (je_ix (je_var 0) je_int) ja_nil)) (ja_cons (je_callB call_len ref_len rfl m_len PySem.boot_len (ja_cons (je_ix (je_ix (je_var 0) je_int) je_int) ja_nil)) (ja_cons (je_ix (je_var 0) je_int) ja_nil)))))) jb_nil) (jb_cons (js_par (i := 2) (j := 3) rfl sc_law_size.nd rfl rfl (by decide) rfl rfl (ja_cons (je_call F_law_size hr rfl (ja_cons (je_ix (je_var 0) je_int) ja_nil)) (ja_cons (je_call F_law_size hr rfl (ja_cons (je_ix (je_var 0) je_int) ja_nil)) ja_nil))) (jb_one (js_ret (je_callTy call_tuple_of ref_tuple rfl m_tuple PyProof.Rows.boot_tuple (ja_cons (je_lc ["_law_x","_law_y"] [none,none] rfl (ji_zip rfl m_zip (ja_cons (je_var 2) (ja_cons (je_var 3) ja_nil))) (fun _ _ _ => (jg_tup rfl (jg_cons (jg_name (i := 0) (show (["_law_x","_law_y"] : List Str).Nodup by decide +kernel)) (jg_cons (jg_name (i := 1) (show (["_law_x","_law_y"] : List Str).Nodup by decide +kernel)) jg_nil)))) (fun _ _ _ => jf_nil) (fun _ _ _ => (je_mul (je_var 0) (je_var 1))) (show scOk (defScope st_law_size) _ = true by decide +kernel) (show capOk ["_law_dealing_here","_law_two","_law_one","_law_other"] ["_law_x","_law_y"] _ [none,none] = true by decide +kernel)) ja_nil))))))))) read
noncomputable abbrev st_law_many : Stmt := top 20
theorem sc_law_many : FnScope ["_law_left_here"] ["_law_left_here"] (defScope st_law_many) := ⟨rfl,rfl,rfl,by decide +kernel,rfl,by decide +kernel,by decide +kernel⟩
theorem ok_law_many {P : Program} {w : World} {K : PySem.W.Frag} {mg : Str → Option Value} {base : Heap} {f : Addr} {fd : FuncData} {k : Nat} {sp : Sp3} {S_law_pick : Sp3} (F : Fun K "_law_many" "_law_many" st_law_many f fd) (bd : Binds K fd ["_law_left_here"] []) (hm : mg "_law_many" = some (.ref f)) (F_law_pick : Fn3 P w K mg base k "_law_pick" S_law_pick) 
  (read : ∀ ts G q,sp ts G q → ts.length = 1∧(Bk.t_law_many S_law_pick) { nx := fun _ G' => q .non G',rt := q } (start3 ["_law_left_here"] ts) G) : Fn3 P w K mg base (k + 1) "_law_many" sp :=
 jfn3_of (t3 := (Bk.t_law_many S_law_pick)) F sc_law_many bd hm (fun cdv A outer s H E hr => (jb_one (js_ret (je_plus je_int (je_call F_law_pick hr rfl (ja_cons (je_var 0) (ja_cons (je_ix (je_lst (ja_cons je_int (ja_cons je_int (ja_cons je_int (ja_cons je_int (ja_cons je_int (ja_cons je_int (ja_cons je_int (ja_cons je_int ja_nil))))))))) (je_call F_law_pick hr rfl (ja_cons (je_var 0) (ja_cons je_int ja_nil)))) ja_nil))))))) read
noncomputable abbrev st_law_walk : Stmt := top 21
theorem sc_law_walk : FnScope ["_law_left_here","_law_way","_law_lying","_law_high","_law_wide","_law_down","_law_along","_law_pairs","_law_far","_law_turn","_law_pair"] ["_law_left_here"] (defScope st_law_walk) := ⟨rfl,rfl,rfl,by decide +kernel,rfl,by decide +kernel,by decide +kernel⟩
theorem ok_law_walk {P : Program} {w : World} {K : PySem.W.Frag} {mg : Str → Option Value} {base : Heap} {f : Addr} {fd : FuncData} {k : Nat} {sp : Sp3} {S_law_pick : Sp3} {S_law_many : Sp3} (F : Fun K "_law_walk" "_law_walk" st_law_walk f fd) (bd : Binds K fd ["_law_left_here"] []) (hm : mg "_law_walk" = some (.ref f)) (F_law_pick : Fn3 P w K mg base k "_law_pick" S_law_pick) (F_law_many : Fn3 P w K mg base k "_law_many" S_law_many) (m_int : mg "int" = none) (m_range : mg "range" = none) (m_tuple : mg "tuple" = none)
  (read : ∀ ts G q,sp ts G q → ts.length = 1∧(Bk.t_law_walk S_law_pick S_law_many) { nx := fun _ G' => q .non G',rt := q } (start3 ["_law_left_here","_law_way","_law_lying","_law_high","_law_wide","_law_down","_law_along","_law_pairs","_law_far","_law_turn","_law_pair"] ts) G) : Fn3 P w K mg base (k + 1) "_law_walk" sp :=
 jfn3_of (t3 := (Bk.t_law_walk S_law_pick S_law_many)) F sc_law_walk bd hm (fun cdv A outer s H E hr => (jb_cons (js_set 1 sc_law_walk.nd (je_call F_law_pick hr rfl (ja_cons (je_var 0) (ja_cons je_int ja_nil)))) (jb_cons (js_if (jt_cmp op_lt ref_iB (je_var 1) je_int (nomark _)) (jb_one (js_ret (je_tup (ja_cons (je_ix (je_lst (ja_cons je_str (ja_cons je_str (ja_cons je_str (ja_cons je_str ja_nil))))) (je_var 1)) (ja_cons (je_call F_law_many hr rfl (ja_cons (je_var 0) ja_nil)) ja_nil))))) jb_nil) (jb_cons (js_if (jt_cmp op_lt ref_iB (je_var 1) je_int (nomark _)) (jb_cons (js_par (i := 2) (j := 3) rfl sc_law_walk.nd rfl rfl (by decide) rfl rfl (ja_cons (je_call F_law_pick hr rfl (ja_cons (je_var 0) (ja_cons je_int ja_nil))) (ja_cons (je_plus je_int (je_call F_law_pick hr rfl (ja_cons (je_var 0) (ja_cons je_int ja_nil)))) ja_nil))) (jb_cons (js_set 4 sc_law_walk.nd (je_plus je_int (je_call F_law_pick hr rfl (ja_cons (je_var 0) (ja_cons (je_div je_int (je_var 3)) ja_nil))))) (jb_one (js_ret (je_ix (je_lst (ja_cons (je_tup (ja_cons je_str (ja_cons (je_var 3) (ja_cons (je_var 4) ja_nil)))) (ja_cons (je_tup (ja_cons je_str (ja_cons (je_var 4) (ja_cons (je_var 3) ja_nil)))) ja_nil))) (je_var 2)))))) jb_nil) (jb_cons (js_if (jt_cmp op_lt ref_iB (je_var 1) je_int (nomark _)) (jb_cons (js_par (i := 5) (j := 6) rfl sc_law_walk.nd rfl rfl (by decide) rfl rfl (ja_cons (je_sub (je_call F_law_pick hr rfl (ja_cons (je_var 0) (ja_cons je_int ja_nil))) je_int) (ja_cons (je_sub (je_call F_law_pick hr rfl (ja_cons (je_var 0) (ja_cons je_int ja_nil))) je_int) ja_nil))) (jb_cons (js_if (jt_cmp (op_eqA hr.units) ref_eqA (je_call F_law_pick hr rfl (ja_cons (je_var 0) (ja_cons je_int ja_nil))) je_int (nomark _)) (jb_one (js_ret (je_tup (ja_cons je_str (ja_cons (je_mul je_int (je_var 5)) (ja_cons (je_plus (je_mul je_int (je_var 6)) (je_callTy call_int1 ref_int rfl m_int PyProof.Rows.boot_int (ja_cons (je_and (je_cmp (op_eqA hr.units) ref_eqA (je_var 5) je_int (nomark _)) (je_one (je_cmp (op_eqA hr.units) ref_eqA (je_var 6) je_int (nomark _)))) ja_nil))) (ja_cons (je_plus je_int (je_call F_law_pick hr rfl (ja_cons (je_var 0) (ja_cons je_int ja_nil)))) ja_nil))))))) jb_nil) (jb_one (js_ret (je_tup (ja_cons je_str (ja_cons (je_var 5) (ja_cons (je_plus (je_var 6) (je_callTy call_int1 ref_int rfl m_int PyProof.Rows.boot_int (ja_cons (je_and (je_cmp (op_eqA hr.units) ref_eqA (je_var 5) je_int (nomark _)) (je_one (je_cmp (op_eqA hr.units) ref_eqA (je_var 6) je_int (nomark _)))) ja_nil))) (ja_cons (je_call F_law_many hr rfl (ja_cons (je_var 0) ja_nil)) ja_nil))))))))) jb_nil) (jb_cons (js_par (i := 7) (j := 8) rfl sc_law_walk.nd rfl rfl (by decide) rfl rfl (ja_cons (je_lst ja_nil) (ja_cons (je_plus je_int (je_mul je_int (je_callTy call_int1 ref_int rfl m_int PyProof.Rows.boot_int (ja_cons (je_cmp (op_eqA hr.units) ref_eqA (je_call F_law_pick hr rfl (ja_cons (je_var 0) (ja_cons je_int ja_nil))) je_int (nomark _)) ja_nil)))) ja_nil))) (jb_cons (js_for PassesOwn.never rfl (ji_range1 rfl m_range (ja_cons (je_call F_law_many hr rfl (ja_cons (je_var 0) ja_nil)) ja_nil) (h1 := by intro _ _ _ h;simpa [cons3,nil3] using h)) (jg_name (i := 9) (sc_law_walk.nd)) (jb_cons (js_set 10 sc_law_walk.nd (je_tup (ja_cons (je_mul (je_var 8) (je_sub (je_call F_law_pick hr rfl (ja_cons (je_var 0) (ja_cons je_int ja_nil))) je_int)) (ja_cons (je_mul (je_var 8) (je_sub (je_call F_law_pick hr rfl (ja_cons (je_var 0) (ja_cons je_int ja_nil))) je_int)) ja_nil)))) (jb_one (js_if (jt_cmp (op_notInD hr.units) ref_inA (je_var 10) (je_var 7) (by with_unfolding_all rfl)) (jb_one (js_expr (je_append (je_var 7) (ja_cons (je_var 10) ja_nil)))) jb_nil)))) (jb_one (js_ret (je_tup (ja_cons je_str (ja_cons (je_callTy call_tuple_of ref_tuple rfl m_tuple PyProof.Rows.boot_tuple (ja_cons (je_var 7) ja_nil)) ja_nil)))))))))))) read
noncomputable abbrev st_law_cells : Stmt := top 22
theorem sc_law_cells : FnScope ["_law_walk_here","_law_found","_law_p","_law_down","_law_along"] ["_law_walk_here"] (defScope st_law_cells) := ⟨rfl,rfl,rfl,by decide +kernel,rfl,by decide +kernel,by decide +kernel⟩
theorem ok_law_cells {P : Program} {w : World} {K : PySem.W.Frag} {mg : Str → Option Value} {base : Heap} {f : Addr} {fd : FuncData} {k : Nat} {sp : Sp3} (F : Fun K "_law_cells" "_law_cells" st_law_cells f fd) (bd : Binds K fd ["_law_walk_here"] []) (hm : mg "_law_cells" = some (.ref f))  (m_list : mg "list" = none) (m_range : mg "range" = none)
  (read : ∀ ts G q,sp ts G q → ts.length = 1∧(Bk.t_law_cells) { nx := fun _ G' => q .non G',rt := q } (start3 ["_law_walk_here","_law_found","_law_p","_law_down","_law_along"] ts) G) : Fn3 P w K mg base (k + 1) "_law_cells" sp :=
 jfn3_of (t3 := (Bk.t_law_cells)) F sc_law_cells bd hm (fun cdv A outer s H E hr => (jb_cons (js_if (jt_cmp (op_eqA hr.units) ref_eqA (je_ix (je_var 0) je_int) je_str (nomark _)) (jb_one (js_ret (je_callTy call_list_of ref_list rfl m_list PyProof.Rows.boot_list (ja_cons (je_ix (je_var 0) je_int) ja_nil)))) jb_nil) (jb_cons (js_if (jt_cmp (op_eqA hr.units) ref_eqA (je_ix (je_var 0) je_int) je_str (nomark _)) (jb_cons (js_set 1 sc_law_cells.nd (je_lst ja_nil)) (jb_cons (js_for PassesOwn.never rfl (ji_range1 rfl m_range (ja_cons (je_ix (je_var 0) je_int) ja_nil) (h1 := by intro _ _ _ h;simpa [cons3,nil3] using h)) (jg_name (i := 2) (sc_law_cells.nd)) (jb_one (js_expr (je_extend (je_var 1) (ja_cons (je_lc ["_law_q","_law_p"] [none,some 2] rfl (ji_range1 rfl m_range (ja_cons (je_ix (je_var 0) je_int) ja_nil) (h1 := by intro _ _ _ h;simpa [cons3,nil3] using h)) (fun _ _ _ => (jg_name (i := 0) (show (["_law_q","_law_p"] : List Str).Nodup by decide +kernel))) (fun _ _ _ => jf_nil) (fun _ _ _ => (je_tup (ja_cons (je_var 1) (ja_cons (je_var 0) ja_nil)))) (show scOk (defScope st_law_cells) _ = true by decide +kernel) (show capOk ["_law_walk_here","_law_found","_law_p","_law_down","_law_along"] ["_law_q","_law_p"] _ [none,some 2] = true by decide +kernel)) ja_nil))))) (jb_one (js_ret (je_var 1))))) jb_nil) (jb_cons (js_asg (je_dsub (jd_cons (je_tup (ja_cons je_int (ja_cons je_int ja_nil))) (jd_cons (je_tup (ja_cons je_int (ja_cons je_int ja_nil))) (jd_cons (je_tup (ja_cons je_int (ja_cons je_int ja_nil))) (jd_cons (je_tup (ja_cons je_int (ja_cons (je_neg je_int) ja_nil))) (jd_cons (je_slice (je_var 0) (jp_some je_int) (jp_some je_int)) jd_nil))))) (je_ix (je_var 0) je_int)) (jg_tup rfl (jg_cons (jg_name (i := 3) (sc_law_cells.nd)) (jg_cons (jg_name (i := 4) (sc_law_cells.nd)) jg_nil)))) (jb_one (js_ret (je_lc ["_law_t","_law_down","_law_along"] [none,some 3,some 4] rfl (ji_range1 rfl m_range (ja_cons (je_ix (je_var 0) (je_neg je_int)) ja_nil) (h1 := by intro _ _ _ h;simpa [cons3,nil3] using h)) (fun _ _ _ => (jg_name (i := 0) (show (["_law_t","_law_down","_law_along"] : List Str).Nodup by decide +kernel))) (fun _ _ _ => jf_nil) (fun _ _ _ => (je_tup (ja_cons (je_mul (je_var 0) (je_var 1)) (ja_cons (je_mul (je_var 0) (je_var 2)) ja_nil)))) (show scOk (defScope st_law_cells) _ = true by decide +kernel) (show capOk ["_law_walk_here","_law_found","_law_p","_law_down","_law_along"] ["_law_t","_law_down","_law_along"] _ [none,some 3,some 4] = true by decide +kernel)))))))) read
noncomputable abbrev st_law_due : Stmt := top 23
theorem sc_law_due : FnScope ["_law_dealing_here","_law_walk_here","_law_rows","_law_columns","_law_banks","_law_found","_law_cells_here","_law_tops","_law_sides_here","_law_i"] ["_law_dealing_here","_law_walk_here"] (defScope st_law_due) := ⟨rfl,rfl,rfl,by decide +kernel,rfl,by decide +kernel,by decide +kernel⟩
noncomputable def t_law_due (S_law_size : Sp3) (S_law_cells : Sp3) : TS3 := (seq3 (asg3 (cb3 S_law_size (cons3 (v3 0) nil3)) (gtup3 3 (gcons3 (gn3 2) (gcons3 (gn3 3) (gcons3 (gn3 4) gnil3))))) (seq3 (asg3 (tup3 (cons3 (lst3 nil3) (cons3 (cb3 S_law_cells (cons3 (v3 1) nil3)) nil3))) (gtup3 2 (gcons3 (gn3 5) (gcons3 (gn3 6) gnil3)))) (seq3 (asg3 (lc3 (irng3 (cons3 (u3 neg3 (c3 (.int 17))) (cons3 (o3 cat3 (v3 2) (c3 (.int 17))) nil3))) (gn3 0) (tb3 (o3 (eqA3 false) (lc3 (iseq3 (v3 1)) (gtup3 2 (gcons3 (gn3 0) (gcons3 (gn3 1) gnil3))) (not3 (tb3 (ch3 (iB fun i j => decide (i ≤ j)) (iB fun i j => decide (i < j)) (c3 (.int 0)) (o3 cat3 (v3 3) (v3 0)) (v3 2)))) (v3 0) [none,none,some 2,some 0]) (lst3 nil3))) (v3 0) [none,some 6,some 2]) (gn3 7)) (seq3 (asg3 (lc3 (irng3 (cons3 (u3 neg3 (c3 (.int 17))) (cons3 (o3 cat3 (v3 3) (c3 (.int 17))) nil3))) (gn3 0) (tb3 (o3 (eqA3 false) (lc3 (iseq3 (v3 1)) (gtup3 2 (gcons3 (gn3 0) (gcons3 (gn3 1) gnil3))) (not3 (tb3 (ch3 (iB fun i j => decide (i ≤ j)) (iB fun i j => decide (i < j)) (c3 (.int 0)) (o3 cat3 (v3 3) (v3 1)) (v3 2)))) (v3 1) [none,none,some 2,some 0]) (lst3 nil3))) (v3 0) [none,some 6,some 3]) (gn3 8)) (seq3 (for3 (iseq3 (v3 7)) (gn3 9) (drop3 (bm3 ext3 (v3 5) (cons3 (lc3 (iseq3 (v3 8)) (gn3 0) tt3 (tup3 (cons3 (v3 1) (cons3 (v3 0) nil3))) [none,some 9]) nil3)))) (ret3 (v3 5)))))))
theorem ok_law_due {P : Program} {w : World} {K : PySem.W.Frag} {mg : Str → Option Value} {base : Heap} {f : Addr} {fd : FuncData} {k : Nat} {sp : Sp3} {S_law_size : Sp3} {S_law_cells : Sp3} (F : Fun K "_law_due" "_law_due" st_law_due f fd) (bd : Binds K fd ["_law_dealing_here","_law_walk_here"] []) (hm : mg "_law_due" = some (.ref f)) (F_law_size : Fn3 P w K mg base k "_law_size" S_law_size) (F_law_cells : Fn3 P w K mg base k "_law_cells" S_law_cells) (m_range : mg "range" = none)
  (read : ∀ ts G q,sp ts G q → ts.length = 2∧(t_law_due S_law_size S_law_cells) { nx := fun _ G' => q .non G',rt := q } (start3 ["_law_dealing_here","_law_walk_here","_law_rows","_law_columns","_law_banks","_law_found","_law_cells_here","_law_tops","_law_sides_here","_law_i"] ts) G) : Fn3 P w K mg base (k + 1) "_law_due" sp :=
 jfn3_of (t3 := (t_law_due S_law_size S_law_cells)) F sc_law_due bd hm (fun cdv A outer s H E hr => (jb_cons (js_asg (je_call F_law_size hr rfl (ja_cons (je_var 0) ja_nil)) (jg_tup rfl (jg_cons (jg_name (i := 2) (sc_law_due.nd)) (jg_cons (jg_name (i := 3) (sc_law_due.nd)) (jg_cons (jg_name (i := 4) (sc_law_due.nd)) jg_nil))))) (jb_cons (js_asg (je_tup (ja_cons (je_lst ja_nil) (ja_cons (je_call F_law_cells hr rfl (ja_cons (je_var 1) ja_nil)) ja_nil))) (jg_tup rfl (jg_cons (jg_name (i := 5) (sc_law_due.nd)) (jg_cons (jg_name (i := 6) (sc_law_due.nd)) jg_nil)))) (jb_cons (js_lcset 7 ["_law_i","_law_cells_here","_law_rows"] [none,some 6,some 2] rfl sc_law_due.nd (ji_range2 rfl m_range (ja_cons (je_neg je_int) (ja_cons (je_plus (je_var 2) je_int) ja_nil)) (h1 := by intro _ _ _ h;simpa [cons3,nil3] using h)) (fun _ _ _ => (jg_name (i := 0) (show (["_law_i","_law_cells_here","_law_rows"] : List Str).Nodup by decide +kernel))) (fun _ _ _ => jf_one (jt_cmp (op_eqA hr.units) ref_eqA (je_lc ["_law_p","_law_q","_law_rows","_law_i"] [none,none,some 2,some 0] rfl (ji_seq (je_var 1)) (fun _ _ _ => (jg_tup rfl (jg_cons (jg_name (i := 0) (show (["_law_p","_law_q","_law_rows","_law_i"] : List Str).Nodup by decide +kernel)) (jg_cons (jg_name (i := 1) (show (["_law_p","_law_q","_law_rows","_law_i"] : List Str).Nodup by decide +kernel)) jg_nil)))) (fun _ _ _ => jf_one (jt_not (jt_chain op_le ref_iB op_lt ref_iB je_int (je_plus (je_var 3) (je_var 0)) (je_var 2)))) (fun _ _ _ => (je_var 0)) (by rfl) (by rfl)) (je_lst ja_nil) (nomark _))) (fun _ _ _ => (je_var 0)) (show scOk (defScope st_law_due) _ = true by decide +kernel) (show capOk ["_law_dealing_here","_law_walk_here","_law_rows","_law_columns","_law_banks","_law_found","_law_cells_here","_law_tops","_law_sides_here","_law_i"] ["_law_i","_law_cells_here","_law_rows"] _ [none,some 6,some 2] = true by decide +kernel) rfl rfl) (jb_cons (js_lcset 8 ["_law_j","_law_cells_here","_law_columns"] [none,some 6,some 3] rfl sc_law_due.nd (ji_range2 rfl m_range (ja_cons (je_neg je_int) (ja_cons (je_plus (je_var 3) je_int) ja_nil)) (h1 := by intro _ _ _ h;simpa [cons3,nil3] using h)) (fun _ _ _ => (jg_name (i := 0) (show (["_law_j","_law_cells_here","_law_columns"] : List Str).Nodup by decide +kernel))) (fun _ _ _ => jf_one (jt_cmp (op_eqA hr.units) ref_eqA (je_lc ["_law_p","_law_q","_law_columns","_law_j"] [none,none,some 2,some 0] rfl (ji_seq (je_var 1)) (fun _ _ _ => (jg_tup rfl (jg_cons (jg_name (i := 0) (show (["_law_p","_law_q","_law_columns","_law_j"] : List Str).Nodup by decide +kernel)) (jg_cons (jg_name (i := 1) (show (["_law_p","_law_q","_law_columns","_law_j"] : List Str).Nodup by decide +kernel)) jg_nil)))) (fun _ _ _ => jf_one (jt_not (jt_chain op_le ref_iB op_lt ref_iB je_int (je_plus (je_var 3) (je_var 1)) (je_var 2)))) (fun _ _ _ => (je_var 1)) (by rfl) (by rfl)) (je_lst ja_nil) (nomark _))) (fun _ _ _ => (je_var 0)) (show scOk (defScope st_law_due) _ = true by decide +kernel) (show capOk ["_law_dealing_here","_law_walk_here","_law_rows","_law_columns","_law_banks","_law_found","_law_cells_here","_law_tops","_law_sides_here","_law_i"] ["_law_j","_law_cells_here","_law_columns"] _ [none,some 6,some 3] = true by decide +kernel) rfl rfl) (jb_cons (js_for PassesOwn.never rfl (ji_seq (je_var 7)) (jg_name (i := 9) (sc_law_due.nd)) (jb_one (js_expr (je_extend (je_var 5) (ja_cons (je_lc ["_law_j","_law_i"] [none,some 9] rfl (ji_seq (je_var 8)) (fun _ _ _ => (jg_name (i := 0) (show (["_law_j","_law_i"] : List Str).Nodup by decide +kernel))) (fun _ _ _ => jf_nil) (fun _ _ _ => (je_tup (ja_cons (je_var 1) (ja_cons (je_var 0) ja_nil)))) (show scOk (defScope st_law_due) _ = true by decide +kernel) (show capOk ["_law_dealing_here","_law_walk_here","_law_rows","_law_columns","_law_banks","_law_found","_law_cells_here","_law_tops","_law_sides_here","_law_i"] ["_law_j","_law_i"] _ [none,some 9] = true by decide +kernel)) ja_nil))))) (jb_one (js_ret (je_var 5))))))))) read
noncomputable abbrev st_law_same : Stmt := top 24
theorem sc_law_same : FnScope ["_law_found","_law_due_here"] ["_law_found","_law_due_here"] (defScope st_law_same) := ⟨rfl,rfl,rfl,by decide +kernel,rfl,by decide +kernel,by decide +kernel⟩
theorem ok_law_same {P : Program} {w : World} {K : PySem.W.Frag} {mg : Str → Option Value} {base : Heap} {f : Addr} {fd : FuncData} {k : Nat} {sp : Sp3} {S_law_same : Sp3} (F : Fun K "_law_same" "_law_same" st_law_same f fd) (bd : Binds K fd ["_law_found","_law_due_here"] []) (hm : mg "_law_same" = some (.ref f)) (F_law_same : Fn3 P w K mg base k "_law_same" S_law_same) (m_isinstance : mg "isinstance" = none) (m_list : mg "list" = none) (m_tuple : mg "tuple" = none) (m_zip : mg "zip" = none) (m_all : mg "all" = none) (m_len : mg "len" = none) (m_str : mg "str" = none) (m_bool : mg "bool" = none) (m_int : mg "int" = none)
  (read : ∀ ts G q,sp ts G q → ts.length = 2∧(Bk.t_law_same S_law_same) { nx := fun _ G' => q .non G',rt := q } (start3 ["_law_found","_law_due_here"] ts) G) : Fn3 P w K mg base (k + 1) "_law_same" sp :=
 jfn3_of (t3 := (Bk.t_law_same S_law_same)) F sc_law_same bd hm (fun cdv A outer s H E hr => (jb_cons (js_if (jt_val (je_isi2 (je_var 1) rfl m_isinstance rfl m_list PyProof.Rows.boot_list rfl m_tuple PyProof.Rows.boot_tuple)) (jb_cons (js_if (jpt (jt_or (jt_cmp (op_neA hr.units) ref_neA (je_isi (je_var 0) rfl m_isinstance rfl m_list PyProof.Rows.boot_list) (je_isi (je_var 1) rfl m_isinstance rfl m_list PyProof.Rows.boot_list) (nomark _)) (jt_or1 (jt_cmp (op_neA hr.units) ref_neA (je_isi (je_var 0) rfl m_isinstance rfl m_tuple PyProof.Rows.boot_tuple) (je_isi (je_var 1) rfl m_isinstance rfl m_tuple PyProof.Rows.boot_tuple) (nomark _))))) (jb_one (js_ret je_bl)) jb_nil) (jb_one (js_ret (je_and (je_cmp (op_eqA hr.units) ref_eqA (je_callB call_len ref_len rfl m_len PySem.boot_len (ja_cons (je_var 0) ja_nil)) (je_callB call_len ref_len rfl m_len PySem.boot_len (ja_cons (je_var 1) ja_nil)) (nomark _)) (je_one (je_callB (call_all_bools rfl) ref_all rfl m_all PyProof.Rows.boot_all (ja_cons (je_lc ["_law_one","_law_other"] [none,none] rfl (ji_zip rfl m_zip (ja_cons (je_var 0) (ja_cons (je_var 1) ja_nil))) (fun _ _ _ => (jg_tup rfl (jg_cons (jg_name (i := 0) (show (["_law_one","_law_other"] : List Str).Nodup by decide +kernel)) (jg_cons (jg_name (i := 1) (show (["_law_one","_law_other"] : List Str).Nodup by decide +kernel)) jg_nil)))) (fun _ _ _ => jf_nil) (fun _ _ _ => (je_call F_law_same hr rfl (ja_cons (je_var 0) (ja_cons (je_var 1) ja_nil)))) (show scOk (defScope st_law_same) _ = true by decide +kernel) (show capOk ["_law_found","_law_due_here"] ["_law_one","_law_other"] _ [none,none] = true by decide +kernel)) ja_nil))))))) jb_nil) (jb_cons (js_if (jpt (jt_or (jt_cmp op_isN ref_isN (je_var 1) je_non (nomark _)) (jt_or1 (jt_val (je_isi2 (je_var 1) rfl m_isinstance rfl m_str PyProof.Rows.boot_str rfl m_bool PyProof.Rows.boot_bool))))) (jb_one (js_ret (je_and (je_cmp (op_eqA hr.units) ref_eqA (je_var 0) (je_var 1) (nomark _)) (je_and (je_cmp (op_eqA hr.units) ref_eqA (je_isi (je_var 0) rfl m_isinstance rfl m_bool PyProof.Rows.boot_bool) (je_isi (je_var 1) rfl m_isinstance rfl m_bool PyProof.Rows.boot_bool) (nomark _)) (je_one (je_cmp (op_eqA hr.units) ref_eqA (je_cmp op_isN ref_isN (je_var 0) je_non (nomark _)) (je_cmp op_isN ref_isN (je_var 1) je_non (nomark _)) (nomark _))))))) jb_nil) (jb_one (js_ret (je_and (je_isi (je_var 0) rfl m_isinstance rfl m_int PyProof.Rows.boot_int) (je_and (je_not (je_isi (je_var 0) rfl m_isinstance rfl m_bool PyProof.Rows.boot_bool)) (je_one (je_cmp (op_eqA hr.units) ref_eqA (je_var 0) (je_var 1) (nomark _)))))))))) read
noncomputable abbrev st_law : Stmt := top 25
theorem sc_law : FnScope ["_law_script","_law_k","_law_left_here","_law_dealing_here","_law_walks","_law_kept","_law_dues","_law_at","_law_found"] ["_law_script"] (defScope st_law) := ⟨rfl,rfl,rfl,by decide +kernel,rfl,by decide +kernel,by decide +kernel⟩
noncomputable def t_law (S_law_left : Sp3) (S_law_dealing : Sp3) (S_law_walk : Sp3) (S_law_due : Sp3) (S_starts : Sp3) (S_law_same : Sp3) : TS3 := (seq3 (for3 (irng3 (cons3 (o3 cat3 (c3 (.int 1)) (cb3 min3 (cons3 (c3 (.int 6)) (cons3 (cb3 len3 (cons3 (v3 0) nil3)) nil3)))) nil3)) (gn3 1) (seq3 (asg3 (cb3 S_law_left (cons3 (v3 0) (cons3 (v3 1) nil3))) (gn3 2)) (seq3 (asg3 (cb3 S_law_dealing (cons3 (v3 2) nil3)) (gn3 3)) (seq3 (asg3 (lst3 (cons3 (cb3 S_law_walk (cons3 (v3 2) nil3)) (cons3 (cb3 S_law_walk (cons3 (v3 2) nil3)) nil3))) (gn3 4)) (seq3 (asg3 (cb3 repr3 (cons3 (lst3 (cons3 (v3 3) (cons3 (v3 4) nil3))) nil3)) (gn3 5)) (seq3 (asg3 (lc3 (iseq3 (v3 4)) (gn3 0) tt3 (cb3 S_law_due (cons3 (v3 1) (cons3 (v3 0) nil3))) [none,some 3]) (gn3 6)) (for3 (iseq3 (tup3 (cons3 (c3 (.int 0)) (cons3 (c3 (.int 1)) (cons3 (c3 (.int 0)) nil3))))) (gn3 7) (seq3 (asg3 (cb3 S_starts (cons3 (v3 3) (cons3 (o3 ix3 (v3 4) (v3 7)) nil3))) (gn3 8)) (seq3 (ifS3 (or3 (not3 (tb3 (cb3 S_law_same (cons3 (v3 8) (cons3 (o3 ix3 (v3 6) (v3 7)) nil3))))) (tb3 (o3 (eqA3 true) (cb3 repr3 (cons3 (lst3 (cons3 (v3 3) (cons3 (v3 4) nil3))) nil3)) (v3 5)))) (ret3 (c3 (.bl false))) next3) (seq3 (drop3 (bm3 app3 (v3 8) (cons3 (tup3 (cons3 (c3 (.int 99)) (cons3 (c3 (.int 99)) nil3))) nil3))) (drop3 (bm03 rev3 (v3 8))))))))))))) (ret3 (c3 (.bl true))))
theorem ok_law {P : Program} {w : World} {K : PySem.W.Frag} {mg : Str → Option Value} {base : Heap} {f : Addr} {fd : FuncData} {k : Nat} {sp : Sp3} {S_law_left : Sp3} {S_law_dealing : Sp3} {S_law_walk : Sp3} {S_law_due : Sp3} {S_starts : Sp3} {S_law_same : Sp3} (F : Fun K "law" "law" st_law f fd) (F_law_left : Fn3 P w K mg base k "_law_left" S_law_left) (F_law_dealing : Fn3 P w K mg base k "_law_dealing" S_law_dealing) (F_law_walk : Fn3 P w K mg base k "_law_walk" S_law_walk) (F_law_due : Fn3 P w K mg base k "_law_due" S_law_due) (F_starts : Fn3 P w K mg base k "starts" S_starts) (F_law_same : Fn3 P w K mg base k "_law_same" S_law_same) (m_len : mg "len" = none) (m_min : mg "min" = none) (m_range : mg "range" = none) (m_str : mg "str" = none)
  (read : ∀ ts G q,sp ts G q → ts.length = 1∧(t_law S_law_left S_law_dealing S_law_walk S_law_due S_starts S_law_same) { nx := fun _ G' => q .non G',rt := q } (start3 ["_law_script","_law_k","_law_left_here","_law_dealing_here","_law_walks","_law_kept","_law_dues","_law_at","_law_found"] ts) G) : FnOk P w K mg base CX0 (k + 1) f fd ["_law_script"] (lSp K sp) :=
 jfnok_of (t3 := (t_law S_law_left S_law_dealing S_law_walk S_law_due S_starts S_law_same)) F sc_law (fun cdv A outer s H E hr => (jb_cons (js_for PassesOwn.never rfl (ji_range1 rfl m_range (ja_cons (je_plus je_int (je_callB (call_min2 rfl) ref_min rfl m_min PyProof.Rows.boot_min (ja_cons je_int (ja_cons (je_callB call_len ref_len rfl m_len PySem.boot_len (ja_cons (je_var 0) ja_nil)) ja_nil)))) ja_nil) (h1 := by intro _ _ _ h;simpa [cons3,nil3] using h)) (jg_name (i := 1) (sc_law.nd)) (jb_cons (js_set 2 sc_law.nd (je_call F_law_left hr rfl (ja_cons (je_var 0) (ja_cons (je_var 1) ja_nil)))) (jb_cons (js_set 3 sc_law.nd (je_call F_law_dealing hr rfl (ja_cons (je_var 2) ja_nil))) (jb_cons (js_set 4 sc_law.nd (je_lst (ja_cons (je_call F_law_walk hr rfl (ja_cons (je_var 2) ja_nil)) (ja_cons (je_call F_law_walk hr rfl (ja_cons (je_var 2) ja_nil)) ja_nil)))) (jb_cons (js_set 5 sc_law.nd (je_callTy (call_strD hr.gd hr.units) ref_repr rfl m_str PyProof.Rows.boot_str (ja_cons (je_lst (ja_cons (je_var 3) (ja_cons (je_var 4) ja_nil))) ja_nil))) (jb_cons (js_lcset 6 ["_law_walk_here","_law_dealing_here"] [none,some 3] rfl sc_law.nd (ji_seq (je_var 4)) (fun _ _ _ => (jg_name (i := 0) (show (["_law_walk_here","_law_dealing_here"] : List Str).Nodup by decide +kernel))) (fun _ _ _ => jf_nil) (fun _ _ _ => (je_call F_law_due hr rfl (ja_cons (je_var 1) (ja_cons (je_var 0) ja_nil)))) (show scOk (defScope st_law) _ = true by decide +kernel) (show capOk ["_law_script","_law_k","_law_left_here","_law_dealing_here","_law_walks","_law_kept","_law_dues","_law_at","_law_found"] ["_law_walk_here","_law_dealing_here"] _ [none,some 3] = true by decide +kernel) rfl rfl) (jb_one (js_for PassesOwn.never rfl (ji_seq (je_tup (ja_cons je_int (ja_cons je_int (ja_cons je_int ja_nil))))) (jg_name (i := 7) (sc_law.nd)) (jb_cons (js_set 8 sc_law.nd (je_call F_starts hr rfl (ja_cons (je_var 3) (ja_cons (je_ix (je_var 4) (je_var 7)) ja_nil)))) (jb_cons (js_if (jpt (jt_or (jt_not (jt_val (je_call F_law_same hr rfl (ja_cons (je_var 8) (ja_cons (je_ix (je_var 6) (je_var 7)) ja_nil))))) (jt_or1 (jt_cmp (op_neA hr.units) ref_neA (je_callTy (call_strD hr.gd hr.units) ref_repr rfl m_str PyProof.Rows.boot_str (ja_cons (je_lst (ja_cons (je_var 3) (ja_cons (je_var 4) ja_nil))) ja_nil)) (je_var 5) (nomark _))))) (jb_one (js_ret je_bl)) jb_nil) (jb_cons (js_expr (je_append (je_var 8) (ja_cons (je_tup (ja_cons je_int (ja_cons je_int ja_nil))) ja_nil))) (jb_one (js_expr (je_reverse (je_var 8))))))))))))))) (jb_one (js_ret je_bl)))) read
end K14
namespace K14
open PySem L2 L3 Pu
noncomputable def b_law_cells : PuS (Bk.t_law_cells) := (sSeq (sIf (bTb (bO (opEq false) (bO opIx (bV 0) (bInt 0)) (bStr "cells"))) (sRet (bCall fLst (bCons (bO opIx (bV 0) (bInt 1)) bNil))) sNext) (sSeq (sIf (bTb (bO (opEq false) (bO opIx (bV 0) (bInt 0)) (bStr "block"))) (sSeq (sAsg (bLst bNil ⟨rfl⟩) 1 [] ⟨rfl⟩) (sSeq (sFor (iRng (bCons (bO opIx (bV 0) (bInt 1)) bNil)) (gN 2) (sExt (bLc (iRng (bCons (bO opIx (bV 0) (bInt 2)) bNil)) (gN 0) bTt (bTup (bCons (bV 1) (bCons (bV 0) bNil)) ⟨rfl⟩) [none,some 2] ⟨rfl⟩) 1 [true,false,true] ⟨rfl⟩) [true] ⟨rfl⟩) (sRetV 1))) sNext) (sSeq (sAsgT (bDsub ["row","column","slant","back","step"] (bCons (bTup (bCons (bInt 0) (bCons (bInt 1) bNil)) ⟨rfl⟩) (bCons (bTup (bCons (bInt 1) (bCons (bInt 0) bNil)) ⟨rfl⟩) (bCons (bTup (bCons (bInt 1) (bCons (bInt 1) bNil)) ⟨rfl⟩) (bCons (bTup (bCons (bInt 1) (bCons (bNeg (bInt 1)) bNil)) ⟨rfl⟩) (bCons (bSl (bV 0) (bSp (bInt 1)) (bSp (bInt 3))) bNil))))) (bO opIx (bV 0) (bInt 0))) (gTup 2 (gCons (gN 3) (gCons (gN 4) gNil))) [true] ⟨rfl⟩) (sRet (bLc (iRng (bCons (bO opIx (bV 0) (bNeg (bInt 1))) bNil)) (gN 0) bTt (bTup (bCons (bO (opC CMul (· * ·)) (bV 0) (bV 1)) (bCons (bO (opC CMul (· * ·)) (bV 0) (bV 2)) bNil)) ⟨rfl⟩) [none,some 3,some 4] ⟨rfl⟩)))))
noncomputable def F_law_cells : List PyData → Option PyData := Pu.run b_law_cells.f 1 5 1000000000 true
theorem rd_law_cells : ∀ ts G q,PSp F_law_cells true ts G q → ts.length = 1∧Bk.t_law_cells { nx := fun _ G' => q .non G',rt := q } (start3 ["_law_walk_here","_law_found","_law_p","_law_down","_law_along"] ts) G := pu_read b_law_cells ["_law_walk_here","_law_found","_law_p","_law_down","_law_along"] 1 1000000000 true
theorem un_law_cells {x0 : PyData} : F_law_cells [x0] = outF true (b_law_cells.f 1000000000 [.sh x0,.un,.un,.un,.un]) := id rfl
noncomputable def b_law_due : PuS (K14.t_law_due (Bk.sp_law_size 3) (PSp F_law_cells true)) := (sSeq (sAsgT (bCall (fLsz 2) (bCons (bV 0) bNil)) (gTup 3 (gCons (gN 2) (gCons (gN 3) (gCons (gN 4) gNil)))) [true] ⟨rfl⟩) (sSeq (sAsgE (bCall (fCall F_law_cells true) (bCons (bV 1) bNil)) 5 6 [false,true] ⟨rfl⟩ ⟨rfl⟩) (sSeq (sAsg (bLc (iRng (bCons (bNeg (bInt 17)) (bCons (bO opCat (bV 2) (bInt 17)) bNil))) (gN 0) (bTb (bO (opEq false) (bLc (iSeq (bV 1)) (gTup 2 (gCons (gN 0) (gCons (gN 1) gNil))) (bNot (bTb (bCh (opB fun i j => decide (i ≤ j)) (opB fun i j => decide (i < j)) (bInt 0) (bO opCat (bV 3) (bV 0)) (bV 2)))) (bV 0) [none,none,some 2,some 0] ⟨rfl⟩) (bLst bNil ⟨rfl⟩))) (bV 0) [none,some 6,some 2] ⟨rfl⟩) 7 [false,false,true,false,false,false,true] ⟨rfl⟩) (sSeq (sAsg (bLc (iRng (bCons (bNeg (bInt 17)) (bCons (bO opCat (bV 3) (bInt 17)) bNil))) (gN 0) (bTb (bO (opEq false) (bLc (iSeq (bV 1)) (gTup 2 (gCons (gN 0) (gCons (gN 1) gNil))) (bNot (bTb (bCh (opB fun i j => decide (i ≤ j)) (opB fun i j => decide (i < j)) (bInt 0) (bO opCat (bV 3) (bV 1)) (bV 2)))) (bV 1) [none,none,some 2,some 0] ⟨rfl⟩) (bLst bNil ⟨rfl⟩))) (bV 0) [none,some 6,some 3] ⟨rfl⟩) 8 [false,false,false,true,false,false,true] ⟨rfl⟩) (sSeq (sFor (iSeq (bV 7)) (gN 9) (sExt (bLc (iSeq (bV 8)) (gN 0) bTt (bTup (bCons (bV 1) (bCons (bV 0) bNil)) ⟨rfl⟩) [none,some 9] ⟨rfl⟩) 5 [false,false,false,false,false,false,false,false,true,true] ⟨rfl⟩) [false,false,false,false,false,false,false,true] ⟨rfl⟩) (sRetV 5))))))
noncomputable def F_law_due : List PyData → Option PyData := Pu.run b_law_due.f 2 10 1000000000 true
theorem rd_law_due : ∀ ts G q,PSp F_law_due true ts G q → ts.length = 2∧K14.t_law_due (Bk.sp_law_size 3) (PSp F_law_cells true) { nx := fun _ G' => q .non G',rt := q } (start3 ["_law_dealing_here","_law_walk_here","_law_rows","_law_columns","_law_banks","_law_found","_law_cells_here","_law_tops","_law_sides_here","_law_i"] ts) G := pu_read b_law_due ["_law_dealing_here","_law_walk_here","_law_rows","_law_columns","_law_banks","_law_found","_law_cells_here","_law_tops","_law_sides_here","_law_i"] 2 1000000000 true
theorem un_law_due {x0 x1 : PyData} : F_law_due [x0,x1] = outF true (b_law_due.f 1000000000 [.sh x0,.sh x1,.un,.un,.un,.un,.un,.un,.un,.un]) := id rfl
noncomputable def R_law (S_law_dealing : Sp3) (S_law_walk : Sp3) (S_law_due : Sp3) (S_starts : Sp3) (S_law_same : Sp3) : TS3 := (seq3 (asg3 (cb3 S_law_dealing (cons3 (v3 2) nil3)) (gn3 3)) (seq3 (asg3 (lst3 (cons3 (cb3 S_law_walk (cons3 (v3 2) nil3)) (cons3 (cb3 S_law_walk (cons3 (v3 2) nil3)) nil3))) (gn3 4)) (seq3 (asg3 (cb3 repr3 (cons3 (lst3 (cons3 (v3 3) (cons3 (v3 4) nil3))) nil3)) (gn3 5)) (seq3 (asg3 (lc3 (iseq3 (v3 4)) (gn3 0) tt3 (cb3 S_law_due (cons3 (v3 1) (cons3 (v3 0) nil3))) [none,some 3]) (gn3 6)) (for3 (iseq3 (tup3 (cons3 (c3 (.int 0)) (cons3 (c3 (.int 1)) (cons3 (c3 (.int 0)) nil3))))) (gn3 7) (seq3 (asg3 (cb3 S_starts (cons3 (v3 3) (cons3 (o3 ix3 (v3 4) (v3 7)) nil3))) (gn3 8)) (seq3 (ifS3 (or3 (not3 (tb3 (cb3 S_law_same (cons3 (v3 8) (cons3 (o3 ix3 (v3 6) (v3 7)) nil3))))) (tb3 (o3 (eqA3 true) (cb3 repr3 (cons3 (lst3 (cons3 (v3 3) (cons3 (v3 4) nil3))) nil3)) (v3 5)))) (ret3 (c3 (.bl false))) next3) (seq3 (drop3 (bm3 app3 (v3 8) (cons3 (tup3 (cons3 (c3 (.int 99)) (cons3 (c3 (.int 99)) nil3))) nil3))) (drop3 (bm03 rev3 (v3 8)))))))))))
noncomputable def lb_law_1 := ((wSeq (wAsg (eOf (bCall (fCall (Pv.F_starts 3) true) (bCons (bV 3) (bCons (bO opIx (bV 4) (bV 7)) bNil)))) 8 [false,false,false,true,true,false,false,true] ⟨rfl⟩ ⟨rfl⟩) (wSeq (wIf (cOf (bOr (bNot (bTb (bCall (fSame 2) (bCons (bV 8) (bCons (bO opIx (bV 6) (bV 7)) bNil))))) (bTb (bO (opEq true) (bCall fStr (bCons (bLst (bCons (bV 3) (bCons (bV 4) bNil)) ⟨rfl⟩) bNil)) (bV 5))))) (wRet (eOf (bBl false))) wNext) (wSeq (wApp (eOf (bTup (bCons (bInt 99) (bCons (bInt 99) bNil)) ⟨rfl⟩)) 8 [] ⟨rfl⟩ ⟨rfl⟩) (wRev 8)))) : PwS 2 _)
noncomputable def b_law : PwS 2 (R_law Bk.sp_law_dealing Bk.sp_law_walk (PSp F_law_due true) (PSp (Pv.F_starts 3) true) (Bk.sp_law_same 3)) := (wSeq (wAsg (eDr dDealing (aOf bNil)) 3 [] ⟨rfl⟩ ⟨rfl⟩) (wSeq (wAsg (eLst (eCons (eDr dWalk (aOf bNil)) (eCons (eDr dWalk (aOf bNil)) (aOf bNil))) ⟨rfl⟩) 4 [] ⟨rfl⟩ ⟨rfl⟩) (wSeq (wAsg (eOf (bCall fStr (bCons (bLst (bCons (bV 3) (bCons (bV 4) bNil)) ⟨rfl⟩) bNil))) 5 [false,false,false,true,true] ⟨rfl⟩ ⟨rfl⟩) (wSeq (wAsg (eOf (bLc (iSeq (bV 4)) (gN 0) bTt (bCall (fCall F_law_due true) (bCons (bV 1) (bCons (bV 0) bNil))) [none,some 3] ⟨rfl⟩)) 6 [false,false,false,true,true] ⟨rfl⟩ ⟨rfl⟩) (wFor (iOf (iSeq (bTup (bCons (bInt 0) (bCons (bInt 1) (bCons (bInt 0) bNil))) ⟨rfl⟩))) (gN 7) lb_law_1 [] ⟨rfl⟩ ⟨rfl⟩)))))
theorem law_of (h : ∀ k : Nat,k ≤ 60 → b_law.w [.un,.sh (.int k),.un,.un,.un,.un,.un,.un,.un] 0 okW) : ∀ ts G q,sp_top ts G q → ts.length = 1∧K14.t_law Bk.sp_law_left Bk.sp_law_dealing Bk.sp_law_walk (PSp F_law_due true) (PSp (Pv.F_starts 3) true) (Bk.sp_law_same 3) { nx := fun _ G' => q .non G',rt := q } (start3 ["_law_script","_law_k","_law_left_here","_law_dealing_here","_law_walks","_law_kept","_law_dues","_law_at","_law_found"] ts) G := law_read b_law ["_law_script","_law_k","_law_left_here","_law_dealing_here","_law_walks","_law_kept","_law_dues","_law_at","_law_found"] 6 6 ⟨by decide,by decide⟩ rfl h
end K14
namespace K14
open PySem L2 L3 Bk
theorem atI_two6 : ∀ {d : Nat},d ≤ 5 → L2.atI [T.int 1,.int 2,.int 4,.int 8,.int 16,.int 32] (d : Int) = some (.int (2 ^ d))
 | 0,_ => rfl
 | 1,_ => rfl
 | 2,_ => rfl
 | 3,_ => rfl
 | 4,_ => rfl
 | 5,_ => rfl
 | k + 6,h => absurd h (Nat.not_le.mpr (Nat.lt_of_lt_of_le (Nat.lt_succ_self _) (Nat.le_add_left _ _)))
theorem rd_law_size6 (n : Nat) : ∀ ts G q,sp_law_size (n + 1) ts G q → ts.length = 1∧K14.t_law_size (sp_law_size n) (ends q) (start3 ["_law_dealing_here","_law_two","_law_one","_law_other"] ts) G := by
 rintro ts G q ⟨d,rfl,hd,ok,h⟩
 refine ⟨rfl,?_⟩
 have h0 := h G Ex.refl
 unfold K14.t_law_size
 cases d with
 | skew r c b x y =>
  show seq3 _ _ _ [some (.tup [.str "skew",.int r,.int c,.int b,.int x,.int y]),none,none,none] G
  rw [if_in2 rfl,if_pos (.inl rfl)]
  simp [sl3,ret3,tsl3,sp3,v3,c3,L3.cut3,HT.sIx]
  exact h0
 | rests r c b x =>
  show seq3 _ _ _ [some (.tup [.str "rests",.int r,.int c,.int b,.int x]),none,none,none] G
  rw [if_in2 rfl,if_pos (.inr rfl)]
  simp [sl3,ret3,tsl3,sp3,v3,c3,L3.cut3,HT.sIx]
  exact h0
 | bits hh l ms =>
  obtain ⟨k1,k2,k3,_⟩ := ok
  show seq3 _ _ _ [some (.tup [.str "bits",.int hh,.int l,.tup (ms.map T.int)]),none,none,none] G
  rw [if_in2 rfl,if_neg (by decide),if_str0 rfl,if_pos rfl]
  simp only [seq3,asg3,lst3,cons3,c3,nil3,List.length_cons,List.length_nil,Nat.zero_add,Nat.reduceAdd,sizeLine_eq,Nat.reduceLeDiff,gn3,ret3,tup3,o3,v3,List.set_cons_succ,List.set_cons_zero,Nat.reduceLT,getElem?_pos,List.getElem_cons_succ,List.getElem_cons_zero,Nat.zero_lt_succ,cb3,len3,true_and,ixR,getL,ixT]
  intro p hp
  have ix : ∀ k : Nat,k ≤ 5 → L2.atI [T.int 1,.int 2,.int 4,.int 8,.int 16,.int 32] (k : Int) = some (.int (2 ^ k)) := fun k hk => atI_two6 (by omega)
  simp only [atI_1,atI_2,atI_3,List.length_map,ixR,getL,gu,↓reduceIte,ix hh (by omega),ix l (by omega),ix ms.length (by omega)]
  exact h _ (ex_new hp)
 | table b cells =>
  have L := Dl.lims ok
  obtain ⟨k1,k2,k3,k4,c,k5,k6,k7⟩ := ok
  cases cells with
  | nil => simp at k3
  | cons row cells =>
   show seq3 _ _ _ [some (.tup [.str "table",.int b,.tup (rowT row :: cells.map rowT)]),none,none,none] G
   rw [if_in2 rfl,if_neg (by decide),if_str0 rfl,if_neg (by decide),if_str0 rfl,if_pos rfl]
   simp only [ret3,tup3,cons3,cb3,o3,v3,rowT,List.length_cons,List.length_nil,Nat.zero_add,Nat.reduceAdd,Nat.zero_lt_succ,getElem?_pos,List.getElem_cons_zero,c3,nil3,len3,sizeLine_eq,Nat.reduceLeDiff,true_and,ixT,atI_1,getL,atI_2,atI_0,List.length_map,Int.natCast_add,Int.cast_ofNat_Int];simpa [sizeT,Dl.R,Dl.C,Dl.B] using h0
 | joined d e =>
  have Ld := Dl.lims ok.1
  have Le := Dl.lims ok.2.1
  have : 1 ≤ n := by simp [Dl.dep] at hd;omega
  obtain ⟨m,rfl⟩ : ∃ m,n = m + 1 := ⟨n - 1,by omega⟩
  show seq3 _ _ _ [some (.tup [.str "joined",d.t,e.t]),none,none,none] G
  rw [if_in2 rfl,if_neg (by decide),if_str0 rfl,if_neg (by decide),if_str0 rfl,if_neg (by decide)]
  refine seq_i fun nx1 q1 => ?_
  simp only [par3,cons3,nil3,cb3,o3,v3,c3,L3.ixT,atI_1,atI_2,List.getElem?_cons_zero]
  refine ⟨d,rfl,by simp [Dl.dep] at hd;omega,ok.1,fun G1 E1 => ?_⟩
  refine ⟨e,rfl,by simp [Dl.dep] at hd;omega,ok.2.1,fun G2 E2 => ?_⟩
  simp
  rw [q1]
  have e1 := Le.r1;have e2 := Le.r2;have e3 := Le.c1;have e4 := Le.c2;have e5 := Le.b1;have e6 := Le.b2
  simp only [ret3,cb3,cons3,lc3,izip3,v3,sizeT,List.length_cons,List.length_nil,Nat.zero_add,Nat.reduceAdd,Nat.reduceLT,getElem?_pos,List.getElem_cons_succ,List.getElem_cons_zero,Nat.lt_add_one,nil3,seqOf,and_self,tuple3,getL,zipT,List.zip_cons_cons,List.zip_nil_right,List.map_cons,List.map_nil,cap,lcGo,gtup3,gcons3,gn3,gnil3,tt3,↓reduceIte,o3,List.set_cons_zero,List.set_cons_succ,Nat.zero_lt_succ,iC,sizeLine_eq,List.nil_append,List.cons_append,gu,true_and]
  refine ⟨cm (by omega) (by omega),cm (by omega) (by omega),cm (by omega) (by omega),fun p hp => ?_⟩
  exact h _ ((E1.trans E2).trans (ex_new hp))
end K14
namespace K14
open PySem L2 L3 Pu Pv
open Bk (Dl Dr Wk along blockC lnName lnD lnA)
theorem extF_ok {i : Nat} {es ds : List PyData} {ρ : Rho} (h : slot ρ i = some ds) (hl : ds.length + es.length ≤ 16777216) : extF i (.list es) ρ = some (.nx (ρ.set i (.ow (ds ++ es)))) := by unfold extF;rw [h];simp only [Option.bind_some];exact cif_pos hl
theorem sl_line {s : Str} {m : Int} : slD (.tuple [.str s,.int m]) (some 1) (some 3) = some (.tuple [.int m]) := cif_neg (by simp [HT.sIx])
theorem sl_step {s : Str} {u v m : Int} : slD (.tuple [.str s,.int u,.int v,.int m]) (some 1) (some 3) = some (.tuple [.int u,.int v]) := cif_neg (by simp [HT.sIx])
theorem at_l2 {x y : PyData} : L2.atI [x,y] (-1) = some y := rfl
theorem at_l4 {x y z w : PyData} : L2.atI [x,y,z,w] (-1) = some w := rfl
theorem F_lc {w : Wk} (ok : Big w) : F_law_cells [Wk.d w] = some (.list (w.pc.map pD)) := by
 rw [un_law_cells]
 cases w with
 | cells ps =>
  try simp only [Pu.pwA,b_law_cells,Wk.d,eq_self,Wk.pc]
 | block h v =>
  obtain ⟨h1,h2⟩ := ok
  try simp (disch := omega) only [Pu.pwA,b_law_cells,Wk.d,eq_self,L3.ne_block_cells,Wk.pc,rng1,Int.toNat_natCast]
  rw [Option.bind_assoc]
  refine for_any (Q := fun o => outF true o = _) (rngI 0 h) (fun i ρ => ∃ s2 s3 s4,ρ = [.sh (Wk.d (.block h v)),.ow ((blockC i v).map pD),s2,s3,s4]) ⟨_,_,_,rfl⟩ ?_ ?_
  ·rintro i x ρ hx ⟨s2,s3,s4,rfl⟩
   obtain ⟨hi,rfl⟩ := rngI_get hx
   try simp only [Pu.pwA,Wk.d]
   rw [lcF_ok (ds := (rngI 0 v).map PyData.int) (fs := ((List.range v).map fun (q : Nat) => ((i : Int),(q : Int))).map pD)]
   rotate_left
   ·try simp (disch := omega) only [Pu.pwA,rng1,Int.toNat_natCast]
   ·unfold rngI
    rw [List.map_map,List.map_map]
    refine lcP_map fun q hq => ?_
    try simp only [Pu.pwA,lcH_k,pD,Int.zero_add,Function.comp_def]
   ·simp;omega
   try simp only [Pu.pwA]
   rw [extF_ok (ds := (blockC i v).map pD) rfl (by
    have := Nat.mul_le_mul (show i ≤ 1000 by omega) h2
    rw [List.length_map,Bk.block_len,List.length_map,List.length_map,List.length_range];omega)]
   try simp only [Pu.pwA]
   rw [Bk.block_succ,List.map_append]
   exact ⟨_,_,_,rfl⟩
  ·rintro ρ ⟨s2,s3,s4,rfl⟩
   rw [rngI_len]
   try simp only [Pu.pwA]
 | step d a m =>
  obtain ⟨h1,h2,h3⟩ := ok
  have e5 : dGet ["row","column","slant","back","step"] [.tuple [.int 0,.int 1],.tuple [.int 1,.int 0],.tuple [.int 1,.int 1],.tuple [.int 1,.int (-1)],.tuple [.int d,.int a]] "step" = some (.tuple [.int d,.int a]) := rfl
  try simp only [Pu.pwA,b_law_cells,Wk.d,L3.ne_step_cells,L3.ne_step_block,Wk.pc,sl_step,e5]
  rw [lcF_ok (ds := (rngI 0 m).map PyData.int) (fs := (along d a m).map pD)]
  ·try simp only [Pu.pwA]
  ·try simp (disch := omega) only [Pu.pwA,at_l4,rng1,Int.toNat_natCast]
  ·unfold along rngI
   rw [List.map_map,List.map_map]
   refine lcP_map fun t ht => ?_
   have := List.mem_range.mp ht
   try simp (disch := omega) only [Pu.pwA,lcH_k,pD,cI_mul',Int.zero_add,Function.comp_def]
  ·simp [along];omega
 | line k m =>
  obtain ⟨h1,h2⟩ := ok
  have key : ∀ (d a : Int),(-1000 ≤ d∧d ≤ 1000) → (-1000 ≤ a∧a ≤ 1000) → ∀ s : Str,Str.ofString "cells" ≠ s → Str.ofString "block" ≠ s → dGet ["row","column","slant","back","step"] [.tuple [.int 0,.int 1],.tuple [.int 1,.int 0],.tuple [.int 1,.int 1],.tuple [.int 1,.int (-1)],.tuple [.int (m : Int)]] s = some (.tuple [.int d,.int a]) → outF true (b_law_cells.f 1000000000 [.sh (.tuple [.str s,.int (m : Int)]),.un,.un,.un,.un]) = some (.list ((along d a m).map pD)) := by
   intro d a hd ha s n1 n2 e5
   have n1' : ¬ s = Str.ofString "cells" := fun z => n1 z.symm
   have n2' : ¬ s = Str.ofString "block" := fun z => n2 z.symm
   try simp only [Pu.pwA,b_law_cells,n1',n2',sl_line,e5]
   rw [lcF_ok (ds := (rngI 0 m).map PyData.int) (fs := (along d a m).map pD)]
   ·try simp only [Pu.pwA]
   ·try simp (disch := omega) only [Pu.pwA,at_l2,rng1,Int.toNat_natCast]
   ·unfold along rngI
    rw [List.map_map,List.map_map]
    refine lcP_map fun t ht => ?_
    have := List.mem_range.mp ht
    try simp (disch := omega) only [Pu.pwA,lcH_k,pD,cI_mul',Int.zero_add,Function.comp_def]
   ·simp [along];omega
  have : (k = 0 ∨ k = 1 ∨ k = 2 ∨ k = 3) := by omega
  rcases this with rfl | rfl | rfl | rfl
  ·exact key 0 1 (by omega) (by omega) "row" (by decide) (by decide) rfl
  ·exact key 1 0 (by omega) (by omega) "column" (by decide) (by decide) rfl
  ·exact key 1 1 (by omega) (by omega) "slant" (by decide) (by decide) rfl
  ·exact key 1 (-1) (by omega) (by omega) "back" (by decide) (by decide) rfl
end K14
namespace K14
open PySem L2 L3 Pu Pv
open Bk (Dl Dr Wk along blockC)
theorem dpts_i : ∀ ks : List Int,dpts (ks.map PyData.int) = 0
 | [] => rfl
 | k :: ks => by simp only [List.map_cons,dpts,dpt,dpts_i ks];rfl
theorem eqs_i : ∀ ks js : List Int,pyEqs (ks.map PyData.int) (js.map PyData.int) = some (decide (ks = js))
 | [],[] => rfl
 | [],_ :: _ => by simp [pyEqs]
 | _ :: _,[] => by simp [pyEqs]
 | k :: ks,j :: js => by
  simp only [List.map_cons,pyEqs,pyEq,eqs_i ks js]
  congr 1
  by_cases h1 : k = j <;> by_cases h2 : ks = js <;> simp [h1,h2]
theorem eq_list (n : Bool) (ks js : List Int) : eqD n (.list (ks.map PyData.int)) (.list (js.map PyData.int)) = some (.bool (if n then !decide (ks = js) else decide (ks = js))) := by
 have h : scalD (.list (ks.map PyData.int)) (.list (js.map PyData.int)) = none := rfl
 unfold eqD
 rw [h]
 simp only
 rw [cif_pos (by simp [dpt,dpts_i])]
 simp only [pyEq,eqs_i,Option.map_some]
theorem eq_nil (n : Bool) (ks : List Int) : eqD n (.list (ks.map PyData.int)) (.list []) = some (.bool (if n then !decide (ks = []) else decide (ks = []))) := eq_list n ks []
theorem rngI_add (a : Int) (m n : Nat) : rngI a (m + n) = rngI a m ++ rngI (a + m) n := by
 unfold rngI
 rw [List.range_add,List.map_append,List.map_map]
 congr 1
 refine List.map_congr_left fun i _ => ?_
 show a + ((m + i : Nat) : Int) = a + m + i
 omega
theorem rng_mem {a : Int} {n : Nat} {x : Int} (h : x ∈ rngI a n) : a ≤ x∧x < a + n := by
 obtain ⟨i,hi⟩ := List.mem_iff_getElem?.mp h
 obtain ⟨h1,h2⟩ := rngI_get hi
 omega
theorem rng_flt {a lo : Int} {n k : Nat} (p q : Nat) (e1 : lo = a + p) (e2 : n = p + k + q) : (rngI a n).filter (fun i => decide (lo ≤ i) && decide (i < lo + k)) = rngI lo k := by
 rw [e2,rngI_add,rngI_add,List.filter_append,List.filter_append,← e1]
 have f1 : (rngI a p).filter (fun i => decide (lo ≤ i) && decide (i < lo + k)) = [] := List.filter_eq_nil_iff.mpr fun x hx => by
  have := rng_mem hx
  rw [decide_eq_false (show ¬ lo ≤ x by omega)];exact Bool.false_ne_true
 have f2 : (rngI lo k).filter (fun i => decide (lo ≤ i) && decide (i < lo + k)) = rngI lo k := List.filter_eq_self.mpr fun x hx => by
  have := rng_mem hx
  rw [decide_eq_true this.1,decide_eq_true this.2];rfl
 have f3 : (rngI (a + (p + k : Nat)) q).filter (fun i => decide (lo ≤ i) && decide (i < lo + k)) = [] := List.filter_eq_nil_iff.mpr fun x hx => by
  have := rng_mem hx
  rw [decide_eq_false (show ¬ x < lo + k by omega),Bool.and_false];exact Bool.false_ne_true
 rw [f1,f2,f3,List.nil_append,List.append_nil]
theorem all_iv {R i : Int} {ns : List Int} (hn : ns ≠ []) : (ns.all fun p => decide (0 ≤ i + p) && decide (i + p < R)) = (decide (-(mn ns) ≤ i) && decide (i < R - mx ns)) := by
 have a := mn_mem hn
 have b := mx_mem hn
 rw [Bool.eq_iff_iff,List.all_eq_true,Bool.and_eq_true,decide_eq_true_eq,decide_eq_true_eq]
 constructor
 ·intro h
  have h1 := h _ a
  have h2 := h _ b
  rw [Bool.and_eq_true,decide_eq_true_eq,decide_eq_true_eq] at h1 h2
  omega
 ·rintro ⟨h1,h2⟩ p hp
  have := mn_le hp
  have := mx_le hp
  rw [Bool.and_eq_true,decide_eq_true_eq,decide_eq_true_eq]
  omega
theorem flt_nil {α : Type} (f : α → Bool) (g : α → Int) : ∀ xs : List α,decide ((xs.filter fun x => !f x).map g = []) = xs.all f
 | [] => rfl
 | x :: xs => by
  have ih := flt_nil f g xs
  cases h : f x with
  | true => simp only [List.filter_cons,h,List.all_cons,Bool.true_and];simpa using ih
  | false => simp [List.filter_cons,h]
theorem tops {R : Int} {ns : List Int} (hR : 0 ≤ R) (hn : ns ≠ []) (hz : ∃ p ∈ ns,-16 ≤ p∧p ≤ 16) : (rngI (-17) (R + 17 - -17).toNat).filter (fun i => ns.all fun p => decide (0 ≤ i + p) && decide (i + p < R)) = rngI (-(mn ns)) (R - mx ns - -(mn ns)).toNat := by
 obtain ⟨p,hp,p1,p2⟩ := hz
 have a := mn_le hp
 have b := mx_le hp
 have e : (fun i => ns.all fun p => decide (0 ≤ i + p) && decide (i + p < R)) = fun i => decide (-(mn ns) ≤ i) && decide (i < R - mx ns) := funext fun i => all_iv hn
 have e2 : (fun i => decide (-(mn ns) ≤ i) && decide (i < R - mx ns)) = fun i => decide (-(mn ns) ≤ i) && decide (i < -(mn ns) + ((R - mx ns - -(mn ns)).toNat : Int)) := funext fun i => by
  rw [Bool.eq_iff_iff,Bool.and_eq_true,Bool.and_eq_true,decide_eq_true_eq,decide_eq_true_eq,decide_eq_true_eq]
  omega
 rw [e,e2]
 generalize hk : (R - mx ns - -(mn ns)).toNat = k
 rcases Nat.eq_zero_or_pos k with z | z
 ·subst z
  refine (List.filter_eq_nil_iff.mpr fun x _ => ?_).trans rfl
  rw [Bool.and_eq_true,decide_eq_true_eq,decide_eq_true_eq];omega
 exact rng_flt (-(mn ns) + 17).toNat ((R + 17 - -17).toNat - (-(mn ns) + 17).toNat - k) (by omega) (by omega)
theorem pc_zero {w : Wk} (ok : w.Ok) : w.pc ≠ []∧∃ p ∈ w.pc,(-16 ≤ p.1∧p.1 ≤ 16)∧(-16 ≤ p.2∧p.2 ≤ 16) := by
 have hl := (Bk.pc_len ok).1
 obtain ⟨p,r,e⟩ := List.exists_cons_of_length_pos (show 0 < w.pc.length by omega)
 refine ⟨by rw [e];simp,p,by rw [e];simp,?_⟩
 cases w with
 | cells ps => exact ok.2.2.2 p (by show p ∈ Wk.pc (.cells ps);rw [e];simp)
 | line k m =>
  obtain ⟨n,rfl⟩ : ∃ n,m = n + 1 := ⟨m - 1,by have := ok.2.1;omega⟩
  simp only [Wk.pc,along,List.range_succ_eq_map,List.map_cons] at e
  injection e with e _
  subst e;simp
 | step u v m =>
  obtain ⟨n,rfl⟩ : ∃ n,m = n + 1 := ⟨m - 1,by have := ok.2.2.1;omega⟩
  simp only [Wk.pc,along,List.range_succ_eq_map,List.map_cons] at e
  injection e with e _
  subst e;simp
 | block h v =>
  obtain ⟨n,rfl⟩ : ∃ n,h = n + 1 := ⟨h - 1,by have := ok.1;omega⟩
  obtain ⟨n',rfl⟩ : ∃ n,v = n + 1 := ⟨v - 1,by have := ok.2.1;omega⟩
  simp only [Wk.pc,blockC,List.range_succ_eq_map,List.map_cons,List.flatMap_cons,List.cons_append] at e
  injection e with e _
  subst e;simp
theorem pc_cb {w : Wk} (ok : w.Ok) : Cb w.pc := by
 refine ⟨(pc_zero ok).1,fun p hp => ?_⟩
 cases w with
 | cells ps => have := ok.2.2.2 p hp;omega
 | line k m =>
  have h := ok.2.2
  obtain ⟨t,ht,rfl⟩ := List.mem_map.mp hp
  have := List.mem_range.mp ht
  have h1 : k = 0 ∨ k = 1 ∨ k = 2 ∨ k = 3 := by have := ok.1;omega
  rcases h1 with rfl | rfl | rfl | rfl <;> simp [Bk.lnD,Bk.lnA] <;> omega
 | step u v m =>
  exact (along_cb (x := u) (y := v) (m := m) (by have := ok.1;omega) (by have := ok.2.1;omega) ok.2.2.1 (by have := ok.2.2.2;omega)).b p hp
 | block h v =>
  obtain ⟨i,hi,hp⟩ := List.mem_flatMap.mp hp
  obtain ⟨j,hj,rfl⟩ := List.mem_map.mp hp
  have := List.mem_range.mp hi
  have := List.mem_range.mp hj
  have := ok.2.2.1;have := ok.2.2.2.1
  simp;omega
end K14
namespace K14
open PySem L2 L3 Pu Pv
open Bk (Dl Dr Wk SD SDs)
theorem rng2' {i j : Int} (h : -1000000000 ≤ i∧i < 1000000000∧-1000000000 ≤ j∧j < 1000000000) : rngD [.int i,.int j] = some ((rngI i (j - i).toNat).map PyData.int) := rng2 h
theorem inn {pi : Rho → Option (List PyData)} {h : Rho → PyData → Option (Option PyData)} {m : List (Option Nat)} {ρ : Rho} {cs : List (Int × Int)} (f : Int × Int → Bool) (g : Int × Int → Int) (h1 : pi ρ = some (cs.map pD)) (h2 : ∀ p ∈ cs,h (capS m ρ) (pD p) = some (if !f p then some (.int (g p)) else none)) (hl : cs.length ≤ 100) : lcF pi h m ρ = some (.list (((cs.filter fun p => !f p).map g).map PyData.int)) := by
 refine lcF_ok h1 ?_ ?_
 ·rw [List.map_map]
  exact lcP_filter h2
 ·have := List.length_filter_le (fun p => !f p) cs
  rw [List.length_map,List.length_map];omega
theorem F_du {d : Dl} {w : Wk} (dp : d.dep ≤ 2) (D : Dr d 16 16 32) (ok : w.Ok) : F_law_due [dlD d,Wk.d w] = some (.list ((stI d.R d.C w.pc).map pD)) := by
 have L := Dl.lims D.ok
 have r1 := L.r1;have c1 := L.c1;have r2 := D.r2;have c2 := D.c2
 have sz := sz_ok (n := 2) dp D.ok
 have lc := F_lc (wk_big ok)
 obtain ⟨ne,z0,hz0,z1,z2⟩ := pc_zero ok
 have pl := (Bk.pc_len ok).2
 have nd : dn w.pc ≠ [] := by simp [dn,ne]
 have na : al w.pc ≠ [] := by simp [al,ne]
 have T1 := tops (R := d.R) (by omega) nd ⟨z0.1,List.mem_map.mpr ⟨z0,hz0,rfl⟩,z1⟩
 have T2 := tops (R := d.C) (by omega) na ⟨z0.2,List.mem_map.mpr ⟨z0,hz0,rfl⟩,z2⟩
 have cb := (pc_cb ok).lim
 rw [un_law_due]
 try simp only [Pu.pwA,b_law_due,fLsz_f,sz,siz,sAsgE_f,lc,parE_l]
 rw [lcF_ok (ds := (rngI (-17) (d.R + 17 - -17).toNat).map PyData.int) (fs := (rngI (-(mn (dn w.pc))) (d.R - mx (dn w.pc) - -(mn (dn w.pc))).toNat).map PyData.int)]
 rotate_left
 ·try simp (disch := omega) only [Pu.pwA,rng2']
 ·rw [← T1]
  refine lcP_filter fun i hi => ?_
  try simp only [Pu.pwA,lcH_k]
  rw [inn (cs := w.pc) (fun p => decide (0 ≤ i + p.1) && decide (i + p.1 < d.R)) (fun p => p.1) (by try simp only [Pu.pwA]) (fun p hp => by
   try simp only [Pu.pwA,lcH_k,pD]
   by_cases a : 0 ≤ i + p.1
   ·by_cases b : i + p.1 < d.R <;> simp [a,b,asB]
   ·simp [a,asB]) (by omega)]
  try simp only [Pu.pwA,eq_nil,flt_nil (fun p : Int × Int => decide (0 ≤ i + p.1) && decide (i + p.1 < d.R)) (fun p => p.1)]
  simp only [dn,List.all_map,Function.comp_def]
  cases (w.pc.all fun p => decide (0 ≤ i + p.1) && decide (i + p.1 < d.R)) <;> rfl
 ·rw [List.length_map,rngI_len];omega
 try simp only [Pu.pwA]
 rw [lcF_ok (ds := (rngI (-17) (d.C + 17 - -17).toNat).map PyData.int) (fs := (rngI (-(mn (al w.pc))) (d.C - mx (al w.pc) - -(mn (al w.pc))).toNat).map PyData.int)]
 rotate_left
 ·try simp (disch := omega) only [Pu.pwA,rng2']
 ·rw [← T2]
  refine lcP_filter fun i hi => ?_
  try simp only [Pu.pwA,lcH_k]
  rw [inn (cs := w.pc) (fun p => decide (0 ≤ i + p.2) && decide (i + p.2 < d.C)) (fun p => p.2) (by try simp only [Pu.pwA]) (fun p hp => by
   try simp only [Pu.pwA,lcH_k,pD]
   by_cases a : 0 ≤ i + p.2
   ·by_cases b : i + p.2 < d.C <;> simp [a,b,asB]
   ·simp [a,asB]) (by omega)]
  try simp only [Pu.pwA,eq_nil,flt_nil (fun p : Int × Int => decide (0 ≤ i + p.2) && decide (i + p.2 < d.C)) (fun p => p.2)]
  simp only [al,List.all_map,Function.comp_def]
  cases (w.pc.all fun p => decide (0 ≤ i + p.2) && decide (i + p.2 < d.C)) <;> rfl
 ·rw [List.length_map,rngI_len];omega
 try simp only [Pu.pwA]
 have lt : (d.R - mx (dn w.pc) - -(mn (dn w.pc))).toNat ≤ 16 := by omega
 have ls : (d.C - mx (al w.pc) - -(mn (al w.pc))).toNat ≤ 16 := by omega
 generalize hT : rngI (-(mn (dn w.pc))) (d.R - mx (dn w.pc) - -(mn (dn w.pc))).toNat = TT
 generalize hS : rngI (-(mn (al w.pc))) (d.C - mx (al w.pc) - -(mn (al w.pc))).toNat = SS
 have lT : TT.length ≤ 16 := by rw [← hT,rngI_len];exact lt
 have lS : SS.length ≤ 16 := by rw [← hS,rngI_len];exact ls
 have est : stI d.R d.C w.pc = TT.flatMap fun i => SS.map fun j => (i,j) := by unfold Pv.stI;rw [hT,hS]
 rw [est]
 refine for_any (Q := fun o => outF true o = _) TT (fun i ρ => ∃ s8 s9 : Sl,ρ = [.sh (dlD d),.sh (Wk.d w),.sh (.int d.R),.sh (.int d.C),.sh (.int d.B),.ow (((TT.take i).flatMap fun i => SS.map fun j => (i,j)).map pD),.sh (.list (w.pc.map pD)),.sh (.list (TT.map PyData.int)),s8,s9]∧s8.d = some (.list (SS.map PyData.int))) ⟨_,_,rfl,rfl⟩ ?_ ?_
 ·rintro i x ρ hx ⟨s8,s9,rfl,h8⟩
  have hi := (List.getElem?_eq_some_iff.mp hx).1
  have tk : TT.take (i + 1) = TT.take i ++ [x] := by rw [List.take_succ,hx];rfl
  try simp only [Pu.pwA]
  rw [lcF_ok (ds := SS.map PyData.int) (fs := (SS.map fun j => (x,j)).map pD)]
  rotate_left
  ·try simp only [Pu.pwA,h8]
  ·rw [List.map_map]
   refine lcP_map fun j hj => ?_
   try simp only [Pu.pwA,lcH_k,pD,Function.comp_def]
  ·simp;omega
  try simp only [Pu.pwA]
  rw [extF_ok (ds := ((TT.take i).flatMap fun i => SS.map fun j => (i,j)).map pD) rfl (by
   have f := flat_len (TT.take i) SS fun i j => (i,j)
   have m : (TT.take i).length * SS.length ≤ 16 * 16 := Nat.mul_le_mul (by rw [List.length_take];omega) lS
   rw [List.length_map,f,List.length_map,List.length_map];omega)]
  try simp only [Pu.pwA]
  have fm : (TT.take (i + 1)).flatMap (fun i => SS.map fun j => (i,j)) = (TT.take i).flatMap (fun i => SS.map fun j => (i,j)) ++ SS.map fun j => (x,j) := by
   rw [tk,List.flatMap_append,List.flatMap_singleton]
  rw [fm,List.map_append]
  exact ⟨_,_,rfl,by rw [Pu.dem_d];exact h8⟩
 ·rintro ρ ⟨s8,s9,rfl,h8⟩
  rw [List.take_length]
  try simp only [Pu.pwA]
theorem st_dep (R C : Int) (cs : List (Int × Int)) (h : (stI R C cs).length ≤ 1000000) : Bk.DepLe 2 (.list ((stI R C cs).map pD)) := by
 refine ⟨by simpa using h,fun d hd => ?_⟩
 obtain ⟨p,_,rfl⟩ := List.mem_map.mp hd
 simp [pD,Bk.DepLe]
theorem st_small {d : Dl} {w : Wk} (D : Dr d 16 16 32) (ok : w.Ok) : (stI d.R d.C w.pc).length ≤ 256 := by
 have cb := (pc_cb ok).lim
 have r2 := D.r2;have c2 := D.c2
 unfold Pv.stI
 rw [flat_len,rngI_len,rngI_len]
 exact Nat.mul_le_mul (m₁ := _) (show _ ≤ 16 by omega) (show _ ≤ 16 by omega)
theorem law_ok : ∀ k : Nat,k ≤ 60 → b_law.w [.un,.sh (.int k),.un,.un,.un,.un,.un,.un,.un] 0 okW := by
 intro k hk
 unfold b_law
 refine seq_w fun Y1 h1 => ?_
 try simp only [Pu.pwA]
 refine ⟨by omega,fun d D dp => ?_⟩
 obtain ⟨xs,exs⟩ : ∃ xs,dlD d = .tuple xs := by cases d <;> exact ⟨_,rfl⟩
 try simp only [Pu.pwA,exs]
 rw [h1]
 refine seq_w fun Y2 h2 => ?_
 try simp only [Pu.pwA]
 refine ⟨by omega,fun w1 k1 => ⟨by omega,fun w2 k2 => ?_⟩⟩
 have sh : ShOk (.list [.tuple xs,.list [Wk.d w1,Wk.d w2]]) := by
  rw [← exs]
  have a := sd_dl d D.ok
  have p : 4 ^ d.dep ≤ 4 ^ 2 := Nat.pow_le_pow_right (by omega) dp
  exact SD.ok (k := 9) (n := 200000) (Bk.sd_list (k := 8) (Bk.sds_cons (n := 128000) (m := 2000) (a.mono (by omega) (by omega)) (Bk.sds_cons (n := 1000) (m := 0) ((Bk.sd_list (k := 4) (n := 1000) (Bk.sds_cons (n := 200) (m := 300) (sd_wk k1) (Bk.sds_cons (n := 200) (m := 0) (sd_wk k2) (Bk.sds_nil _ _) (by omega)) (by omega))).mono (by omega) (by omega)) (Bk.sds_nil _ _) (by omega)) (by omega))) (by omega) (by omega)
 have du1 := F_du dp D k1
 have du2 := F_du dp D k2
 have s1 := F_st (j := 3) (by omega) D.ok (wk_big k1) (pc_cb k1)
 have s2 := F_st (j := 3) (by omega) D.ok (wk_big k2) (pc_cb k2)
 have e1 := st_dep d.R d.C w1.pc (by have := st_small D k1;omega)
 have e2 := st_dep d.R d.C w2.pc (by have := st_small D k2;omega)
 have l1 := st_small D k1
 have l2 := st_small D k2
 simp only [exs] at du1 du2 s1 s2
 try simp only [Pu.pwA]
 rw [h2]
 refine seq_w fun Y3 h3 => ?_
 try simp only [Pu.pwA,fStr_f,str_l sh]
 rw [h3]
 refine seq_w fun Y4 h4 => ?_
 try simp only [Pu.pwA]
 rw [lcF_ok (ds := [Wk.d w1,Wk.d w2]) (fs := [.list ((stI d.R d.C w1.pc).map pD),.list ((stI d.R d.C w2.pc).map pD)])]
 rotate_left
 ·try simp only [Pu.pwA]
 ·try simp only [Pu.pwA,lcP,lcH_k,du1,du2]
 ·simp
 try simp only [Pu.pwA]
 rw [h4]
 try simp only [Pu.pwA]
 refine forW_inv (f := PyData.int) [0,1,0] lb_law_1.mn (fun _ ρ n => ∃ s7 s8 s6 : Sl,ρ = [.un,.sh (.int k),.un,.sh (.tuple xs),.sh (.list [Wk.d w1,Wk.d w2]),.sh (.str (PyData.list [.tuple xs,.list [Wk.d w1,Wk.d w2]]).shown),s6,s7,s8]∧s6.d = some (.list [.list ((stI d.R d.C w1.pc).map pD),.list ((stI d.R d.C w2.pc).map pD)])) ⟨_,_,_,rfl,rfl⟩ ?_ ?_
 ·rintro i x ρ n hx ⟨s7,s8,s6,rfl,h6⟩
  have hx' : x = 0 ∨ x = 1 := by
   have := List.mem_of_getElem? hx
   simp at this;omega
  refine ⟨_,rfl,?_⟩
  unfold lb_law_1
  have one : ∃ w : Wk,(L2.atI [Wk.d w1,Wk.d w2] x = some (Wk.d w)∧L2.atI [PyData.list ((stI d.R d.C w1.pc).map pD),.list ((stI d.R d.C w2.pc).map pD)] x = some (.list ((stI d.R d.C w.pc).map pD)))∧F_starts 3 [.tuple xs,Wk.d w] = some (.list ((stI d.R d.C w.pc).map pD))∧Bk.DepLe 2 (.list ((stI d.R d.C w.pc).map pD))∧(stI d.R d.C w.pc).length ≤ 256 := by
   rcases hx' with rfl | rfl
   ·exact ⟨w1,⟨at0,at0⟩,s1,e1,l1⟩
   ·exact ⟨w2,⟨at1,at1⟩,s2,e2,l2⟩
  obtain ⟨w,⟨i1,i2⟩,sw,ew,lw⟩ := one
  refine seq_w fun Y5 h5 => ?_
  try simp only [Pu.pwA,i1,sw]
  rw [h5]
  refine seq_w fun Y6 h6' => ?_
  try simp only [Pu.pwA,h6,i2,fStr_f,str_l sh,same_ok ew]
  rw [h6']
  try simp only [Pu.pwA,wRev_w]
  exact ⟨by rw [List.length_map];omega,_,_,_,rfl,h6⟩
 ·rintro ρ n ⟨s7,s8,s6,rfl,h6⟩
  try simp only [Pu.pwA]
end K14
namespace K14
open PySem L2 L3 Bk
theorem all_mk {l : PySem.W.OpenLaw} {w : World} {K : PySem.W.Frag} {h : Heap} {mg : Str → Option Value} {fa : Addr} (X : K.In h) (G : h.Ns mainGlobals mg) (hfa : mg "law" = some (.ref fa))
  {f0 : Addr} {od0 an0 : Option Addr} {sl0 : Array (Option Value)} {oc0 kV0 dc0 pm0 cd0 ct0 : Value}
  {f1 : Addr} {od1 an1 : Option Addr} {sl1 : Array (Option Value)} {oc1 kV1 dc1 pm1 cd1 ct1 : Value}
  {f2 : Addr} {od2 an2 : Option Addr} {sl2 : Array (Option Value)} {oc2 kV2 dc2 pm2 cd2 ct2 : Value}
  {f3 : Addr} {od3 an3 : Option Addr} {sl3 : Array (Option Value)} {oc3 kV3 dc3 pm3 cd3 ct3 : Value}
  {f4 : Addr} {od4 an4 : Option Addr} {sl4 : Array (Option Value)} {oc4 kV4 dc4 pm4 cd4 ct4 : Value}
  {f5 : Addr} {od5 an5 : Option Addr} {sl5 : Array (Option Value)} {oc5 kV5 dc5 pm5 cd5 ct5 : Value}
  {f6 : Addr} {od6 an6 : Option Addr} {sl6 : Array (Option Value)} {oc6 kV6 dc6 pm6 cd6 ct6 : Value}
  {f7 : Addr} {od7 an7 : Option Addr} {sl7 : Array (Option Value)} {oc7 kV7 dc7 pm7 cd7 ct7 : Value}
  {f8 : Addr} {od8 an8 : Option Addr} {sl8 : Array (Option Value)} {oc8 kV8 dc8 pm8 cd8 ct8 : Value}
  {f9 : Addr} {od9 an9 : Option Addr} {sl9 : Array (Option Value)} {oc9 kV9 dc9 pm9 cd9 ct9 : Value}
  {f10 : Addr} {od10 an10 : Option Addr} {sl10 : Array (Option Value)} {oc10 kV10 dc10 pm10 cd10 ct10 : Value}
  {f11 : Addr} {od11 an11 : Option Addr} {sl11 : Array (Option Value)} {oc11 kV11 dc11 pm11 cd11 ct11 : Value}
  {f12 : Addr} {od12 an12 : Option Addr} {sl12 : Array (Option Value)} {oc12 kV12 dc12 pm12 cd12 ct12 : Value}
  {f13 : Addr} {od13 an13 : Option Addr} {sl13 : Array (Option Value)} {oc13 kV13 dc13 pm13 cd13 ct13 : Value}
  {f14 : Addr} {od14 an14 : Option Addr} {sl14 : Array (Option Value)} {oc14 kV14 dc14 pm14 cd14 ct14 : Value}
  {f15 : Addr} {od15 an15 : Option Addr} {sl15 : Array (Option Value)} {oc15 kV15 dc15 pm15 cd15 ct15 : Value}
  {f16 : Addr} {od16 an16 : Option Addr} {sl16 : Array (Option Value)} {oc16 kV16 dc16 pm16 cd16 ct16 : Value}
  {f17 : Addr} {od17 an17 : Option Addr} {sl17 : Array (Option Value)} {oc17 kV17 dc17 pm17 cd17 ct17 : Value}
  {f18 : Addr} {od18 an18 : Option Addr} {sl18 : Array (Option Value)} {oc18 kV18 dc18 pm18 cd18 ct18 : Value}
  {f19 : Addr} {od19 an19 : Option Addr} {sl19 : Array (Option Value)} {oc19 kV19 dc19 pm19 cd19 ct19 : Value}
  {f20 : Addr} {od20 an20 : Option Addr} {sl20 : Array (Option Value)} {oc20 kV20 dc20 pm20 cd20 ct20 : Value}
  {f21 : Addr} {od21 an21 : Option Addr} {sl21 : Array (Option Value)} {oc21 kV21 dc21 pm21 cd21 ct21 : Value}
  {tD_STRIDES : Addr} {tE_STRIDES : Nat} {tk_STRIDES0 : Tok} {tq_STRIDES0 : Addr} {to_STRIDES0 : Option Addr} {tn_STRIDES0 : Nat} {ts_STRIDES0 : Array (Option Value)} {ti_STRIDES0_0 : Tok} {ti_STRIDES0_1 : Tok} {tk_STRIDES1 : Tok} {tq_STRIDES1 : Addr} {to_STRIDES1 : Option Addr} {tn_STRIDES1 : Nat} {ts_STRIDES1 : Array (Option Value)} {ti_STRIDES1_0 : Tok} {ti_STRIDES1_1 : Tok} {tk_STRIDES2 : Tok} {tq_STRIDES2 : Addr} {to_STRIDES2 : Option Addr} {tn_STRIDES2 : Nat} {ts_STRIDES2 : Array (Option Value)} {ti_STRIDES2_0 : Tok} {ti_STRIDES2_1 : Tok} {tk_STRIDES3 : Tok} {tq_STRIDES3 : Addr} {to_STRIDES3 : Option Addr} {tn_STRIDES3 : Nat} {ts_STRIDES3 : Array (Option Value)} {ti_STRIDES3_0 : Tok} {ti_STRIDES3_1 : Tok}
  (a0 : PySem.W.nsIn K mainGlobals "size_of" = some (some (.ref f0))) (l0 : K.lookup f0 = some ⟨oc0,od0,.func (PySem.W.fnOf "size_of" "size_of" (defArgs st_size_of) (defBody st_size_of) (defScope st_size_of) .none kV0 dc0 pm0 an0 cd0 ct0),sl0⟩) (c0 : PySem.W.codeIn K cd0 "size_of" = true) (k0 : PySem.W.keepIn K (.ref f0) = true)
  (a1 : PySem.W.nsIn K mainGlobals "strung" = some (some (.ref f1))) (l1 : K.lookup f1 = some ⟨oc1,od1,.func (PySem.W.fnOf "strung" "strung" (defArgs st_strung) (defBody st_strung) (defScope st_strung) .none kV1 dc1 pm1 an1 cd1 ct1),sl1⟩) (c1 : PySem.W.codeIn K cd1 "strung" = true) (k1 : PySem.W.keepIn K (.ref f1) = true)
  (a2 : PySem.W.nsIn K mainGlobals "cells_of" = some (some (.ref f2))) (l2 : K.lookup f2 = some ⟨oc2,od2,.func (PySem.W.fnOf "cells_of" "cells_of" (defArgs st_cells_of) (defBody st_cells_of) (defScope st_cells_of) .none kV2 dc2 pm2 an2 cd2 ct2),sl2⟩) (c2 : PySem.W.codeIn K cd2 "cells_of" = true) (k2 : PySem.W.keepIn K (.ref f2) = true)
  (a3 : PySem.W.nsIn K mainGlobals "starts" = some (some (.ref f3))) (l3 : K.lookup f3 = some ⟨oc3,od3,.func (PySem.W.fnOf "starts" "starts" (defArgs st_starts) (defBody st_starts) (defScope st_starts) .none kV3 dc3 pm3 an3 cd3 ct3),sl3⟩) (c3 : PySem.W.codeIn K cd3 "starts" = true) (k3 : PySem.W.keepIn K (.ref f3) = true)
  (a4 : PySem.W.nsIn K mainGlobals "_law_mix" = some (some (.ref f4))) (l4 : K.lookup f4 = some ⟨oc4,od4,.func (PySem.W.fnOf "_law_mix" "_law_mix" (defArgs st_law_mix) (defBody st_law_mix) (defScope st_law_mix) .none kV4 dc4 pm4 an4 cd4 ct4),sl4⟩) (c4 : PySem.W.codeIn K cd4 "_law_mix" = true) (k4 : PySem.W.keepIn K (.ref f4) = true)
  (a5 : PySem.W.nsIn K mainGlobals "_law_left" = some (some (.ref f5))) (l5 : K.lookup f5 = some ⟨oc5,od5,.func (PySem.W.fnOf "_law_left" "_law_left" (defArgs st_law_left) (defBody st_law_left) (defScope st_law_left) .none kV5 dc5 pm5 an5 cd5 ct5),sl5⟩) (c5 : PySem.W.codeIn K cd5 "_law_left" = true) (k5 : PySem.W.keepIn K (.ref f5) = true)
  (a6 : PySem.W.nsIn K mainGlobals "_law_pick" = some (some (.ref f6))) (l6 : K.lookup f6 = some ⟨oc6,od6,.func (PySem.W.fnOf "_law_pick" "_law_pick" (defArgs st_law_pick) (defBody st_law_pick) (defScope st_law_pick) .none kV6 dc6 pm6 an6 cd6 ct6),sl6⟩) (c6 : PySem.W.codeIn K cd6 "_law_pick" = true) (k6 : PySem.W.keepIn K (.ref f6) = true)
  (a7 : PySem.W.nsIn K mainGlobals "_law_sides" = some (some (.ref f7))) (l7 : K.lookup f7 = some ⟨oc7,od7,.func (PySem.W.fnOf "_law_sides" "_law_sides" (defArgs st_law_sides) (defBody st_law_sides) (defScope st_law_sides) .none kV7 dc7 pm7 an7 cd7 ct7),sl7⟩) (c7 : PySem.W.codeIn K cd7 "_law_sides" = true) (k7 : PySem.W.keepIn K (.ref f7) = true)
  (a8 : PySem.W.nsIn K mainGlobals "_law_gcd" = some (some (.ref f8))) (l8 : K.lookup f8 = some ⟨oc8,od8,.func (PySem.W.fnOf "_law_gcd" "_law_gcd" (defArgs st_law_gcd) (defBody st_law_gcd) (defScope st_law_gcd) .none kV8 dc8 pm8 an8 cd8 ct8),sl8⟩) (c8 : PySem.W.codeIn K cd8 "_law_gcd" = true) (k8 : PySem.W.keepIn K (.ref f8) = true)
  (a9 : PySem.W.nsIn K mainGlobals "_law_skew" = some (some (.ref f9))) (l9 : K.lookup f9 = some ⟨oc9,od9,.func (PySem.W.fnOf "_law_skew" "_law_skew" (defArgs st_law_skew) (defBody st_law_skew) (defScope st_law_skew) .none kV9 dc9 pm9 an9 cd9 ct9),sl9⟩) (c9 : PySem.W.codeIn K cd9 "_law_skew" = true) (k9 : PySem.W.keepIn K (.ref f9) = true)
  (a10 : PySem.W.nsIn K mainGlobals "_law_rests" = some (some (.ref f10))) (l10 : K.lookup f10 = some ⟨oc10,od10,.func (PySem.W.fnOf "_law_rests" "_law_rests" (defArgs st_law_rests) (defBody st_law_rests) (defScope st_law_rests) .none kV10 dc10 pm10 an10 cd10 ct10),sl10⟩) (c10 : PySem.W.codeIn K cd10 "_law_rests" = true) (k10 : PySem.W.keepIn K (.ref f10) = true)
  (a11 : PySem.W.nsIn K mainGlobals "_law_bits" = some (some (.ref f11))) (l11 : K.lookup f11 = some ⟨oc11,od11,.func (PySem.W.fnOf "_law_bits" "_law_bits" (defArgs st_law_bits) (defBody st_law_bits) (defScope st_law_bits) .none kV11 dc11 pm11 an11 cd11 ct11),sl11⟩) (c11 : PySem.W.codeIn K cd11 "_law_bits" = true) (k11 : PySem.W.keepIn K (.ref f11) = true)
  (a12 : PySem.W.nsIn K mainGlobals "_law_table" = some (some (.ref f12))) (l12 : K.lookup f12 = some ⟨oc12,od12,.func (PySem.W.fnOf "_law_table" "_law_table" (defArgs st_law_table) (defBody st_law_table) (defScope st_law_table) .none kV12 dc12 pm12 an12 cd12 ct12),sl12⟩) (c12 : PySem.W.codeIn K cd12 "_law_table" = true) (k12 : PySem.W.keepIn K (.ref f12) = true)
  (a13 : PySem.W.nsIn K mainGlobals "_law_small" = some (some (.ref f13))) (l13 : K.lookup f13 = some ⟨oc13,od13,.func (PySem.W.fnOf "_law_small" "_law_small" (defArgs st_law_small) (defBody st_law_small) (defScope st_law_small) .none kV13 dc13 pm13 an13 cd13 ct13),sl13⟩) (c13 : PySem.W.codeIn K cd13 "_law_small" = true) (k13 : PySem.W.keepIn K (.ref f13) = true)
  (a14 : PySem.W.nsIn K mainGlobals "_law_dealing" = some (some (.ref f14))) (l14 : K.lookup f14 = some ⟨oc14,od14,.func (PySem.W.fnOf "_law_dealing" "_law_dealing" (defArgs st_law_dealing) (defBody st_law_dealing) (defScope st_law_dealing) .none kV14 dc14 pm14 an14 cd14 ct14),sl14⟩) (c14 : PySem.W.codeIn K cd14 "_law_dealing" = true) (k14 : PySem.W.keepIn K (.ref f14) = true)
  (a15 : PySem.W.nsIn K mainGlobals "_law_size" = some (some (.ref f15))) (l15 : K.lookup f15 = some ⟨oc15,od15,.func (PySem.W.fnOf "_law_size" "_law_size" (defArgs st_law_size) (defBody st_law_size) (defScope st_law_size) .none kV15 dc15 pm15 an15 cd15 ct15),sl15⟩) (c15 : PySem.W.codeIn K cd15 "_law_size" = true) (k15 : PySem.W.keepIn K (.ref f15) = true)
  (a16 : PySem.W.nsIn K mainGlobals "_law_many" = some (some (.ref f16))) (l16 : K.lookup f16 = some ⟨oc16,od16,.func (PySem.W.fnOf "_law_many" "_law_many" (defArgs st_law_many) (defBody st_law_many) (defScope st_law_many) .none kV16 dc16 pm16 an16 cd16 ct16),sl16⟩) (c16 : PySem.W.codeIn K cd16 "_law_many" = true) (k16 : PySem.W.keepIn K (.ref f16) = true)
  (a17 : PySem.W.nsIn K mainGlobals "_law_walk" = some (some (.ref f17))) (l17 : K.lookup f17 = some ⟨oc17,od17,.func (PySem.W.fnOf "_law_walk" "_law_walk" (defArgs st_law_walk) (defBody st_law_walk) (defScope st_law_walk) .none kV17 dc17 pm17 an17 cd17 ct17),sl17⟩) (c17 : PySem.W.codeIn K cd17 "_law_walk" = true) (k17 : PySem.W.keepIn K (.ref f17) = true)
  (a18 : PySem.W.nsIn K mainGlobals "_law_cells" = some (some (.ref f18))) (l18 : K.lookup f18 = some ⟨oc18,od18,.func (PySem.W.fnOf "_law_cells" "_law_cells" (defArgs st_law_cells) (defBody st_law_cells) (defScope st_law_cells) .none kV18 dc18 pm18 an18 cd18 ct18),sl18⟩) (c18 : PySem.W.codeIn K cd18 "_law_cells" = true) (k18 : PySem.W.keepIn K (.ref f18) = true)
  (a19 : PySem.W.nsIn K mainGlobals "_law_due" = some (some (.ref f19))) (l19 : K.lookup f19 = some ⟨oc19,od19,.func (PySem.W.fnOf "_law_due" "_law_due" (defArgs st_law_due) (defBody st_law_due) (defScope st_law_due) .none kV19 dc19 pm19 an19 cd19 ct19),sl19⟩) (c19 : PySem.W.codeIn K cd19 "_law_due" = true) (k19 : PySem.W.keepIn K (.ref f19) = true)
  (a20 : PySem.W.nsIn K mainGlobals "_law_same" = some (some (.ref f20))) (l20 : K.lookup f20 = some ⟨oc20,od20,.func (PySem.W.fnOf "_law_same" "_law_same" (defArgs st_law_same) (defBody st_law_same) (defScope st_law_same) .none kV20 dc20 pm20 an20 cd20 ct20),sl20⟩) (c20 : PySem.W.codeIn K cd20 "_law_same" = true) (k20 : PySem.W.keepIn K (.ref f20) = true)
  (a21 : PySem.W.nsIn K mainGlobals "law" = some (some (.ref f21))) (l21 : K.lookup f21 = some ⟨oc21,od21,.func (PySem.W.fnOf "law" "law" (defArgs st_law) (defBody st_law) (defScope st_law) .none kV21 dc21 pm21 an21 cd21 ct21),sl21⟩) (c21 : PySem.W.codeIn K cd21 "law" = true) (k21 : PySem.W.keepIn K (.ref f21) = true)
  (tA_STRIDES : PySem.W.nsIn K mainGlobals "STRIDES" = some (some (.ref tD_STRIDES))) (tL_STRIDES : K.lookup tD_STRIDES = some ⟨.type "dict",none,.dict #[⟨PyData.keyHash w.params "row",.str "row" tk_STRIDES0,.ref tq_STRIDES0⟩,⟨PyData.keyHash w.params "column",.str "column" tk_STRIDES1,.ref tq_STRIDES1⟩,⟨PyData.keyHash w.params "slant",.str "slant" tk_STRIDES2,.ref tq_STRIDES2⟩,⟨PyData.keyHash w.params "back",.str "back" tk_STRIDES3,.ref tq_STRIDES3⟩] tE_STRIDES,#[]⟩) (tN_STRIDES : (tD_STRIDES == sysModules) = false) (tT_STRIDES0 : K.lookup tq_STRIDES0 = some ⟨.type "tuple",to_STRIDES0,.seq #[.int (0) ti_STRIDES0_0,.int (1) ti_STRIDES0_1] tn_STRIDES0,ts_STRIDES0⟩) (tT_STRIDES1 : K.lookup tq_STRIDES1 = some ⟨.type "tuple",to_STRIDES1,.seq #[.int (1) ti_STRIDES1_0,.int (0) ti_STRIDES1_1] tn_STRIDES1,ts_STRIDES1⟩) (tT_STRIDES2 : K.lookup tq_STRIDES2 = some ⟨.type "tuple",to_STRIDES2,.seq #[.int (1) ti_STRIDES2_0,.int (1) ti_STRIDES2_1] tn_STRIDES2,ts_STRIDES2⟩) (tT_STRIDES3 : K.lookup tq_STRIDES3 = some ⟨.type "tuple",to_STRIDES3,.seq #[.int (1) ti_STRIDES3_0,.int (-1) ti_STRIDES3_1] tn_STRIDES3,ts_STRIDES3⟩)
  (z0 : PySem.W.nsIn K mainGlobals "len" = some none)
  (z1 : PySem.W.nsIn K mainGlobals "range" = some none)
  (z2 : PySem.W.nsIn K mainGlobals "list" = some none)
  (z4 : PySem.W.nsIn K mainGlobals "min" = some none)
  (z5 : PySem.W.nsIn K mainGlobals "max" = some none)
  (z6 : PySem.W.nsIn K mainGlobals "abs" = some none)
  (z7 : PySem.W.nsIn K mainGlobals "tuple" = some none)
  (z8 : PySem.W.nsIn K mainGlobals "zip" = some none)
  (z9 : PySem.W.nsIn K mainGlobals "int" = some none)
  (z10 : PySem.W.nsIn K mainGlobals "isinstance" = some none)
  (z11 : PySem.W.nsIn K mainGlobals "all" = some none)
  (z12 : PySem.W.nsIn K mainGlobals "str" = some none)
  (z13 : PySem.W.nsIn K mainGlobals "bool" = some none) :
  ∃ fd : FuncData,(∀ (s : Shared) (v : Value),BindsTo s fd ⟨[v],[]⟩ [("_law_script",v)])∧∀ base : Heap,K.In base → base.Ns mainGlobals mg → FnOk l.prog w K mg base CX0 6 fa fd ["_law_script"] (lSp K sp_top) := by
 have e := hfa.symm.trans (PySem.W.mg_of X G a21)
 cases e
 have F0 := fun_mk (st := st_size_of) l0 c0 k0
 have b0 := F0.binds (ps := ["dealing"]) fun _ _ _ _ _ _ us hl => by obtain ⟨_,rfl⟩ := Pu.usl1 hl;rfl
 have m0 := PySem.W.mg_of X G a0
 have F1 := fun_mk (st := st_strung) l1 c1 k1
 have b1 := F1.binds (ps := ["down","along","many"]) fun _ _ _ _ _ _ us hl => by obtain ⟨_,_,_,rfl⟩ := Pu.usl3 hl;rfl
 have m1 := PySem.W.mg_of X G a1
 have F2 := fun_mk (st := st_cells_of) l2 c2 k2
 have b2 := F2.binds (ps := ["walk"]) fun _ _ _ _ _ _ us hl => by obtain ⟨_,rfl⟩ := Pu.usl1 hl;rfl
 have m2 := PySem.W.mg_of X G a2
 have F3 := fun_mk (st := st_starts) l3 c3 k3
 have b3 := F3.binds (ps := ["dealing","walk"]) fun _ _ _ _ _ _ us hl => by obtain ⟨_,_,rfl⟩ := Pu.usl2 hl;rfl
 have m3 := PySem.W.mg_of X G a3
 have F4 := fun_mk (st := st_law_mix) l4 c4 k4
 have b4 := F4.binds (ps := ["_law_cell","_law_k"]) fun _ _ _ _ _ _ us hl => by obtain ⟨_,_,rfl⟩ := Pu.usl2 hl;rfl
 have m4 := PySem.W.mg_of X G a4
 have F5 := fun_mk (st := st_law_left) l5 c5 k5
 have b5 := F5.binds (ps := ["_law_script","_law_k"]) fun _ _ _ _ _ _ us hl => by obtain ⟨_,_,rfl⟩ := Pu.usl2 hl;rfl
 have m5 := PySem.W.mg_of X G a5
 have F6 := fun_mk (st := st_law_pick) l6 c6 k6
 have b6 := F6.binds (ps := ["_law_left_here","_law_many_here"]) fun _ _ _ _ _ _ us hl => by obtain ⟨_,_,rfl⟩ := Pu.usl2 hl;rfl
 have m6 := PySem.W.mg_of X G a6
 have F7 := fun_mk (st := st_law_sides) l7 c7 k7
 have b7 := F7.binds (ps := ["_law_left_here"]) fun _ _ _ _ _ _ us hl => by obtain ⟨_,rfl⟩ := Pu.usl1 hl;rfl
 have m7 := PySem.W.mg_of X G a7
 have F8 := fun_mk (st := st_law_gcd) l8 c8 k8
 have b8 := F8.binds (ps := ["_law_one","_law_other"]) fun _ _ _ _ _ _ us hl => by obtain ⟨_,_,rfl⟩ := Pu.usl2 hl;rfl
 have m8 := PySem.W.mg_of X G a8
 have F9 := fun_mk (st := st_law_skew) l9 c9 k9
 have b9 := F9.binds (ps := ["_law_left_here"]) fun _ _ _ _ _ _ us hl => by obtain ⟨_,rfl⟩ := Pu.usl1 hl;rfl
 have m9 := PySem.W.mg_of X G a9
 have F10 := fun_mk (st := st_law_rests) l10 c10 k10
 have b10 := F10.binds (ps := ["_law_left_here"]) fun _ _ _ _ _ _ us hl => by obtain ⟨_,rfl⟩ := Pu.usl1 hl;rfl
 have m10 := PySem.W.mg_of X G a10
 have F11 := fun_mk (st := st_law_bits) l11 c11 k11
 have b11 := F11.binds (ps := ["_law_left_here","_law_most"]) fun _ _ _ _ _ _ us hl => by obtain ⟨_,_,rfl⟩ := Pu.usl2 hl;rfl
 have m11 := PySem.W.mg_of X G a11
 have F12 := fun_mk (st := st_law_table) l12 c12 k12
 have b12 := F12.binds (ps := ["_law_left_here"]) fun _ _ _ _ _ _ us hl => by obtain ⟨_,rfl⟩ := Pu.usl1 hl;rfl
 have m12 := PySem.W.mg_of X G a12
 have F13 := fun_mk (st := st_law_small) l13 c13 k13
 have b13 := F13.binds (ps := ["_law_left_here"]) fun _ _ _ _ _ _ us hl => by obtain ⟨_,rfl⟩ := Pu.usl1 hl;rfl
 have m13 := PySem.W.mg_of X G a13
 have F14 := fun_mk (st := st_law_dealing) l14 c14 k14
 have b14 := F14.binds (ps := ["_law_left_here"]) fun _ _ _ _ _ _ us hl => by obtain ⟨_,rfl⟩ := Pu.usl1 hl;rfl
 have m14 := PySem.W.mg_of X G a14
 have F15 := fun_mk (st := st_law_size) l15 c15 k15
 have b15 := F15.binds (ps := ["_law_dealing_here"]) fun _ _ _ _ _ _ us hl => by obtain ⟨_,rfl⟩ := Pu.usl1 hl;rfl
 have m15 := PySem.W.mg_of X G a15
 have F16 := fun_mk (st := st_law_many) l16 c16 k16
 have b16 := F16.binds (ps := ["_law_left_here"]) fun _ _ _ _ _ _ us hl => by obtain ⟨_,rfl⟩ := Pu.usl1 hl;rfl
 have m16 := PySem.W.mg_of X G a16
 have F17 := fun_mk (st := st_law_walk) l17 c17 k17
 have b17 := F17.binds (ps := ["_law_left_here"]) fun _ _ _ _ _ _ us hl => by obtain ⟨_,rfl⟩ := Pu.usl1 hl;rfl
 have m17 := PySem.W.mg_of X G a17
 have F18 := fun_mk (st := st_law_cells) l18 c18 k18
 have b18 := F18.binds (ps := ["_law_walk_here"]) fun _ _ _ _ _ _ us hl => by obtain ⟨_,rfl⟩ := Pu.usl1 hl;rfl
 have m18 := PySem.W.mg_of X G a18
 have F19 := fun_mk (st := st_law_due) l19 c19 k19
 have b19 := F19.binds (ps := ["_law_dealing_here","_law_walk_here"]) fun _ _ _ _ _ _ us hl => by obtain ⟨_,_,rfl⟩ := Pu.usl2 hl;rfl
 have m19 := PySem.W.mg_of X G a19
 have F20 := fun_mk (st := st_law_same) l20 c20 k20
 have b20 := F20.binds (ps := ["_law_found","_law_due_here"]) fun _ _ _ _ _ _ us hl => by obtain ⟨_,_,rfl⟩ := Pu.usl2 hl;rfl
 have m20 := PySem.W.mg_of X G a20
 have F21 := fun_mk (st := st_law) l21 c21 k21
 have m21 := PySem.W.mg_of X G a21
 have g_len := PySem.W.mg_none_of X G z0
 have g_range := PySem.W.mg_none_of X G z1
 have g_list := PySem.W.mg_none_of X G z2
 have g_STRIDES : Tb K mg w "STRIDES" stridesT := ⟨tD_STRIDES,_,tE_STRIDES,PySem.W.mg_of X G tA_STRIDES,tL_STRIDES,tN_STRIDES,(.cons (v := .ref tq_STRIDES0) rfl (tup2_K tT_STRIDES0) (.cons (v := .ref tq_STRIDES1) rfl (tup2_K tT_STRIDES1) (.cons (v := .ref tq_STRIDES2) rfl (tup2_K tT_STRIDES2) (.cons (v := .ref tq_STRIDES3) rfl (tup2_K tT_STRIDES3) .nil))))⟩
 have g_min := PySem.W.mg_none_of X G z4
 have g_max := PySem.W.mg_none_of X G z5
 have g_abs := PySem.W.mg_none_of X G z6
 have g_tuple := PySem.W.mg_none_of X G z7
 have g_zip := PySem.W.mg_none_of X G z8
 have g_int := PySem.W.mg_none_of X G z9
 have g_isinstance := PySem.W.mg_none_of X G z10
 have g_all := PySem.W.mg_none_of X G z11
 have g_str := PySem.W.mg_none_of X G z12
 have g_bool := PySem.W.mg_none_of X G z13
 refine ⟨PySem.W.fnOf "law" "law" (defArgs st_law) (defBody st_law) (defScope st_law) .none kV21 dc21 pm21 an21 cd21 ct21,fun s v => .of_eq rfl,fun base _ _ => ?_⟩
 have O_strung := ok_strung (P := l.prog) (w := w) (base := base) (k := 0) F1 b1 m1  g_range Pv.rd_strung
 have O_cells_of := ok_cells_of (P := l.prog) (w := w) (base := base) (k := 1) F2 b2 m2 O_strung g_list g_range g_STRIDES Pv.rd_cells_of
 have O_law_mix := ok_law_mix (P := l.prog) (w := w) (base := base) (k := 0) F4 b4 m4   Bk.rd_law_mix
 have O_law_left := ok_law_left (P := l.prog) (w := w) (base := base) (k := 0) F5 b5 m5  g_len g_abs Bk.rd_law_left
 have O_law_pick := ok_law_pick (P := l.prog) (w := w) (base := base) (k := 1) F6 b6 m6 O_law_mix  Bk.rd_law_pick
 have O_law_sides := ok_law_sides (P := l.prog) (w := w) (base := base) (k := 2) F7 b7 m7 O_law_pick  Bk.rd_law_sides
 have O_law_gcd := ok_law_gcd (P := l.prog) (w := w) (base := base) (k := 0) F8 b8 m8   Bk.rd_law_gcd
 have O_law_skew := ok_law_skew (P := l.prog) (w := w) (base := base) (k := 3) F9 b9 m9 O_law_sides (O_law_pick.mono (by decide))  Bk.rd_law_skew
 have O_law_rests := ok_law_rests (P := l.prog) (w := w) (base := base) (k := 3) F10 b10 m10 O_law_sides (O_law_pick.mono (by decide)) (O_law_gcd.mono (by decide)) g_range Bk.rd_law_rests
 have O_law_bits := ok_law_bits (P := l.prog) (w := w) (base := base) (k := 2) F11 b11 m11 O_law_pick g_range g_tuple Bk.rd_law_bits
 have O_law_table := ok_law_table (P := l.prog) (w := w) (base := base) (k := 3) F12 b12 m12 O_law_sides (O_law_pick.mono (by decide)) g_range g_tuple Bk.rd_law_table
 have O_law_small := ok_law_small (P := l.prog) (w := w) (base := base) (k := 2) F13 b13 m13 O_law_pick (O_law_gcd.mono (by decide)) g_range g_tuple Bk.rd_law_small
 have O_law_dealing := ok_law_dealing (P := l.prog) (w := w) (base := base) (k := 4) F14 b14 m14 (O_law_pick.mono (by decide)) O_law_skew O_law_rests (O_law_bits.mono (by decide)) O_law_table (O_law_small.mono (by decide))  Bk.rd_law_dealing
 have O_law_many := ok_law_many (P := l.prog) (w := w) (base := base) (k := 2) F16 b16 m16 O_law_pick  Bk.rd_law_many
 have O_law_walk := ok_law_walk (P := l.prog) (w := w) (base := base) (k := 3) F17 b17 m17 (O_law_pick.mono (by decide)) O_law_many g_int g_range g_tuple Bk.rd_law_walk
 have O_law_cells := ok_law_cells (P := l.prog) (w := w) (base := base) (k := 0) F18 b18 m18  g_list g_range rd_law_cells
 have O_size_of_0 := Pu.Fn3.pz (fn3_none (P := l.prog) (w := w) (base := base) F0 b0 m0) false
 have O_size_of_1 := ok_size_of (P := l.prog) (w := w) (base := base) (k := 0) F0 b0 m0 O_size_of_0 g_len (Pv.rd_size_of 0)
 have O_size_of_2 := ok_size_of (P := l.prog) (w := w) (base := base) (k := 1) F0 b0 m0 O_size_of_1 g_len (Pv.rd_size_of 1)
 have O_size_of_3 := ok_size_of (P := l.prog) (w := w) (base := base) (k := 2) F0 b0 m0 O_size_of_2 g_len (Pv.rd_size_of 2)
 have O_starts := ok_starts (P := l.prog) (w := w) (base := base) (k := 3) F3 b3 m3 O_size_of_3 (O_cells_of.mono (by decide)) g_min g_max g_range (Pv.rd_starts 3)
 have O_law_size_0 := fn3_none (P := l.prog) (w := w) (base := base) F15 b15 m15
 have O_law_size_1 := ok_law_size (P := l.prog) (w := w) (base := base) (k := 0) F15 b15 m15 O_law_size_0 g_len g_zip g_tuple (K14.rd_law_size6 0)
 have O_law_size_2 := ok_law_size (P := l.prog) (w := w) (base := base) (k := 1) F15 b15 m15 O_law_size_1 g_len g_zip g_tuple (K14.rd_law_size6 1)
 have O_law_size_3 := ok_law_size (P := l.prog) (w := w) (base := base) (k := 2) F15 b15 m15 O_law_size_2 g_len g_zip g_tuple (K14.rd_law_size6 2)
 have O_law_due := ok_law_due (P := l.prog) (w := w) (base := base) (k := 3) F19 b19 m19 O_law_size_3 (O_law_cells.mono (by decide)) g_range rd_law_due
 have O_law_same_0 := fn3_none (P := l.prog) (w := w) (base := base) F20 b20 m20
 have O_law_same_1 := ok_law_same (P := l.prog) (w := w) (base := base) (k := 0) F20 b20 m20 O_law_same_0 g_isinstance g_list g_tuple g_zip g_all g_len g_str g_bool g_int (Bk.rd_law_same 0)
 have O_law_same_2 := ok_law_same (P := l.prog) (w := w) (base := base) (k := 1) F20 b20 m20 O_law_same_1 g_isinstance g_list g_tuple g_zip g_all g_len g_str g_bool g_int (Bk.rd_law_same 1)
 have O_law_same_3 := ok_law_same (P := l.prog) (w := w) (base := base) (k := 2) F20 b20 m20 O_law_same_2 g_isinstance g_list g_tuple g_zip g_all g_len g_str g_bool g_int (Bk.rd_law_same 2)
 exact ok_law (k := 5) F21 (O_law_left.mono (by decide)) O_law_dealing (O_law_walk.mono (by decide)) (O_law_due.mono (by decide)) (O_starts.mono (by decide)) (O_law_same_3.mono (by decide)) g_len g_min g_range g_str (law_of law_ok)
end K14
open PySem PySem.W PyProof.Rows
set_option maxRecDepth 100000 in
set_option maxHeartbeats 0 in
theorem PySem.Challenge.cw_bankwalk_k14_starts_of_walks_holds : PySem.Challenge.rw_bankwalk_k14_starts_of_walks.Holds := by
 w_on;o_law;k_head;(case hw => w_witness2)
 k_fill
 refine L3.walk3 (l := PySem.Challenge.rw_bankwalk_k14_starts_of_walks) (k := 6) (x := "_law_script") rfl rfl ⟨rfl,by decide,by decide,rfl⟩ (fun w h Y => PySem.W.kIn_of Y) ?nol ?F
 case nol => exact fun w => rfl
 case F =>
  intro w mg fa h KX G hmg
  refine' K14.all_mk KX G hmg ?a0 ?l0 ?c0 ?k0 ?a1 ?l1 ?c1 ?k1 ?a2 ?l2 ?c2 ?k2 ?a3 ?l3 ?c3 ?k3 ?a4 ?l4 ?c4 ?k4 ?a5 ?l5 ?c5 ?k5 ?a6 ?l6 ?c6 ?k6 ?a7 ?l7 ?c7 ?k7 ?a8 ?l8 ?c8 ?k8 ?a9 ?l9 ?c9 ?k9 ?a10 ?l10 ?c10 ?k10 ?a11 ?l11 ?c11 ?k11 ?a12 ?l12 ?c12 ?k12 ?a13 ?l13 ?c13 ?k13 ?a14 ?l14 ?c14 ?k14 ?a15 ?l15 ?c15 ?k15 ?a16 ?l16 ?c16 ?k16 ?a17 ?l17 ?c17 ?k17 ?a18 ?l18 ?c18 ?k18 ?a19 ?l19 ?c19 ?k19 ?a20 ?l20 ?c20 ?k20 ?a21 ?l21 ?c21 ?k21 ?tA_STRIDES ?tL_STRIDES ?tN_STRIDES ?tT_STRIDES0 ?tT_STRIDES1 ?tT_STRIDES2 ?tT_STRIDES3 ?z0 ?z1 ?z2 ?z4 ?z5 ?z6 ?z7 ?z8 ?z9 ?z10 ?z11 ?z12 ?z13
  (case a0 => k_is)
  (case l0 => k_is)
  (case c0 => k_is)
  (case k0 => k_is)
  (case a1 => k_is)
  (case l1 => k_is)
  (case c1 => k_is)
  (case k1 => k_is)
  (case a2 => k_is)
  (case l2 => k_is)
  (case c2 => k_is)
  (case k2 => k_is)
  (case a3 => k_is)
  (case l3 => k_is)
  (case c3 => k_is)
  (case k3 => k_is)
  (case a4 => k_is)
  (case l4 => k_is)
  (case c4 => k_is)
  (case k4 => k_is)
  (case a5 => k_is)
  (case l5 => k_is)
  (case c5 => k_is)
  (case k5 => k_is)
  (case a6 => k_is)
  (case l6 => k_is)
  (case c6 => k_is)
  (case k6 => k_is)
  (case a7 => k_is)
  (case l7 => k_is)
  (case c7 => k_is)
  (case k7 => k_is)
  (case a8 => k_is)
  (case l8 => k_is)
  (case c8 => k_is)
  (case k8 => k_is)
  (case a9 => k_is)
  (case l9 => k_is)
  (case c9 => k_is)
  (case k9 => k_is)
  (case a10 => k_is)
  (case l10 => k_is)
  (case c10 => k_is)
  (case k10 => k_is)
  (case a11 => k_is)
  (case l11 => k_is)
  (case c11 => k_is)
  (case k11 => k_is)
  (case a12 => k_is)
  (case l12 => k_is)
  (case c12 => k_is)
  (case k12 => k_is)
  (case a13 => k_is)
  (case l13 => k_is)
  (case c13 => k_is)
  (case k13 => k_is)
  (case a14 => k_is)
  (case l14 => k_is)
  (case c14 => k_is)
  (case k14 => k_is)
  (case a15 => k_is)
  (case l15 => k_is)
  (case c15 => k_is)
  (case k15 => k_is)
  (case a16 => k_is)
  (case l16 => k_is)
  (case c16 => k_is)
  (case k16 => k_is)
  (case a17 => k_is)
  (case l17 => k_is)
  (case c17 => k_is)
  (case k17 => k_is)
  (case a18 => k_is)
  (case l18 => k_is)
  (case c18 => k_is)
  (case k18 => k_is)
  (case a19 => k_is)
  (case l19 => k_is)
  (case c19 => k_is)
  (case k19 => k_is)
  (case a20 => k_is)
  (case l20 => k_is)
  (case c20 => k_is)
  (case k20 => k_is)
  (case a21 => k_is)
  (case l21 => k_is)
  (case c21 => k_is)
  (case k21 => k_is)
  (case tA_STRIDES => k_is)
  (case tL_STRIDES => k_is)
  (case tN_STRIDES => rfl)
  (case tT_STRIDES0 => k_is)
  (case tT_STRIDES1 => k_is)
  (case tT_STRIDES2 => k_is)
  (case tT_STRIDES3 => k_is)
  (case z0 => k_is)
  (case z1 => k_is)
  (case z2 => k_is)
  (case z4 => k_is)
  (case z5 => k_is)
  (case z6 => k_is)
  (case z7 => k_is)
  (case z8 => k_is)
  (case z9 => k_is)
  (case z10 => k_is)
  (case z11 => k_is)
  (case z12 => k_is)
  (case z13 => k_is)
