import PyProof.Rows.All
import Wide.All
import OpenK.AllK
import Wide.FinOn
import Lean
import PyProof.EqAt
import PyProof.EqKinds
import PyProof.TupleCall
import PyProof.NeKinds
import KE.KRevSl
import PyProof.FactsAll.bool_2
import PyProof.Rows.EqBoolInt
import PyProof.Rows.IntBool
import PySem.Challenge.RW_bankwalk_k16_clashes_told
-- CHANGE: your row's module here,as the last of these rows
set_option Elab.async false
set_option genSizeOf false
set_option genInjectivity false
noncomputable section
set_option linter.all false
set_option maxRecDepth 100000
namespace L2
open PySem PySem.Spec PyProof.Rows
abbrev Key := Sum Int Str
def qgN : Key → Value → Bool
 | .inl k,v => Value.isInt k v
 | .inr x,v => Value.isStrOf x v
def qjp (w : World) : Key → Int
 | .inl k => hashInt k
 | .inr x => hashStr w x
theorem zM : ∀ {k : Key} {v : Value},qgN k v = true → (∃ i t,k = Sum.inl i∧v = Value.int i t) ∨ (∃ x t,k = Sum.inr x∧v = Value.str x t)
 | .inl i,v,h => by
  obtain ⟨t,e⟩ := Value.isInt_shape (k := i) (v := v) h
  exact .inl ⟨i,t,rfl,e⟩
 | .inr x,v,h => by
  obtain ⟨t,e⟩ := Value.isStrOf_shape (x := x) (v := v) h
  exact .inr ⟨x,t,rfl,e⟩
theorem qeO (a b : Int) : decide ((Sum.inl a : Key) = Sum.inl b) = (a == b) := by
 by_cases e : a = b
 ·subst e;simp
 ·have h : ¬ (Sum.inl a : Key) = Sum.inl b := fun q => e (Sum.inl.inj q)
  rw [decide_eq_false h]
  exact (beq_eq_false_iff_ne.mpr e).symm
theorem qfN (a b : Str) : decide ((Sum.inr a : Key) = Sum.inr b) = decide (a = b) := by
 by_cases e : a = b
 ·subst e;simp
 ·have h : ¬ (Sum.inr a : Key) = Sum.inr b := fun q => e (Sum.inr.inj q)
  rw [decide_eq_false h,decide_eq_false e]
theorem qgm (a : Int) (b : Str) : decide ((Sum.inl a : Key) = Sum.inr b) = false := decide_eq_false (fun q => nomatch q)
theorem qfe (a : Str) (b : Int) : decide ((Sum.inr a : Key) = Sum.inl b) = false := decide_eq_false (fun q => nomatch q)
def NC (prog : Program) (w : World) : PySem.KeyKind prog w Key where
 is := qgN
 hash := qjp w
 inj := fun v a b ha hb => by
  rcases zM ha with ⟨i,t,rfl,rfl⟩ | ⟨x,t,rfl,rfl⟩
  ·rcases zM hb with ⟨j,u,rfl,e⟩ | ⟨y,u,rfl,e⟩
   ·injection e with e1 _;rw [e1]
   ·exact nomatch e
  ·rcases zM hb with ⟨j,u,rfl,e⟩ | ⟨y,u,rfl,e⟩
   ·exact nomatch e
   ·injection e with e1 _;rw [e1]
 byValue := fun k v h => by
  rcases zM h with ⟨i,t,rfl,rfl⟩ | ⟨x,t,rfl,rfl⟩ <;> rfl
 pyHash := fun hv h => by
  rcases zM hv with ⟨i,t,rfl,rfl⟩ | ⟨x,t,rfl,rfl⟩
  ·exact wpAny_pyHash_int h
  ·exact wpAny_pyHash_str h
 eqBool := fun hu hv h => by
  rcases zM hu with ⟨i,t,rfl,rfl⟩ | ⟨x,t,rfl,rfl⟩
  ·rcases zM hv with ⟨j,u,rfl,rfl⟩ | ⟨y,u,rfl,rfl⟩
   ·rw [qeO] at h;exact wpAny_eqBool_int h
   ·rw [qgm] at h;exact SeqAt.EqAt.int_str i t y u _ _ _ _ h
  ·rcases zM hv with ⟨j,u,rfl,rfl⟩ | ⟨y,u,rfl,rfl⟩
   ·rw [qfe] at h;exact SeqAt.EqAt.str_int x t j u _ _ _ _ h
   ·rw [qfN] at h;exact wpAny_eqBool_str h
 «strs» := fun k x t v h => by
  rcases zM h with ⟨i,u,rfl,e⟩ | ⟨y,u,rfl,e⟩
  ·exact nomatch e
  ·injection e with e1 _
   subst e1
   cases v <;> rfl
end L2
namespace L2
open PySem PySem.Spec PyProof.Rows
set_option genInjectivity true in
inductive V where
 | non | bl (b : Bool) | int (i : Int) | str (x : Str) | byt (b : Array UInt8) | flt (b : UInt64) | ref (a : Addr) | ty (n : String)
 deriving DecidableEq
def jx : V → Value → Prop
 | .non,u => u = Value.none
 | .bl b,u => u = Value.bool b
 | .int i,u => ∃ t,u = Value.int i t
 | .str x,u => ∃ t,u = Value.str x t
 | .byt b,u => ∃ t,u = Value.bytes b t
 | .flt b,u => ∃ t,u = Value.float b t
 | .ref a,u => u = Value.ref a
 | .ty n,u => u = Value.type n
abbrev jh : List V → List Value → Prop := Paired jx
theorem jh.length {xs : List V} {us : List Value} (r : jh xs us) : xs.length = us.length := Paired.length r
theorem jh.get : ∀ {xs : List V} {us : List Value} {i : Nat} {x : V},jh xs us → xs[i]? = some x → ∃ u,us[i]? = some u∧jx x u
 | _,_,_,_,.nil,e => by simp at e
 | _,_,0,_,.cons r _,e => by simp at e;subst e;exact ⟨_,rfl,r⟩
 | _,_,i + 1,x,.cons _ t,e => by
  obtain ⟨u,h1,h2⟩ := jh.get (i := i) (x := x) t (by simpa using e)
  exact ⟨u,by simpa using h1,h2⟩
theorem jh.set {x : V} {u : Value} (r : jx x u) : ∀ {xs : List V} {us : List Value} (i : Nat),jh xs us → jh (xs.set i x) (us.set i u)
 | _,_,_,.nil => .nil
 | _,_,0,.cons _ t => .cons r t
 | _,_,i + 1,.cons q t => .cons q (jh.set r i t)
theorem jh.append : ∀ {xs ys : List V} {us ws : List Value},jh xs us → jh ys ws → jh (xs ++ ys) (us ++ ws)
 | _,_,_,_,.nil,s => s
 | _,_,_,_,.cons r t,s => .cons r (jh.append t s)
theorem jh.take : ∀ {xs : List V} {us : List Value} (n : Nat),jh xs us → jh (xs.take n) (us.take n)
 | _,_,0,_ => .nil
 | _,_,_ + 1,.nil => .nil
 | _,_,n + 1,.cons r t => .cons r (jh.take n t)
theorem jh.drop : ∀ {xs : List V} {us : List Value} (n : Nat),jh xs us → jh (xs.drop n) (us.drop n)
 | _,_,0,r => r
 | _,_,_ + 1,.nil => .nil
 | _,_,n + 1,.cons _ t => jh.drop n t
def qiR : Option V → Option Value → Prop
 | some v,some u => jx v u
 | none,none => True
 | _,_ => False
def KV {κ : Type} : List (κ × V) → List (κ × Value) → Prop := Paired fun (p : κ × V) (q : κ × Value) => p.1 = q.1∧jx p.2 q.2
def kV : Key → V
 | .inl i => .int i
 | .inr x => .str x
inductive HO where
 /-- a list -/
 | lst (xs : List V)
 /-- a tuple (never changes) -/
 | tup (xs : List V)
 /-- a dict whose keys are ints and texts;one whose keys are tuples of ints and texts (the empty one is both) -/
 | dK (kvs : List (Key × V)) | dT (kvs : List (List Key × V))
 /-- a set of ints: its members,its size -/
 | set (S : Int → Bool) (n : Nat)
 /-- an instance of the class at C,its dict at dx,its attributes -/
 | ins (C dx : Addr) (fs : List (Str × V))
 /-- the dict of the instance at x -/
 | own (x : Addr)
 /-- the dict of an exception -/
 | xd (fs : List (Str × V))
 /-- a bound method,f of x -/
 | met (f x : Addr)
 /-- a range object lo,lo + 1,.. below hi -/
 | rng (lo hi : Int)
 /-- a thing that is known to the object (the script;a dict while a loop walks it): read,never written while it is so -/
 | frz (o : Obj) (u : HO)
 /-- a code object's table -/
 | tbl (ps : Array Value)
 /-- any other thing,by what is true of its one object (a def of one's own: SetO a S n := HO.ext fun h => ..) -/
 | ext (φ : Heap → Prop)
abbrev Hp := Addr → Option HO
def upd (H : Hp) (a : Addr) (o : HO) : Hp := fun b => if b = a then some o else H b
theorem zw {H : Hp} {a : Addr} {o : HO} : upd H a o a = some o := by unfold upd;rw [if_pos rfl]
theorem qV {H : Hp} {a b : Addr} {o : HO} (h : b ≠ a) : upd H a o b = H b := by unfold upd;rw [if_neg h]
theorem qJ {H : Hp} {a b : Addr} {o : HO} (h : H a = some o) (h' : H b = none) : a ≠ b := by
 intro e;subst e;rw [h] at h';cases h'
section
variable (P : Program) (w : World)
def YY (H : Hp) (h : Heap) (a : Addr) : HO → Prop
 | .lst xs => xs.length ≤ sizeLine∧∃ (its : List Value) (n : Nat),jh xs its∧h.get? a = some { cls := .type "list",data := .seq its.toArray n }
 | .tup xs => xs.length ≤ sizeLine∧∃ its : List Value,jh xs its∧IsTup h a its.toArray
 | .dK kvs => kvs.length ≤ sizeLine∧(a == sysModules) = false∧∃ vs,KV kvs vs∧h.DictOf (NC P w) a vs
 | .dT kvs => kvs.length ≤ sizeLine∧(a == sysModules) = false∧∃ xs : List (List Key × Addr × Value),
   Paired (fun (p : List Key × V) (q : List Key × Addr × Value) => p.1 = q.1∧H q.2.1 = some (.tup (p.1.map kV))∧jx p.2 q.2.2) kvs xs ∧
   ∃ o es ep,h.get? a = some o∧o.ExactDict∧o.data = .dict es ep∧es.toList = xs.map (entryOfKey (tupleKind (NC P w)))∧(xs.map (·.1)).Nodup
 | .set S n => h.SetOf (intKind P w) a S n
 | .ins C dx fs => H dx = some (.own a)∧fs.length ≤ 1000∧dx ≠ a∧h.get? a = some (PySem.W.instObj C dx) ∧
   ∃ mA,h.Ns1 dx mA∧(∀ f,qiR (fs.lookup f) (mA f))∧PySem.Within mA (fs.map (·.1))
 | .own _ => ∃ o,h.get? a = some o
 | .xd fs => ∃ mA,h.Ns1 a mA∧∀ f,qiR (fs.lookup f) (mA f)
 | .rng lo hi => ∃ t u v,h.get? a = some { cls := .type "range",data := .fields #[.int lo t,.int hi u,.int 1 v] }
 | .frz o u => h.get? a = some o∧YY H h a u
 | .tbl ps => h.get? a = some { cls := .none,data := .fields ps }
 | .met f x => h.get? a = some (PySem.W.methodObj (.ref f) (.ref x))
 | .ext φ => φ h∧(∃ o,h.get? a = some o)∧∀ h1 h2 : Heap,φ h1 → (∀ o,h1.get? a = some o → h2.get? a = some o) → φ h2
def HOk (H : Hp) (h : Heap) : Prop := ∀ a o,H a = some o → YY P w H h a o
end
section
variable {P : Program} {w : World} {H H' : Hp} {h h' : Heap} {a : Addr} {o : HO}
theorem YY.lt (x : YY P w H h a o) : a < h.objs.size := by
 cases o with
 | lst xs => obtain ⟨_,_,_,_,e⟩ := x;exact Heap.lt_size e
 | tup xs => obtain ⟨_,_,_,p⟩ := x;exact p.lt
 | dK kvs => obtain ⟨_,_,_,_,o,_,_,e,_⟩ := x;exact Heap.lt_size e
 | dT kvs => obtain ⟨_,_,_,_,o,_,_,e,_⟩ := x;exact Heap.lt_size e
 | set S n => obtain ⟨o,_,_,_,e,_⟩ := x;exact Heap.lt_size e
 | ins C dx fs => obtain ⟨_,_,_,e,_⟩ := x;exact Heap.lt_size e
 | own y => obtain ⟨_,e⟩ := x;exact Heap.lt_size e
 | xd fs => obtain ⟨_,⟨_,_,_,e,_⟩,_⟩ := x;exact Heap.lt_size e
 | rng lo hi => obtain ⟨_,_,_,e⟩ := x;exact Heap.lt_size e
 | frz ob u => obtain ⟨e,_⟩ := x;exact Heap.lt_size e
 | tbl ps => exact Heap.lt_size (show h.get? a = some _ from x)
 | met f y => exact Heap.lt_size (show h.get? a = some _ from x)
 | ext φ => obtain ⟨_,⟨_,e⟩,_⟩ := x;exact Heap.lt_size e
theorem Paired.mapP {α β : Type} {F G : α → β → Prop} : ∀ {l₁ : List α} {l₂ : List β},Paired F l₁ l₂ → (∀ a b,F a b → G a b) → Paired G l₁ l₂
 | _,_,.nil,_ => .nil
 | _,_,.cons r t,f => .cons (f _ _ r) (Paired.mapP t f)
theorem YY.stay (x : YY P w H h a o) (k : ∀ b u,(b = a ∨ H b = some (.own a)) → h.get? b = some u → h'.get? b = some u)
  (ho : ∀ b,H b = some (.own a) → H' b = some (.own a)) (ht : ∀ b xs,H b = some (.tup xs) → H' b = some (.tup xs)) : YY P w H' h' a o := by
 induction o with
 | lst xs => obtain ⟨z,its,n,r,e⟩ := x;exact ⟨z,its,n,r,k _ _ (.inl rfl) e⟩
 | tup xs => obtain ⟨z,its,r,ob,e,c⟩ := x;exact ⟨z,its,r,ob,k _ _ (.inl rfl) e,c⟩
 | dK kvs => obtain ⟨z,y,vs,r,ob,es,ep,e,c⟩ := x;exact ⟨z,y,vs,r,ob,es,ep,k _ _ (.inl rfl) e,c⟩
 | dT kvs =>
  obtain ⟨z,y,xs,r,ob,es,ep,e,c⟩ := x
  exact ⟨z,y,xs,Paired.mapP r fun p q z => ⟨z.1,ht _ _ z.2.1,z.2.2⟩,ob,es,ep,k _ _ (.inl rfl) e,c⟩
 | set S n => obtain ⟨ob,es,ep,t,e,c⟩ := x;exact ⟨ob,es,ep,t,k _ _ (.inl rfl) e,c⟩
 | ins C dx fs =>
  obtain ⟨d,z,ne,e,mA,⟨od,es,ep,e2,c⟩,r⟩ := x
  exact ⟨ho _ d,z,ne,k _ _ (.inl rfl) e,mA,⟨od,es,ep,k _ _ (.inr d) e2,c⟩,r⟩
 | own y => obtain ⟨ob,e⟩ := x;exact ⟨ob,k _ _ (.inl rfl) e⟩
 | xd fs => obtain ⟨mA,⟨od,es,ep,e,c⟩,r⟩ := x;exact ⟨mA,⟨od,es,ep,k _ _ (.inl rfl) e,c⟩,r⟩
 | rng lo hi => obtain ⟨t,u,v,e⟩ := x;exact ⟨t,u,v,k _ _ (.inl rfl) e⟩
 | frz ob u ih => obtain ⟨e,q⟩ := x;exact ⟨k _ _ (.inl rfl) e,ih q⟩
 | tbl ps =>
  have e : h.get? a = some { cls := .none,data := .fields ps } := x
  show h'.get? a = some { cls := .none,data := .fields ps }
  exact k a _ (.inl rfl) e
 | met f y =>
  have e : h.get? a = some (PySem.W.methodObj (.ref f) (.ref y)) := x
  show h'.get? a = some (PySem.W.methodObj (.ref f) (.ref y))
  exact k a _ (.inl rfl) e
 | ext φ => obtain ⟨p,⟨o,e⟩,st⟩ := x;exact ⟨st _ _ p fun o q => k _ _ (.inl rfl) q,⟨o,k _ _ (.inl rfl) e⟩,st⟩
theorem HOk.lt (x : HOk P w H h) (e : H a = some o) : a < h.objs.size := (x a o e).lt
theorem HOk.fresh (x : HOk P w H h) (e : h.objs.size ≤ a) : H a = none := by
 cases q : H a with
 | none => rfl
 | some u => exact absurd (Nat.lt_of_lt_of_le (x.lt q) e) (Nat.lt_irrefl _)
theorem HOk.kept (x : HOk P w H h) (k : ∀ b u,h.get? b = some u → h'.get? b = some u) : HOk P w H h' := fun a o e =>
 (x a o e).stay (fun b u _ q => k b u q) (fun _ q => q) fun _ _ q => q
theorem HOk.laid (x : HOk P w H h) (k : ∀ b u,h.get? b = some u → h'.get? b = some u) (hp : h.objs.size ≤ a) (new : YY P w (upd H a o) h' a o) : HOk P w (upd H a o) h' := fun b u e => by
 have hn := x.fresh hp
 by_cases hb : b = a
 ·subst hb;rw [zw] at e;cases e;exact new
 ·rw [qV hb] at e
  exact (x b u e).stay (fun c v _ q => k c v q) (fun c q => by rw [qV (qJ q hn)];exact q) fun c xs q => by rw [qV (qJ q hn)];exact q
end
def Rd (H : Hp) (a : Addr) (u : HO) : Prop := H a = some u ∨ ∃ o,H a = some (.frz o u)
theorem Rd.ok {P : Program} {w : World} {H : Hp} {h : Heap} {a : Addr} {u : HO} (r : Rd H a u) (x : HOk P w H h) : YY P w H h a u := by
 rcases r with r | ⟨o,r⟩
 ·exact x a u r
 ·obtain ⟨_,q⟩ := x a _ r
  exact q
def Mut : Option HO → Prop
 | some (.lst _) => True
 | some (.dK _) => True
 | some (.dT _) => True
 | some (.set _ _) => True
 | some (.ins _ _ _) => True
 | some (.ext _) => True
 | _ => False
section
variable {P : Program} {w : World} {H : Hp} {h h' : Heap} {x e : Addr} {o' : HO}
theorem HOk.write (ok : HOk P w H h) (mu : Mut (H x)) (he : e = x ∨ H e = some (.own x)) (k : ∀ b u,b ≠ e → h.get? b = some u → h'.get? b = some u) (heo : ∃ u,h'.get? e = some u)
  (new : YY P w (upd H x o') h' x o') : HOk P w (upd H x o') h' := fun b u q => by
 have nown : ∀ c y,H c = some (.own y) → c ≠ x := fun c y r z => by subst z;rw [r] at mu;exact mu
 have ntup : ∀ c xs,H c = some (.tup xs) → c ≠ x := fun c xs r z => by subst z;rw [r] at mu;exact mu
 by_cases hb : b = x
 ·subst hb;rw [zw] at q;cases q;exact new
 ·rw [qV hb] at q
  by_cases hbe : b = e
  ·have q' : H b = some (.own x) := by
    rcases he with z | z
    ·exact absurd (hbe.trans z) hb
    ·rw [hbe];exact z
   rw [q] at q';cases q'
   obtain ⟨v,hv⟩ := heo
   exact ⟨v,by rw [hbe];exact hv⟩
  ·refine (ok b u q).stay (fun c v hc r => k c v ?_ r) (fun c r => by rw [qV (nown c b r)];exact r) fun c xs r => by rw [qV (ntup c xs r)];exact r
   rcases hc with rfl | hc
   ·exact hbe
   ·rintro rfl
    rcases he with z | z
    ·exact nown c b hc z
    ·rw [hc] at z;cases z;exact hb rfl
end
structure Un (fs ex : List Addr) (H H' : Hp) (h h' : Heap) : Prop where
 keep : ∀ b o,h.get? b = some o → H b = none → b ∉ fs → b ∉ ex → h'.get? b = some o
 slot : ∀ b o,h.get? b = some o → H b = none → b ∈ fs → b ∉ ex → ∃ sl,h'.get? b = some { o with slots := sl }
 free : ∀ b o,h.get? b = some o → H b = none → b ∉ ex → H' b = none
 there : ∀ b o,h.get? b = some o → b ∉ ex → ∃ o',h'.get? b = some o'
 tups : ∀ b xs,H b = some (.tup xs) → H' b = some (.tup xs)
 frzs : ∀ b o u,H b = some (.frz o u) → H' b = some (.frz o u)
 tbls : ∀ b ps,H b = some (.tbl ps) → ∃ more,H' b = some (.tbl (ps ++ more))
section
variable {fs fs' ex ex' : List Addr} {H H1 H2 : Hp} {h h1 h2 h' : Heap} {a x e : Addr} {o : HO}
theorem Un.any (u : Un fs ex H H1 h h1) {b : Addr} {ob : Obj} (q : h.get? b = some ob) (n : H b = none) (hx : b ∉ ex) : ∃ sl,h1.get? b = some { ob with slots := sl } := by
 by_cases hb : b ∈ fs
 ·exact u.slot b ob q n hb hx
 ·exact ⟨ob.slots,u.keep b ob q n hb hx⟩
theorem Un.kept (k : ∀ b u,h.get? b = some u → h'.get? b = some u) : Un fs ex H H h h' :=
 ⟨fun b ob q _ _ _ => k b ob q,fun b ob q _ _ _ => ⟨ob.slots,k b ob q⟩,fun _ _ _ n _ => n,fun b ob q _ => ⟨ob,k b ob q⟩,fun _ _ q => q,fun _ _ _ q => q,fun _ ps q => ⟨#[],by rw [q];simp⟩⟩
theorem Un.refl : Un fs ex H H h h := Un.kept fun _ _ q => q
theorem Un.laid (k : ∀ b u,h.get? b = some u → h'.get? b = some u) (hp : h.objs.size ≤ a) (hn : H a = none) : Un fs ex H (upd H a o) h h' where
 keep := fun b u q _ _ _ => k b u q
 slot := fun b u q _ _ _ => ⟨u.slots,k b u q⟩
 free := fun b u q n _ => by rw [qV (Nat.ne_of_lt (Nat.lt_of_lt_of_le (Heap.lt_size q) hp))];exact n
 there := fun b u q _ => ⟨u,k b u q⟩
 tups := fun b xs q => by rw [qV (qJ q hn)];exact q
 frzs := fun b u xs q => by rw [qV (qJ q hn)];exact q
 tbls := fun b ps q => ⟨#[],by rw [qV (qJ q hn),q];simp⟩
theorem Un.write (mu : Mut (H x)) (he : e = x ∨ H e = some (.own x)) (k : ∀ b u,b ≠ e → h.get? b = some u → h'.get? b = some u) (heo : ∃ u,h'.get? e = some u) : Un fs ex H (upd H x o) h h' := by
 have hx : ∀ b,H b = none → b ≠ x := fun b n z => by subst z;rw [n] at mu;exact mu
 have hb : ∀ b,H b = none → b ≠ e := fun b n z => by
  subst z
  rcases he with r | r
  ·exact hx b n r
  ·rw [n] at r;cases r
 have hm : ∀ b u,H b = some u → ¬ Mut (some u) → b ≠ x := fun b u q nm z => by subst z;rw [q] at mu;exact nm mu
 refine ⟨fun b u q n _ _ => k b u (hb b n) q,fun b u q n _ _ => ⟨u.slots,k b u (hb b n) q⟩,fun b u q n _ => by rw [qV (hx b n)];exact n,fun b u q _ => ?_,
  fun b xs q => by rw [qV (hm b _ q fun z => z)];exact q,fun b u xs q => by rw [qV (hm b _ q fun z => z)];exact q,fun b ps q => ⟨#[],by rw [qV (hm b _ q fun z => z),q];simp⟩⟩
 by_cases hbe : b = e
 ·subst hbe;exact heo
 ·exact ⟨u,k b u hbe q⟩
end
def trk (h : Heap) (H : Hp) : List Addr := (List.range h.objs.size).filter fun a => (H a).isSome
def qaw (h : Heap) (H : Hp) : Heap := PySem.W.hideAll h (trk h H)
theorem NF (h : Heap) (H : Hp) : (qaw h H).objs.size = h.objs.size := PySem.W.hideAll_size _ _
theorem qaE {h : Heap} {H : Hp} {b : Addr} {o : Obj} (e : h.get? b = some o) (n : H b = none) : (qaw h H).get? b = some o :=
 PySem.W.hideAll_get _ e fun hm => by
  have q : (H b).isSome = true := (List.mem_filter.mp hm).2
  rw [n] at q;simp at q
theorem qcO {h : Heap} {H : Hp} {b : Addr} {o : Obj} (e : (qaw h H).get? b = some o) : h.get? b = some o∧H b = none := by
 have e' : h.get? b = some o := PySem.W.of_hideAll (trk h H) e
 refine ⟨e',?_⟩
 cases q : H b with
 | none => rfl
 | some x =>
  have hm : b ∈ trk h H := List.mem_filter.mpr ⟨List.mem_range.mpr (Heap.lt_size e'),by simp [q]⟩
  have z : (qaw h H).get? b = none := PySem.W.hideAll_none (trk h H) hm
  rw [z] at e;cases e
def qc3 (g h : Heap) (L : Addr) : List (Addr × Obj) := (List.range h.objs.size).filterMap fun a => if a = L ∨ (g.get? a).isSome = true then none else (h.get? a).map fun o => (a,o)
def VJ (g h : Heap) (L d : Addr) : List (Addr × Obj) := (qc3 g h L).filter fun p => decide (p.1 ≠ d)
end L2
namespace L2
open PySem PySem.Spec PyProof.Rows
structure Mod (K : PySem.W.Frag) (mg : Str → Option Value) (base : Heap) : Prop where
 kin : K.In base
 glob : base.Ns mainGlobals mg
 blt : ∃ mb,base.Ns builtinsNs mb∧∀ x : Str,x ≠ "__name__" → mb x = bootBuiltins x
 nolimit : base.NoLimit
structure Cx where
 prog : Program
 w : World
 K : PySem.W.Frag
 mg : Str → Option Value
 base : Heap
 A : Around
 N : List Str
 s₀ : Shared
 H₀ : Hp
 env : Env
 outer : List Env
 stack : List Env
 ex : List Addr
 fn : Str → Bool
 calm : Bool
 pn : List (Addr × Obj)
 xe : Value → Shared → Prop
def frs (l : List Env) : List Addr := l.filterMap (·.frame)
abbrev Cx.fs (X : Cx) : List Addr := frs X.outer
def Vis (sc : Scope) (x : Str) : Prop := sc.names.lookup x = some .local ∨ sc.names.lookup x = some .cell ∨ sc.names.lookup x = some .free
def Loc (sc : Scope) (x : Str) : Prop := sc.names.lookup x = some .local ∨ sc.names.lookup x = some .cell
def qi4 (env : Env) (h : Heap) (m : Str → Option Value) (x : Str) (u : Value) : Prop :=
 (env.kindOf x = some .local∧m x = some u) ∨ ((env.kindOf x = some .cell ∨ env.kindOf x = some .free)∧∃ c,env.cells.lookup x = some c∧h.IsCell c (some u))
structure Cx.Ok (X : Cx) : Prop where
 mod : Mod X.K X.mg X.base
 kind : X.env.scope.kind = .function
 glob : X.env.globals = mainGlobals
 blt : X.env.builtins = builtinsNs
 above : X.s₀.heap.objs.size ≤ X.env.locals
 inj : ∀ x y c,X.env.cells.lookup x = some c → X.env.cells.lookup y = some c → x = y
 has : ∀ x,(X.env.kindOf x = some .cell ∨ X.env.kindOf x = some .free) → ∃ c,X.env.cells.lookup x = some c
 cab : ∀ x c,X.fn x = true → X.env.cells.lookup x = some c → X.s₀.heap.objs.size ≤ c
 hd : X.calm = true → X.A.handled = none
 frames : X.A.frames = some X.stack
 stk : X.stack = X.outer ∨ (X.stack = X.env :: X.outer∧X.env.frame = some X.env.locals)
 exf : ∀ b ∈ X.ex,b ≠ X.env.locals∧∀ x c,X.env.cells.lookup x = some c → c ≠ b
 bs : ∀ b o,X.base.get? b = some o → X.s₀.heap.get? b = some o∧X.H₀ b = none
 bsz : X.base.objs.size ≤ X.s₀.heap.objs.size
 noex : ∀ b o,X.base.get? b = some o → b ∉ X.ex
 exfs : ∀ b ∈ X.ex,b ∉ X.fs
 funs : X.s₀.heap.FunFrames X.base X.outer
 frf : ∀ b ∈ X.fs,X.H₀ b = none
structure Inv (X : Cx) (pins : List (Addr × Obj)) (σ : List (Option V)) (H : Hp) (s : Shared) : Prop where
 ok : X.Ok
 os : s.os = X.s₀.os
 bare : AllBare s.gens
 base : Un X.fs X.ex X.H₀ H X.s₀.heap s.heap
 loc : ∃ m,s.heap.Ns X.env.locals m∧∀ (i : Nat) (x : Str) (v : V),X.N[i]? = some x → σ[i]? = some (some v) → Vis X.env.scope x → ∃ u,jx v u∧qi4 X.env s.heap m x u
 cell : ∀ x c,X.env.cells.lookup x = some c → ∃ v,s.heap.IsCell c v
 free : H X.env.locals = none
 freeC : ∀ x c,X.env.cells.lookup x = some c → H c = none
 pin : ∀ p ∈ X.pn ++ pins,s.heap.get? p.1 = some p.2∧H p.1 = none∧p.1 ≠ X.env.locals∧p.1 ∉ X.fs∧∀ v,p.2.data ≠ .cell v
 hok : HOk X.prog X.w H s.heap
 len : σ.length = X.N.length
section
variable {X : Cx} {pins : List (Addr × Obj)} {σ : List (Option V)} {H H' : Hp} {s : Shared} {h' : Heap}
theorem Cx.Ok.nofr (ok : X.Ok) {b : Addr} {o : Obj} (e : X.base.get? b = some o) : b ∉ X.fs := fun hb => by
 have := (ok.funs.mem hb).1
 rw [e] at this;cases this
theorem Inv.bs (I : Inv X pins σ H s) : ∀ b o,X.base.get? b = some o → s.heap.get? b = some o∧H b = none := fun b o e =>
 ⟨I.base.keep b o (I.ok.bs b o e).1 (I.ok.bs b o e).2 (I.ok.nofr e) (I.ok.noex b o e),I.base.free b o (I.ok.bs b o e).1 (I.ok.bs b o e).2 (I.ok.noex b o e)⟩
theorem Inv.bk (I : Inv X pins σ H s) : ∀ b o,X.base.get? b = some o → s.heap.get? b = some o := fun b o e => (I.bs b o e).1
theorem Inv.mod (I : Inv X pins σ H s) : Mod X.K X.mg X.base := I.ok.mod
theorem Inv.kIn (I : Inv X pins σ H s) : X.K.In s.heap := I.ok.mod.kin.keeps I.bk
theorem Inv.nolimit (I : Inv X pins σ H s) : s.heap.NoLimit := I.ok.mod.nolimit.keeps I.bk
theorem Inv.lt (I : Inv X pins σ H s) : X.env.locals < s.heap.objs.size := let ⟨_,hn,_⟩ := I.loc;hn.lt
theorem Inv.sz (I : Inv X pins σ H s) : X.s₀.heap.objs.size ≤ s.heap.objs.size := Nat.le_trans I.ok.above (Nat.le_of_lt I.lt)
theorem Inv.nofs (I : Inv X pins σ H s) {a : Addr} (h : s.heap.objs.size ≤ a) : a ∉ X.fs := fun hb => by
 obtain ⟨_,o,ho,_⟩ := I.ok.funs.mem hb
 exact absurd (Nat.lt_of_lt_of_le (Heap.lt_size ho) (Nat.le_trans I.sz h)) (Nat.lt_irrefl _)
theorem Inv.cne (I : Inv X pins σ H s) : ∀ x c,X.env.cells.lookup x = some c → c ≠ X.env.locals := fun x c e z => by
 obtain ⟨v,o,ho,hd⟩ := I.cell x c e
 obtain ⟨m,⟨o',es,ep,ho',hd',_⟩,_⟩ := I.loc
 rw [z,ho'] at ho;cases ho;rw [hd'] at hd;cases hd
theorem Inv.funs (I : Inv X pins σ H s) : s.heap.FunFrames X.base X.outer := by
 have all : ∀ (l : List Env),(∀ b ∈ frs l,b ∈ X.fs) → X.s₀.heap.FunFrames X.base l → s.heap.FunFrames X.base l := by
  intro l
  induction l with
  | nil => intro _ _;trivial
  | cons env r ih =>
   intro hs hl
   obtain ⟨hk,⟨L,o,hf,hn,ho,hd⟩,hr⟩ := hl
   have hL : L ∈ X.fs := hs L (by unfold frs;rw [List.filterMap_cons,hf];exact List.mem_cons_self)
   obtain ⟨sl,e⟩ := I.base.slot L o ho (I.ok.frf L hL) hL fun z => I.ok.exfs L z hL
   exact ⟨hk,⟨L,_,hf,hn,e,hd⟩,ih (fun b hb => hs b (by unfold frs;rw [List.filterMap_cons,hf];exact List.mem_cons_of_mem _ hb)) hr⟩
 exact all X.outer (fun _ hb => hb) I.ok.funs
theorem Inv.stack (I : Inv X pins σ H s) : s.heap.FunFrames X.base X.stack := by
 rcases I.ok.stk with e | ⟨e,hf⟩
 ·rw [e];exact I.funs
 ·rw [e]
  obtain ⟨m,hn,_⟩ := I.loc
  refine .cons (by rw [I.ok.kind];decide) hf hn ?_ I.funs
  exact Heap.get?_none_of_le (Nat.le_trans I.ok.bsz I.ok.above)
theorem Inv.stkSub (I : Inv X pins σ H s) : ∀ b ∈ frs X.stack,b ∈ X.env.locals :: X.fs := fun b hb => by
 rcases I.ok.stk with e | ⟨e,hf⟩
 ·rw [e] at hb;exact List.mem_cons_of_mem _ hb
 ·rw [e] at hb
  unfold frs at hb
  rw [List.filterMap_cons,hf] at hb
  exact hb
theorem Inv.stkFree (I : Inv X pins σ H s) : ∀ b ∈ frs X.stack,H b = none := fun b hb => by
 rcases List.mem_cons.mp (I.stkSub b hb) with e | hb
 ·rw [e];exact I.free
 ·obtain ⟨_,o,ho,_⟩ := I.ok.funs.mem hb
  exact I.base.free b o ho (I.ok.frf b hb) fun z => I.ok.exfs b z hb
theorem Inv.step {g' : Array GenState} {t' : Nat} {d' : Drawn} {ch : List Addr} (I : Inv X pins σ H s)
  (hch : ∀ b ∈ ch,(b ∈ X.ex ∨ X.s₀.heap.objs.size ≤ b)∧b ≠ X.env.locals∧(∀ x c,X.env.cells.lookup x = some c → c ≠ b)∧∀ p ∈ X.pn ++ pins,p.1 ≠ b)
  (keep : ∀ b o,b ≠ X.env.locals → b ∉ X.fs → b ∉ ch → s.heap.get? b = some o → H b = none → h'.get? b = some o)
  (slot : ∀ b o,b ≠ X.env.locals → b ∈ X.fs → b ∉ ch → s.heap.get? b = some o → H b = none → ∃ sl,h'.get? b = some { o with slots := sl }) (free : ∀ b o,b ∉ ch → s.heap.get? b = some o → H b = none → H' b = none)
  (there : ∀ b o,b ∉ ch → s.heap.get? b = some o → ∃ o',h'.get? b = some o')
  (tups : ∀ b xs,H b = some (.tup xs) → H' b = some (.tup xs)) (frzs : ∀ b o u,H b = some (.frz o u) → H' b = some (.frz o u)) (tbls : ∀ b ps,H b = some (.tbl ps) → ∃ more,H' b = some (.tbl (ps ++ more)))
  (ns : ∀ m,s.heap.Ns X.env.locals m → h'.Ns X.env.locals m) (hok : HOk X.prog X.w H' h') (hg : AllBare g') :
  Inv X pins σ H' { s with heap := h',gens := g',drawn := d',toks := t' } := by
 have neL : ∀ b o,X.s₀.heap.get? b = some o → b ≠ X.env.locals := fun b o e => Nat.ne_of_lt (Nat.lt_of_lt_of_le (Heap.lt_size e) I.ok.above)
 have neC : ∀ b o,X.s₀.heap.get? b = some o → b ∉ X.ex → b ∉ ch := fun b o e hx hb => by
  rcases (hch b hb).1 with z | z
  ·exact hx z
  ·exact absurd (Nat.lt_of_lt_of_le (Heap.lt_size e) z) (Nat.lt_irrefl _)
 have cellK : ∀ x c,X.env.cells.lookup x = some c → ∀ v,s.heap.IsCell c v → h'.IsCell c v := fun x c e v ⟨o,ho,hd⟩ => by
  have nch : c ∉ ch := fun z => (hch c z).2.2.1 x c e rfl
  by_cases hc : c ∈ X.fs
  ·obtain ⟨sl,q⟩ := slot c o (I.cne x c e) hc nch ho (I.freeC x c e)
   exact ⟨_,q,hd⟩
  ·exact ⟨o,keep c o (I.cne x c e) hc nch ho (I.freeC x c e),hd⟩
 refine ⟨I.ok,I.os,hg,⟨fun b o e n hb hx => ?_,fun b o e n hb hx => ?_,fun b o e n hx => ?_,fun b o e hx => ?_,fun b xs e => tups b xs (I.base.tups b xs e),fun b o xs e => frzs b o xs (I.base.frzs b o xs e),fun b ps e => ?_⟩,?_,fun x c e => ?_,?_,fun x c e => ?_,fun p hp => ?_,hok,I.len⟩
 ·exact keep b o (neL b o e) hb (neC b o e hx) (I.base.keep b o e n hb hx) (I.base.free b o e n hx)
 ·obtain ⟨sl,e1⟩ := I.base.slot b o e n hb hx
  obtain ⟨sl',e2⟩ := slot b _ (neL b o e) hb (neC b o e hx) e1 (I.base.free b o e n hx)
  exact ⟨sl',e2⟩
 ·obtain ⟨o',e1⟩ := I.base.there b o e hx
  exact free b o' (neC b o e hx) e1 (I.base.free b o e n hx)
 ·obtain ⟨o',e1⟩ := I.base.there b o e hx
  exact there b o' (neC b o e hx) e1
 ·obtain ⟨m1,e1⟩ := I.base.tbls b ps e
  obtain ⟨m2,e2⟩ := tbls b _ e1
  exact ⟨m1 ++ m2,by rw [e2,Array.append_assoc]⟩
 ·obtain ⟨m,hn,hl⟩ := I.loc
  refine ⟨m,ns m hn,fun i x v e1 e2 e3 => ?_⟩
  obtain ⟨u,r,l⟩ := hl i x v e1 e2 e3
  refine ⟨u,r,?_⟩
  rcases l with l | ⟨k,c,e,z⟩
  ·exact .inl l
  ·exact .inr ⟨k,c,e,cellK x c e _ z⟩
 ·obtain ⟨v,z⟩ := I.cell x c e
  exact ⟨v,cellK x c e v z⟩
 ·obtain ⟨m,⟨o,_,_,ho,_⟩,_⟩ := I.loc
  exact free _ o (fun z => (hch _ z).2.1 rfl) ho I.free
 ·obtain ⟨v,o,ho,hd⟩ := I.cell x c e
  exact free c o (fun z => (hch c z).2.2.1 x c e rfl) ho (I.freeC x c e)
 ·obtain ⟨e,n,ne,nf,d⟩ := I.pin p hp
  have nch : p.1 ∉ ch := fun z => (hch p.1 z).2.2.2 p hp rfl
  exact ⟨keep p.1 p.2 ne nf nch e n,free p.1 p.2 nch e n,ne,nf,d⟩
theorem Inv.un {t' : Nat} (I : Inv X pins σ H s) (u : Un X.fs [] H H' s.heap h') (hok : HOk X.prog X.w H' h') : Inv X pins σ H' { s with heap := h',toks := t' } := by
 obtain ⟨m,⟨o,es,ep,ho,r⟩,_⟩ := id I.loc
 obtain ⟨sl,hL⟩ := u.any ho I.free (by simp)
 exact I.step (g' := s.gens) (d' := s.drawn) (ch := []) (fun _ z => nomatch z) (fun b o _ hb _ e n => u.keep b o e n hb (by simp)) (fun b o _ hb _ e n => u.slot b o e n hb (by simp)) (fun b o _ e n => u.free b o e n (by simp)) (fun b o _ e => u.there b o e (by simp)) u.tups u.frzs u.tbls (fun m' hm => by
  obtain ⟨o',es',ep',ho',r'⟩ := hm
  rw [ho] at ho';cases ho'
  exact ⟨_,es',ep',hL,r'⟩) hok I.bare
theorem Inv.call {g' : Array GenState} {t' : Nat} {d' : Drawn} {ch : List Addr} (I : Inv X pins σ H s) (u : Un (frs X.stack) ch H H' s.heap h') (hok : HOk X.prog X.w H' h') (hg : AllBare g')
  (hch : ∀ b ∈ ch,(b ∈ X.ex ∨ X.s₀.heap.objs.size ≤ b)∧b ≠ X.env.locals∧(∀ x c,X.env.cells.lookup x = some c → c ≠ b)∧∀ p ∈ X.pn ++ pins,p.1 ≠ b) :
  Inv X pins σ H' { s with heap := h',gens := g',drawn := d',toks := t' } := by
 obtain ⟨m,⟨o,es,ep,ho,r⟩,_⟩ := id I.loc
 obtain ⟨sl,hL⟩ := u.any ho I.free fun z => (hch _ z).2.1 rfl
 exact I.step (ch := ch) hch (fun b o hL hb hc e n => u.keep b o e n (fun z => (List.mem_cons.mp (I.stkSub b z)).elim hL hb) hc) (fun b o _ _ hc e n => u.any e n hc) (fun b o hc e n => u.free b o e n hc) (fun b o hc e => u.there b o e hc) u.tups u.frzs u.tbls (fun m' hm => by
  obtain ⟨o',es',ep',ho',r'⟩ := hm
  rw [ho] at ho';cases ho'
  exact ⟨_,es',ep',hL,r'⟩) hok hg
theorem Inv.turned {t' : Nat} {it : Addr} (I : Inv X pins σ H s) (k : ∀ b o,b ≠ it → s.heap.get? b = some o → h'.get? b = some o) (hn : H it = none) (hL : it ≠ X.env.locals)
  (h1 : it ∈ X.ex ∨ X.s₀.heap.objs.size ≤ it) (h2 : ∀ x c,X.env.cells.lookup x = some c → c ≠ it) (h3 : ∀ p ∈ X.pn ++ pins,p.1 ≠ it) : Inv X pins σ H { s with heap := h',toks := t' } := by
 have nit : ∀ b u,H b = some u → b ≠ it := fun b u e z => by rw [z,hn] at e;cases e
 refine I.step (g' := s.gens) (d' := s.drawn) (ch := [it]) (fun b hb => ?_) (fun b o _ _ hc e _ => k b o (fun z => hc (by simp [z])) e) (fun b o _ _ hc e _ => ⟨o.slots,k b o (fun z => hc (by simp [z])) e⟩) (fun _ _ _ _ n => n)
  (fun b o hc e => ⟨o,k b o (fun z => hc (by simp [z])) e⟩) (fun _ _ e => e) (fun _ _ _ e => e) (fun b ps e => ⟨#[],by rw [e];simp⟩) (fun m hm => ?_) (fun b u e => ?_) I.bare
 ·have e : b = it := by simpa using hb
  subst e
  exact ⟨h1,hL,h2,h3⟩
 ·obtain ⟨o,es,ep,ho,r⟩ := hm
  exact ⟨o,es,ep,k _ o (Ne.symm hL) ho,r⟩
 ·refine (I.hok b u e).stay (fun c v hc q => k c v ?_ q) (fun _ q => q) fun _ _ q => q
  rcases hc with z | z
  ·rw [z];exact nit b u e
  ·exact nit c _ z
theorem Inv.tok (I : Inv X pins σ H s) (t : Nat) : Inv X pins σ H { s with toks := t } := I.un (h' := s.heap) (t' := t) Un.refl I.hok
theorem Inv.kept {t' : Nat} (I : Inv X pins σ H s) (k : ∀ b u,s.heap.get? b = some u → h'.get? b = some u) : Inv X pins σ H { s with heap := h',toks := t' } := I.un (Un.kept k) (I.hok.kept k)
theorem Inv.laid {a : Addr} {o : HO} {t' : Nat} (I : Inv X pins σ H s) (k : ∀ b u,s.heap.get? b = some u → h'.get? b = some u) (hp : s.heap.objs.size ≤ a) (new : YY X.prog X.w (upd H a o) h' a o) :
  Inv X pins σ (upd H a o) { s with heap := h',toks := t' } := I.un (Un.laid k hp (I.hok.fresh hp)) (I.hok.laid k hp new)
theorem Inv.write {x e : Addr} {o : HO} {t' : Nat} (I : Inv X pins σ H s) (mu : Mut (H x)) (he : e = x ∨ H e = some (.own x)) (k : ∀ b u,b ≠ e → s.heap.get? b = some u → h'.get? b = some u) (heo : ∃ u,h'.get? e = some u)
  (new : YY X.prog X.w (upd H x o) h' x o) : Inv X pins σ (upd H x o) { s with heap := h',toks := t' } := I.un (Un.write mu he k heo) (I.hok.write mu he k heo new)
theorem Inv.pins_of {pins' : List (Addr × Obj)} (I : Inv X pins σ H s) (h : ∀ p ∈ pins',s.heap.get? p.1 = some p.2∧H p.1 = none∧p.1 ≠ X.env.locals∧p.1 ∉ X.fs∧∀ v,p.2.data ≠ .cell v) : Inv X pins' σ H s :=
 ⟨I.ok,I.os,I.bare,I.base,I.loc,I.cell,I.free,I.freeC,fun p hp => (List.mem_append.mp hp).elim (fun z => I.pin p (List.mem_append_left _ z)) (h p),I.hok,I.len⟩
theorem KU {N : List Str} (hN : N.Nodup) {i j : Nat} {x : Str} (a : N[i]? = some x) (b : N[j]? = some x) : i = j := by
 obtain ⟨h1,e1⟩ := List.getElem?_eq_some_iff.mp a
 obtain ⟨h2,e2⟩ := List.getElem?_eq_some_iff.mp b
 exact (List.getElem_inj hN).mp (e1.trans e2.symm)
theorem R6 {M : Model} {A : Around} {E : Value → Shared → Prop} {i : Nat} {x : Str} {v : V} {u : Value} {Q : Unit → Shared → Prop} (I : Inv X pins σ H s) (hN : X.N.Nodup) (hi : X.N[i]? = some x) (hx : Loc X.env.scope x) (r : jx v u)
  (h : ∀ s',Inv X pins (σ.set i (some v)) H s' → (∃ a,Heap.SameBut a s.heap s'.heap∧(a = X.env.locals ∨ X.env.cells.lookup x = some a)) → Q () s') (hf : X.fn x = true ∨ X.env.scope.names.lookup x = some .local := by first | exact .inl rfl | exact .inr rfl | assumption) : wpAny M A (storeName X.env x u) Q E s := by
 obtain ⟨m,hn,hl⟩ := id I.loc
 have hcls : (X.env.scope.kind == .class || (X.env.scope.kind == .module && X.env.locals != X.env.globals)) = false := by rw [I.ok.kind];rfl
 have hiσ : i < σ.length := by rw [I.len];exact (List.getElem?_eq_some_iff.mp hi).1
 have cne := I.cne
 have tracked : ∀ {a : Addr} {h' : Heap},(∃ o,s.heap.get? a = some o∧H a = none) → Heap.SameBut a s.heap h' → HOk X.prog X.w H h' := fun {a h'} ha hs b ob e => by
  obtain ⟨_,_,hfree⟩ := ha
  refine (I.hok b ob e).stay (fun c w' hc q => (hs.2 c ?_).trans q) (fun _ q => q) fun _ _ q => q
  rintro rfl
  rcases hc with rfl | hc
  ·rw [hfree] at e;cases e
  ·rw [hfree] at hc;cases hc
 rcases hx with hk | hk
 ·refine wpAny_storeName_local hk hn (fun h' hn' hs => ?_) hcls
  obtain ⟨oL,_,_,hoL,_⟩ := id hn
  refine h _ ⟨I.ok,I.os,I.bare,⟨fun b o e n hb hx => ?_,fun b o e n hb hx => ?_,I.base.free,fun b o e hx => ?_,I.base.tups,I.base.frzs,I.base.tbls⟩,⟨_,hn',fun j y v' e1 e2 e3 => ?_⟩,fun y c e => ?_,I.free,I.freeC,fun p hp => ?_,tracked ⟨oL,hoL,I.free⟩ hs,by simpa using I.len⟩ ⟨_,hs,.inl rfl⟩
  ·exact (hs.2 b (Nat.ne_of_lt (Nat.lt_of_lt_of_le (Heap.lt_size e) I.ok.above))).trans (I.base.keep b o e n hb hx)
  ·obtain ⟨sl,e1⟩ := I.base.slot b o e n hb hx
   exact ⟨sl,(hs.2 b (Nat.ne_of_lt (Nat.lt_of_lt_of_le (Heap.lt_size e) I.ok.above))).trans e1⟩
  ·obtain ⟨o',e1⟩ := I.base.there b o e hx
   exact ⟨o',(hs.2 b (Nat.ne_of_lt (Nat.lt_of_lt_of_le (Heap.lt_size e) I.ok.above))).trans e1⟩
  ·by_cases hj : j = i
   ·subst hj
    rw [hi] at e1;cases e1
    rw [List.getElem?_set_self hiσ] at e2
    cases e2
    exact ⟨u,r,.inl ⟨hk,by simp⟩⟩
   ·rw [List.getElem?_set_ne (Ne.symm hj)] at e2
    obtain ⟨u',r',q⟩ := hl j y v' e1 e2 e3
    refine ⟨u',r',?_⟩
    rcases q with ⟨k,e⟩ | ⟨k,c,e,z⟩
    ·refine .inl ⟨k,?_⟩
     have : y ≠ x := fun e => hj (KU hN e1 (e ▸ hi))
     simp [this,e]
    ·exact .inr ⟨k,c,e,z.sameBut hs (cne y c e)⟩
  ·obtain ⟨w',z⟩ := I.cell y c e
   exact ⟨w',z.sameBut hs (cne y c e)⟩
  ·obtain ⟨e,n,ne,nf,d⟩ := I.pin p hp
   exact ⟨(hs.2 p.1 ne).trans e,n,ne,nf,d⟩
 ·have hfn : X.fn x = true := by
   rcases hf with z | z
   ·exact z
   ·rw [z] at hk;cases hk
  obtain ⟨c,hc⟩ := I.ok.has x (.inl hk)
  obtain ⟨w',z⟩ := I.cell x c hc
  refine wpAny_storeName_cell I.ok.kind hk hc z (fun h' hc' hs => ?_)
  obtain ⟨oc,hoc,hocd⟩ := id z
  refine h { s with heap := h' } ⟨I.ok,I.os,I.bare,⟨fun b o e n hb hx => ?_,fun b o e n hb hx => ?_,I.base.free,fun b o e hx => ?_,I.base.tups,I.base.frzs,I.base.tbls⟩,⟨m,hn.sameBut hs (Ne.symm (cne x c hc)),fun j y v' e1 e2 e3 => ?_⟩,fun y c' e => ?_,I.free,I.freeC,fun p hp => ?_,tracked ⟨oc,hoc,I.freeC x c hc⟩ hs,by simpa using I.len⟩ ⟨c,hs,.inr hc⟩
  ·exact (hs.2 b (Nat.ne_of_lt (Nat.lt_of_lt_of_le (Heap.lt_size e) (I.ok.cab x c hfn hc)))).trans (I.base.keep b o e n hb hx)
  ·obtain ⟨sl,e1⟩ := I.base.slot b o e n hb hx
   exact ⟨sl,(hs.2 b (Nat.ne_of_lt (Nat.lt_of_lt_of_le (Heap.lt_size e) (I.ok.cab x c hfn hc)))).trans e1⟩
  ·obtain ⟨o',e1⟩ := I.base.there b o e hx
   exact ⟨o',(hs.2 b (Nat.ne_of_lt (Nat.lt_of_lt_of_le (Heap.lt_size e) (I.ok.cab x c hfn hc)))).trans e1⟩
  ·by_cases hj : j = i
   ·subst hj
    rw [hi] at e1;cases e1
    rw [List.getElem?_set_self hiσ] at e2
    cases e2
    exact ⟨u,r,.inr ⟨.inl hk,c,hc,hc'⟩⟩
   ·rw [List.getElem?_set_ne (Ne.symm hj)] at e2
    obtain ⟨u',r',q⟩ := hl j y v' e1 e2 e3
    refine ⟨u',r',?_⟩
    rcases q with q | ⟨k,c',e,z'⟩
    ·exact .inl q
    ·refine .inr ⟨k,c',e,z'.sameBut hs ?_⟩
     rintro rfl
     exact hj (KU hN e1 (I.ok.inj _ _ _ e hc ▸ hi))
  ·by_cases hcc : c' = c
   ·subst hcc;exact ⟨_,hc'⟩
   ·obtain ⟨w2,z2⟩ := I.cell y c' e
    exact ⟨w2,z2.sameBut hs hcc⟩
  ·obtain ⟨e,n,ne,nf,d⟩ := I.pin p hp
   refine ⟨(hs.2 p.1 ?_).trans e,n,ne,nf,d⟩
   intro q
   rw [q,hoc] at e
   have q' : oc = p.2 := Option.some.inj e
   exact d w' (by rw [← q'];exact hocd)
theorem UE {M : Model} {A : Around} {E : Value → Shared → Prop} {i : Nat} {x : Str} {v : V} {u : Value} {Q : Unit → Shared → Prop} (I : Inv X pins σ H s) (hN : X.N.Nodup) (hi : X.N[i]? = some x) (hx : Loc X.env.scope x) (r : jx v u)
  (h : ∀ s',Inv X pins (σ.set i (some v)) H s' → Q () s') (hf : X.fn x = true ∨ X.env.scope.names.lookup x = some .local := by first | exact .inl rfl | exact .inr rfl | assumption) : wpAny M A (storeName X.env x u) Q E s :=
 R6 I hN hi hx r (fun s' I' _ => h s' I') hf
theorem Inv.call' {s' : Shared} {ch : List Addr} (I : Inv X pins σ H s) (ho : s'.os = s.os) (u : Un (frs X.stack) ch H H' s.heap s'.heap) (hok : HOk X.prog X.w H' s'.heap) (hg : AllBare s'.gens)
  (hch : ∀ b ∈ ch,(b ∈ X.ex ∨ X.s₀.heap.objs.size ≤ b)∧b ≠ X.env.locals∧(∀ x c,X.env.cells.lookup x = some c → c ≠ b)∧∀ p ∈ X.pn ++ pins,p.1 ≠ b) : Inv X pins σ H' s' := by
 obtain ⟨h',g',d',t',o'⟩ := s'
 have e : o' = s.os := ho
 subst e
 exact I.call (g' := g') (t' := t') (d' := d') u hok hg hch
end
abbrev XK := Value → Option Addr → Hp → Prop
abbrev St := List (Option V)
abbrev VK := V → Hp → Prop
abbrev TE := St → Hp → VK → Prop
abbrev TT := St → Hp → (Bool → Hp → Prop) → Prop
abbrev TA := St → Hp → (List V → Hp → Prop) → Prop
structure Ends where
 nx : St → Hp → Prop
 rt : VK
 bk : St → Hp → Prop := fun _ _ => False
 ct : St → Hp → Prop := fun _ _ => False
abbrev TS := Ends → St → Hp → Prop
def EP (X : Cx) (pins : List (Addr × Obj)) (σ : St) (Q : VK) (u : Value) (s' : Shared) : Prop := ∃ v H',Inv X pins σ H' s'∧jx v u∧Q v H'
def TP (X : Cx) (pins : List (Addr × Obj)) (σ : St) (Q : Bool → Hp → Prop) (b : Bool) (s' : Shared) : Prop := ∃ H',Inv X pins σ H' s'∧Q b H'
def AP (X : Cx) (pins : List (Addr × Obj)) (σ : St) (Q : List V → Hp → Prop) (us : List Value) (s' : Shared) : Prop := ∃ vs H',Inv X pins σ H' s'∧jh vs us∧Q vs H'
def SP (X : Cx) (pins : List (Addr × Obj)) (D : Ends) (f : Flow) (s' : Shared) : Prop :=
 match f with
 | .next => ∃ σ' H',Inv X pins σ' H' s'∧D.nx σ' H'
 | .brk => ∃ σ' H',Inv X pins σ' H' s'∧D.bk σ' H'
 | .cont => ∃ σ' H',Inv X pins σ' H' s'∧D.ct σ' H'
 | .ret u => ∃ v σ' H',Inv X pins σ' H' s'∧jx v u∧D.rt v H'
def PE (X : Cx) (e : Expr) (t : TE) : Prop :=
 ∀ (pins : List (Addr × Obj)) (s : Shared) (σ : St) (H : Hp) (Q : VK),Inv X pins σ H s → t σ H Q → wpAny (model X.prog X.w) X.A (eval e X.env) (EP X pins σ Q) X.xe s
def PT (X : Cx) (e : Expr) (t : TT) : Prop :=
 ∀ (pins : List (Addr × Obj)) (s : Shared) (σ : St) (H : Hp) (Q : Bool → Hp → Prop),Inv X pins σ H s → t σ H Q → wpAny (model X.prog X.w) X.A (isTrue e X.env (eval e X.env)) (TP X pins σ Q) X.xe s
def PW (X : Cx) (e : Expr) (t : TT) : Prop :=
 ∀ (whole : Sem Value) (pins : List (Addr × Obj)) (s : Shared) (σ : St) (H : Hp) (Q : Bool → Hp → Prop),Inv X pins σ H s → t σ H Q → wpAny (model X.prog X.w) X.A (isTrue e X.env whole) (TP X pins σ Q) X.xe s
theorem PW.pt {X : Cx} {e : Expr} {t : TT} (h : PW X e t) : PT X e t := h _
def PA (X : Cx) (es : List Expr) (t : TA) : Prop :=
 ∀ (pos : Pos) (pins : List (Addr × Obj)) (s : Shared) (σ : St) (H : Hp) (Q : List V → Hp → Prop),Inv X pins σ H s → t σ H Q → wpAny (model X.prog X.w) X.A (spliced (backTo pos (starEach es X.env))) (AP X pins σ Q) X.xe s
def PS (X : Cx) (st : Stmt) (t : TS) : Prop :=
 ∀ (pins : List (Addr × Obj)) (s : Shared) (σ : St) (H : Hp) (D : Ends),Inv X pins σ H s → t D σ H → wpAny (model X.prog X.w) X.A (exec st X.env) (SP X pins D) X.xe s
def PSs (X : Cx) (st : List Stmt) (t : TS) : Prop :=
 ∀ (pins : List (Addr × Obj)) (s : Shared) (σ : St) (H : Hp) (D : Ends),Inv X pins σ H s → t D σ H → wpAny (model X.prog X.w) X.A (execs st X.env) (SP X pins D) X.xe s
theorem thn {α : Type} {t : Sem α} {Q Q' : α → Shared → Prop} {M : Model} {A : Around} {E : Value → Shared → Prop} {s : Shared} (h : wpAny M A t Q E s) (hQ : ∀ a s,Q a s → Q' a s) : wpAny M A t Q' E s := wpAny_mono h hQ fun _ _ x => x
end L2
namespace L2
open PySem PySem.Spec PyProof.Rows
section
variable {X : Cx}
def qjo (i : Nat) : TE := fun σ H Q => ∃ v,σ[i]? = some (some v)∧Q v H
def tC (v : V) : TE := fun _ H Q => Q v H
theorem qgq {i : Nat} {x : Str} {pos : Pos} (hN : X.N[i]? = some x) (hv : Vis X.env.scope x) (hd : (x == ("__debug__" : Str)) = false := by decide) (hcd : (x == ("__classdict__" : Str)) = false := by decide) : PE X (.Name x pos) (qjo i) := by
 intro pins s σ H Q I h
 obtain ⟨v,e,h⟩ := h
 obtain ⟨m,hn,hl⟩ := I.loc
 obtain ⟨u,r,l⟩ := hl i x v hN e hv
 have fin : EP X pins σ Q u s := ⟨v,H,I,r,h⟩
 rcases l with ⟨hk,hm⟩ | ⟨hk,c,hc,hcell⟩
 ·exact wpAny_Name (wpAny_loadName_local I.ok.kind hk hn hm fin) hd
 ·rcases hk with hk | hk
  ·exact wpAny_Name (wpAny_loadName_cell I.ok.kind hk hc hcell fin) hd
  ·exact wpAny_Name (wpAny_loadName_free I.ok.kind hk hc hcell fin hcd) hd
theorem qgL {i j pos} : PE X (.Constant (.int i) j pos) (tC (.int i)) := fun _ _ _ H _ I h => wpAny_Constant_int ⟨.int i,H,I.tok _,⟨_,rfl⟩,h⟩
theorem qiz {b j pos} : PE X (.Constant (.bool b) j pos) (tC (.bl b)) := fun _ _ _ H _ I h => Constant_bool ⟨.bl b,H,I,rfl,h⟩
theorem qf6 {j pos} : PE X (.Constant .none j pos) (tC .non) := fun _ _ _ H _ I h => Constant_none ⟨.non,H,I,rfl,h⟩
theorem qbx {x j pos} : PE X (.Constant (.str x) j pos) (tC (.str x)) := fun _ _ _ H _ I h => Calls.Constant_str ⟨.str x,H,I.tok _,⟨_,rfl⟩,h⟩
def Gl (X : Cx) (x : Str) : Prop := X.env.kindOf x = some .globalImplicit
theorem NW {E : Value → Shared → Prop} {pins : List (Addr × Obj)} {s : Shared} {σ : St} {H : Hp} {x : Str} {u : Value} {pos : Pos} {Q : Value → Shared → Prop} (I : Inv X pins σ H s) (hg : Gl X x) (hm : X.mg x = some u) (h : Q u s)
  (hd : (x == ("__debug__" : Str)) = false := by decide) : wpAny (model X.prog X.w) X.A (eval (.Name x pos) X.env) Q E s :=
 Calls.Name_function_global I.ok.kind hg (Calls.loadGlobal_global (by rw [I.ok.glob];exact I.mod.glob.keeps I.bk) hm h) hd
theorem WL {E : Value → Shared → Prop} {pins : List (Addr × Obj)} {s : Shared} {σ : St} {H : Hp} {x : Str} {u : Value} {pos : Pos} {Q : Value → Shared → Prop} (I : Inv X pins σ H s) (hg : Gl X x) (hm : X.mg x = none) (hv : bootBuiltins x = some u) (h : Q u s)
  (hn : x ≠ "__name__" := by decide) (hd : (x == ("__debug__" : Str)) = false := by decide) : wpAny (model X.prog X.w) X.A (eval (.Name x pos) X.env) Q E s := by
 obtain ⟨mb,h1,h2⟩ := I.mod.blt
 exact Calls.Name_function_global I.ok.kind hg (Calls.loadGlobal_builtin (by rw [I.ok.glob];exact I.mod.glob.keeps I.bk) hm (by rw [I.ok.blt];exact h1.keeps I.bk) ((h2 x hn).trans hv) h) hd
theorem qdv {x : Str} {v : V} {u : Value} {pos : Pos} (hg : Gl X x) (hm : X.mg x = some u) (r : jx v u) (hd : (x == ("__debug__" : Str)) = false := by decide) : PE X (.Name x pos) (tC v) :=
 fun _ _ _ H _ I h => NW I hg hm ⟨v,H,I,r,h⟩ hd
theorem TH {x : Str} {v : V} {u : Value} {pos : Pos} (hg : Gl X x) (hm : X.mg x = none) (hv : bootBuiltins x = some u) (r : jx v u) (hn : x ≠ "__name__" := by decide) (hd : (x == ("__debug__" : Str)) = false := by decide) : PE X (.Name x pos) (tC v) :=
 fun _ _ _ H _ I h => WL I hg hm hv ⟨v,H,I,r,h⟩ hn hd
variable {a b : Expr} {ta tb : TE} {pos : Pos}
def tB (t : TE) : TT := fun σ H Q => t σ H fun x H1 => ∃ c,x = .bl c∧Q c H1
theorem qdO {e : Expr} {t : TE} (h : PE X e t) (he : ∀ whole,isTrue e X.env whole = (do let v ← whole;standAt e.pos;holding [v] (truthy v)) := by intro _;rfl) : PT X e (tB t) := by
 intro pins s σ H Q I hw
 refine isTrue_plain (thn (h pins s σ H _ I hw) fun v s1 ⟨x,H1,I1,r1,q1⟩ => ?_) (he _)
 obtain ⟨d,rfl,q⟩ := q1
 cases r1
 exact wpAny_truthy_bool ⟨H1,I1,q⟩
variable {tA tB' : TT} {VJ : List Expr}
def tOr (t u : TT) : TT := fun σ H Q => t σ H fun c H1 => if c = true then Q true H1 else u σ H1 Q
def qjg (t : TT) : TT := fun σ H Q => t σ H fun c H1 => Q (!c) H1
theorem qfK (ha : PT X a tA) : PW X (.BoolOp .Or [a] pos) tA := by
 intro wh pins s σ H Q I h
 refine isTrue_or (thn (ha pins s σ H Q I h) fun c s1 e => ?_)
 cases c with
 | false => exact isTrue_or_nil e
 | true => exact e
theorem qid (ha : PT X a tA) (hb : PW X (.BoolOp .Or (b :: VJ) pos) tB') : PW X (.BoolOp .Or (a :: b :: VJ) pos) (tOr tA tB') := by
 intro wh pins s σ H Q I h
 refine isTrue_or (thn (ha pins s σ H _ I h) fun c s1 ⟨H1,I1,q1⟩ => ?_)
 cases c with
 | true => exact ⟨H1,I1,q1⟩
 | false => exact hb wh pins s1 σ H1 Q I1 q1
theorem qga (ha : PT X a tA) : PT X (.UnaryOp .Not a pos) (qjg tA) := by
 intro pins s σ H Q I h
 exact isTrue_not (ha pins s σ H (fun c H1 => Q (!c) H1) I h)
def qiC (ta tb : TE) : TE := fun σ H Q => ta σ H fun x H1 => ∃ c,x = .bl c∧if c = true then tb σ H1 Q else Q (.bl false) H1
def qh5 (ta : TE) : TE := fun σ H Q => ta σ H fun x H1 => ∃ c,x = .bl c∧Q (.bl (!c)) H1
theorem qfJ {op} {t : TE} (h : PE X a t) : PE X (.BoolOp op [a] pos) t := fun pins s σ H Q I hw => BoolOp_one (h pins s σ H Q I hw)
theorem qfZ (ha : PE X a ta) (hb : PE X (.BoolOp .And (b :: VJ) pos) tb) : PE X (.BoolOp .And (a :: b :: VJ) pos) (qiC ta tb) := by
 intro pins s σ H Q I h
 refine BoolOp_and (thn (ha pins s σ H _ I h) fun v s1 ⟨x,H1,I1,r1,q1⟩ => ?_)
 obtain ⟨c,rfl,q1⟩ := q1
 cases r1
 refine wpAny_truthy_bool ?_
 cases c with
 | true => exact hb pins s1 σ H1 Q I1 q1
 | false => exact ⟨.bl false,H1,I1,rfl,q1⟩
theorem qd2 (ha : PE X a ta) : PE X (.UnaryOp .Not a pos) (qh5 ta) := by
 intro pins s σ H Q I h
 refine UnaryOp_ (thn (ha pins s σ H _ I h) fun v s1 ⟨x,H1,I1,r1,q1⟩ => ?_)
 obtain ⟨c,rfl,q1⟩ := q1
 cases r1
 exact not_of (wpAny_truthy_bool ⟨.bl (!c),H1,I1,rfl,q1⟩)
def tIf (t : TT) (ta tb : TE) : TE := fun σ H Q => t σ H fun c H1 => if c = true then ta σ H1 Q else tb σ H1 Q
theorem qar {c : Expr} (hc : PT X c tA) (ha : PE X a ta) (hb : PE X b tb) : PE X (.IfExp c a b pos) (tIf tA ta tb) := by
 intro pins s σ H Q I h
 refine wpAny_IfExp (thn (hc pins s σ H _ I h) fun d s1 ⟨H1,I1,q1⟩ => ?_)
 cases d with
 | true => exact ha pins s1 σ H1 Q I1 q1
 | false => exact hb pins s1 σ H1 Q I1 q1
end
end L2
namespace L2
open PySem PySem.Spec PyProof.Rows
def SqL (K : PySem.W.Frag) (H : Hp) (a : Addr) (xs : List V) : Prop :=
 Rd H a (.lst xs) ∨
  ∃ (o : Obj) (its : Array Value) (n : Nat),K.lookup a = some o∧o.cls = .type "list"∧o.dict = none∧o.data = .seq its n∧its.size ≤ sizeLine∧jh xs its.toList
def SqT (K : PySem.W.Frag) (H : Hp) (a : Addr) (xs : List V) : Prop :=
 Rd H a (.tup xs) ∨
  ∃ (o : Obj) (its : Array Value) (n : Nat),K.lookup a = some o∧o.cls = .type "tuple"∧o.data = .seq its n∧its.size ≤ sizeLine∧jh xs its.toList
def qi9 : Value → Option V
 | .none => some .non
 | .bool b => some (.bl b)
 | .int i _ => some (.int i)
 | .str x _ => some (.str x)
 | .bytes b _ => some (.byt b)
 | .float b _ => some (.flt b)
 | .ref a => some (.ref a)
 | .type n => some (.ty n)
 | _ => none
theorem jx.abs {x : V} {u : Value} (r : jx x u) : qi9 u = some x := by
 cases x with
 | non => cases r;rfl
 | bl _ => cases r;rfl
 | int _ => obtain ⟨t,rfl⟩ := r;rfl
 | str _ => obtain ⟨t,rfl⟩ := r;rfl
 | byt _ => obtain ⟨t,rfl⟩ := r;rfl
 | flt _ => obtain ⟨t,rfl⟩ := r;rfl
 | ref _ => cases r;rfl
 | ty _ => cases r;rfl
theorem jx.inj {x y : V} {u : Value} (r : jx x u) (q : jx y u) : x = y := Option.some.inj (r.abs.symm.trans q.abs)
theorem jh.inj : ∀ {xs ys : List V} {us : List Value},jh xs us → jh ys us → xs = ys
 | _,_,_,.nil,.nil => rfl
 | _,_,_,.cons r t,.cons r' t' => by rw [r.inj r',jh.inj t t']
section
variable {X : Cx} {pins : List (Addr × Obj)} {σ : St} {H : Hp} {s : Shared} {a : Addr} {xs ys : List V}
theorem SqL.of {K : PySem.W.Frag} (h : H a = some (.lst xs)) : SqL K H a xs := .inl (.inl h)
theorem SqT.of {K : PySem.W.Frag} (h : H a = some (.tup xs)) : SqT K H a xs := .inl (.inl h)
theorem Inv.list (I : Inv X pins σ H s) (h : SqL X.K H a xs) : ∃ its : List Value,jh xs its∧PlainL s.heap a its.toArray∧xs.length ≤ sizeLine := by
 rcases h with h | ⟨o,its,n,hk,hc,hd,hs,hz,r⟩
 ·obtain ⟨z,its,n,r,e⟩ := h.ok I.hok
  exact ⟨its,r,⟨_,n,e,rfl,rfl,rfl⟩,z⟩
 ·refine ⟨its.toList,r,⟨o,n,I.kIn a o hk,hc,hd,by simpa using hs⟩,?_⟩
  have e := r.length
  simp only [Array.length_toList] at e
  omega
theorem Inv.tuple (I : Inv X pins σ H s) (h : SqT X.K H a xs) : ∃ its : List Value,jh xs its∧IsTup s.heap a its.toArray∧xs.length ≤ sizeLine := by
 rcases h with h | ⟨o,its,n,hk,hc,hs,hz,r⟩
 ·obtain ⟨z,its,r,p⟩ := h.ok I.hok
  exact ⟨its,r,p,z⟩
 ·refine ⟨its.toList,r,⟨o,I.kIn a o hk,hc,n,by simpa using hs⟩,?_⟩
  have e := r.length
  simp only [Array.length_toList] at e
  omega
theorem Inv.list_inj (I : Inv X pins σ H s) (h : SqL X.K H a xs) (h' : SqL X.K H a ys) : xs = ys := by
 obtain ⟨its,r,⟨o,n,e,_,_,d⟩,_⟩ := I.list h
 obtain ⟨its',r',⟨o',n',e',_,_,d'⟩,_⟩ := I.list h'
 rw [e] at e';cases e'
 rw [d] at d'
 injection d' with d1 _
 have : its = its' := by simpa using congrArg Array.toList d1
 subst this
 exact r.inj r'
theorem Inv.tuple_inj (I : Inv X pins σ H s) (h : SqT X.K H a xs) (h' : SqT X.K H a ys) : xs = ys := by
 obtain ⟨its,r,⟨o,e,_,n,d⟩,_⟩ := I.tuple h
 obtain ⟨its',r',⟨o',e',_,n',d'⟩,_⟩ := I.tuple h'
 rw [e] at e';cases e'
 rw [d] at d'
 injection d' with d1 _
 have : its = its' := by simpa using congrArg Array.toList d1
 subst this
 exact r.inj r'
end
abbrev Cx.wish (X : Cx) (E : Value → Shared → Prop) : Cx := { X with xe := E }
abbrev Cx.nox (X : Cx) : Cx := X.wish fun _ _ => False
theorem Cx.Ok.wish {X : Cx} (ok : X.Ok) (E : Value → Shared → Prop) : (X.wish E).Ok :=
 ⟨ok.mod,ok.kind,ok.glob,ok.blt,ok.above,ok.inj,ok.has,ok.cab,ok.hd,ok.frames,ok.stk,ok.exf,ok.bs,ok.bsz,ok.noex,ok.exfs,ok.funs,ok.frf⟩
theorem Cx.Ok.unwish {X : Cx} {E : Value → Shared → Prop} (ok : (X.wish E).Ok) : X.Ok :=
 ⟨ok.mod,ok.kind,ok.glob,ok.blt,ok.above,ok.inj,ok.has,ok.cab,ok.hd,ok.frames,ok.stk,ok.exf,ok.bs,ok.bsz,ok.noex,ok.exfs,ok.funs,ok.frf⟩
section
variable {X : Cx} {pins : List (Addr × Obj)} {σ : St} {H : Hp} {s : Shared} {E : Value → Shared → Prop}
theorem Inv.wish (I : Inv X pins σ H s) (E : Value → Shared → Prop) : Inv (X.wish E) pins σ H s := ⟨I.ok.wish E,I.os,I.bare,I.base,I.loc,I.cell,I.free,I.freeC,I.pin,I.hok,I.len⟩
theorem Inv.unwish (I : Inv (X.wish E) pins σ H s) : Inv X pins σ H s := ⟨I.ok.unwish,I.os,I.bare,I.base,I.loc,I.cell,I.free,I.freeC,I.pin,I.hok,I.len⟩
theorem SP.unwish {D : Ends} {f : Flow} {s' : Shared} (h : SP (X.wish E) pins D f s') : SP X pins D f s' := by
 cases f with
 | next => obtain ⟨σ',H',I,q⟩ := h;exact ⟨σ',H',I.unwish,q⟩
 | brk => obtain ⟨σ',H',I,q⟩ := h;exact ⟨σ',H',I.unwish,q⟩
 | cont => obtain ⟨σ',H',I,q⟩ := h;exact ⟨σ',H',I.unwish,q⟩
 | ret u => obtain ⟨v,σ',H',I,r,q⟩ := h;exact ⟨v,σ',H',I.unwish,r,q⟩
theorem PSs.nox {st : List Stmt} {t : TS} (h : PSs X.nox st t) : PSs X st t := fun pins s σ H D I hw =>
 wpAny_mono (h pins s σ H D (I.wish _) hw) (fun _ _ q => q.unwish) fun _ _ z => False.elim z
end
section
variable {X : Cx} {st : Stmt} {VJ : List Stmt} {t u : TS} {e : Expr} {te : TE} {pos : Pos}
def qia : TS := fun D σ H => D.nx σ H
def qja (t u : TS) : TS := fun D σ H => t { D with nx := u D } σ H
theorem qdh : PSs X [] qia := fun _ _ σ H _ I h => wpAny_execs_nil ⟨σ,H,I,h⟩
theorem qap (h1 : PS X st t) (h2 : PSs X VJ u) : PSs X (st :: VJ) (qja t u) := by
 intro pins s σ H D I h
 refine wpAny_execs_cons (thn (h1 pins s σ H { D with nx := u D } I h) fun f s1 q => ?_)
 cases f with
 | next =>
  obtain ⟨σ',H',I',q⟩ := q
  exact h2 pins s1 σ' H' D I' q
 | ret v => exact q
 | brk => exact q
 | cont => exact q
theorem qc9 (h1 : PS X st t) : PSs X [st] t := by
 intro pins s σ H D I h
 refine wpAny_execs_cons (thn (h1 pins s σ H D I h) fun f s1 q => ?_)
 cases f with
 | next => exact wpAny_execs_nil q
 | ret v => exact q
 | brk => exact q
 | cont => exact q
theorem Inv.quiet {pins : List (Addr × Obj)} {σ : St} {H : Hp} {s : Shared} (I : Inv X pins σ H s) : interactive X.env = false := by simp [interactive,I.ok.kind]
def qhp (te : TE) : TS := fun D σ H => te σ H fun _ H1 => D.nx σ H1
theorem qcz (he : PE X e te) (hs : swapsWith e none pos.line X.env = pure false := by rfl) : PS X (.Expr e pos) (qhp te) := by
 intro pins s σ H D I h
 exact wpAny_Expr_any (thn (he pins s σ H _ I h) fun v s1 ⟨x,H1,I1,r1,q1⟩ => ⟨σ,H1,I1,q1⟩) I.quiet hs
def qiW (te : TE) : TS := fun D σ H => te σ H D.rt
theorem qf3 (he : PE X e te) : PS X (.Return (some e) pos) (qiW te) := by
 intro pins s σ H D I h
 exact wpAny_Return_some (thn (he pins s σ H _ I h) fun v s1 ⟨x,H1,I1,r1,q1⟩ => ⟨x,σ,H1,I1,r1,q1⟩)
def qjj (c : TT) (t u : TS) : TS := fun D σ H => c σ H fun b H1 => if b = true then t D σ H1 else u D σ H1
theorem qiB {c : Expr} {a b : List Stmt} {tc : TT} (hc : PT X c tc) (ha : PSs X a t) (hb : PSs X b u) : PS X (.If c a b pos) (qjj tc t u) := by
 intro pins s σ H D I h
 refine wpAny_If (thn (hc pins s σ H _ I h) fun d s1 ⟨H1,I1,q1⟩ => ?_)
 cases d with
 | true => exact ha pins s1 σ H1 D I1 q1
 | false => exact hb pins s1 σ H1 D I1 q1
end
abbrev TG := V → St → Hp → (St → Hp → Prop) → Prop
abbrev TGs := List V → St → Hp → (St → Hp → Prop) → Prop
def PG (X : Cx) (target : Expr) (t : TG) : Prop :=
 ∀ (pins : List (Addr × Obj)) (s : Shared) (σ : St) (H : Hp) (v : V) (u : Value) (Q : St → Hp → Prop),Inv X pins σ H s → jx v u → t v σ H Q →
  wpAny (model X.prog X.w) X.A (assign target X.env u) (fun _ s' => ∃ σ' H',Inv X pins σ' H' s'∧Q σ' H') X.xe s
def PGs (X : Cx) (ts : List Expr) (t : TGs) : Prop :=
 ∀ (pins : List (Addr × Obj)) (s : Shared) (σ : St) (H : Hp) (vs : List V) (us : List Value) (Q : St → Hp → Prop),Inv X pins σ H s → jh vs us → t vs σ H Q →
  wpAny (model X.prog X.w) X.A (assignInOrder ((assignEach ts X.env).map (·.2)) us) (fun _ s' => ∃ σ' H',Inv X pins σ' H' s'∧Q σ' H') X.xe s
abbrev qib := V → V → V → Hp → (Hp → Prop) → Prop
def qiS (X : Cx) (t : qib) : Prop :=
 ∀ (pins : List (Addr × Obj)) (s : Shared) (σ : St) (H : Hp) (o i v : V) (ov iv u : Value) (Q : Hp → Prop),Inv X pins σ H s → jx o ov → jx i iv → jx v u → t o i v H Q →
  wpAny (model X.prog X.w) X.A (setItem ov iv u) (fun _ s' => ∃ H',Inv X pins σ H' s'∧Q H') X.xe s
abbrev TIp := V → V → Hp → VK → Prop
def PIp (X : Cx) (op : Operator) (t : TIp) : Prop :=
 ∀ (pins : List (Addr × Obj)) (s : Shared) (σ : St) (H : Hp) (x y : V) (v u : Value) (Q : VK),Inv X pins σ H s → jx x v → jx y u → t x y H Q →
  wpAny (model X.prog X.w) X.A (inplaceOp op v u) (EP X pins σ Q) X.xe s
section
variable {X : Cx} {pos : Pos}
def qdm (i : Nat) : TG := fun v σ H Q => Q (σ.set i (some v)) H
theorem qdx {i : Nat} {x : Str} (hN : X.N.Nodup) (hi : X.N[i]? = some x) (hx : Loc X.env.scope x) (hf : X.fn x = true ∨ X.env.scope.names.lookup x = some .local := by first | exact .inl rfl | exact .inr rfl | assumption) : PG X (.Name x pos) (qdm i) := by
 intro pins s σ H v u Q I r h
 exact wpAny_assign_Name (UE I hN hi hx r (fun s' I' => ⟨_,H,I',h⟩) hf)
def qiU : TGs := fun vs σ H Q => vs = []∧Q σ H
def qix (t : TG) (u : TGs) : TGs := fun vs σ H Q => ∃ v r,vs = v :: r∧t v σ H fun σ' H' => u r σ' H' Q
theorem qdt : PGs X [] qiU := by
 intro pins s σ H vs us Q I r h
 obtain ⟨e,h⟩ := h
 subst e
 cases r
 exact assignInOrder_nil ⟨σ,H,I,h⟩
theorem qaD {e : Expr} {es : List Expr} {t : TG} {u : TGs} (h1 : PG X e t) (h2 : PGs X es u)
  (hs : (assignEach (e :: es) X.env).map (·.2) = assign e X.env :: (assignEach es X.env).map (·.2) := by rfl) : PGs X (e :: es) (qix t u) := by
 intro pins s σ H vs us Q I r h
 obtain ⟨v,vr,e1,h⟩ := h
 subst e1
 cases r with
 | cons r rr =>
  rw [hs]
  refine assignInOrder_cons (thn (h1 pins s σ H _ _ _ I r h) fun _ s1 ⟨σ1,H1,I1,q1⟩ => ?_)
  exact h2 pins s1 σ1 H1 _ _ Q I1 rr q1
def qjb (K : PySem.W.Frag) (n : Nat) (t : TGs) : TG := fun v σ H Q => ∃ a xs,v = .ref a∧SqT K H a xs∧xs.length = n∧t xs σ H Q
theorem qfA {es : List Expr} {k : Nat} {t : TGs} {n : Nat} (hc : X.calm = true) (h : PGs X es t)
  (hn : (assignEach es X.env).length = n := by rfl) (hst : (assignEach es X.env).findIdx? (·.1) = none := by rfl) : PG X (.Tuple es k pos) (qjb X.K n t) := by
 intro pins s σ H v u Q I r hw
 obtain ⟨a,xs,e1,hq,hl,hw⟩ := hw
 subst e1
 cases r
 obtain ⟨its,rv,ht,hz⟩ := I.tuple hq
 refine assign_Tuple_tuple (I.ok.hd hc) ht (by simp [hn,← hl,rv.length]) hst fun h' hx => ?_
 have I1 : Inv X pins σ H { s with heap := h' } := I.kept (t' := s.toks) fun b o e => hx b o (Nat.ne_of_lt (Heap.lt_size e)) e
 exact h pins _ σ H xs _ Q I1 (by simpa using rv) hw
def qiT (to ti : TE) (t : qib) : TG := fun v σ H Q => to σ H fun o H1 => ti σ H1 fun i H2 => t o i v H2 fun H3 => Q σ H3
theorem qfc {o i : Expr} {to ti : TE} {t : qib} (ho : PE X o to) (hi : PE X i ti) (hs : qiS X t)
  (ha : ∀ v,assign (.Subscript o i pos) X.env v = (do
   let ov ← holding [v] (eval o X.env)
   let iv ← holding [v,ov] (eval i X.env)
   standAt pos
   holding [v,ov,iv] (setItem ov iv v)
   release [v,ov,iv] []) := by intro _;rfl) : PG X (.Subscript o i pos) (qiT to ti t) := by
 intro pins s σ H v u Q I r h
 rw [ha]
 refine wpAny_bind (wpAny_holding (thn (ho pins s σ H _ I h) fun ov s1 ⟨x,H1,I1,r1,q1⟩ => ?_))
 refine wpAny_bind (wpAny_holding (thn (hi pins s1 σ H1 _ I1 q1) fun iv s2 ⟨y,H2,I2,r2,q2⟩ => ?_))
 refine wpAny_bind (wpAny_standAt (wpAny_bind (wpAny_holding (thn (hs pins s2 σ H2 x y v ov iv u _ I2 r1 r2 r q2) fun _ s3 ⟨H3,I3,q3⟩ => ?_))))
 exact wpAny_release ⟨σ,H3,I3,q3⟩
def qhy (te : TE) (g : TG) : TS := fun D σ H => te σ H fun x H1 => g x σ H1 D.nx
theorem qe8 {tg e : Expr} {te : TE} {g : TG} (he : PE X e te) (hg : PG X tg g) (hs : swapsWithSole [tg] e pos.line X.env = pure false := by rfl) (hw : swappedStores [tg] e X.env = pure none := by rfl)
  (h1 : (assignEach [tg] X.env).map (·.2) = [assign tg X.env] := by rfl) : PS X (.Assign [tg] e pos) (qhy te g) := by
 intro pins s σ H D I h
 refine wpAny_Assign_stores (thn (he pins s σ H _ I h) fun v s1 ⟨x,H1,I1,r1,q1⟩ => ?_) hs hw
 rw [h1]
 exact thn (hg pins s1 σ H1 x v _ I1 r1 q1) fun _ s2 q => q
theorem qe3 {i : Nat} {x : Str} {e : Expr} {te : TE} {pos' : Pos} (hN : X.N.Nodup) (hi : X.N[i]? = some x) (hx : Loc X.env.scope x) (he : PE X e te) (hs : swapsWith e (some (.Name x pos')) pos.line X.env = pure false := by rfl) (hf : X.fn x = true ∨ X.env.scope.names.lookup x = some .local := by first | exact .inl rfl | exact .inr rfl | assumption) :
  PS X (.Assign [.Name x pos'] e pos) (qhy te (qdm i)) := by
 intro pins s σ H D I h
 refine wpAny_Assign_Name (thn (he pins s σ H _ I h) fun v s1 ⟨y,H1,I1,r1,q1⟩ => ?_) hs
 exact UE I1 hN hi hx r1 (fun s2 I2 => ⟨_,H1,I2,q1⟩) hf
def qiY (i j : Nat) (ta : TA) : TS := fun D σ H => ta σ H fun vs H1 => ∃ v w,vs = [v,w]∧D.nx ((σ.set i (some v)).set j (some w)) H1
theorem qgP {i j : Nat} {x y : Str} {a b : Expr} {ta : TA} {px py pt : Pos} {kt k2 pt2} (hc : X.calm = true) (hN : X.N.Nodup) (hi : X.N[i]? = some x) (hj : X.N[j]? = some y) (hij : i ≠ j)
  (hx : X.env.scope.names.lookup x = some .local) (hy : X.env.scope.names.lookup y = some .local) (ha : PA X [a,b] ta)
  (hw : swappedStores [.Tuple [.Name x px,.Name y py] kt pt] (.Tuple [a,b] k2 pt2) X.env = pure (some [x,y]))
  (hs : swapsWithSole [.Tuple [.Name x px,.Name y py] kt pt] (.Tuple [a,b] k2 pt2) pos.line X.env = pure false := by rfl) :
  PS X (.Assign [.Tuple [.Name x px,.Name y py] kt pt] (.Tuple [a,b] k2 pt2) pos) (qiY i j ta) := by
 intro pins s σ H D I h
 rw [exec_Assign_arm]
 refine wpAny_bind (wpAny_standAt ?_)
 rw [hs]
 refine wpAny_bind (wpAny_pure ?_)
 rw [if_neg (by decide)]
 refine wpAny_bind (Tuple_ (thn (ha _ pins s σ H _ I h) fun us s1 ⟨vs,H1,I1,r1,q1⟩ => ?_))
 obtain ⟨v,w,e1,q1⟩ := q1
 subst e1
 obtain ⟨u1,u2,rfl,rv,rw'⟩ : ∃ u1 u2,us = [u1,u2]∧jx v u1∧jx w u2 := by
  cases r1 with
  | cons p q =>
   cases q with
   | cons p' q' =>
    cases q'
    exact ⟨_,_,rfl,p,p'⟩
 refine wpAny_newObj_type ?_ (by show 2 ≤ sizeLine;decide)
 have I2 : Inv X pins σ H1 { s1 with heap := s1.heap.push { cls := .type "tuple",data := .seq [u1,u2].toArray } } := I1.kept (t' := s1.toks) fun b o e => Heap.get?_push_of_some _ e
 rw [hw]
 refine wpAny_bind (wpAny_pure ?_)
 show wpAny (model X.prog X.w) X.A (do rule "assign.swapped-stores";let items ← unpackItems (.ref s1.heap.objs.size) 2 none;assignInOrder [fun v => bindName X.env y v,fun v => bindName X.env x v] items.reverse;pure Flow.next) _ _ _
 refine wpAny_bind (wpAny_rule (wpAny_bind (unpackItems_tuple (items := #[u1,u2]) (I.ok.hd hc) (IsTup.new s1.heap _) fun h' hx' => ?_)))
 have I3 := I2.kept (h' := h') (t' := s1.toks) fun b o e => hx' b o (Nat.ne_of_lt (Heap.lt_size e)) e
 show wpAny _ _ (assignInOrder [fun v => bindName X.env y v,fun v => bindName X.env x v] [u2,u1] >>= fun _ => pure Flow.next) _ _ _
 refine wpAny_bind (assignInOrder_cons (wpAny_bindName (UE I3 hN hj (.inl hy) rw' (fun s2 I4 => ?_) (.inr hy))))
 refine assignInOrder_cons (wpAny_bindName (UE I4 hN hi (.inl hx) rv (fun s3 I5 => assignInOrder_nil (wpAny_pure ?_)) (.inr hx)))
 rw [List.set_comm _ _ (Ne.symm hij)] at I5
 exact ⟨_,H1,I5,q1⟩
def qjn (i : Nat) (te : TE) (ti : TIp) : TS := fun D σ H => ∃ x,σ[i]? = some (some x)∧te σ H fun y H1 => ti x y H1 fun z H2 => D.nx (σ.set i (some z)) H2
theorem qfE {i : Nat} {x : Str} {e : Expr} {te : TE} {op : Operator} {ti : TIp} {pos' : Pos} (hN : X.N.Nodup) (hi : X.N[i]? = some x) (hx : Loc X.env.scope x) (he : PE X e te) (ho : PIp X op ti) (hf : X.fn x = true ∨ X.env.scope.names.lookup x = some .local := by first | exact .inl rfl | exact .inr rfl | assumption) :
  PS X (.AugAssign (.Name x pos') op e pos) (qjn i te ti) := by
 intro pins s σ H D I h
 obtain ⟨v,e1,h⟩ := h
 obtain ⟨m,hn,hl⟩ := I.loc
 have vis : Vis X.env.scope x := by rcases hx with k | k;exact .inl k;exact .inr (.inl k)
 obtain ⟨u,r,l⟩ := hl i x v hi e1 vis
 refine wpAny_AugAssign_Name ?_
 have go : wpAny (model X.prog X.w) X.A (eval e X.env) (fun w s₂ => wpAny (model X.prog X.w) X.A (inplaceOp op u w) (fun r s₃ => wpAny (model X.prog X.w) X.A (storeName X.env x r) (fun _ => SP X pins D .next) X.xe s₃) X.xe s₂) X.xe s := by
  refine thn (he pins s σ H _ I h) fun w s1 ⟨y,H1,I1,r1,q1⟩ => ?_
  refine thn (ho pins s1 σ H1 v y u w _ I1 r r1 q1) fun z s2 ⟨zv,H2,I2,r2,q2⟩ => ?_
  exact UE I2 hN hi hx r2 (fun s3 I3 => ⟨_,H2,I3,q2⟩) hf
 rcases l with ⟨hk,hm⟩ | ⟨hk,c,hc,hcell⟩
 ·exact wpAny_loadName_local I.ok.kind hk hn hm go
 ·rcases hk with hk | hk
  ·exact wpAny_loadName_cell I.ok.kind hk hc hcell go
  ·rcases hx with k | k
   ·have : X.env.scope.names.lookup x = some .free := hk
    rw [k] at this;cases this
   ·have : X.env.scope.names.lookup x = some .free := hk
    rw [k] at this;cases this
def ipI (f : Int → Int → Int) : TIp := fun x y H Q => ∃ i j,x = .int i∧y = .int j∧Q (.int (f i j)) H
theorem qe9 : PIp X .Add (ipI fun i j => i + j) := by
 intro pins s σ H x y v u Q I r1 r2 h
 obtain ⟨i,j,e1,e2,q⟩ := h
 subst e1;subst e2
 obtain ⟨t,rfl⟩ := r1
 obtain ⟨t',rfl⟩ := r2
 exact iadd_int ⟨.int _,H,I.tok _,⟨_,rfl⟩,q⟩
end
section
variable {X : Cx} {pos : Pos}
def qgM (c : TT) (tb : TS) : TS := fun D σ H => ∃ W : Nat → St → Hp → Prop,(∃ m,W m σ H)∧∀ m σ H,W m σ H →
 c σ H fun b H1 => if b = true then ∃ N : St → Hp → Prop,(∀ σ' H',N σ' H' → ∃ m',m' < m∧W m' σ' H')∧tb { D with nx := N,ct := N,bk := D.nx } σ H1 else D.nx σ H1
theorem qaP {c : Expr} {body : List Stmt} {tc : TT} {tb : TS} (hp : PassesOwn (model X.prog X.w) X.A X.env X.xe) (hc : PT X c tc) (hb : PSs X body tb) : PS X (.While c body [] pos) (qgM tc tb) := by
 intro pins s σ H D I h
 obtain ⟨W,⟨m0,w0⟩,turn⟩ := h
 refine wpAny_While (codeAny_whileLoop (fun n s' => ∃ σ' H',Inv X pins σ' H' s'∧W n σ' H') ?_ m0 ⟨σ,H,I,w0⟩)
 rintro n s1 ⟨σ1,H1,I1,w1⟩
 refine wpAny_passesOwn hp (thn (hc pins s1 σ1 H1 _ I1 (turn n σ1 H1 w1)) fun b s2 ⟨H2,I2,q2⟩ => ?_)
 cases b with
 | true =>
  obtain ⟨N,hN,q2⟩ := q2
  rw [if_pos rfl]
  refine wpAny_passesOwn hp (thn (hb pins s2 σ1 H2 _ I2 q2) fun f s3 q3 => ?_)
  cases f with
  | next =>
   obtain ⟨σ3,H3,I3,n3⟩ := q3
   obtain ⟨m',hm,w3⟩ := hN σ3 H3 n3
   exact ⟨m',hm,σ3,H3,I3,w3⟩
  | cont =>
   obtain ⟨σ3,H3,I3,n3⟩ := q3
   obtain ⟨m',hm,w3⟩ := hN σ3 H3 n3
   exact ⟨m',hm,σ3,H3,I3,w3⟩
  | brk => exact q3
  | ret v => exact q3
 | false =>
  rw [if_neg Bool.false_ne_true]
  exact wpAny_execs_nil ⟨σ1,H2,I2,q2⟩
end
structure It where
 go : Nat → Hp → Prop
 yld : Nat → Hp → V → Hp → Prop
 stop : Nat → Hp → Prop
def RN (X : Cx) (pins : List (Addr × Obj)) (H : Hp) (b : Addr) : Prop :=
 H b = none∧b ≠ X.env.locals∧b ∉ X.fs∧(b ∈ X.ex ∨ X.s₀.heap.objs.size ≤ b)∧(∀ x c,X.env.cells.lookup x = some c → c ≠ b)∧∀ p ∈ X.pn ++ pins,p.1 ≠ b
theorem Inv.fpOk {X : Cx} {pins : List (Addr × Obj)} {σ : St} {H H' : Hp} {s : Shared} {b : Addr} (I : Inv X pins σ H s) (hb : s.heap.objs.size ≤ b) (hn : H' b = none) : RN X pins H' b := by
 refine ⟨hn,Nat.ne_of_gt (Nat.lt_of_lt_of_le I.lt hb),I.nofs hb,.inr (Nat.le_trans I.sz hb),fun x c e z => ?_,fun p hp z => ?_⟩
 ·obtain ⟨v,q⟩ := I.cell x c e
  exact absurd (Nat.lt_of_lt_of_le q.lt (by rw [z];exact hb)) (Nat.lt_irrefl _)
 ·exact absurd (Nat.lt_of_lt_of_le (Heap.lt_size (I.pin p hp).1) (by rw [z];exact hb)) (Nat.lt_irrefl _)
structure Turn (P : Program) (w : World) (K : PySem.W.Frag) (tg : Expr) (J : It) (fp : List Addr) (it : Addr) (tn : Nat → Heap → Prop) : Prop where
 mem : it ∈ fp
 obj : ∀ i h,tn i h → ∀ b ∈ fp,∃ o,h.get? b = some o∧∀ v,o.data ≠ .cell v
 keep : ∀ i h h',tn i h → (∀ b ∈ fp,∀ o,h.get? b = some o → h'.get? b = some o) → tn i h'
 item : ∀ (X : Cx),X.prog = P → X.w = w → X.K = K → X.calm = true → ∀ (i : Nat) (pins : List (Addr × Obj)) (s : Shared) (σ : St) (H : Hp) (E : Value → Shared → Prop),Inv X pins σ H s → (∀ b ∈ fp,RN X pins H b) → tn i s.heap → J.go i H →
  wpAny (model P w) X.A (pyNext (.ref it)) (fun r s1 => ∃ u,r = some u ∧
   wpAny (model P w) X.A (letOwnedTupleGo tg (.ref it) u) (fun _ s2 => ∃ x H',Inv X pins σ H' s2∧jx x u∧J.yld i H x H'∧tn (i + 1) s2.heap∧∀ b ∈ fp,H' b = none) E s1) E s
 done : ∀ (X : Cx),X.prog = P → X.w = w → X.K = K → X.calm = true → ∀ (i : Nat) (pins : List (Addr × Obj)) (s : Shared) (σ : St) (H : Hp) (E : Value → Shared → Prop),Inv X pins σ H s → (∀ b ∈ fp,RN X pins H b) → tn i s.heap → J.stop i H →
  wpAny (model P w) X.A (pyNext (.ref it)) (fun r s1 => r = none∧Inv X pins σ H s1) E s
 self : ∀ (A : Around) (i : Nat) (s : Shared) (Q : Value → Shared → Prop) (E : Value → Shared → Prop),tn i s.heap → Q (.ref it) s → wpAny (model P w) A (pyIter (.ref it)) Q E s
abbrev TI := St → Hp → (It → Hp → Prop) → Prop
def PIE (X : Cx) (pins : List (Addr × Obj)) (σ : St) (tg : Expr) (R : It → Hp → Prop) (itv : Value) (s2 : Shared) : Prop :=
 ∃ (it : Addr) (fp : List Addr) (tn : Nat → Heap → Prop) (J : It) (H' : Hp),itv = .ref it∧Inv X pins σ H' s2∧Turn X.prog X.w X.K tg J fp it tn∧tn 0 s2.heap∧(∀ b ∈ fp,RN X pins H' b)∧R J H'
def PI (X : Cx) (tg iter : Expr) (wi : TI) : Prop :=
 ∀ (pins : List (Addr × Obj)) (s : Shared) (σ : St) (H : Hp) (R : It → Hp → Prop),Inv X pins σ H s → wi σ H R →
  wpAny (model X.prog X.w) X.A (eval iter X.env) (fun v s1 => wpAny (model X.prog X.w) X.A (pyIter v) (PIE X pins σ tg R) X.xe s1) X.xe s
theorem qdC {M : Model} {A : Around} {E : Value → Shared → Prop} {s : Shared} {tg : Expr} {it : Addr} {u : Value} {o : Obj} {n : String} {vs : Array Value} {Q : Unit → Shared → Prop} (ho : s.heap.get? it = some o) (hc : o.cls = .type n) (hd : o.data = .fields vs)
    (hn : ["enumerate","zip","dict_itemiterator","dict_reverseitemiterator","odict_iterator","itertools.zip_longest","itertools.pairwise"].contains n = false) (hQ : Q () s) : wpAny M A (letOwnedTupleGo tg (.ref it) u) Q E s := by
  unfold letOwnedTupleGo
  cases tg <;> first
    | exact wpAny_pure hQ
    | (cases u <;> first
        | exact wpAny_pure hQ
        | (refine wpAny_bind (wpAny_load ho ?_)
           rw [hc,hd]
           show wpAny M A (if (["enumerate","zip","dict_itemiterator","dict_reverseitemiterator","odict_iterator","itertools.zip_longest","itertools.pairwise"].contains n && vs[0]? == some (rawInt _)) = true then _ else _) Q E s
           rw [if_neg (by intro h;rw [hn,Bool.false_and] at h;cases h)]
           exact wpAny_pure hQ))
def Itl (K : PySem.W.Frag) (a : Addr) : It :=
 ⟨fun i H => ∃ xs x,SqL K H a xs∧xs[i]? = some x,fun i H x H' => H' = H∧∀ xs,SqL K H a xs → xs[i]? = some x,fun i H => ∃ xs,SqL K H a xs∧xs.length ≤ i⟩
def Itt (K : PySem.W.Frag) (a : Addr) : It :=
 ⟨fun i H => ∃ xs x,SqT K H a xs∧xs[i]? = some x,fun i H x H' => H' = H∧∀ xs,SqT K H a xs → xs[i]? = some x,fun i H => ∃ xs,SqT K H a xs∧xs.length ≤ i⟩
def Itr (lo : Int) (n : Nat) : It := ⟨fun i _ => i < n,fun i H x H' => H' = H∧x = .int (lo + i),fun i _ => n ≤ i⟩
theorem MJ {P : Program} {w : World} {K : PySem.W.Frag} {tg : Expr} (a it : Addr) : Turn P w K tg (Itl K a) [it] it (fun i h => h.IsListIter it a i) where
 mem := by simp
 obj := fun i h st b hb => by
  have e : b = it := by simpa using hb
  subst e
  obtain ⟨o,e,c,d⟩ := st
  exact ⟨o,e,fun v z => by rw [d] at z;cases z⟩
 keep := fun i h h' st k => st.at fun o e => k it (by simp) o e
 item := by
  intro X hP hw hK hc i pins s σ H E I hf st hg
  subst hP hw hK
  obtain ⟨xs,x,hq,hx⟩ := hg
  obtain ⟨its,rv,p,hz⟩ := I.list hq
  obtain ⟨u,hu,ru⟩ := rv.get hx
  obtain ⟨f0,f1,f2,f3,f4,f5⟩ := hf it (by simp)
  refine wpAny_pyNext_list_item st p.isList (x := u) (by simpa using hu) fun h' st' sb => ?_
  have I1 : Inv X pins σ H { s with heap := h' } := I.turned (t' := s.toks) (fun b o hb e => (sb.2 b hb).trans e) f0 f1 f3 f4 f5
  obtain ⟨o,e,c,d⟩ := id st'
  exact ⟨u,rfl,qdC (s := { s with heap := h' }) e c d (by decide) ⟨x,H,I1,ru,⟨rfl,fun ys hy => by rw [I.list_inj hy hq];exact hx⟩,st',fun b hb => (hf b hb).1⟩⟩
 done := by
  intro X hP hw hK hc i pins s σ H E I hf st hg
  subst hP hw hK
  obtain ⟨xs,hq,hx⟩ := hg
  obtain ⟨its,rv,p,hz⟩ := I.list hq
  obtain ⟨f0,f1,f2,f3,f4,f5⟩ := hf it (by simp)
  have hl := rv.length
  exact wpAny_pyNext_list_end (I.ok.hd hc) st p.isList (by simp;omega) fun h' eb => ⟨rfl,I.turned (t' := s.toks) (fun b o hb e => eb b o hb e) f0 f1 f3 f4 f5⟩
 self := fun _ _ _ _ _ st h => wpAny_pyIter_listiter st h
theorem LA {P : Program} {w : World} {K : PySem.W.Frag} {tg : Expr} (a it : Addr) : Turn P w K tg (Itt K a) [it] it (fun i h => h.IsTupleIter it a i) where
 mem := by simp
 obj := fun i h st b hb => by
  have e : b = it := by simpa using hb
  subst e
  obtain ⟨o,e,c,d⟩ := st
  exact ⟨o,e,fun v z => by rw [d] at z;cases z⟩
 keep := fun i h h' st k => st.at fun o e => k it (by simp) o e
 item := by
  intro X hP hw hK hc i pins s σ H E I hf st hg
  subst hP hw hK
  obtain ⟨xs,x,hq,hx⟩ := hg
  obtain ⟨its,rv,p,hz⟩ := I.tuple hq
  obtain ⟨u,hu,ru⟩ := rv.get hx
  obtain ⟨f0,f1,f2,f3,f4,f5⟩ := hf it (by simp)
  refine wpAny_pyNext_tuple_item st (show s.heap.IsTuple a its.toArray from p) (x := u) (by simpa using hu) fun h' st' sb => ?_
  have I1 : Inv X pins σ H { s with heap := h' } := I.turned (t' := s.toks) (fun b o hb e => (sb.2 b hb).trans e) f0 f1 f3 f4 f5
  obtain ⟨o,e,c,d⟩ := id st'
  exact ⟨u,rfl,qdC (s := { s with heap := h' }) e c d (by decide) ⟨x,H,I1,ru,⟨rfl,fun ys hy => by rw [I.tuple_inj hy hq];exact hx⟩,st',fun b hb => (hf b hb).1⟩⟩
 done := by
  intro X hP hw hK hc i pins s σ H E I hf st hg
  subst hP hw hK
  obtain ⟨xs,hq,hx⟩ := hg
  obtain ⟨its,rv,p,hz⟩ := I.tuple hq
  obtain ⟨f0,f1,f2,f3,f4,f5⟩ := hf it (by simp)
  have hl := rv.length
  exact wpAny_pyNext_tuple_end (I.ok.hd hc) st (show s.heap.IsTuple a its.toArray from p) (by simp;omega) fun h' eb => ⟨rfl,I.turned (t' := s.toks) (fun b o hb e => eb b o hb e) f0 f1 f3 f4 f5⟩
 self := fun _ _ _ _ _ st h => wpAny_pyIter_tupleiter st h
theorem LM {P : Program} {w : World} {K : PySem.W.Frag} {tg : Expr} (it : Addr) (lo : Int) (n : Nat) : Turn P w K tg (Itr lo n) [it] it (fun i h => IsRangeIter h it (lo + (i : Nat) * 1) ((n : Int) - (i : Nat)) 1) where
 mem := by simp
 obj := fun i h st b hb => by
  have e : b = it := by simpa using hb
  subst e
  exact ⟨_,st,fun v z => by
   have z' : Data.fields _ = Data.cell v := z
   cases z'⟩
 keep := fun i h h' st k => k it (by simp) _ st
 item := by
  intro X hP hw hK hc i pins s σ H E I hf st hg
  subst hP hw hK
  obtain ⟨f0,f1,f2,f3,f4,f5⟩ := hf it (by simp)
  have W := Walks.range (prog := X.prog) (w := X.w) (I.ok.hd hc) it lo 1 n
  refine W.item i s _ _ hg st fun v h' tk hv st' kk => ?_
  obtain ⟨t,rfl⟩ := hv
  have I1 : Inv X pins σ H { s with heap := h',toks := tk } := I.turned (fun b o hb e => kk b o (by simpa using hb) e) f0 f1 f3 f4 f5
  refine ⟨_,rfl,qdC (s := { s with heap := h',toks := tk }) (n := "range_iterator") st' rfl rfl (by decide) ⟨.int (lo + i),H,I1,⟨t,?_⟩,⟨rfl,rfl⟩,st',fun b hb => (hf b hb).1⟩⟩
  rw [Int.mul_one]
 done := by
  intro X hP hw hK hc i pins s σ H E I hf st hg
  subst hP hw hK
  obtain ⟨f0,f1,f2,f3,f4,f5⟩ := hf it (by simp)
  exact wpAny_pyNext_range_end (I.ok.hd hc) st (by have : n ≤ i := hg;omega) fun h' eb => ⟨rfl,I.turned (t' := s.toks) (fun b o hb e => eb b o hb e) f0 f1 f3 f4 f5⟩
 self := fun _ _ _ _ _ st h => wpAny_pyIter_rangeiter st h
end L2
namespace L2
open PySem PySem.Spec PyProof.Rows
section
variable {X : Cx} {tg : Expr}
theorem K6 {pins : List (Addr × Obj)} {σ : St} {H : Hp} {s : Shared} {R : It → Hp → Prop} {E : Value → Shared → Prop} {lo hi : Int} {t u v : Tok} {tk : Nat} (I : Inv X pins σ H s) (h1 : -(2 ^ 62) ≤ lo) (h2 : lo < 2 ^ 62) (h3 : -(2 ^ 62) ≤ hi) (h4 : hi < 2 ^ 62)
  (q : R (Itr lo (hi - lo).toNat) H) : wpAny (model X.prog X.w) X.A (pyIter (.ref s.heap.objs.size)) (PIE X pins σ tg R) E { s with heap := s.heap.push { cls := .type "range",data := .fields #[.int lo t,.int hi u,.int 1 v] },toks := tk } := by
 refine wpAny_pyIter_range (IsRange.new ..) (small_one h1 h2 h3 h4) ?_
 have I1 : Inv X pins σ H { s with heap := s.heap.push { cls := .type "range",data := .fields #[.int lo t,.int hi u,.int 1 v] },toks := tk } := I.kept fun b o e => Heap.get?_push_of_some _ e
 refine ⟨(s.heap.push { cls := .type "range",data := .fields #[.int lo t,.int hi u,.int 1 v] }).objs.size,[(s.heap.push { cls := .type "range",data := .fields #[.int lo t,.int hi u,.int 1 v] }).objs.size],_,_,H,rfl,
  I1.kept (t' := tk) fun b o e => Heap.get?_push_of_some _ e,LM _ lo (hi - lo).toNat,?_,fun b hb => ?_,q⟩
 ·have e1 : lo + ((0 : Nat) : Int) * 1 = lo := by simp
  have e2 : (((hi - lo).toNat : Nat) : Int) - ((0 : Nat) : Int) = Builtin.Range.rangeSize lo hi 1 := by rw [rangeSize_one];split <;> omega
  show IsRangeIter _ _ (lo + ((0 : Nat) : Int) * 1) ((((hi - lo).toNat : Nat) : Int) - ((0 : Nat) : Int)) 1
  rw [e1,e2]
  exact Heap.get?_push_size _ rfl
 ·have e : b = (s.heap.push { cls := .type "range",data := .fields #[.int lo t,.int hi u,.int 1 v] }).objs.size := by simpa using hb
  subst e
  exact I1.fpOk (Nat.le_refl _) (I1.hok.fresh (Nat.le_refl _))
def qhM (ta : TA) : TI := fun σ H R => ta σ H fun vs H1 => ∃ j : Int,vs = [.int j]∧-(2 ^ 62) ≤ j∧j < 2 ^ 62∧R (Itr 0 j.toNat) H1
def qiy (ta : TA) : TI := fun σ H R => ta σ H fun vs H1 => ∃ i j : Int,vs = [.int i,.int j]∧(-(2 ^ 62) ≤ i∧i < 2 ^ 62∧-(2 ^ 62) ≤ j∧j < 2 ^ 62)∧R (Itr i (j - i).toNat) H1
theorem NX {a : Expr} {ta : TA} {p pos : Pos} (hg : Gl X "range") (hm : X.mg "range" = none) (ha : PA X [a] ta) (hs : starEach [a] X.env = [(false,eval a X.env)] := by rfl) : PI X tg (.Call (.Name "range" p) [a] [] pos) (qhM ta) := by
 intro pins s σ H R I h
 refine Call_ (WL I hg hm boot_range (PyProof.Rows.callWith_type1 (thn (ha pos pins s σ H _ I h) fun us s1 ⟨vs,H1,I1,r1,q1⟩ => ?_) hs rfl))
 obtain ⟨j,e,q1,q2,q⟩ := q1
 subst e
 cases r1 with
 | cons r rr =>
  cases rr
  obtain ⟨t,rfl⟩ := r
  exact call_range_1 (K6 I1 (by omega) (by omega) q1 q2 (by simpa using q))
theorem N4 {a b : Expr} {ta : TA} {p pos : Pos} (hg : Gl X "range") (hm : X.mg "range" = none) (ha : PA X [a,b] ta) (hs : starEach [a,b] X.env = [(false,eval a X.env),(false,eval b X.env)] := by rfl) (hs2 : starEach [b] X.env = [(false,eval b X.env)] := by rfl) :
  PI X tg (.Call (.Name "range" p) [a,b] [] pos) (qiy ta) := by
 intro pins s σ H R I h
 refine Call_ (WL I hg hm boot_range (PyProof.Rows.callWith_type1 (thn (ha pos pins s σ H _ I h) fun us s1 ⟨vs,H1,I1,r1,q1⟩ => ?_) (by rw [hs,hs2]) (by rw [hs2];rfl)))
 obtain ⟨i,j,e,⟨q1,q2,q3,q4⟩,q⟩ := q1
 subst e
 cases r1 with
 | cons r rr =>
  cases rr with
  | cons r' rr =>
   cases rr
   obtain ⟨t,rfl⟩ := r
   obtain ⟨t',rfl⟩ := r'
   exact call_range_2 (K6 I1 q1 q2 q3 q4 q)
def qjd (wi : TI) (g : TG) (tb : TS) : TS := fun D σ H => wi σ H fun J H1 => ∃ W : Nat → Nat → St → Hp → Prop,(∃ m,W 0 m σ H1)∧∀ i m σ H,W i m σ H →
 (J.stop i H∧D.nx σ H) ∨ (J.go i H∧∃ N : St → Hp → Prop,(∀ σ' H',N σ' H' → ∃ m',m' < m∧W (i + 1) m' σ' H')∧∀ x H',J.yld i H x H' → g x σ H' fun σ2 H2 => tb { D with nx := N,ct := N,bk := D.nx } σ2 H2)
def EO (fp : List Addr) (h : Heap) : List (Addr × Obj) := fp.filterMap fun b => (h.get? b).map fun o => (b,o)
theorem zS {fp : List Addr} {h : Heap} {b : Addr} {o : Obj} (hb : b ∈ fp) (e : h.get? b = some o) : (b,o) ∈ EO fp h := List.mem_filterMap.mpr ⟨b,hb,by rw [e];rfl⟩
theorem MW {fp : List Addr} {h : Heap} {p : Addr × Obj} (hp : p ∈ EO fp h) : p.1 ∈ fp∧h.get? p.1 = some p.2 := by
 obtain ⟨b,hb,e⟩ := List.mem_filterMap.mp hp
 cases q : h.get? b with
 | none => rw [q] at e;cases e
 | some o =>
  rw [q] at e
  have e' : (b,o) = p := Option.some.inj e
  subst e'
  exact ⟨hb,q⟩
theorem Inv.pinned {pins : List (Addr × Obj)} {σ : St} {H : Hp} {s : Shared} {fp : List Addr} (I : Inv X pins σ H s) (hf : ∀ b ∈ fp,RN X pins H b) (ho : ∀ b ∈ fp,∃ o,s.heap.get? b = some o∧∀ v,o.data ≠ .cell v) : Inv X (pins ++ EO fp s.heap) σ H s :=
 I.pins_of fun p hp => (List.mem_append.mp hp).elim (fun z => I.pin p (List.mem_append_right _ z)) fun z => by
  obtain ⟨hb,e⟩ := MW z
  obtain ⟨f0,f1,f2,_⟩ := hf p.1 hb
  obtain ⟨o,e',d⟩ := ho p.1 hb
  rw [e] at e';cases e'
  exact ⟨e,f0,f1,f2,d⟩
theorem Inv.unpinned {pins pl : List (Addr × Obj)} {σ : St} {H : Hp} {s : Shared} (I : Inv X (pins ++ pl) σ H s) : Inv X pins σ H s := I.pins_of fun p hp => I.pin p (List.mem_append_right _ (List.mem_append_left _ hp))
theorem qgR {iter : Expr} {body : List Stmt} {wi : TI} {g : TG} {tb : TS} {pos : Pos} (hp : PassesOwn (model X.prog X.w) X.A X.env X.xe) (hc : X.calm = true) (hi : PI X tg iter wi) (hg : PG X tg g) (hb : PSs X body tb)
  (hs : ∀ x,foldedSetIterable iter X.env x = pure x := by intro _;rfl) : PS X (.For tg iter body [] pos) (qjd wi g tb) := by
 intro pins s σ H D I h
 refine wpAny_For (thn (hi pins s σ H _ I h) fun v s1 h1 => thn h1 fun itv s2 h2 => ?_) hs
 obtain ⟨it,fp,tn,J,H2,e,I2,T,st2,f2,W,⟨m0,w0⟩,turn⟩ := h2
 subst e
 -- what stays true of the iterator's objects through the loop
 have stat : ∀ {H' : Hp},(∀ b ∈ fp,H' b = none) → ∀ b ∈ fp,RN X pins H' b := fun hn b hb => ⟨hn b hb,(f2 b hb).2⟩
 refine codeAny_forLoop_any (fun n s' => ∃ i σ' H',Inv X pins σ' H' s'∧tn i s'.heap∧(∀ b ∈ fp,H' b = none)∧W i n σ' H') ?_ m0 ⟨0,σ,H2,I2,st2,fun b hb => (f2 b hb).1,w0⟩
 rintro n s3 ⟨i,σ3,H3,I3,st3,fr3,w3⟩
 rcases turn i n σ3 H3 w3 with ⟨stop,qn⟩ | ⟨go,N,hN,step⟩
 ·refine wpAny_passesOwn hp (thn (T.done X rfl rfl rfl hc i pins s3 σ3 H3 X.xe I3 (stat fr3) st3 stop) fun r s4 ⟨hr,I4⟩ => ?_)
  subst hr
  exact wpAny_execs_nil ⟨σ3,H3,I4,qn⟩
 ·refine wpAny_passesOwn hp (thn (T.item X rfl rfl rfl hc i pins s3 σ3 H3 X.xe I3 (stat fr3) st3 go) fun r s4 ⟨u,hr,h4⟩ => ?_)
  subst hr
  refine wpAny_passesOwn hp (thn h4 fun _ s5 ⟨x,H5,I5,r5,y5,st5,fr5⟩ => ?_)
  have I5' := I5.pinned (stat fr5) (T.obj _ _ st5)
  refine wpAny_passesOwn hp (thn (hg _ s5 σ3 H5 x u _ I5' r5 (step x H5 y5)) fun _ s6 ⟨σ6,H6,I6,q6⟩ => ?_)
  refine wpAny_passesOwn hp (thn (hb _ s6 σ6 H6 _ I6 q6) fun f s7 q7 => ?_)
  have again : ∀ {σ7 : St} {H7 : Hp},Inv X (pins ++ EO fp s5.heap) σ7 H7 s7 → N σ7 H7 → ∃ m,m < n∧∃ i σ' H',Inv X pins σ' H' s7∧tn i s7.heap∧(∀ b ∈ fp,H' b = none)∧W i m σ' H' := fun {σ7 H7} I7 n7 => by
   obtain ⟨m',hm,w7⟩ := hN σ7 H7 n7
   refine ⟨m',hm,i + 1,σ7,H7,I7.unpinned,T.keep _ _ _ st5 fun b hb o e => (I7.pin (b,o) (List.mem_append_right _ (List.mem_append_right _ (zS hb e)))).1,fun b hb => ?_,w7⟩
   obtain ⟨o,e,d⟩ := T.obj _ _ st5 b hb
   exact (I7.pin (b,o) (List.mem_append_right _ (List.mem_append_right _ (zS hb e)))).2.1
  cases f with
  | next => obtain ⟨σ7,H7,I7,n7⟩ := q7;exact again I7 n7
  | cont => obtain ⟨σ7,H7,I7,n7⟩ := q7;exact again I7 n7
  | brk => obtain ⟨σ7,H7,I7,q7⟩ := q7;exact ⟨σ7,H7,I7.unpinned,q7⟩
  | ret v => obtain ⟨x7,σ7,H7,I7,r7,q7⟩ := q7;exact ⟨x7,σ7,H7,I7.unpinned,r7,q7⟩
end
end L2
namespace L2
open PySem PySem.Spec PyProof.Rows
abbrev R2 := V → V → Hp → VK → Prop
def OpR (X : Cx) (f : Value → Value → Sem Value) (r : R2) : Prop :=
 ∀ (pins : List (Addr × Obj)) (s : Shared) (σ : St) (H : Hp) (x y : V) (v u : Value) (Q : VK),Inv X pins σ H s → jx x v → jx y u → r x y H Q →
  wpAny (model X.prog X.w) X.A (f v u) (EP X pins σ Q) X.xe s
def UnR (X : Cx) (f : Value → Sem Value) (r : V → Hp → VK → Prop) : Prop :=
 ∀ (pins : List (Addr × Obj)) (s : Shared) (σ : St) (H : Hp) (x : V) (v : Value) (Q : VK),Inv X pins σ H s → jx x v → r x H Q →
  wpAny (model X.prog X.w) X.A (f v) (EP X pins σ Q) X.xe s
def ZI (X : Cx) (f : Value) (r : List V → Hp → VK → Prop) : Prop :=
 ∀ (pins : List (Addr × Obj)) (s : Shared) (σ : St) (H : Hp) (xs : List V) (us : List Value) (Q : VK),Inv X pins σ H s → jh xs us → r xs H Q →
  wpAny (model X.prog X.w) X.A (call f us) (EP X pins σ Q) X.xe s
def tOp (r : R2) (ta tb : TE) : TE := fun σ H Q => ta σ H fun x H1 => tb σ H1 fun y H2 => r x y H2 Q
def tUn (r : V → Hp → VK → Prop) (ta : TE) : TE := fun σ H Q => ta σ H fun x H1 => r x H1 Q
def rI (C : Int → Int → Prop) (g : Int → Int → V) : R2 := fun x y H Q => ∃ i j,x = .int i∧y = .int j∧C i j∧Q (g i j) H
def rI0 (g : Int → Int → V) : R2 := fun x y H Q => ∃ i j,x = .int i∧y = .int j∧Q (g i j) H
def rU (g : Int → V) : V → Hp → VK → Prop := fun x H Q => ∃ i,x = .int i∧Q (g i) H
section
variable {X : Cx} {a b c : Expr} {ta tb tc : TE} {pos : Pos}
theorem qhB (ha : PE X a ta) (hb : PE X b tb) {pins : List (Addr × Obj)} {s : Shared} {σ : St} {H : Hp} {R : V → V → Hp → Prop} (I : Inv X pins σ H s)
  (h : ta σ H fun x H1 => tb σ H1 fun y H2 => R x y H2) {Q : Value → Shared → Prop} {f : Value → Value → Sem Value}
  (hf : ∀ v u s2 x y H2,Inv X pins σ H2 s2 → jx x v → jx y u → R x y H2 → wpAny (model X.prog X.w) X.A (f v u) Q X.xe s2) :
  wpAny (model X.prog X.w) X.A (eval a X.env) (fun v s₁ => wpAny (model X.prog X.w) X.A (eval b X.env) (fun u s₂ => wpAny (model X.prog X.w) X.A (f v u) Q X.xe s₂) X.xe s₁) X.xe s := by
 refine thn (ha pins s σ H _ I h) fun v s1 ⟨x,H1,I1,r1,q1⟩ => ?_
 refine thn (hb pins s1 σ H1 _ I1 q1) fun u s2 ⟨y,H2,I2,r2,q2⟩ => ?_
 exact hf v u s2 x y H2 I2 r1 r2 q2
theorem qhV {op : Operator} {r : R2} (ho : OpR X (binaryOp op) r) (ha : PE X a ta) (hb : PE X b tb) : PE X (.BinOp a op b pos) (tOp r ta tb) := by
 intro pins s σ H Q I h
 exact wpAny_BinOp (qhB ha hb I h fun v u s2 x y H2 I2 rx ry q => ho pins s2 σ H2 x y v u Q I2 rx ry q)
theorem qio {op : UnaryOp} {r : V → Hp → VK → Prop} (ho : UnR X (unaryOp op) r) (ha : PE X a ta) : PE X (.UnaryOp op a pos) (tUn r ta) := by
 intro pins s σ H Q I h
 exact UnaryOp_ (thn (ha pins s σ H _ I h) fun v s1 ⟨x,H1,I1,r1,q1⟩ => ho pins s1 σ H1 x v Q I1 r1 q1)
theorem opI {f : Value → Value → Sem Value} {C : Int → Int → Prop} {g : Int → Int → Int}
  (rule : ∀ (i j : Int) (t u : Tok) (s : Shared) (Q : Value → Shared → Prop) (E : Value → Shared → Prop),C i j → Q (.int (g i j) s.toks) { s with toks := s.toks + 1 } → wpAny (model X.prog X.w) X.A (f (.int i t) (.int j u)) Q E s) :
  OpR X f (rI C fun i j => .int (g i j)) := by
 intro pins s σ H x y v u Q I rx ry h
 obtain ⟨i,j,rfl,rfl,hc,q⟩ := h
 obtain ⟨t,rfl⟩ := rx
 obtain ⟨t',rfl⟩ := ry
 exact rule i j t t' s _ _ hc ⟨.int (g i j),H,I.tok _,⟨_,rfl⟩,q⟩
theorem qhe {f : Value → Value → Sem Value} {g : Int → Int → Int}
  (rule : ∀ (i j : Int) (t u : Tok) (s : Shared) (Q : Value → Shared → Prop) (E : Value → Shared → Prop),Q (.int (g i j) s.toks) { s with toks := s.toks + 1 } → wpAny (model X.prog X.w) X.A (f (.int i t) (.int j u)) Q E s) :
  OpR X f (rI0 fun i j => .int (g i j)) := by
 intro pins s σ H x y v u Q I rx ry h
 obtain ⟨i,j,rfl,rfl,q⟩ := h
 obtain ⟨t,rfl⟩ := rx
 obtain ⟨t',rfl⟩ := ry
 exact rule i j t t' s _ _ ⟨.int (g i j),H,I.tok _,⟨_,rfl⟩,q⟩
theorem qg7 {f : Value → Value → Sem Value} {g : Int → Int → Bool}
  (rule : ∀ (i j : Int) (t u : Tok) (s : Shared) (Q : Value → Shared → Prop) (E : Value → Shared → Prop),Q (.bool (g i j)) s → wpAny (model X.prog X.w) X.A (f (.int i t) (.int j u)) Q E s) :
  OpR X f (rI0 fun i j => .bl (g i j)) := by
 intro pins s σ H x y v u Q I rx ry h
 obtain ⟨i,j,rfl,rfl,q⟩ := h
 obtain ⟨t,rfl⟩ := rx
 obtain ⟨t',rfl⟩ := ry
 exact rule i j t t' s _ _ ⟨.bl (g i j),H,I,rfl,q⟩
def L9 (i j : Int) : Prop := 0 < j∧j < 1073741824
def LS (i j : Int) : Prop := 0 ≤ j∧j ≤ 1000000∧i.natAbs < 2 ^ 64
def ZB (i j : Int) : Prop := (-(2 ^ 64) < i∧i < 2 ^ 64) ∨ (-(2 ^ 64) < j∧j < 2 ^ 64)
theorem ZB.ok {i j : Int} (h : ZB i j) : IntMulOk i j := by
 rcases h with ⟨h1,h2⟩ | ⟨h1,h2⟩
 ·exact .of_left (intBits_le_64 h1 h2)
 ·exact .of_right (intBits_le_64 h1 h2)
theorem LZ (k : Nat) : (0 : Int) ≤ 2 ^ k := by
 rw [two_pow_cast]
 exact Int.natCast_nonneg _
theorem qfF : OpR X (binaryOp .Add) (rI0 fun i j => .int (i + j)) := qhe fun _ _ _ _ _ _ _ q => add_int q
theorem qfv : OpR X (binaryOp .Sub) (rI0 fun i j => .int (i - j)) := qhe fun _ _ _ _ _ _ _ q => sub_int q
theorem qfn : OpR X (binaryOp .Mult) (rI ZB fun i j => .int (i * j)) := opI fun _ _ _ _ _ _ _ hc q => mul_int q hc.ok
theorem qcF : OpR X (binaryOp .FloorDiv) (rI L9 fun i j => .int (i / j)) := opI fun i j _ _ _ _ _ hc q => by
 have h1 : (0 : Int) < j := hc.1
 have h2 : j < 1073741824 := hc.2
 exact floordiv_int (by omega) (by rw [Int.fdiv_eq_ediv_of_nonneg i (by omega)];exact q) (.inl (PyProof.noPylong_small (by omega)))
theorem qfU : OpR X (binaryOp .Mod) (rI (fun _ j => 0 < j) fun i j => .int (i % j)) := opI fun i j _ _ _ _ _ hc q => by
 have h1 : (0 : Int) < j := hc
 exact mod_int' (by omega) (by rw [Int.fmod_eq_emod_of_nonneg i (by omega)];exact q)
theorem qeq : OpR X (binaryOp .Pow) (rI LS fun i j => .int (i ^ j.toNat)) := opI fun _ _ _ _ _ _ _ hc q => pow_int_small hc.1 hc.2.1 hc.2.2 q
theorem qeZ : OpR X (binaryOp .LShift) (rI LS fun i j => .int (i * 2 ^ j.toNat)) := opI fun _ _ _ _ _ _ _ hc q => lshift_int_small hc.1 hc.2.1 hc.2.2 q
theorem qgS : OpR X (binaryOp .RShift) (rI (fun _ j => 0 ≤ j) fun i j => .int (i / 2 ^ j.toNat)) := opI fun i j _ _ _ _ _ hc q =>
 rshift_int hc (by rw [Int.fdiv_eq_ediv_of_nonneg i (LZ _)];exact q)
theorem qgG : OpR X (binaryOp .BitAnd) (rI0 fun i j => .int (Builtin.bitAnd i j)) := qhe fun _ _ _ _ _ _ _ q => and_int q
theorem unI {f : Value → Sem Value} {g : Int → Int}
  (rule : ∀ (i : Int) (t : Tok) (s : Shared) (Q : Value → Shared → Prop) (E : Value → Shared → Prop),Q (.int (g i) s.toks) { s with toks := s.toks + 1 } → wpAny (model X.prog X.w) X.A (f (.int i t)) Q E s) :
  UnR X f (rU fun i => .int (g i)) := by
 intro pins s σ H x v Q I rx h
 obtain ⟨i,rfl,q⟩ := h
 obtain ⟨t,rfl⟩ := rx
 exact rule i t s _ _ ⟨.int (g i),H,I.tok _,⟨_,rfl⟩,q⟩
theorem qgn : UnR X (unaryOp .USub) (rU fun i => .int (-i)) := unI fun _ _ _ _ _ q => neg_int q
end
def qha : V → V → Bool
 | .non,.non => true | .non,.int _ => true | .int _,.non => true | .non,.bl _ => true | .bl _,.non => true | .non,.str _ => true | .str _,.non => true
 | .int _,.int _ => true | .bl _,.bl _ => true | .str _,.str _ => true | .byt _,.byt _ => true
 | .int _,.str _ => true | .str _,.int _ => true | .bl _,.str _ => true | .str _,.bl _ => true
 | _,_ => false
def rEq : R2 := fun x y H Q => qha x y = true∧Q (.bl (decide (x = y))) H
def rNe : R2 := fun x y H Q => qha x y = true∧Q (.bl (!decide (x = y))) H
theorem NN {i j : Int} : decide (V.int i = V.int j) = (i == j) := by
 rw [Bool.eq_iff_iff]
 simp
theorem qbh {i j : Bool} : decide (V.bl i = V.bl j) = (i == j) := by
 rw [Bool.eq_iff_iff]
 simp
theorem NU {i j : Str} : decide (V.str i = V.str j) = (i == j) := by
 rw [Bool.eq_iff_iff]
 simp
theorem NR {i j : Array UInt8} : decide (V.byt i = V.byt j) = (i.toList == j.toList) := by
 rw [Bool.eq_iff_iff]
 cases i
 cases j
 simp
section
variable {X : Cx} {a b c : Expr} {ta tb tc : TE} {pos : Pos}
theorem zm {pins : List (Addr × Obj)} {σ : St} {H : Hp} {s : Shared} {Q : VK} {k k' : Bool} (I : Inv X pins σ H s) (q : Q (.bl k) H) (e : k = k') : EP X pins σ Q (.bool k') s := by
 subst e
 exact ⟨.bl k,H,I,rfl,q⟩
theorem qhc : OpR X (compareOp .Eq) rEq := by
 intro pins s σ H x y v u Q I rx ry h
 obtain ⟨hs,q⟩ := h
 cases x with
 | non =>
  cases rx
  cases y with
  | non => cases ry;exact PySem.EqNone.eq_none_none (zm I q (by simp))
  | bl j => cases ry;exact PySem.EqNone.eq_none_bool (zm I q (by simp))
  | int j => obtain ⟨t',rfl⟩ := ry;exact PySem.EqNone.eq_none_int (zm I q (by simp))
  | str j => obtain ⟨t',rfl⟩ := ry;exact PySem.EqNone.eq_none_str (zm I q (by simp))
  | _ => exact absurd (show false = true from hs) Bool.false_ne_true
 | bl i =>
  cases rx
  cases y with
  | non => cases ry;exact PySem.EqNone.eq_bool_none (zm I q (by simp))
  | bl j => cases ry;exact eq_bool (zm I q qbh)
  | str j => obtain ⟨t',rfl⟩ := ry;exact PySem.EqMixed.eq_bool_str (zm I q (by simp))
  | _ => exact absurd (show false = true from hs) Bool.false_ne_true
 | int i =>
  obtain ⟨t,rfl⟩ := rx
  cases y with
  | non => cases ry;exact PySem.EqNone.eq_int_none (zm I q (by simp))
  | int j => obtain ⟨t',rfl⟩ := ry;exact eq_int (zm I q NN)
  | str j => obtain ⟨t',rfl⟩ := ry;exact PySem.EqMixed.eq_int_str (zm I q (by simp))
  | _ => exact absurd (show false = true from hs) Bool.false_ne_true
 | str i =>
  obtain ⟨t,rfl⟩ := rx
  cases y with
  | non => cases ry;exact PySem.EqNone.eq_str_none (zm I q (by simp))
  | bl j => cases ry;exact PySem.EqMixed.eq_str_bool (zm I q (by simp))
  | int j => obtain ⟨t',rfl⟩ := ry;exact PySem.EqMixed.eq_str_int (zm I q (by simp))
  | str j => obtain ⟨t',rfl⟩ := ry;exact eq_str (zm I q NU)
  | _ => exact absurd (show false = true from hs) Bool.false_ne_true
 | byt i =>
  obtain ⟨t,rfl⟩ := rx
  cases y with
  | byt j => obtain ⟨t',rfl⟩ := ry;exact PySem.W.eq_bytes (zm I q NR)
  | _ => exact absurd (show false = true from hs) Bool.false_ne_true
 | _ => cases y <;> exact absurd (show false = true from hs) Bool.false_ne_true
theorem qhG : OpR X (compareOp .NotEq) rNe := by
 intro pins s σ H x y v u Q I rx ry h
 obtain ⟨hs,q⟩ := h
 cases x with
 | non =>
  cases rx
  cases y with
  | non => cases ry;exact PySem.EqNone.ne_none_none (zm I q (by simp))
  | bl j => cases ry;exact PySem.EqNone.ne_none_bool (zm I q (by simp))
  | int j => obtain ⟨t',rfl⟩ := ry;exact PySem.EqNone.ne_none_int (zm I q (by simp))
  | str j => obtain ⟨t',rfl⟩ := ry;exact PySem.EqNone.ne_none_str (zm I q (by simp))
  | _ => exact absurd (show false = true from hs) Bool.false_ne_true
 | bl i =>
  cases rx
  cases y with
  | non => cases ry;exact PySem.EqNone.ne_bool_none (zm I q (by simp))
  | bl j => cases ry;exact ne_bool (zm I q (congrArg not qbh))
  | str j => obtain ⟨t',rfl⟩ := ry;exact PySem.EqMixed.ne_bool_str (zm I q (by simp))
  | _ => exact absurd (show false = true from hs) Bool.false_ne_true
 | int i =>
  obtain ⟨t,rfl⟩ := rx
  cases y with
  | non => cases ry;exact PySem.EqNone.ne_int_none (zm I q (by simp))
  | int j => obtain ⟨t',rfl⟩ := ry;exact ne_int (zm I q (congrArg not NN))
  | str j => obtain ⟨t',rfl⟩ := ry;exact PySem.EqMixed.ne_int_str (zm I q (by simp))
  | _ => exact absurd (show false = true from hs) Bool.false_ne_true
 | str i =>
  obtain ⟨t,rfl⟩ := rx
  cases y with
  | non => cases ry;exact PySem.EqNone.ne_str_none (zm I q (by simp))
  | bl j => cases ry;exact PySem.EqMixed.ne_str_bool (zm I q (by simp))
  | int j => obtain ⟨t',rfl⟩ := ry;exact PySem.EqMixed.ne_str_int (zm I q (by simp))
  | str j => obtain ⟨t',rfl⟩ := ry;exact ne_str (zm I q (congrArg not NU))
  | _ => exact absurd (show false = true from hs) Bool.false_ne_true
 | byt i =>
  obtain ⟨t,rfl⟩ := rx
  cases y with
  | byt j => obtain ⟨t',rfl⟩ := ry;exact PySem.W.ne_bytes (zm I q (congrArg not NR))
  | _ => exact absurd (show false = true from hs) Bool.false_ne_true
 | _ => cases y <;> exact absurd (show false = true from hs) Bool.false_ne_true
theorem S6 : OpR X (compareOp .Lt) (rI0 fun i j => .bl (decide (i < j))) := qg7 fun _ _ _ _ _ _ _ q => lt_int q
theorem qeh : OpR X (compareOp .LtE) (rI0 fun i j => .bl (decide (i ≤ j))) := qg7 fun _ _ _ _ _ _ _ q => le_int q
theorem N7 : OpR X (compareOp .Gt) (rI0 fun i j => .bl (decide (j < i))) := qg7 fun _ _ _ _ _ _ _ q => gt_int q
theorem qij : OpR X (compareOp .GtE) (rI0 fun i j => .bl (decide (j ≤ i))) := qg7 fun _ _ _ _ _ _ _ q => ge_int q
theorem MS : OpR X (compareOp .Is) (fun x y H Q => y = .non∧Q (.bl (decide (x = .non))) H) := by
 intro pins s σ H x y v u Q I rx ry h
 obtain ⟨rfl,q⟩ := h
 cases ry
 refine is_none_gen (zm I q ?_)
 cases x <;> first
  | (cases rx;rfl)
  | (obtain ⟨t,rfl⟩ := rx;rfl)
theorem qdk : OpR X (compareOp .IsNot) (fun x y H Q => y = .non∧Q (.bl (!decide (x = .non))) H) := by
 intro pins s σ H x y v u Q I rx ry h
 obtain ⟨rfl,q⟩ := h
 cases ry
 refine isnot_none_gen (zm I q ?_)
 cases x <;> first
  | (cases rx;rfl)
  | (obtain ⟨t,rfl⟩ := rx;rfl)
theorem OpR.or {f : Value → Value → Sem Value} {r r' : R2} (h : OpR X f r) (h' : OpR X f r') : OpR X f (fun x y H Q => r x y H Q ∨ r' x y H Q) := by
 intro pins s σ H x y v u Q I rx ry q
 rcases q with q | q
 ·exact h pins s σ H x y v u Q I rx ry q
 ·exact h' pins s σ H x y v u Q I rx ry q
theorem qB (b : Expr) {op : CmpOp} (h : op ≠ .In := by decide) (h2 : op ≠ .NotIn := by decide) : behindInMarks op b = false := by
 have e1 : (op == CmpOp.In) = false := by cases op <;> first | rfl | exact absurd rfl h
 have e2 : (op == CmpOp.NotIn) = false := by cases op <;> first | rfl | exact absurd rfl h2
 cases b <;> simp [behindInMarks,e1,e2]
theorem qdG {op : CmpOp} {r : R2} (ho : OpR X (compareOp op) r) (ha : PE X a ta) (hb : PE X b tb) (hm : behindInMarks op b = false) : PE X (.Compare a [op] [b] pos) (tOp r ta tb) := by
 intro pins s σ H Q I h
 exact wpAny_Compare1 (qhB ha hb I h fun v u s2 x y H2 I2 rx ry q => ho pins s2 σ H2 x y v u Q I2 rx ry q) hm
def qgF (t : TE) : TT := fun σ H Q => t σ H fun x H' => ∃ k,x = .bl k∧Q k H'
theorem qcR {op : CmpOp} {r : R2} (ho : OpR X (compareOp op) r) (ha : PE X a ta) (hb : PE X b tb) (hm : behindInMarks op b = false) : PT X (.Compare a [op] [b] pos) (qgF (tOp r ta tb)) := by
 intro pins s σ H Q I h
 refine wpAny_isTrue_Compare1 (thn (ha pins s σ H _ I h) fun v s1 ⟨x,H1,I1,r1,q1⟩ => thn (hb pins s1 σ H1 _ I1 q1) fun u s2 ⟨y,H2,I2,r2,q2⟩ =>
  thn (ho pins s2 σ H2 x y v u _ I2 r1 r2 q2) fun c s3 ⟨z,H3,I3,r3,k,e,q3⟩ => ?_) hm
 subst e
 cases r3
 exact wpAny_truthy_bool ⟨H3,I3,q3⟩
def qcf (r r' : R2) (ta tb tc : TE) : TE := fun σ H Q => ta σ H fun x H1 => tb σ H1 fun y H2 => r x y H2 fun z H3 => ∃ k,z = .bl k ∧
 (if k = true then tc σ H3 fun w' H4 => r' y w' H4 Q else Q (.bl false) H3)
theorem qa7 {op op' : CmpOp} {r r' : R2} (ho : OpR X (compareOp op) r) (ho' : OpR X (compareOp op') r') (ha : PE X a ta) (hb : PE X b tb) (hc : PE X c tc)
  (hm : lastMarks [op,op'] [b,c] = false := by with_unfolding_all rfl) : PE X (.Compare a [op,op'] [b,c] pos) (qcf r r' ta tb tc) := by
 intro pins s σ H Q I h
 refine Compare_chain (thn (ha pins s σ H _ I h) fun v s1 ⟨x,H1,I1,r1,q1⟩ => chain_link (thn (hb pins s1 σ H1 _ I1 q1) fun u s2 ⟨y,H2,I2,r2,q2⟩ =>
  thn (ho pins s2 σ H2 x y v u _ I2 r1 r2 q2) fun d s3 ⟨z,H3,I3,r3,k,e,q3⟩ => ?_)) hm
 subst e
 cases r3
 refine wpAny_truthy_bool ?_
 cases k with
 | false => exact ite_ff ⟨.bl false,H3,I3,rfl,q3⟩
 | true => exact ite_tt (chain_last (thn (hc pins s3 σ H3 _ I3 q3) fun w' s4 ⟨z',H4,I4,r4,q4⟩ => ho' pins s4 σ H4 y z' u w' Q I4 r2 r4 q4))
theorem RR : (sizeLine : Nat) < 2 ^ 63 := by rw [sizeLine_eq];decide
theorem EJ {x : V} {us : List Value} (r : jh [x] us) : ∃ u,us = [u]∧jx x u := by
 cases r with
 | cons r1 r2 => cases r2;exact ⟨_,rfl,r1⟩
theorem N0 {x y : V} {us : List Value} (r : jh [x,y] us) : ∃ u w',us = [u,w']∧jx x u∧jx y w' := by
 cases r with
 | cons r1 r2 =>
  cases r2 with
  | cons r3 r4 => cases r4;exact ⟨_,_,rfl,r1,r3⟩
theorem T6 : ZI X (.builtin "abs") (fun xs H Q => ∃ i,xs = [.int i]∧Q (.int (if i < 0 then -i else i)) H) := by
 intro pins s σ H xs us Q I r h
 obtain ⟨i,rfl,q⟩ := h
 obtain ⟨u,rfl,t,rfl⟩ := EJ r
 exact call_abs_int fun u tk => ⟨.int (if i < 0 then -i else i),H,I.tok _,⟨_,rfl⟩,q⟩
theorem qad (hc : X.calm = true) : ZI X (.builtin "min") (fun xs H Q => ∃ i j,xs = [.int i,.int j]∧Q (.int (if j < i then j else i)) H) := by
 intro pins s σ H xs us Q I r h
 obtain ⟨i,j,rfl,q⟩ := h
 obtain ⟨u,w',rfl,⟨t,rfl⟩,⟨t',rfl⟩⟩ := N0 r
 refine min_two_ints (I.ok.hd hc) fun h' tk k => ⟨_,H,I.kept k,?_,q⟩
 by_cases hj : j < i
 ·rw [if_pos hj,if_pos hj];exact ⟨_,rfl⟩
 ·rw [if_neg hj,if_neg hj];exact ⟨_,rfl⟩
theorem WT : ZI X (.type "int") (fun xs H Q => (∃ i,xs = [.int i]∧Q (.int i) H) ∨ ∃ k,xs = [.bl k]∧Q (.int (if k then 1 else 0)) H) := by
 intro pins s σ H xs us Q I r h
 rcases h with ⟨i,rfl,q⟩ | ⟨k,rfl,q⟩
 ·obtain ⟨u,rfl,t,rfl⟩ := EJ r
  exact call_int_int ⟨.int i,H,I,⟨_,rfl⟩,q⟩
 ·obtain ⟨u,rfl,r1⟩ := EJ r
  cases r1
  exact call_int_bool ⟨.int (if k then 1 else 0),H,I.tok _,⟨_,rfl⟩,q⟩
def qiM (K : PySem.W.Frag) (x : V) (H : Hp) (n : Nat) : Prop :=
 match x with
 | .str y => y.length ≤ sizeLine∧n = y.length
 | .byt y => y.size ≤ sizeLine∧n = y.size
 | .ref p => (∃ xs,SqL K H p xs∧n = xs.length) ∨ ∃ xs,SqT K H p xs∧n = xs.length
 | _ => False
theorem zN : ZI X (.builtin "len") (fun xs H Q => ∃ x n,xs = [x]∧qiM X.K x H n∧Q (.int n) H) := by
 intro pins s σ H xs us Q I r h
 obtain ⟨x,n,rfl,e,q⟩ := h
 obtain ⟨u,rfl,rx⟩ := EJ r
 have hl := RR
 have hs : sizeLine = 16777216 := sizeLine_eq
 cases x with
 | str y =>
  obtain ⟨t,rfl⟩ := rx
  obtain ⟨hy,e'⟩ : y.length ≤ sizeLine∧n = y.length := e
  subst e'
  exact len_str (by omega) ⟨.int _,H,I.tok _,⟨_,rfl⟩,q⟩
 | byt y =>
  obtain ⟨t,rfl⟩ := rx
  obtain ⟨hy,e'⟩ : y.size ≤ sizeLine∧n = y.size := e
  subst e'
  exact PySem.W.len_bytes (by omega) ⟨.int _,H,I.tok _,⟨_,rfl⟩,q⟩
 | ref p =>
  cases rx
  have e' : (∃ xs,SqL X.K H p xs∧n = xs.length) ∨ ∃ xs,SqT X.K H p xs∧n = xs.length := e
  rcases e' with ⟨xs,hx,e'⟩ | ⟨xs,hx,e'⟩
  ·subst e'
   obtain ⟨its,r',pl,hz⟩ := I.list hx
   have hlen := r'.length
   exact Calls.call_len_list pl.isList (by simp only [List.size_toArray];omega) ⟨.int xs.length,H,I.tok _,⟨_,by simp only [List.size_toArray];rw [hlen]⟩,q⟩
  ·subst e'
   obtain ⟨its,r',pl,hz⟩ := I.tuple hx
   have hlen := r'.length
   exact len_tuple pl (by simp only [List.size_toArray];omega) ⟨.int xs.length,H,I.tok _,⟨_,by simp only [List.size_toArray];rw [hlen]⟩,q⟩
 | _ => exact (show False from e).elim
end
end L2
namespace L2
open PySem PySem.Spec PyProof.Rows
section
variable {prog : Program} {w : World} {A : Around} {E : Value → Shared → Prop} {s : Shared} {K : PySem.W.Frag} {x dx C f : Addr} {mA : Str → Option Value} {name : Str} {v : Value}
end
section
variable {P : Program} {w : World} {H H' : Hp} {h h' : Heap} {a C dx : Addr} {fs fs' : List (Str × V)}
end
section
variable {X : Cx} {pins : List (Addr × Obj)} {σ : St} {H : Hp} {s : Shared} {a C dx : Addr} {fs : List (Str × V)} {f : Str} {v : V} {A : Around} {E : Value → Shared → Prop}
end
section
variable {X : Cx} {o e value : Expr} {f : Str} {pos pos' tpos : Pos} {ta tv : TE}
end
section
variable {X : Cx} {pins : List (Addr × Obj)} {σ : St} {H : Hp} {s : Shared} {A : Around} {E : Value → Shared → Prop} {Q : Value → Shared → Prop} {c : Value} {b : Bool}
end
end L2
namespace L2
open PySem PySem.Spec PyProof.Rows
structure Room (k : Nat) (A : Around) : Prop where
 hd : A.handled = none
 dp : A.depth + 3 * k + 5 < recursionLimit
 un : A.units + 16 * k + 200 < cLine
 gd : A.guards = some []
theorem Room.mono {j k : Nat} {A : Around} (r : Room k A) (h : j ≤ k) : Room j A := ⟨r.hd,by have := r.dp;omega,by have := r.un;omega,r.gd⟩
theorem Room.deeper {k : Nat} {A : Around} (r : Room (k + 1) A) (env : Env) : Room k (A.deeper env) :=
 ⟨r.hd,by have := r.dp;show A.depth + 1 + 3 * k + 5 < _;omega,by have := r.un;show A.units + 3 + 16 * k + 200 < _;omega,r.gd⟩
theorem Room.in1 {k : Nat} {A : Around} (r : Room (k + 1) A) : Room k A.in1 :=
 ⟨r.hd,by have := r.dp;show A.depth + 3 * k + 5 < _;omega,by have := r.un;show A.units + 1 + 16 * k + 200 < _;omega,r.gd⟩
theorem Room.depth {k : Nat} {A : Around} (r : Room k A) : A.depth < recursionLimit := by have := r.dp;omega
theorem Room.units {k : Nat} {A : Around} (r : Room k A) : A.units + 64 < cLine := by have := r.un;omega
def qiX : TA := fun _ H Q => Q [] H
def qir (ta : TE) (tr : TA) : TA := fun σ H Q => ta σ H fun x H1 => tr σ H1 fun xs H2 => Q (x :: xs) H2
section
variable {X : Cx} {e : Expr} {es : List Expr} {te : TE} {t : TA} {pos : Pos}
theorem KH : PA X [] qiX := fun _ _ _ _ H Q I h => Calls.spliced_nil ⟨[],H,I,.nil,h⟩
theorem Y2 (ha : PE X e te) (hr : PA X es t) (hs : starEach (e :: es) X.env = (false,eval e X.env) :: starEach es X.env := by rfl) : PA X (e :: es) (qir te t) := by
 intro pos pins s σ H Q I h
 rw [hs]
 show wpAny _ _ (spliced ((false,eval e X.env) :: backTo pos (starEach es X.env))) _ _ s
 refine Calls.spliced_cons (thn (ha pins s σ H _ I h) fun u s1 ⟨x,H1,I1,r1,q1⟩ => ?_)
 exact thn (hr pos pins s1 σ H1 _ I1 q1) fun us s2 ⟨xs,H2,I2,r2,q2⟩ => ⟨x :: xs,H2,I2,.cons r1 r2,q2⟩
def qje (t : TA) : TE := fun σ H Q => t σ H fun xs H1 => xs.length ≤ sizeLine∧∀ p,H1 p = none → Q (.ref p) (upd H1 p (.tup xs))
def qjl (t : TA) : TE := fun σ H Q => t σ H fun xs H1 => xs.length ≤ sizeLine∧∀ p,H1 p = none → Q (.ref p) (upd H1 p (.lst xs))
theorem qbV {x1} (h : PA X es t) : PE X (.Tuple es x1 pos) (qje t) := by
 intro pins s σ H Q I hq
 refine wpAny_Tuple_spliced (thn (h pos pins s σ H _ I hq) fun us s1 ⟨xs,H1,I1,r,z,q⟩ => ⟨by rw [← r.length];exact z,?_⟩)
 have hf : H1 s1.heap.objs.size = none := I1.hok.fresh (Nat.le_refl _)
 refine ⟨.ref s1.heap.objs.size,upd H1 s1.heap.objs.size (.tup xs),I1.laid (t' := s1.toks) (fun b u e => Heap.get?_push_of_some _ e) (Nat.le_refl _) ?_,rfl,q _ hf⟩
 exact ⟨z,us,r,⟨_,Heap.get?_push_size _ rfl,rfl,_,rfl⟩⟩
theorem qfg (h : PA X es t) : PE X (.List es pos) (qjl t) := by
 intro pins s σ H Q I hq
 refine wpAny_List_spliced (thn (h pos pins s σ H _ I hq) fun us s1 ⟨xs,H1,I1,r,z,q⟩ => ⟨by rw [← r.length];exact z,?_⟩)
 have hf : H1 s1.heap.objs.size = none := I1.hok.fresh (Nat.le_refl _)
 refine ⟨.ref s1.heap.objs.size,upd H1 s1.heap.objs.size (.lst xs),I1.laid (t' := s1.toks) (fun b u e => Heap.get?_push_of_some _ e) (Nat.le_refl _) ?_,rfl,q _ hf⟩
 exact ⟨z,us,0,r,Heap.get?_push_size _ rfl⟩
end
abbrev Sp := List V → Hp → VK → XK → Prop
abbrev CXT := List Env → Hp → Shared → XK → Value → Shared → Prop
structure Env0 (P : Program) (w : World) (K : PySem.W.Frag) (mg : Str → Option Value) (base : Heap) (A : Around) (outer : List Env) (s : Shared) (H : Hp) : Prop where
 frames : A.frames = some outer
 mod : Mod K mg base
 bs : ∀ b o,base.get? b = some o → s.heap.get? b = some o∧H b = none
 bsz : base.objs.size ≤ s.heap.objs.size
 funs : s.heap.FunFrames base outer
 frf : ∀ b ∈ frs outer,H b = none
 hok : HOk P w H s.heap
 bare : AllBare s.gens
def CE (outer : List Env) (P : Program) (w : World) (H : Hp) (s : Shared) (Q : VK) (u : Value) (s' : Shared) : Prop :=
 ∃ v H',s'.os = s.os∧AllBare s'.gens∧Un (frs outer) [] H H' s.heap s'.heap∧HOk P w H' s'.heap∧jx v u∧Q v H'
def CR (CX : CXT) (outer : List Env) (P : Program) (w : World) (H : Hp) (s : Shared) (Q : VK) (E : XK) (r : Result) (s' : Shared) : Prop :=
 match r with
 | .ok (.ret u) => CE outer P w H s Q u s'
 | .ok _ => False
 | .error e => CX outer H s E e s'
structure FnOk (P : Program) (w : World) (K : PySem.W.Frag) (mg : Str → Option Value) (base : Heap) (CX : CXT) (k : Nat) (f : Addr) (fd : FuncData) (ps : List Str) (sp : Sp) : Prop where
 len : ∀ vs H Q E,sp vs H Q E → vs.length = ps.length
 run : ∀ (A : Around) (outer : List Env) (s : Shared) (H : Hp) (args : Args) (us : List Value) (vs : List V) (Q : VK) (E : XK),Room k A → Env0 P w K mg base A outer s H → BindsTo s fd args (ps.zip us) → jh vs us → sp vs H Q E →
  codeAny (model P w) A (.call (.ref f) args) (CR CX outer P w H s Q E) s
theorem FnOk.mono {P : Program} {w : World} {K : PySem.W.Frag} {mg : Str → Option Value} {base : Heap} {CX : CXT} {j k : Nat} {f : Addr} {fd : FuncData} {ps : List Str} {sp : Sp} (F : FnOk P w K mg base CX j f fd ps sp) (h : j ≤ k) :
  FnOk P w K mg base CX k f fd ps sp := ⟨F.len,fun A outer s H args us vs Q E hr => F.run A outer s H args us vs Q E (hr.mono h)⟩
theorem Env0.in1 {P : Program} {w : World} {K : PySem.W.Frag} {mg : Str → Option Value} {base : Heap} {A : Around} {outer : List Env} {s : Shared} {H : Hp} (e : Env0 P w K mg base A outer s H) :
  Env0 P w K mg base A.in1 outer s H := ⟨e.frames,e.mod,e.bs,e.bsz,e.funs,e.frf,e.hok,e.bare⟩
section
variable {X : Cx} {pins : List (Addr × Obj)} {σ : St} {H : Hp} {s s' : Shared}
theorem Inv.env0 (I : Inv X pins σ H s) : Env0 X.prog X.w X.K X.mg X.base X.A X.stack s H :=
 ⟨I.ok.frames,I.ok.mod,I.bs,Nat.le_trans I.ok.bsz I.sz,I.stack,I.stkFree,I.hok,I.bare⟩
theorem Inv.after {Q : VK} {u : Value} (I : Inv X pins σ H s) (h : CE X.stack X.prog X.w H s Q u s') : EP X pins σ Q u s' := by
 obtain ⟨v,H',os,bare,un,hok,r,q⟩ := h
 obtain ⟨hh,g,d,t,os'⟩ := s'
 obtain rfl : os' = s.os := os
 exact ⟨v,H',I.call (h' := hh) (g' := g) (d' := d) (t' := t) (ch := []) un hok bare (fun b z => absurd z (by simp)),r,q⟩
end
def qhk (sp : Sp) (dvs : List V) (E : XK) (t : TA) : TE := fun σ H Q => t σ H fun vs H1 => sp (vs ++ dvs) H1 Q E
def zl (K : PySem.W.Frag) (fd : FuncData) (ps : List Str) (ds : List Value) : Prop :=
 ∀ (s : Shared) (us : List Value),K.In s.heap → (us ++ ds).length = ps.length → BindsTo s fd ⟨us,[]⟩ (ps.zip (us ++ ds))
theorem zl.all {K : PySem.W.Frag} {fd : FuncData} {ps : List Str} (h : ∀ us : List Value,us.length = ps.length → bindArgs fd ⟨us,[]⟩ = pure (ps.zip us)) : zl K fd ps [] := fun s us _ hl => by
 rw [List.append_nil] at hl ⊢
 exact .of_eq (h us hl)
def NE (CX : CXT) (X : Cx) (E : XK) : Prop := ∀ (pins : List (Addr × Obj)) (σ : St) (H : Hp) (s : Shared) (e : Value) (s' : Shared),Inv X pins σ H s → CX X.stack H s E e s' → X.xe e s'
section
variable {X : Cx} {CX : CXT} {k : Nat} {f C : Addr} {fd : FuncData} {ps : List Str} {sp : Sp} {dvs : List V} {ds : List Value} {E : XK} {x m : Str} {p pos apos : Pos} {e o : Expr} {es : List Expr} {ta : TE} {t : TA}
theorem qe2 {pins : List (Addr × Obj)} {σ : St} {H : Hp} {s : Shared} {Q : VK} {us : List Value} {vs : List V} (F : FnOk X.prog X.w X.K X.mg X.base CX k f fd ps sp) (hr : Room k X.A) (hb : zl X.K fd ps ds) (hd : jh dvs ds) (hx : NE CX X E)
  (I : Inv X pins σ H s) (r : jh vs us) (h : sp (vs ++ dvs) H Q E) : wpAny (model X.prog X.w) X.A (call (.ref f) us) (EP X pins σ Q) X.xe s := by
 have r2 : jh (vs ++ dvs) (us ++ ds) := r.append hd
 have hl : (us ++ ds).length = ps.length := by rw [← r2.length];exact F.len _ _ _ _ h
 refine wpAny_call (codeAny_mono (F.run X.A X.stack s H ⟨us,[]⟩ (us ++ ds) (vs ++ dvs) Q E hr I.env0 (hb s us I.kIn hl) r2 h) fun r s' hq => ?_)
 cases r with
 | error e => exact hx pins σ H s e s' I hq
 | ok fl =>
  cases fl with
  | ret u => exact I.after hq
  | next => exact False.elim hq
  | brk => exact False.elim hq
  | cont => exact False.elim hq
theorem qcI (F : FnOk X.prog X.w X.K X.mg X.base CX k f fd ps sp) (hr : Room k X.A) (hg : Gl X x) (hm : X.mg x = some (.ref f)) (hk : PySem.W.keepIn X.K (.ref f) = true) (hb : zl X.K fd ps ds) (hd : jh dvs ds) (hx : NE CX X E)
  (ha : PA X (e :: es) t) (hdb : (x == ("__debug__" : Str)) = false := by decide) (he : starEach (e :: es) X.env = (false,eval e X.env) :: starEach es X.env := by rfl) (hpl : (backTo pos (starEach es X.env)).any (·.1) = false := by rfl) :
  PE X (.Call (.Name x p) (e :: es) [] pos) (qhk sp dvs E t) := by
 intro pins s σ H Q I h
 refine wpAny_Call_Name_kw (NW I hg hm ?_ hdb)
 refine PySem.W.callWith_K (h₀ := X.base) I.ok.mod.kin hk (thn (ha pos pins s σ H _ I h) fun us s1 ⟨vs,H1,I1,r,q⟩ => ⟨I1.kIn,?_⟩) he hpl
 exact qe2 F hr hb hd hx I1 r q
end
section
variable {X : Cx} {CX : CXT} {k : Nat} {f C : Addr} {fd : FuncData} {ps ks : List Str} {sp : Sp} {E : XK} {x m : Str} {p pos apos kpos : Pos} {e o : Expr} {es : List Expr} {kws : List Keyword} {te ta : TE} {t tk : TA} {nm : Option Str}
variable {g : List Value → List Value → List Value} {gV : List V → List V → List V}
end
structure FnScope (N P : List Str) (sc : Scope) : Prop where
 kind : sc.kind = .function
 co : sc.isCoroutine = false
 gen : sc.isGenerator = false
 nd : N.Nodup
 pre : N.take P.length = P
 par : ∀ x ∈ P,sc.names.lookup x = some .local ∨ sc.names.lookup x = some .cell
 nofree : ∀ y ∈ sc.names,y.2 ≠ .free
theorem R8 {kindOf : Str → Option NameKind} {x : Str} : ∀ {binds : List (Str × Value)} {m : Str → Option Value},(∀ v,(x,v) ∉ binds) → bindL kindOf binds m x = m x
 | [],_,_ => rfl
 | (n,v) :: r,m,h => by
  unfold bindL
  rw [R8 fun w hw => h w (List.mem_cons_of_mem _ hw)]
  split
  ·have : x ≠ n := by rintro rfl;exact h v List.mem_cons_self
   simp [this]
  ·rfl
theorem RO {kindOf : Str → Option NameKind} {x : Str} : ∀ {binds : List (Str × Value)} {m : Str → Option Value},(∀ v,(x,v) ∉ binds) → bindC kindOf binds m x = m x
 | [],_,_ => rfl
 | (n,v) :: r,m,h => by
  unfold bindC
  rw [RO fun w hw => h w (List.mem_cons_of_mem _ hw)]
  split
  ·rfl
  ·have : x ≠ n := by rintro rfl;exact h v List.mem_cons_self
   simp [this]
theorem RQ {kindOf : Str → Option NameKind} {x : Str} {v : Value} : ∀ {P : List Str} {vs : List Value} {i : Nat} {m : Str → Option Value},P.Nodup → P[i]? = some x → vs[i]? = some v → kindOf x = some .local →
  bindL kindOf (P.zip vs) m x = some v
 | [],_,_,_,_,h,_,_ => by simp at h
 | _ :: _,[],_,_,_,_,h,_ => by simp at h
 | p :: P,w :: vs,0,m,nd,h1,h2,hk => by
  simp at h1 h2;subst h1;subst h2
  show bindL kindOf ((p,w) :: P.zip vs) m p = _
  unfold bindL
  rw [R8 fun v hv => (List.nodup_cons.mp nd).1 (List.of_mem_zip hv).1,if_pos hk]
  simp
 | p :: P,w :: vs,i + 1,m,nd,h1,h2,hk => by
  show bindL kindOf ((p,w) :: P.zip vs) m x = _
  unfold bindL
  exact RQ (i := i) (List.nodup_cons.mp nd).2 (by simpa using h1) (by simpa using h2) hk
theorem RW {kindOf : Str → Option NameKind} {x : Str} {v : Value} : ∀ {P : List Str} {vs : List Value} {i : Nat} {m : Str → Option Value},P.Nodup → P[i]? = some x → vs[i]? = some v → kindOf x ≠ some .local →
  bindC kindOf (P.zip vs) m x = some v
 | [],_,_,_,_,h,_,_ => by simp at h
 | _ :: _,[],_,_,_,_,h,_ => by simp at h
 | p :: P,w :: vs,0,m,nd,h1,h2,hk => by
  simp at h1 h2;subst h1;subst h2
  show bindC kindOf ((p,w) :: P.zip vs) m p = _
  unfold bindC
  rw [RO fun v hv => (List.nodup_cons.mp nd).1 (List.of_mem_zip hv).1,if_neg hk]
  simp
 | p :: P,w :: vs,i + 1,m,nd,h1,h2,hk => by
  show bindC kindOf ((p,w) :: P.zip vs) m x = _
  unfold bindC
  exact RW (i := i) (List.nodup_cons.mp nd).2 (by simpa using h1) (by simpa using h2) hk
def D7 (N : List Str) (vs : List V) : St := vs.map some ++ List.replicate (N.length - vs.length) none
def qah (CX : CXT) (P : Program) (w : World) (K : PySem.W.Frag) (mg : Str → Option Value) (base : Heap) (N : List Str) (qual : Str) (scope : Scope) (f : Addr) (cd : Value) (A : Around) (outer : List Env) (s : Shared) (H : Hp) (E : XK) : Cx where
 prog := P
 w := w
 K := K
 mg := mg
 base := base
 A := A.deeper (envOfC qual scope s.heap.objs.size f cd)
 N := N
 s₀ := s
 H₀ := H
 env := envOfC qual scope s.heap.objs.size f cd
 outer := outer
 stack := envOfC qual scope s.heap.objs.size f cd :: outer
 ex := []
 calm := true
 fn := fun _ => true
 pn := []
 xe := fun e s' => wpAny (model P w) (A.deeper (envOfC qual scope s.heap.objs.size f cd)) (leaving (envOfC qual scope s.heap.objs.size f cd) e) (fun _ s'' => CX outer H s E e s'') (fun e' s'' => CX outer H s E e' s'') s'
theorem T4 {sc : Scope} {n : Nat} {x : Str} (h : sc.names.lookup x = some .cell) : ∃ c,(cellsFrom n sc.names []).lookup x = some c := by
 have q := PySem.W.cellsFrom_some sc.names n [] (.inl h)
 exact Option.isSome_iff_exists.mp q
theorem MN {CX : CXT} {P : Program} {w : World} {K : PySem.W.Frag} {mg : Str → Option Value} {base : Heap} {N ps : List Str} {qual : Str} {scope : Scope} {f : Addr} {cd : Value} {A : Around} {outer : List Env} {s s1 : Shared} {H : Hp} {E : XK} {us : List Value} {vs : List V}
  (S : FnScope N ps scope) (hd : A.handled = none) (e0 : Env0 P w K mg base A outer s H) (hl : vs.length = ps.length) (r : jh vs us)
  (x : InCallC s s.heap.objs.size (bindL (envOfC qual scope s.heap.objs.size f cd).kindOf (ps.zip us) fun _ => none) (cellsFrom (s.heap.objs.size + 1) scope.names []) (bindC (envOfC qual scope s.heap.objs.size f cd).kindOf (ps.zip us) fun _ => none) s1) :
  Inv (qah CX P w K mg base N qual scope f cd A outer s H E) [] (D7 N vs) H s1 := by
 have hpl : ps.length ≤ N.length := by have := congrArg List.length S.pre;rw [List.length_take] at this;omega
 obtain ⟨h1,tk,rfl,hk⟩ := x.done
 have noA : ∀ b : Addr,b ∉ (qah CX P w K mg base N qual scope f cd A outer s H E).ex := fun b z => absurd (show b ∈ ([] : List Addr) from z) (by simp)
 refine ⟨⟨e0.mod,S.kind,rfl,rfl,Nat.le_refl _,fun y z c h1 h2 => ?_,fun y hy => ?_,fun y c _ h => ?_,fun _ => hd,Around.frames_deeper e0.frames,.inr ⟨rfl,rfl⟩,fun b z => absurd z (noA b),e0.bs,e0.bsz,fun b _ _ => noA b,fun b z => absurd z (noA b),e0.funs,e0.frf⟩,
  rfl,e0.bare,Un.kept hk,⟨_,x.toInCall.ns,fun i y v h1 h2 h3 => ?_⟩,fun y c h => ⟨_,x.cell y c h⟩,e0.hok.fresh (Nat.le_refl _),fun y c h => ?_,fun p hp => absurd (show p ∈ ([] : List (Addr × Obj)) from hp) (by simp),e0.hok.kept hk,?_⟩
 ·exact name_of_addr x.apart (PySem.mem_of_lookup h1) (PySem.mem_of_lookup h2)
 ·have hy : scope.names.lookup y = some .cell ∨ scope.names.lookup y = some .free := hy
  rcases hy with hy | hy
  ·exact T4 hy
  ·exact absurd rfl (S.nofree _ (PySem.mem_of_lookup hy))
 ·exact Nat.le_of_lt (x.above y c (PySem.mem_of_lookup h))
 ·have hi : i < vs.length := by
   unfold D7 at h2
   by_cases hi : i < vs.length
   ·exact hi
   ·rw [List.getElem?_append_right (by simpa using hi)] at h2
    rw [List.getElem?_replicate] at h2
    split at h2 <;> cases h2
  have ha : vs[i]? = some v := by
   unfold D7 at h2
   rw [List.getElem?_append_left (by simpa using hi),List.getElem?_map] at h2
   cases e : vs[i]? with
   | none => rw [e] at h2;cases h2
   | some a => rw [e] at h2;cases h2;rfl
  obtain ⟨u,hu,rv⟩ := r.get ha
  have hp : ps[i]? = some y := by
   rw [← S.pre,List.getElem?_take_of_lt (by omega)];exact h1
  have ndP : ps.Nodup := by rw [← S.pre];exact S.nd.sublist (List.take_sublist _ _)
  refine ⟨u,rv,?_⟩
  rcases S.par y (List.mem_of_getElem? hp) with k | k
  ·exact .inl ⟨k,RQ ndP hp hu k⟩
  ·obtain ⟨c,e⟩ := T4 (n := s.heap.objs.size + 1) k
   refine .inr ⟨.inl k,c,e,?_⟩
   have q := x.cell y c e
   rw [RW ndP hp hu (by show scope.names.lookup y ≠ _;rw [k];decide)] at q
   exact q
 ·exact e0.hok.fresh (Nat.le_of_lt (x.above y c (PySem.mem_of_lookup h)))
 ·unfold D7
  show _ = N.length
  rw [List.length_append,List.length_map,List.length_replicate]
  omega
theorem qhF {CX : CXT} {P : Program} {w : World} {K : PySem.W.Frag} {mg : Str → Option Value} {base : Heap} {k : Nat} {f : Addr} {name qual : Str} {params : Arguments} {body : List Stmt} {scope : Scope} {dV kV doc pm cdv ct oc : Value} {an od : Option Addr}
  {osl : Array (Option Value)} {N ps : List Str} {sp : Sp} (lk : K.lookup f = some ⟨oc,od,.func (PySem.W.fnOf name qual params body scope dV kV doc pm an cdv ct),osl⟩) (hcd : PySem.W.codeIn K cdv qual = true) (S : FnScope N ps scope)
  (len : ∀ vs H Q E,sp vs H Q E → vs.length = ps.length)
  (hbody : ∀ (A : Around) (outer : List Env) (s : Shared) (H : Hp) (vs : List V) (Q : VK) (E : XK),Room k (A.deeper (envOfC qual scope s.heap.objs.size f cdv)) → sp vs H Q E →
   ∃ t,PSs (qah CX P w K mg base N qual scope f cdv A outer s H E) body t∧t { nx := fun _ H' => Q .non H',rt := Q } (D7 N vs) H) :
  FnOk P w K mg base CX (k + 1) f (PySem.W.fnOf name qual params body scope dV kV doc pm an cdv ct) ps sp := by
 refine ⟨len,fun A outer s H args us vs Q E hr e0 hb r hsp => ?_⟩
 have hl := len _ _ _ _ hsp
 have KX : K.In s.heap := e0.mod.kin.keeps fun b o e => (e0.bs b o e).1
 have lim : s.heap.NoLimit := e0.mod.nolimit.keeps fun b o e => (e0.bs b o e).1
 have hkind : ∀ y ∈ ps.zip us,scope.names.lookup y.1 = some .local ∨ (scope.names.lookup y.1 = some .cell∧((cellsFrom (s.heap.objs.size + 1) scope.names []).lookup y.1).isSome = true) := fun ⟨n,v⟩ hy => by
  rcases S.par n (List.of_mem_zip hy).1 with q | q
  ·exact .inl q
  ·exact .inr ⟨q,PySem.W.cellsFrom_some _ _ _ (.inl q)⟩
 refine codeAny_call_function hr.depth (KX _ _ lk) rfl S.co S.gen rfl (PySem.W.codeRec_of KX hcd) (hb _ _ _ _ ?_)
 refine wpAny_newFunctionEnv_cells S.kind hkind fun env he s1 x => ?_
 subst he
 refine ⟨lim.keeps x.toInCall.keep,codeAny_func ?_⟩
 obtain ⟨t,ht,hq⟩ := hbody A outer s H vs Q E (hr.deeper _) hsp
 have I : Inv (qah CX P w K mg base N qual scope f cdv A outer s H E) [] (D7 N vs) H s1 := MN S hr.hd e0 hl r x
 refine wpAny_mono (ht [] s1 (D7 N vs) H _ I hq) (fun fl s' hs => ?_) fun e s' hs => hs
 have fin : ∀ {σ' : St} {H' : Hp} {v : V} {u : Value},Inv (qah CX P w K mg base N qual scope f cdv A outer s H E) [] σ' H' s' → jx v u → Q v H' → CE outer P w H s Q u s' :=
  fun {σ' H' v u} J rv q => ⟨v,H',J.os,J.bare,J.base,J.hok,rv,q⟩
 cases fl with
 | ret u =>
  obtain ⟨v,σ',H',J,rv,q⟩ := hs
  exact fin J rv q
 | next =>
  obtain ⟨σ',H',J,q⟩ := hs
  exact fin (v := V.non) (u := Value.none) J rfl q
 | brk =>
  obtain ⟨_,_,_,q⟩ := hs
  exact False.elim q
 | cont =>
  obtain ⟨_,_,_,q⟩ := hs
  exact False.elim q
end L2
namespace L2
open PySem PySem.Spec PyProof.Rows
section
variable {X : Cx} {x : Str} {p pos : Pos} {e : Expr} {es : List Expr} {t : TA} {id T : String} {r : List V → Hp → VK → Prop}
def tCB (r : List V → Hp → VK → Prop) (t : TA) : TE := fun σ H Q => t σ H fun vs H1 => r vs H1 Q
theorem CL (hc : ZI X (.builtin id) r) (hg : Gl X x) (hm : X.mg x = none) (hv : bootBuiltins x = some (.builtin id)) (ha : PA X (e :: es) t) (hn : x ≠ "__name__" := by decide) (hdb : (x == ("__debug__" : Str)) = false := by decide)
  (he : starEach (e :: es) X.env = (false,eval e X.env) :: starEach es X.env := by rfl) (hpl : (backTo pos (starEach es X.env)).any (·.1) = false := by rfl) : PE X (.Call (.Name x p) (e :: es) [] pos) (tCB r t) := by
 intro pins s σ H Q I h
 refine wpAny_Call_Name_kw (WL I hg hm hv ?_ hn hdb)
 exact PyProof.Rows.callWith_builtin1 (thn (ha pos pins s σ H _ I h) fun us s1 ⟨vs,H1,I1,r1,q1⟩ => hc pins s1 σ H1 vs us Q I1 r1 q1) he hpl
theorem MH (hc : ZI X (.type T) r) (hg : Gl X x) (hm : X.mg x = none) (hv : bootBuiltins x = some (.type T)) (ha : PA X (e :: es) t) (hn : x ≠ "__name__" := by decide) (hdb : (x == ("__debug__" : Str)) = false := by decide)
  (he : starEach (e :: es) X.env = (false,eval e X.env) :: starEach es X.env := by rfl) (hpl : (backTo pos (starEach es X.env)).any (·.1) = false := by rfl) : PE X (.Call (.Name x p) (e :: es) [] pos) (tCB r t) := by
 intro pins s σ H Q I h
 refine wpAny_Call_Name_kw (WL I hg hm hv ?_ hn hdb)
 exact PyProof.Rows.callWith_type1 (thn (ha pos pins s σ H _ I h) fun us s1 ⟨vs,H1,I1,r1,q1⟩ => hc pins s1 σ H1 vs us Q I1 r1 q1) he hpl
end
end L2
namespace HT
open PySem PyProof.Rows
section
open PySem.SeqAt
open PySem.MeetsSeq PySem.MeetsSeq2 PySem.MeetsSeq3
end
section
variable {prog : Program} {w : World} {A : Around} {E : Value → Shared → Prop} {s : Shared}
theorem qcS {t b : Addr} {vs ws : List Value} {Q : Value → Shared → Prop} (ht : IsTup s.heap t vs.toArray) (hb : IsTup s.heap b ws.toArray) (hv : vs ≠ [])
  (h1 : ws = [] → Q (.ref t) s) (h2 : ws ≠ [] → Q (.ref s.heap.objs.size) { s with heap := s.heap.push { cls := .type "tuple",data := .seq (vs ++ ws).toArray } })
  (hsz : vs.length + ws.length ≤ sizeLine) : wpAny (model prog w) A (binaryOp .Add (.ref t) (.ref b)) Q E s := by
 obtain ⟨⟨cls,dd,data,sl⟩,ho,hc,n,hd⟩ := id ht
 obtain ⟨⟨cls2,dd2,data2,sl2⟩,ho2,hc2,n2,hd2⟩ := id hb
 simp only at hc hd hc2 hd2
 subst hc hd hc2 hd2
 have e : vs.toArray ++ ws.toArray = (vs ++ ws).toArray := by simp
 by_cases hw : ws = []
 ·exact concat_meets ⟨_,ho,rfl⟩ ⟨_,ho2,rfl⟩ noFill_tuple_add seq_tuple_add PySem.F.slot_tuple_add PySem.F.entry_tuple_add (PySem.F.args_tuple_add_2 _ _)
   (tuple_addW1 t b vs.toArray ws.toArray n n2 dd dd2 sl sl2 (by simpa using hv) (by simp [hw])) ⟨ho,ho2,h1 hw⟩
 ·refine concat_meets ⟨_,ho,rfl⟩ ⟨_,ho2,rfl⟩ noFill_tuple_add seq_tuple_add PySem.F.slot_tuple_add PySem.F.entry_tuple_add (PySem.F.args_tuple_add_2 _ _)
   (tuple_addW2 t b vs.toArray ws.toArray n n2 dd dd2 sl sl2 (by simpa using hv) (by simpa using hw) (by rw [List.size_toArray,List.size_toArray];exact hsz)) ⟨ho,ho2,?_⟩
  rw [e]
  exact h2 hw
def sIx (n d : Nat) : Option Int → Nat
 | none => d
 | some v => if v < 0 then (v + (n : Int)).toNat else min v.toNat n
theorem qfS (n d : Nat) (hd : d ≤ n) (o : Option Int) : sIx n d o ≤ n := by
 cases o with
 | none => exact hd
 | some v =>
  show (if v < 0 then (v + (n : Int)).toNat else min v.toNat n) ≤ n
  by_cases hv : v < 0
  ·rw [if_pos hv];omega
  ·rw [if_neg hv];exact Nat.min_le_right _ _
theorem N1 (v : Int) (n d : Nat) : (if v < 0 then max (v + (n : Int)) 0 else min v (n : Int)) = ((sIx n d (some v) : Nat) : Int) := by
 show (if v < 0 then max (v + (n : Int)) 0 else min v (n : Int)) = (((if v < 0 then (v + (n : Int)).toNat else min v.toNat n) : Nat) : Int)
 by_cases hv : v < 0
 ·simp only [if_pos hv];omega
 ·simp only [if_neg hv];omega
theorem LD (lo hi : Option Int) (n : Nat) : Builtin.Slice.sliceAdjust lo hi 1 (n : Int) = (((sIx n 0 lo : Nat) : Int),((sIx n n hi : Nat) : Int)) := by
 have h1 : ¬ ((1 : Int) < 0) := by omega
 unfold Builtin.Slice.sliceAdjust
 simp only [h1,if_false]
 refine Prod.ext ?_ ?_
 ·cases lo with
  | none => rfl
  | some v => exact N1 v n 0
 ·cases hi with
  | none => rfl
  | some v => exact N1 v n n
theorem MC (i j : Nat) : Builtin.Slice.slicePlaces (i : Int) (j : Int) 1 = j - i := by
 unfold Builtin.Slice.slicePlaces
 have h1 : (1 : Int) > 0 := by omega
 simp only [h1,if_true,Int.ediv_one]
 split <;> omega
theorem XJ {v : Value} {o : Option Int} {Q : Option Int → Shared → Prop} (p : IsPart v o) (h : Q o s) : wpAny (model prog w) A (Builtin.Slice.slicePartIndex v) Q E s := by
 cases p with
 | none => exact slicePart_none h
 | int i t => exact slicePart_int h
theorem DC {sl : Addr} {vl vu : Value} {lo hi : Option Int} {n : Nat} {Q : Int × Int × Nat → Shared → Prop} (hs : s.heap.IsSliceOf sl vl vu .none) (pl : IsPart vl lo) (pu : IsPart vu hi)
  (h : Q (((sIx n 0 lo : Nat) : Int),1,sIx n n hi - sIx n 0 lo) s) : wpAny (model prog w) A (Builtin.Slice.sliceApplied (.ref sl) (pure (n : Int))) Q E s := by
 obtain ⟨os,hos,hcs,hds⟩ := id hs
 unfold Builtin.Slice.sliceApplied Builtin.Slice.sliceFields
 refine wpAny_bind (wpAny_bind (wpAny_field hos hds (x := vl) rfl (wpAny_bind (wpAny_field hos hds (x := vu) rfl (wpAny_bind (wpAny_field hos hds (x := .none) rfl (wpAny_pure ?_)))))))
 refine wpAny_bind (slicePart_none ?_)
 show wpAny _ _ (if ((1 : Int) == 0) = true then _ else _) _ _ s
 rw [if_neg (by decide)]
 refine wpAny_bind (XJ pl (wpAny_bind (XJ pu (wpAny_bind (wpAny_pure ?_)))))
 show wpAny _ _ (match Builtin.Slice.sliceAdjust lo hi 1 (n : Int) with | (lo,hi) => pure (lo,(1 : Int),Builtin.Slice.slicePlaces lo hi 1)) _ _ s
 rw [LD lo hi n]
 show wpAny _ _ (pure (((sIx n 0 lo : Nat) : Int),(1 : Int),Builtin.Slice.slicePlaces ((sIx n 0 lo : Nat) : Int) ((sIx n n hi : Nat) : Int) 1)) _ _ s
 rw [MC]
 exact wpAny_pure h
theorem qaY (xs : Array Value) (i k : Nat) : ((List.range k).filterMap fun (m : Nat) => xs[((i : Int) + (m : Int) * 1).toNat]?).toArray = ((xs.toList.drop i).take k).toArray := by
 have e : (fun (m : Nat) => xs[((i : Int) + (m : Int) * 1).toNat]?) = fun m => xs[i + m]? := by
  funext m
  have : ((i : Int) + (m : Int) * 1).toNat = i + m := by omega
  rw [this]
 rw [e]
 have := pick_run xs i k
 rw [List.filterMap_map] at this
 have e2 : ((fun x => xs[x]?) ∘ fun x => i + x) = fun m => xs[i + m]? := rfl
 rw [e2] at this
 rw [this]
theorem U6 {t sl : Addr} {items : Array Value} {vl vu : Value} {lo hi : Option Int} {Q : Value → Shared → Prop} (ht : IsTup s.heap t items) (hs : s.heap.IsSliceOf sl vl vu .none) (pl : IsPart vl lo) (pu : IsPart vu hi)
  (hw : ¬ (sIx items.size 0 lo = 0∧sIx items.size items.size hi = items.size))
  (h : Q (.ref s.heap.objs.size) { s with heap := s.heap.push { cls := .type "tuple",data := .seq ((items.toList.drop (sIx items.size 0 lo)).take (sIx items.size items.size hi - sIx items.size 0 lo)).toArray } })
  (hsz : items.size ≤ sizeLine) : wpAny (model prog w) A (getItem (.ref t) (.ref sl)) Q E s := by
 have htake : sizeOk (.seq ((items.toList.drop (sIx items.size 0 lo)).take (sIx items.size items.size hi - sIx items.size 0 lo)).toArray) := by
  show ((items.toList.drop (sIx items.size 0 lo)).take (sIx items.size items.size hi - sIx items.size 0 lo)).toArray.size ≤ sizeLine
  rw [List.size_toArray,List.length_take,List.length_drop,Array.length_toList]
  omega
 have hj : sIx items.size items.size hi ≤ items.size := qfS _ _ (Nat.le_refl _) hi
 obtain ⟨os,hos,hcs,hds⟩ := id hs
 have hTs : s.TypeIs (.ref sl) "slice" := ⟨os,hos,hcs⟩
 unfold getItem
 try with_reducible refine wpAny_holding ?_
 first | refine wpAny_bind (wpAny_pure ?_) | skip
 refine wpAny_bind (wpAny_sequenceKey ht.typeIs (by decide) ?_)
 refine wpAny_bind (wpAny_callSpecial?_slot (name := Str.ofString "__getitem__") ht.typeIs PyProof.Rows.slot_tuple_getitem
  (wpAny_call_entry PyProof.Rows.slot_tuple_getitem ht.typeIs entry_tuple_getitem ?_ (args_tuple_getitem _ _)))
 show wpAny _ _ (Builtin.Tuple.tupleItemsOf (.ref t) >>= _) _ _ s
 refine wpAny_bind (tupleItemsOf_ ht ?_)
 refine wpAny_bind (wpAny_typeOf hTs ?_)
 rw [if_pos (by decide)]
 refine wpAny_bind (DC hs pl pu ?_)
 have hno : ¬ ((((sIx items.size 0 lo : Nat) : Int) == 0 && (1 : Int) == 1 && (sIx items.size items.size hi - sIx items.size 0 lo) == items.size) = true) := by
  intro q
  rw [Bool.and_eq_true,Bool.and_eq_true] at q
  have q1 : ((sIx items.size 0 lo : Nat) : Int) = 0 := eq_of_beq q.1.1
  have q2 : sIx items.size items.size hi - sIx items.size 0 lo = items.size := eq_of_beq q.2
  exact hw ⟨by omega,by omega⟩
 show wpAny _ _ (if (((sIx items.size 0 lo : Nat) : Int) == 0 && (1 : Int) == 1 && (sIx items.size items.size hi - sIx items.size 0 lo) == items.size) = true then _ else _) _ _ s
 rw [if_neg hno,qaY]
 first
  | exact wpAny_bind (m := Builtin.Tuple.tupleExact _) (wpAny_newObj_type (wpAny_pure ⟨_,rfl,wpAny_pure h⟩) htake)
  | exact wpAny_bind (m := Builtin.Tuple.tupleExact _) (wpAny_newObj_type (wpAny_bind (wpAny_pure (wpAny_pure ⟨_,rfl,wpAny_pure h⟩))) htake)
  | exact wpAny_bind (wpAny_bind (m := Builtin.Tuple.tupleExact _) (wpAny_newObj_type (wpAny_pure (wpAny_pure ⟨_,rfl,wpAny_pure h⟩)) htake))
  | exact wpAny_bind (wpAny_bind (m := Builtin.Tuple.tupleExact _) (wpAny_newObj_type (wpAny_pure ⟨_,rfl,wpAny_pure h⟩) htake))
end
end HT
namespace L2
open PySem PySem.Spec PyProof.Rows
abbrev TO := St → Hp → (Option Int → Hp → Prop) → Prop
def PO (X : Cx) (e : Option Expr) (t : TO) : Prop :=
 ∀ (pins : List (Addr × Obj)) (s : Shared) (σ : St) (H : Hp) (Q : Option Int → Hp → Prop),Inv X pins σ H s → t σ H Q →
  wpAny (model X.prog X.w) X.A (evalPart e X.env) (fun u s' => ∃ o H',Inv X pins σ H' s'∧IsPart u o∧Q o H') X.xe s
def qhx (t : TE) : TO := fun σ H Q => t σ H fun x H1 => ∃ i,x = .int i∧Q (some i) H1
section
variable {X : Cx} {e : Expr} {te : TE} {lo hi : Option Expr} {tl th : TO} {pos p2 : Pos}
theorem qcW (h : PE X e te) : PO X (some e) (qhx te) := by
 intro pins s σ H Q I hw
 rw [evalPart_some]
 refine thn (h pins s σ H _ I hw) fun u s1 ⟨x,H1,I1,r1,q1⟩ => ?_
 obtain ⟨i,rfl,q⟩ := q1
 obtain ⟨t,rfl⟩ := r1
 exact ⟨some i,H1,I1,.int i t,q⟩
def SlR (X : Cx) (r : V → Option Int → Option Int → Hp → VK → Prop) : Prop :=
 ∀ (pins : List (Addr × Obj)) (s : Shared) (σ : St) (H : Hp) (x : V) (v vl vu : Value) (lo hi : Option Int) (sl : Addr) (Q : VK),Inv X pins σ H s → jx x v → s.heap.IsSliceOf sl vl vu .none → IsPart vl lo → IsPart vu hi → r x lo hi H Q →
  ∃ T id,typeLookup (.type T) "__getitem__" = pure (some (.builtin id))∧s.TypeIs v T∧wpAny (model X.prog X.w) X.A (getItem v (.ref sl)) (EP X pins σ Q) X.xe s
theorem SlR.or {r r' : V → Option Int → Option Int → Hp → VK → Prop} (h : SlR X r) (h' : SlR X r') : SlR X (fun x lo hi H Q => r x lo hi H Q ∨ r' x lo hi H Q) := by
 intro pins s σ H x v vl vu lo hi sl Q I rx hs pl pu q
 rcases q with q | q
 ·exact h pins s σ H x v vl vu lo hi sl Q I rx hs pl pu q
 ·exact h' pins s σ H x v vl vu lo hi sl Q I rx hs pl pu q
def tSl (r : V → Option Int → Option Int → Hp → VK → Prop) (te : TE) (tl th : TO) : TE := fun σ H Q => te σ H fun x H1 => tl σ H1 fun l H2 => th σ H2 fun u H3 => r x l u H3 Q
theorem qal {r : V → Option Int → Option Int → Hp → VK → Prop} (hr : SlR X r) (he : PE X e te) (hl : PO X lo tl) (hu : PO X hi th) : PE X (.Subscript e (.Slice lo hi none p2) pos) (tSl r te tl th) := by
 intro pins s σ H Q I h
 refine Subscript_ (thn (he pins s σ H _ I h) fun v s1 ⟨x,H1,I1,r1,q1⟩ => ?_)
 refine wpAny_Slice (thn (hl pins s1 σ H1 _ I1 q1) fun vl s2 ⟨l,H2,I2,pl,q2⟩ => thn (hu pins s2 σ H2 _ I2 q2) fun vu s3 ⟨u,H3,I3,pu,q3⟩ => ?_)
 rw [evalPart_none]
 refine wpAny_pure ?_
 have I4 : Inv X pins σ H3 { s3 with heap := s3.heap.push { cls := .type "slice",data := .fields #[vl,vu,.none] } } := I3.kept (t' := s3.toks) fun b ob q => Heap.get?_push_of_some _ q
 obtain ⟨T,id,hT,ht,hg⟩ := hr pins { s3 with heap := s3.heap.push { cls := .type "slice",data := .fields #[vl,vu,.none] } } σ H3 x v vl vu l u s3.heap.objs.size Q I4 r1 (Heap.IsSliceOf.new ..) pl pu q3
 show wpAny (model X.prog X.w) X.A (subscriptTail e (.Slice lo hi none p2) v (.ref s3.heap.objs.size)) (EP X pins σ Q) X.xe { s3 with heap := s3.heap.push { cls := .type "slice",data := .fields #[vl,vu,.none] } }
 exact tail_any (ops := [.ref s3.heap.objs.size,v]) ht hT hg (by with_unfolding_all rfl)
def qbZ (xs : List V) (lo hi : Option Int) : List V := (xs.drop (HT.sIx xs.length 0 lo)).take (HT.sIx xs.length xs.length hi - HT.sIx xs.length 0 lo)
theorem D9 (xs : List V) (lo hi : Option Int) : (qbZ xs lo hi).length ≤ xs.length := by
 unfold qbZ
 rw [List.length_take,List.length_drop]
 omega
def qjq (K : PySem.W.Frag) : V → Option Int → Option Int → Hp → VK → Prop := fun x lo hi H Q => ∃ a xs,x = .ref a∧SqT K H a xs ∧
 ¬ (HT.sIx xs.length 0 lo = 0∧HT.sIx xs.length xs.length hi = xs.length)∧∀ p,H p = none → Q (.ref p) (upd H p (.tup (qbZ xs lo hi)))
theorem qgk : SlR X (qjq X.K) := by
 intro pins s σ H x v vl vu lo hi sl Q I rx hs pl pu h
 obtain ⟨a,xs,rfl,hx,hw,q⟩ := h
 cases rx
 obtain ⟨its,r,ht,hz⟩ := I.tuple hx
 have hlen : its.toArray.size = xs.length := by rw [List.size_toArray];exact r.length.symm
 refine ⟨"tuple",_,PyProof.Rows.slot_tuple_getitem.lookup,ht.typeIs,?_⟩
 refine HT.U6 ht hs pl pu (by rw [hlen];exact hw) ?_ (by rw [hlen];exact hz)
 rw [hlen]
 refine ⟨.ref s.heap.objs.size,_,I.laid (t' := s.toks) (o := .tup (qbZ xs lo hi)) (fun b ob q => Heap.get?_push_of_some _ q) (Nat.le_refl _) ?_,rfl,q _ (I.hok.fresh (Nat.le_refl _))⟩
 exact ⟨Nat.le_trans (D9 xs lo hi) hz,_,(r.drop (HT.sIx xs.length 0 lo)).take (HT.sIx xs.length xs.length hi - HT.sIx xs.length 0 lo),IsTup.new _ _⟩
def qfG (K : PySem.W.Frag) : R2 := fun x y H Q => ∃ a b xs ys,x = .ref a∧y = .ref b∧SqT K H a xs∧SqT K H b ys∧xs ≠ []∧xs.length + ys.length ≤ sizeLine ∧
 (ys = [] → Q (.ref a) H)∧(ys ≠ [] → ∀ p,H p = none → Q (.ref p) (upd H p (.tup (xs ++ ys))))
theorem jh.nil_iff {xs : List V} {us : List Value} (r : jh xs us) : us = [] ↔ xs = [] := by
 cases r with
 | nil => simp
 | cons _ _ => simp
theorem qcT : OpR X (binaryOp .Add) (qfG X.K) := by
 intro pins s σ H x y v u Q I rx ry h
 obtain ⟨a,b,xs,ys,rfl,rfl,ha,hb,hx,hz,q1,q2⟩ := h
 cases rx
 cases ry
 obtain ⟨its,r1,p1,_⟩ := I.tuple ha
 obtain ⟨its2,r2,p2,_⟩ := I.tuple hb
 refine HT.qcS p1 p2 (fun z => hx (r1.nil_iff.mp z)) (fun z => ⟨.ref a,H,I,rfl,q1 (r2.nil_iff.mp z)⟩) (fun z => ?_) (by rw [← r1.length,← r2.length];exact hz)
 refine ⟨.ref s.heap.objs.size,_,I.laid (t' := s.toks) (o := .tup (xs ++ ys)) (fun b ob q => Heap.get?_push_of_some _ q) (Nat.le_refl _) ?_,rfl,q2 (fun w => z (r2.nil_iff.mpr w)) _ (I.hok.fresh (Nat.le_refl _))⟩
 exact ⟨by rw [List.length_append];exact hz,_,r1.append r2,IsTup.new _ _⟩
end
end L2
namespace L2
open PySem PySem.Spec PyProof.Rows
def ixN (n : Nat) (i : Int) : Option Nat := if 0 ≤ i then (if i < n then some i.toNat else none) else if -(n : Int) ≤ i then some (i + n).toNat else none
def atI {α : Type} (xs : List α) (i : Int) : Option α := (ixN xs.length i).bind fun j => xs[j]?
theorem NV {n : Nat} {i : Int} {j : Nat} (h : ixN n i = some j) : seqIndex? i n = some j∧j < n∧-(n : Int) ≤ i∧i < n := by
 unfold ixN at h
 by_cases h0 : 0 ≤ i
 ·rw [if_pos h0] at h
  by_cases h1 : i < n
  ·rw [if_pos h1] at h
   have e : i.toNat = j := Option.some.inj h
   exact ⟨by rw [seqIndex_of h0 h1,e],by omega,by omega,h1⟩
  ·rw [if_neg h1] at h;cases h
 ·rw [if_neg h0] at h
  by_cases h1 : -(n : Int) ≤ i
  ·rw [if_pos h1] at h
   have e : (i + n).toNat = j := Option.some.inj h
   exact ⟨by rw [seqIndex_neg (by omega) h1,e],by omega,h1,by omega⟩
  ·rw [if_neg h1] at h;cases h
theorem TC {α : Type} {xs : List α} {i : Int} {v : α} (h : atI xs i = some v) : ∃ j,seqIndex? i xs.length = some j∧xs[j]? = some v∧j < xs.length∧-(xs.length : Int) ≤ i∧i < xs.length := by
 unfold atI at h
 cases e : ixN xs.length i with
 | none => rw [e] at h;cases h
 | some j =>
  rw [e] at h
  obtain ⟨h1,h2,h3,h4⟩ := NV e
  exact ⟨j,h1,h,h2,h3,h4⟩
def EF (b : Expr) : Prop := ∀ o i,subscripted b false o i = operate [o,i] (getItem o i)
def IxR (X : Cx) (r : R2) : Prop :=
 ∀ (value slice : Expr) (pins : List (Addr × Obj)) (s : Shared) (σ : St) (H : Hp) (x y : V) (v u : Value) (Q : VK),Inv X pins σ H s → jx x v → jx y u → r x y H Q →
  subscripted slice false v u = operate [v,u] (getItem v u) → wpAny (model X.prog X.w) X.A (subscriptTail value slice v u) (EP X pins σ Q) X.xe s
def MtR (X : Cx) (id : String) (r : V → List V → Hp → VK → Prop) : Prop :=
 ∀ (pins : List (Addr × Obj)) (s : Shared) (σ : St) (H : Hp) (x : V) (xs : List V) (v : Value) (us : List Value) (Q : VK),Inv X pins σ H s → jx x v → jh xs us → r x xs H Q →
  wpAny (model X.prog X.w) X.A (call (.builtin id) (v :: us)) (EP X pins σ Q) X.xe s
section
variable {X : Cx} {a b : Expr} {ta tb : TE} {pos : Pos}
theorem IxR.or {r r' : R2} (h : IxR X r) (h' : IxR X r') : IxR X (fun x y H Q => r x y H Q ∨ r' x y H Q) := by
 intro value slice pins s σ H x y v u Q I rx ry q hs
 rcases q with q | q
 ·exact h value slice pins s σ H x y v u Q I rx ry q hs
 ·exact h' value slice pins s σ H x y v u Q I rx ry q hs
theorem qfb {r : R2} (hr : IxR X r) (ha : PE X a ta) (hb : PE X b tb) (hs : EF b) : PE X (.Subscript a b pos) (tOp r ta tb) := by
 intro pins s σ H Q I h
 exact Subscript_ (qhB ha hb I h fun v u s2 x y H2 I2 rx ry q => hr a b pins s2 σ H2 x y v u Q I2 rx ry q (hs _ _))
def qiF (K : PySem.W.Frag) : R2 := fun x y H Q => ∃ p xs i v,x = .ref p∧y = .int i∧SqL K H p xs∧atI xs i = some v∧Q v H
def qiH (K : PySem.W.Frag) : R2 := fun x y H Q => ∃ p xs i v,x = .ref p∧y = .int i∧SqT K H p xs∧atI xs i = some v∧Q v H
def qiN : R2 := fun x y H Q => ∃ z i c,x = .str z∧y = .int i∧z.length ≤ sizeLine∧atI z.cps.toList i = some c∧Q (.str ⟨#[c]⟩) H
theorem qdF : IxR X (qiF X.K) := by
 intro value slice pins s σ H x y v u Q I rx ry h hs
 obtain ⟨p,xs,i,z,rfl,rfl,hq,he,q⟩ := h
 cases rx
 obtain ⟨t,rfl⟩ := ry
 obtain ⟨its,r,pl,hz⟩ := I.list hq
 obtain ⟨j,h1,h2,h3,h4,h5⟩ := TC he
 obtain ⟨w,ew,rw'⟩ := r.get h2
 have hl := r.length
 have hn := RR
 have fin : EP X pins σ Q w s := ⟨z,H,I,rw',q⟩
 by_cases h0 : 0 ≤ i
 ·have hj : i.toNat = j := by
   rw [seqIndex_of h0 h5] at h1
   exact Option.some.inj h1
  exact item_listR pl.isList h0 (by omega) (by rw [hj];simpa using ew) fin hs
 ·have hj : (i + (its.toArray.size : Int)).toNat = j := by
   rw [seqIndex_neg (by omega) h4] at h1
   rw [List.size_toArray,← hl]
   exact Option.some.inj h1
  exact subscriptTail_builtinR (x := w) pl.isList.typeIs slot_list_getitem.lookup
   (wpAny_getItem_list_neg (Q := fun r s' => r = w∧EP X pins σ Q r s') pl.isList (by omega) (by rw [List.size_toArray] <;> omega) (by omega) (by rw [hj];simpa using ew) ⟨rfl,fin⟩) hs
theorem qe5 : IxR X (qiH X.K) := by
 intro value slice pins s σ H x y v u Q I rx ry h hs
 obtain ⟨p,xs,i,z,rfl,rfl,hq,he,q⟩ := h
 cases rx
 obtain ⟨t,rfl⟩ := ry
 obtain ⟨its,r,pl,hz⟩ := I.tuple hq
 obtain ⟨j,h1,h2,h3,h4,h5⟩ := TC he
 obtain ⟨w,ew,rw'⟩ := r.get h2
 have hl := r.length
 have hn := RR
 have fin : EP X pins σ Q w s := ⟨z,H,I,rw',q⟩
 exact subscriptTail_builtinR (x := w) pl.typeIs slot_tuple_getitem.lookup
  (getItem_tuple (j := j) (Q := fun r s' => r = w∧EP X pins σ Q r s') pl (by omega) (by omega) (by rw [List.size_toArray,← hl];exact h1) (by simpa using ew) ⟨rfl,fin⟩) hs
theorem qea : IxR X qiN := by
 intro value slice pins s σ H x y v u Q I rx ry h hs
 obtain ⟨z,i,c,rfl,rfl,hz,he,q⟩ := h
 obtain ⟨t,rfl⟩ := rx
 obtain ⟨t',rfl⟩ := ry
 obtain ⟨j,h1,h2,h3,h4,h5⟩ := TC he
 have hl : z.cps.toList.length = z.length := by simp [Str.length]
 rw [hl] at h1 h4 h5
 have hn := RR
 exact tail_any (typeIs_str s z t) slot_str_getitem.lookup (getItem_str (c := c) (by
  have e1 : decide (i < -(2 ^ 63 : Int)) = false := decide_eq_false (by omega)
  have e2 : decide (i ≥ 2 ^ 63) = false := decide_eq_false (by omega)
  rw [e1,e2,Bool.or_false]) (by rw [h1];simpa using h2) ⟨.str ⟨#[c]⟩,H,I.tok _,⟨_,rfl⟩,q⟩) hs
def rIx (K : PySem.W.Frag) : R2 := fun x y H Q => qiF K x y H Q ∨ qiH K x y H Q ∨ qiN x y H Q
theorem XH : IxR X (rIx X.K) := qdF.or (qe5.or qea)
theorem LP (its : List Value) (n j : Nat) (u : Value) : Obj.mapSeq (·.setIfInBounds j u) { cls := .type "list",data := .seq its.toArray n } = { cls := .type "list",data := .seq (its.set j u).toArray n } := by
 simp [Obj.mapSeq]
theorem Inv.lst {pins : List (Addr × Obj)} {σ : St} {H : Hp} {s : Shared} {p : Addr} {xs : List V} (I : Inv X pins σ H s) (h : H p = some (.lst xs)) :
  ∃ (its : List Value) (n : Nat),jh xs its∧s.heap.get? p = some { cls := .type "list",data := .seq its.toArray n }∧xs.length ≤ sizeLine := by
 obtain ⟨z,its,n,r,e⟩ := I.hok p _ h
 exact ⟨its,n,r,e,z⟩
theorem Inv.lstUpd {pins : List (Addr × Obj)} {σ : St} {H : Hp} {s : Shared} {p : Addr} {xs ys : List V} {its its' : List Value} {n n' : Nat} {f : Obj → Obj} (I : Inv X pins σ H s) (h : H p = some (.lst xs))
  (ho : s.heap.get? p = some { cls := .type "list",data := .seq its.toArray n }) (hf : f { cls := .type "list",data := .seq its.toArray n } = { cls := .type "list",data := .seq its'.toArray n' }) (r : jh ys its') (hz : ys.length ≤ sizeLine) (t : Nat) :
  Inv X pins σ (upd H p (.lst ys)) { s with heap := s.heap.update p f,toks := t } := by
 have e : (s.heap.update p f).get? p = some { cls := .type "list",data := .seq its'.toArray n' } := by
  rw [Heap.get?_update_self f ho (by rw [hf] <;> rfl),hf]
 refine I.write (x := p) (e := p) (by rw [h];trivial) (.inl rfl) (fun b u hb q => (Heap.get?_update_other _ _ (Ne.symm hb)).trans q) ⟨_,e⟩ ?_
 exact ⟨hz,its',n',r,e⟩
def qig : V → V → V → Hp → (Hp → Prop) → Prop := fun o i v H Q => ∃ p xs k j,o = .ref p∧i = .int k∧H p = some (.lst xs)∧ixN xs.length k = some j∧Q (upd H p (.lst (xs.set j v)))
theorem qaR : qiS X qig := by
 intro pins s σ H o i v ov iv u Q I ro ri rv h
 obtain ⟨p,xs,k,j,rfl,rfl,hp,hj,q⟩ := h
 cases ro
 obtain ⟨t,rfl⟩ := ri
 obtain ⟨its,n,r,ho,hz⟩ := I.lst hp
 obtain ⟨h1,h2,h3,h4⟩ := NV hj
 have hl := r.length
 have hn := RR
 have I' : Inv X pins σ (upd H p (.lst (xs.set j v))) { s with heap := s.heap.update p (Obj.mapSeq (·.setIfInBounds j u)) } :=
  I.lstUpd hp ho (LP its n j u) (r.set rv j) (by rw [List.length_set];exact hz) s.toks
 by_cases h0 : 0 ≤ k
 ·have hk : k.toNat = j := by
   rw [seqIndex_of h0 h4] at h1
   exact Option.some.inj h1
  exact PySem.W.ki_setAt ho h0 (by omega) (by rw [List.size_toArray,← hl];exact h4) (by rw [hk];exact ⟨_,I',q⟩)
 ·have hk : (k + (its.toArray.size : Int)).toNat = j := by
   rw [seqIndex_neg (by omega) h3] at h1
   rw [List.size_toArray,← hl]
   exact Option.some.inj h1
  exact PySem.W.ki_setBack ho (by omega) (by rw [List.size_toArray,← hl];exact h3) (by omega) (by rw [hk];exact ⟨_,I',q⟩)
theorem RU (lo hi : Option Int) (n : Nat) : (sliceBounds lo hi none n).1 = ((HT.sIx n 0 lo : Nat) : Int)∧(sliceBounds lo hi none n).2.1 = ((HT.sIx n n hi : Nat) : Int)∧(sliceBounds lo hi none n).2.2 = 1 := by
 refine ⟨?_,?_,rfl⟩
 ·cases lo with
  | none => simp [sliceBounds,HT.sIx]
  | some i =>
   simp only [sliceBounds,HT.sIx,Option.getD_none,show (1 : Int) > 0 by decide,if_true]
   by_cases h : i < 0
   ·simp only [h,if_true] <;> omega
   ·simp only [h,if_false] <;> omega
 ·cases hi with
  | none => simp [sliceBounds,HT.sIx]
  | some i =>
   simp only [sliceBounds,HT.sIx,Option.getD_none,show (1 : Int) > 0 by decide,if_true]
   by_cases h : i < 0
   ·simp only [h,if_true] <;> omega
   ·simp only [h,if_false] <;> omega
theorem CN (its : List Value) (lo hi : Option Int) : slicePick its.toArray lo hi none = ((its.drop (HT.sIx its.length 0 lo)).take (HT.sIx its.length its.length hi - HT.sIx its.length 0 lo)).toArray := by
 obtain ⟨h1,h2,h3⟩ := RU lo hi its.toArray.size
 unfold slicePick
 rw [h1,h2,h3]
 simp only [sliceRange_one,pick_run,List.size_toArray] <;> rfl
def qi7 (K : PySem.W.Frag) : V → Option Int → Option Int → Hp → VK → Prop := fun x lo hi H Q => ∃ a xs,x = .ref a∧SqL K H a xs∧∀ p,H p = none → Q (.ref p) (upd H p (.lst (qbZ xs lo hi)))
theorem qdD : SlR X (qi7 X.K) := by
 intro pins s σ H x v vl vu lo hi sl Q I rx hs pl pu h
 obtain ⟨a,xs,rfl,hx,q⟩ := h
 cases rx
 obtain ⟨its,r,ht,hz⟩ := I.list hx
 have hlen := r.length
 refine ⟨"list",_,slot_list_getitem.lookup,ht.isList.typeIs,?_⟩
 refine wpAny_getItem_list_slice ht.isList hs pl pu .none (by simp) ?_ (by rw [List.size_toArray] <;> omega)
 rw [CN,← hlen]
 refine ⟨.ref s.heap.objs.size,_,I.laid (t' := s.toks) (o := .lst (qbZ xs lo hi)) (fun b ob q => Heap.get?_push_of_some _ q) (Nat.le_refl _) ?_,rfl,q _ (I.hok.fresh (Nat.le_refl _))⟩
 exact ⟨Nat.le_trans (D9 xs lo hi) hz,_,0,(r.drop (HT.sIx xs.length 0 lo)).take (HT.sIx xs.length xs.length hi - HT.sIx xs.length 0 lo),Heap.get?_push_size _ rfl⟩
def XC : V → Bool
 | .non => true
 | .bl _ => true
 | .int _ => true
 | .str _ => true
 | _ => false
def eqV : V → V → Bool
 | .non,.non => true
 | .bl a,.bl b => a == b
 | .bl a,.int b => (if a then 1 else 0) == b
 | .int a,.bl b => a == (if b then 1 else 0)
 | .int a,.int b => a == b
 | .str a,.str b => a == b
 | _,_ => false
theorem qgo {A : Around} {s : Shared} {y x : V} {u v : Value} (ry : jx y u) (rx : jx x v) (fy : XC y = true) (fx : XC x = true) : SeqAt.EqAt A s u v (eqV y x) := by
 cases y with
 | non =>
  cases ry
  cases x with
  | non => cases rx;exact SeqAt.EqAt.same _
  | bl b => cases rx;exact SeqAt.EqAt.none_bool b
  | int b => obtain ⟨t,rfl⟩ := rx;exact SeqAt.EqAt.none_int b t
  | str b => obtain ⟨t,rfl⟩ := rx;exact SeqAt.EqAt.none_str b t
  | _ => exact absurd (show false = true from fx) Bool.false_ne_true
 | bl a =>
  cases ry
  cases x with
  | non => cases rx;exact SeqAt.EqAt.bool_none a
  | bl b => cases rx;exact SeqAt.EqAt.bool_bool a b
  | int b => obtain ⟨t,rfl⟩ := rx;exact SeqAt.EqAt.bool_int a b t
  | str b => obtain ⟨t,rfl⟩ := rx;exact SeqAt.EqAt.bool_str a b t
  | _ => exact absurd (show false = true from fx) Bool.false_ne_true
 | int a =>
  obtain ⟨t',rfl⟩ := ry
  cases x with
  | non => cases rx;exact SeqAt.EqAt.int_none a t'
  | bl b => cases rx;exact SeqAt.EqAt.int_bool a t' b
  | int b => obtain ⟨t,rfl⟩ := rx;exact SeqAt.EqAt.int_int a t' b t
  | str b => obtain ⟨t,rfl⟩ := rx;exact SeqAt.EqAt.int_str a t' b t
  | _ => exact absurd (show false = true from fx) Bool.false_ne_true
 | str a =>
  obtain ⟨t',rfl⟩ := ry
  cases x with
  | non => cases rx;exact SeqAt.EqAt.str_none a t'
  | bl b => cases rx;exact SeqAt.EqAt.str_bool a t' b
  | int b => obtain ⟨t,rfl⟩ := rx;exact SeqAt.EqAt.str_int a t' b t
  | str b => obtain ⟨t,rfl⟩ := rx;exact SeqAt.EqAt.str_str a t' b t
  | _ => exact absurd (show false = true from fx) Bool.false_ne_true
 | _ => exact absurd (show false = true from fy) Bool.false_ne_true
def eqU (x : V) (u : Value) : Bool := match u with
 | .none => eqV .non x
 | .bool b => eqV (.bl b) x
 | .int i _ => eqV (.int i) x
 | .str z _ => eqV (.str z) x
 | _ => false
theorem qba {x y : V} {u : Value} (r : jx y u) (f : XC y = true) : eqU x u = eqV y x := by
 cases y with
 | non => cases r;rfl
 | bl b => cases r;rfl
 | int i => obtain ⟨t,rfl⟩ := r;rfl
 | str z => obtain ⟨t,rfl⟩ := r;rfl
 | _ => exact absurd (show false = true from f) Bool.false_ne_true
theorem T0 {x : V} : ∀ {xs : List V} {us : List Value},jh xs us → xs.all XC = true → us.any (eqU x) = xs.any fun y => eqV y x
 | _,_,.nil,_ => rfl
 | y :: xs,u :: us,.cons r t,f => by
  rw [List.all_cons,Bool.and_eq_true] at f
  rw [List.any_cons,List.any_cons,qba r f.1,T0 t f.2]
theorem CI {A : Around} {s : Shared} {x : V} {v : Value} (rx : jx x v) (fx : XC x = true) : ∀ {xs : List V} {us : List Value},jh xs us → xs.all XC = true → ∀ u ∈ us,SeqAt.EqAt A s u v (eqU x u)
 | _,_,.nil,_ => fun u hu => by cases hu
 | y :: xs,u :: us,.cons r t,f => fun u' hu => by
  rw [List.all_cons,Bool.and_eq_true] at f
  rcases List.mem_cons.mp hu with rfl | hu
  ·rw [qba r f.1];exact qgo r rx f.1 fx
  ·exact CI rx fx t f.2 u' hu
def inV (x : V) (xs : List V) : Bool := xs.any fun y => eqV y x
def rIn (K : PySem.W.Frag) (neg : Bool) : R2 := fun x y H Q => ∃ p xs,y = .ref p∧(SqL K H p xs ∨ SqT K H p xs)∧XC x = true∧xs.all XC = true∧Q (.bl (if neg then !inV x xs else inV x xs)) H
theorem N6 : OpR X (compareOp .In) (rIn X.K false) := by
 intro pins s σ H x y v u Q I rx ry h
 obtain ⟨p,xs,rfl,hq,fx,fs,q⟩ := h
 cases ry
 rcases hq with hq | hq
 ·obtain ⟨its,r,pl,hz⟩ := I.list hq
  refine SeqAt.in_listAt (eqU x) pl.isList (fun w hw => CI rx fx r fs w (by simpa using hw)) ⟨.bl _,H,I,rfl,?_⟩
  rw [show its.toArray.any (eqU x) = its.any (eqU x) by simp,T0 r fs]
  exact q
 ·obtain ⟨its,r,pl,hz⟩ := I.tuple hq
  refine SeqAt.in_tupleAt (eqU x) pl (fun w hw => CI rx fx r fs w (by simpa using hw)) ⟨.bl _,H,I,rfl,?_⟩
  rw [show its.toArray.any (eqU x) = its.any (eqU x) by simp,T0 r fs]
  exact q
theorem ER : ZI X (.type "list") (fun xs H Q => ∃ p ys,xs = [.ref p]∧(SqL X.K H p ys ∨ SqT X.K H p ys)∧∀ l,H l = none → Q (.ref l) (upd H l (.lst ys))) := by
 intro pins s σ H xs us Q I r h
 obtain ⟨p,ys,rfl,hq,q⟩ := h
 obtain ⟨u,rfl,rx⟩ := EJ r
 cases rx
 have fin : ∀ (its : List Value),jh ys its → ys.length ≤ sizeLine → ∀ (h' : Heap) (c' : Nat),(∀ b o',s.heap.get? b = some o' → h'.get? b = some o') →
   h'.get? s.heap.objs.size = some { cls := .type "list",dict := none,data := .seq its.toArray c',slots := #[] } → EP X pins σ Q (.ref s.heap.objs.size) { s with heap := h' } := fun its r' hz h' c' kp e =>
  ⟨.ref s.heap.objs.size,_,I.laid (t' := s.toks) kp (Nat.le_refl _) (show YY X.prog X.w _ h' _ (.lst ys) from ⟨hz,its,c',r',e⟩),rfl,q _ (I.hok.fresh (Nat.le_refl _))⟩
 rcases hq with hq | hq
 ·obtain ⟨its,r',pl,hz⟩ := I.list hq
  have hlen := r'.length
  obtain ⟨o,ho,hc,n,hd⟩ := pl.isList
  exact call_list_seq p (.inl rfl) ho hc hd (fun h' c' kp e => fin its r' hz h' c' kp e) (by simp only [List.size_toArray] <;> omega)
 ·obtain ⟨its,r',pl,hz⟩ := I.tuple hq
  have hlen := r'.length
  obtain ⟨o,ho,hc,n,hd⟩ := pl
  exact call_list_seq p (.inr rfl) ho hc hd (fun h' c' kp e => fin its r' hz h' c' kp e) (by simp only [List.size_toArray] <;> omega)
theorem zt : ZI X (.type "tuple") (fun xs H Q => ∃ p ys,xs = [.ref p]∧((SqL X.K H p ys∧∀ l,H l = none → Q (.ref l) (upd H l (.tup ys))) ∨ (SqT X.K H p ys∧Q (.ref p) H))) := by
 intro pins s σ H xs us Q I r h
 obtain ⟨p,ys,rfl,h⟩ := h
 obtain ⟨u,rfl,rx⟩ := EJ r
 cases rx
 rcases h with ⟨hq,q⟩ | ⟨hq,q⟩
 ·obtain ⟨its,r',pl,hz⟩ := I.list hq
  have hlen := r'.length
  refine call_tuple_list pl.isList (fun h' kp => ?_) (by simp only [List.size_toArray] <;> omega)
  have I1 : Inv X pins σ H { s with heap := h' } := I.kept (t' := s.toks) kp
  have I2 : Inv X pins σ (upd H h'.objs.size (.tup ys)) { s with heap := h'.push { cls := .type "tuple",data := .seq its.toArray } } :=
   I1.laid (t' := s.toks) (fun b o e => Heap.get?_push_of_some _ e) (Nat.le_refl _) (show YY X.prog X.w _ _ _ (.tup ys) from ⟨hz,its,r',IsTup.new _ _⟩)
  exact ⟨.ref h'.objs.size,_,I2,rfl,q _ (I1.hok.fresh (Nat.le_refl _))⟩
 ·obtain ⟨its,r',pl,hz⟩ := I.tuple hq
  exact call_tuple_same pl ⟨.ref p,H,I,rfl,q⟩
def tyV (K : PySem.W.Frag) (T : String) (x : V) (H : Hp) : Prop := match x with
 | .str _ => T = "str"
 | .int _ => T = "int"
 | .ref p => (T = "list"∧∃ xs,SqL K H p xs) ∨ (T = "tuple"∧∃ o,K.lookup p = some o∧o.cls = .type "tuple"∧o.dict = none) ∨
   (T = "dict"∧((∃ kvs,H p = some (.dK kvs)) ∨ ∃ kvs,H p = some (.dT kvs))) ∨ (T = "set"∧∃ S n,H p = some (.set S n))
 | _ => False
theorem qd9 {pins : List (Addr × Obj)} {σ : St} {H : Hp} {s : Shared} {T : String} {x : V} {v : Value} (I : Inv X pins σ H s) (r : jx x v) (ty : tyV X.K T x H) :
  s.TypeIs v T∧∀ a,v = .ref a → ∃ ob,s.heap.get? a = some ob∧ob.dict = none := by
 cases x with
 | str z =>
  obtain ⟨t,rfl⟩ := r
  cases (show T = "str" from ty)
  exact ⟨typeIs_str s z t,fun _ e => nomatch e⟩
 | int i =>
  obtain ⟨t,rfl⟩ := r
  cases (show T = "int" from ty)
  exact ⟨typeIs_int s i t,fun _ e => nomatch e⟩
 | ref p =>
  cases r
  rcases ty with ⟨rfl,xs,hq⟩ | ⟨rfl,o,hk,hc,hd⟩ | ⟨rfl,hk⟩ | ⟨rfl,S,n,hk⟩
  ·obtain ⟨its,_,pl,_⟩ := I.list hq
   refine ⟨pl.isList.typeIs,fun a e => ?_⟩
   cases e
   obtain ⟨o,n,e,c,hd,_⟩ := pl
   exact ⟨o,e,hd⟩
  ·refine ⟨⟨o,I.kIn p o hk,hc⟩,fun a e => ?_⟩
   cases e
   exact ⟨o,I.kIn _ o hk,hd⟩
  ·have z : ∃ o,s.heap.get? p = some o∧o.ExactDict := by
    rcases hk with ⟨kvs,hk⟩ | ⟨kvs,hk⟩
    ·obtain ⟨_,_,_,_,o,_,_,e,ex,_⟩ := I.hok p _ hk
     exact ⟨o,e,ex⟩
    ·obtain ⟨_,_,_,_,o,_,_,e,ex,_⟩ := I.hok p _ hk
     exact ⟨o,e,ex⟩
   obtain ⟨o,e,ex⟩ := z
   refine ⟨⟨o,e,ex.1⟩,fun a e2 => ?_⟩
   cases e2
   exact ⟨o,e,ex.2.1⟩
  ·obtain ⟨o,_,_,_,e,ex,_⟩ := I.hok p _ hk
   refine ⟨⟨o,e,ex.1⟩,fun a e2 => ?_⟩
   cases e2
   exact ⟨o,e,ex.2.1⟩
 | _ => exact False.elim ty
def tBM (K : PySem.W.Frag) (T : String) (r : V → List V → Hp → VK → Prop) (to : TE) (t : TA) : TE := fun σ H Q => to σ H fun x H1 => tyV K T x H1∧t σ H1 fun xs H2 => r x xs H2 Q
variable {o e : Expr} {es : List Expr} {to : TE} {t : TA} {name : Str} {apos cpos : Pos} {T id : String} {r : V → List V → Hp → VK → Prop}
theorem qhi (pa : PlainAttrs T) (slot : Slot T name id) (hty : typeOf (.builtin id) = pure (.type "method_descriptor")) (hm : MtR X id r) (ho : PE X o to) (ha : PA X (e :: es) t)
  (hbase : attributeBase o name X.env (eval o X.env) = eval o X.env := by rfl)
  (hfew : ((backTo cpos (starEach (e :: es) X.env)).all (fun x => !x.1) && (backToKw cpos (keywordEach [] X.env)).all (fun x => x.1.isSome)
   && decide ((e :: es).length + ([] : List Keyword).length + (if ([] : List Keyword).isEmpty then 0 else 1) < 30)) = true := by rfl)
  (hline : (apos.endLine == cpos.line) = true := by rfl) (hs : starEach (e :: es) X.env = (false,eval e X.env) :: starEach es X.env := by rfl) (hplain : (backTo cpos (starEach es X.env)).any (·.1) = false := by rfl) :
  PE X (.Call (.Attribute o name apos) (e :: es) [] cpos) (tBM X.K T r to t) := by
 intro pins s σ H Q I h
 refine wpAny_Call_method_late hbase hfew hline rfl (thn (ho pins s σ H _ I h) fun v s1 ⟨x,H1,I1,r1,ty,q1⟩ => ?_)
 obtain ⟨h1,h2⟩ := qd9 I1 r1 ty
 refine ⟨T,id,pa,slot,hty,h1,h2,?_⟩
 have hA := ha cpos pins s1 σ H1 _ I1 q1
 rw [hs] at hA ⊢
 refine Calls.callWith_builtin (by show (false || (backTo cpos (starEach es X.env)).any (·.1)) = false;rw [hplain] <;> rfl) (Calls.evalArgs_plain ?_)
 exact thn hA fun us s2 ⟨vs,H2,I2,r2,q2⟩ => hm pins s2 σ H2 x vs v us Q I2 r1 r2 q2
end
end L2
namespace L2
open PySem PySem.Spec PyProof.Rows
def MtM (X : Cx) (id : String) (r : V → List V → Hp → VK → Prop) : Prop :=
 ∀ (pins : List (Addr × Obj)) (s : Shared) (σ : St) (H : Hp) (x : V) (xs : List V) (v : Value) (us : List Value) (Q : VK),Inv X pins σ H s → jx x v → jh xs us → r x xs H Q →
  wpAny (model X.prog X.w) X.A (call (.builtin id) (v :: us)) (EP X pins σ Q) X.xe s
theorem jh.one : ∀ {x : V} {us : List Value},jh [x] us → ∃ u,us = [u]∧jx x u
 | _,_,.cons r .nil => ⟨_,rfl,r⟩
theorem jh.reverse {xs : List V} {us : List Value} (h : jh xs us) : jh xs.reverse us.reverse := by
 induction h with
 | nil => exact .nil
 | cons r t ih => rw [List.reverse_cons,List.reverse_cons];exact jh.append ih (.cons r .nil)
section
variable {X : Cx} {pins : List (Addr × Obj)} {σ : St} {H : Hp} {s : Shared} {l b : Addr} {xs ys zs : List V}
theorem Inv.lset {its its' : List Value} {n : Nat} {f : Array Value → Array Value} {t' : Nat} (I : Inv X pins σ H s) (hH : H l = some (.lst xs))
  (e : s.heap.get? l = some { cls := .type "list",data := .seq its.toArray n }) (hf : f its.toArray = its'.toArray) (hv : jh ys its') (hz : ys.length ≤ sizeLine) :
  Inv X pins σ (upd H l (.lst ys)) { s with heap := s.heap.update l (Obj.mapSeq f),toks := t' } := by
 have q := PySem.IsL.update e f
 rw [hf] at q
 refine I.write (x := l) (e := l) (by rw [hH];exact trivial) (.inl rfl) (fun b' u hb hu => (Heap.get?_update_other s.heap (Obj.mapSeq f) (Ne.symm hb)).trans hu) ⟨_,q⟩ ?_
 exact ⟨hz,its',_,hv,q⟩
theorem Inv.lnew {its : List Value} {t' : Nat} (I : Inv X pins σ H s) (hv : jh ys its) (hz : ys.length ≤ sizeLine) :
  Inv X pins σ (upd H s.heap.objs.size (.lst ys)) { s with heap := s.heap.push { cls := .type "list",data := .seq its.toArray },toks := t' } :=
 I.laid (fun _ _ q => Heap.get?_push_of_some _ q) (Nat.le_refl _) ⟨hz,its,0,hv,Heap.get?_push_size _ rfl⟩
theorem Inv.fresh (I : Inv X pins σ H s) : H s.heap.objs.size = none := I.hok.fresh (Nat.le_refl _)
theorem Inv.lstM (I : Inv X pins σ H s) (hH : H l = some (.lst xs)) : xs.length ≤ sizeLine∧∃ (its : List Value) (n : Nat),jh xs its∧xs.length = its.length∧s.heap.get? l = some { cls := .type "list",data := .seq its.toArray n } := by
 obtain ⟨z,its,n,r,e⟩ := I.hok l _ hH
 exact ⟨z,its,n,r,r.length,e⟩
theorem qa0 {n : Nat} (h : n ≤ sizeLine) : Builtin.List.listTooLong n = false := by
 unfold Builtin.List.listTooLong
 exact decide_eq_false (by omega)
end
section
variable {X : Cx}
def NP : V → List V → Hp → VK → Prop := fun x vs H Q => ∃ l xs y,x = .ref l∧vs = [y]∧H l = some (.lst xs)∧xs.length < sizeLine∧Q .non (upd H l (.lst (xs ++ [y])))
theorem V7 : MtM X "list.append" NP := by
 intro pins s σ H x vs v us Q I rx rv h
 obtain ⟨l,xs,y,rfl,rfl,hH,hz,q⟩ := h
 cases rx
 obtain ⟨u,rfl,ru⟩ := rv.one
 obtain ⟨z,its,n,r,hl,e⟩ := I.lstM hH
 refine call_meets F.slot_list_append ⟨_,e,rfl⟩ F.entry_list_append (F.args_list_append_2 _ _) (PySem.list_append l its.toArray n u (by rw [List.size_toArray];omega)) ⟨e,?_⟩
 refine ⟨.non,_,I.lset (its' := its ++ [u]) hH e (by simp) (r.append (.cons ru .nil)) ?_,rfl,q⟩
 rw [List.length_append,List.length_singleton]
 omega
def NZ : V → List V → Hp → VK → Prop := fun x vs H Q => ∃ l b xs zs,x = .ref l∧vs = [.ref b]∧H l = some (.lst xs)∧H b = some (.lst zs)∧xs.length + zs.length ≤ sizeLine∧Q .non (upd H l (.lst (xs ++ zs)))
theorem NA : MtM X "list.extend" NZ := by
 intro pins s σ H x vs v us Q I rx rv h
 obtain ⟨l,b,xs,zs,rfl,rfl,hH,hB,hz,q⟩ := h
 cases rx
 obtain ⟨u,rfl,ru⟩ := rv.one
 cases ru
 obtain ⟨z,its,n,r,hl,e⟩ := I.lstM hH
 obtain ⟨z2,its2,n2,r2,hl2,e2⟩ := I.lstM hB
 have hsz : its.toArray.size + its2.toArray.size ≤ sizeLine := by rw [List.size_toArray,List.size_toArray];omega
 have hlong : ¬ (!its.toArray.isEmpty && Builtin.List.listTooLong (its.toArray.size + its2.toArray.size)) = true := by
  rw [qa0 hsz,Bool.and_false]
  exact Bool.false_ne_true
 refine call_meets F.slot_list_extend ⟨_,e,rfl⟩ F.entry_list_extend (F.args_list_extend_2 _ _)
  (AutoSeq1.list_extend_list_list_0 l its.toArray n b its2.toArray n2 hlong (by rw [List.size_toArray];omega) (by omega)) ⟨e,e2,?_⟩
 refine ⟨.non,_,I.lset (its' := its ++ its2) hH e (by simp) (r.append r2) ?_,rfl,q⟩
 rw [List.length_append]
 omega
def qiG : R2 := fun x y H Q => ∃ l b xs zs,x = .ref l∧y = .ref b∧H l = some (.lst xs)∧H b = some (.lst zs)∧xs.length + zs.length ≤ sizeLine∧∀ p,H p = none → Q (.ref p) (upd H p (.lst (xs ++ zs)))
theorem qe1 : OpR X (binaryOp .Add) qiG := by
 intro pins s σ H x y v u Q I rx ry h
 obtain ⟨l,b,xs,zs,rfl,rfl,hH,hB,hz,q⟩ := h
 cases rx
 cases ry
 obtain ⟨z,its,n,r,hl,e⟩ := I.lstM hH
 obtain ⟨z2,its2,n2,r2,hl2,e2⟩ := I.lstM hB
 refine PySem.P.add_list e e2 ?_ (by rw [List.size_toArray,List.size_toArray];omega)
 have ea : its.toArray ++ its2.toArray = (its ++ its2).toArray := by simp
 rw [ea]
 exact ⟨.ref _,_,I.lnew (t' := s.toks) (r.append r2) (by rw [List.length_append];omega),rfl,q _ I.fresh⟩
end
section
variable {prog : Program} {w : World} {A : Around} {E : Value → Shared → Prop} {s : Shared}
end
section
variable {X : Cx}
end
end L2
namespace Att
open PySem PySem.W PySem.Calls PyProof.Rows
theorem WI {P : Params} {h : Heap} : ∀ (ns : List Int) (vs : List Value),WellAll P h vs (ns.map WData.int) → IntsAre vs ns := by
 intro ns
 induction ns with
 | nil =>
  intro vs w
  rw [List.map_nil] at w
  cases w
  exact .nil
 | cons n ns ih =>
  intro vs w
  rw [List.map_cons] at w
  cases w with
  | cons a b =>
   cases a
   exact .cons _ _ (ih _ b)
theorem NS {l : OpenLaw} {n : Nat} (hn : l.most = some n) {P : Params} {h : Heap} {args : List WData} {vals : List Value}
  (hpre : l.row.toRowW.claim.pre args = true) (hwl : WellAll P h vals args) :
  ∃ a vs ns,vals = [Value.ref a]∧args = [WData.list (ns.map WData.int)]∧h.get? a = some { cls := .type "list",data := .seq vs.toArray }∧IntsAre vs ns∧ns.length ≤ n := by
 have hsh : WShape.hasAll [] args [.list .int] = true := (pre_splitW hpre).1
 have hc : l.pre.holds [] { args := args } = true := (pre_splitW hpre).2
 obtain ⟨d,r,rfl,h1,h2⟩ := hasAllW_cons hsh
 obtain rfl := hasAllW_nil h2
 obtain ⟨xs,rfl,h3⟩ := hasW_list h1
 obtain ⟨ns,rfl⟩ := items_int h3
 have hlen : ns.length ≤ n := by
  unfold OpenLaw.pre at hc
  have h4 : (WTm.not (.lt (.lit (.int (n : Int))) (.len (.arg 0)))).holds [] { args := [.list (ns.map .int)] } = true := by
   have h4 := (holds_andW hc).1
   rw [hn] at h4
   exact h4
  have h5 := condW_of h4 (w_not (w_lt w_lit (w_len_list (w_arg rfl))))
  rw [List.length_map] at h5
  refine Nat.le_of_not_lt fun q => ?_
  have q' : (n : Int) < ((ns.length : Nat) : Int) := by omega
  first
   | (rw [decide_eq_true q'] at h5;exact absurd h5 (by decide))
   | (simp at h5;omega)
 cases hwl with
 | cons w1 w2 =>
  cases w2
  cases w1 with
  | list ho hall => exact ⟨_,_,ns,rfl,rfl,ho,WI ns _ hall,hlen⟩
theorem ND (l : OpenLaw) (args : List WData) : l.row.toRowW.claim.post args (.bool true) args = true :=
 postW_of (r := l.row.toRowW) (X := (true == true))
  (show WShape.has [] (.bool true) .bool = true by first | rfl | decide | simp [WShape.has,WShape.arms,WShape.armsAll])
  (show (WTm.eq .res (.lit (.bool true))).value [] { args := args,res := some (.bool true),after := args } = some (.bool (true == true)) from w_eq_bool (w_res rfl) w_lit) rfl
theorem TJ {l : OpenLaw} {n : Nat} {q : Program} {loose : List Str} {XP : (Str → Option Value) → Heap → Prop} {YP : World → Heap → Prop} {d : DefRec}
  (hn : l.most = some n) (hdf : d.params.defaults = [])
  (call : ∀ (w : World) (s₀ s₁ : Shared) (mg mb : Str → Option Value) (fa : Addr) (o : Obj) (pm cd doc : Value) (a : Addr) (vs : List Value) (ns : List Int),
   Ground q loose [] XP w s₀ mg mb s₁.heap → YP w s₁.heap →
   s₁.heap.get? fa = some o → o.data = .func (docDef d.name d.params d.body d.scope pm cd doc) → s₁.heap.CodeRec cd d.name → mg d.name = some (.ref fa) →
   s₁.heap.get? a = some { cls := .type "list",data := .seq vs.toArray } → IntsAre vs ns → ns.length ≤ n → s₁.gens = #[] →
   codeAny (model l.prog w) callerA (.call (.ref fa) ⟨[.ref a],[]⟩) (fun r s' => r = .ok (.ret (.bool true))∧OldK s₁.heap s'.heap∧s'.os = s₁.os∧AllBare s'.gens) s₁) :
  WalkO q loose XP YP l.row.toRowW d [] (fun f vs => PySem.call f vs) := by
 intro w s₀ s₁ mg mb G Y fa o pm cd doc dV kV ho hd hcd hD hmg hg args vals as hpre hlay hrd hwl hlo
 obtain rfl : dV = .none := Dflts.none hD hdf
 obtain rfl : kV = .none := Dflts.noKw hD
 obtain ⟨a,vs,ns,rfl,rfl,hobj,hints,hlen⟩ := NS hn hpre hwl
 refine enter_call (codeAny_mono (call w s₀ s₁ mg mb fa o pm cd doc a vs ns G Y ho (fd_plain hd) hcd hmg hobj hints hlen hg) fun r s' hq => ?_)
 obtain ⟨rfl,h2,h3,h4⟩ := hq
 exact ⟨.inl ⟨.bool true,.bool true,[],rfl,fun _ => rfl,.bool true,ND l _,fun _ => ⟨List.Pairwise.nil,fun _ hm => (nomatch hm)⟩⟩,h2,h3,h4⟩
section
variable {prog : Program} {w : World} {A : Around} {E : Value → Shared → Prop} {s : Shared} {K : Frag}
end
end Att
namespace L2
open PySem PySem.Spec PyProof.Rows
theorem R0 : ∀ {vs : List Value} {ns : List Int},IntsAre vs ns → jh (ns.map V.int) vs
 | _,_,.nil => .nil
 | _,_,.cons n t h => .cons ⟨t,rfl⟩ (R0 h)
def qgX (H : Hp) : Prop := ∀ b,H b = none ∨ ∃ o xs,H b = some (.frz o (.lst xs))
theorem qaJ {P : Program} {w : World} {K : PySem.W.Frag} {mg mb : Str → Option Value} {CX : CXT} {k : Nat} {fa a : Addr} {fd : FuncData} {x : Str} {sp : Sp} {s₁ : Shared} {vs : List Value} {ns : List Int}
  (KX : K.In s₁.heap) (hns : s₁.heap.Ns mainGlobals mg) (hb : s₁.heap.Ns builtinsNs mb) (hbb : ∀ x : Str,x ≠ "__name__" → mb x = bootBuiltins x) (hlim : s₁.heap.NoLimit) (hg : s₁.gens = #[])
  (ha : s₁.heap.get? a = some { cls := .type "list",data := .seq vs.toArray }) (hi : IntsAre vs ns) (hl : ns.length ≤ sizeLine) (hr : Room k callerA)
  (F : ∀ base : Heap,K.In base → base.Ns mainGlobals mg → FnOk P w K mg base CX k fa fd [x] sp) (hbind : ∀ (s : Shared) (u : Value),BindsTo s fd ⟨[u],[]⟩ [(x,u)])
  (hsp : ∀ H : Hp,qgX H → SqL K H a (ns.map V.int) → sp [.ref a] H (fun v _ => v = .bl true) fun _ _ _ => False)
  (hCX : ∀ H e s',CX [] H s₁ (fun _ _ _ => False) e s' → False) :
  codeAny (model P w) callerA (.call (.ref fa) ⟨[.ref a],[]⟩) (fun r s' => r = .ok (.ret (.bool true))∧OldK s₁.heap s'.heap∧s'.os = s₁.os∧AllBare s'.gens) s₁ := by
 have rv := R0 hi
 have lenV := hi.length
 -- from an abstract heap in which nothing but the script may be tracked
 have core : ∀ H : Hp,qgX H → SqL K H a (ns.map V.int) → HOk P w H s₁.heap → (∀ b,H b ≠ none → b = a) → (H a ≠ none → K.lookup a = none) →
   codeAny (model P w) callerA (.call (.ref fa) ⟨[.ref a],[]⟩) (fun r s' => r = .ok (.ret (.bool true))∧OldK s₁.heap s'.heap∧s'.os = s₁.os∧AllBare s'.gens) s₁ := by
  intro H hO hS hok hA hK
  have base_of : ∀ {b : Addr} {o : Obj},s₁.heap.get? b = some o → H b = none → (qaw s₁.heap H).get? b = some o := fun e n => qaE e n
  have noA : ∀ {b : Addr} {o : Obj} {es : Array DictEntry} {ep : Nat},s₁.heap.get? b = some o → o.data = .dict es ep → H b = none := fun {b o es ep} e d => by
   cases q : H b with
   | none => rfl
   | some u =>
    have e' : b = a := hA b (by rw [q];simp)
    subst e'
    rw [ha] at e;cases e
    have d' : Data.seq vs.toArray _ = Data.dict es ep := d
    cases d'
  have nsK : ∀ {b : Addr} {m : Str → Option Value},s₁.heap.Ns b m → (qaw s₁.heap H).Ns b m := fun {b m} ⟨o,es,ep,e,d,r⟩ => ⟨o,es,ep,base_of e (noA e d),d,r⟩
  have hKb : K.In (qaw s₁.heap H) := fun b o e => base_of (KX b o e) (by
   cases q : H b with
   | none => rfl
   | some u =>
    have e' : b = a := hA b (by rw [q];simp)
    subst e'
    rw [hK (by rw [q];simp)] at e;cases e)
  have hM : Mod K mg (qaw s₁.heap H) := ⟨hKb,nsK hns,⟨mb,nsK hb,hbb⟩,let ⟨mc,h1,h2⟩ := hlim;⟨mc,nsK h1,h2⟩⟩
  have e0 : Env0 P w K mg (qaw s₁.heap H) callerA [] s₁ H := ⟨rfl,hM,fun b o e => qcO e,Nat.le_of_eq (NF _ _),trivial,fun b hb => absurd (show b ∈ ([] : List Addr) from hb) (by simp),hok,.of_eq hg⟩
  refine codeAny_mono ((F _ hKb (nsK hns)).run callerA [] s₁ H ⟨[.ref a],[]⟩ [.ref a] [.ref a] _ _ hr e0 (hbind s₁ (.ref a)) (.cons rfl .nil) (hsp H hO hS)) fun r s' h => ?_
  cases r with
  | error e => exact (hCX H e s' h).elim
  | ok fl =>
   cases fl with
   | next => exact False.elim h
   | brk => exact False.elim h
   | cont => exact False.elim h
   | ret u =>
    obtain ⟨v,H',os,bare,un,hok',r',q⟩ := h
    have q' : v = .bl true := q
    subst q'
    obtain rfl : u = Value.bool true := r'
    refine ⟨rfl,OldK.of_keep fun b o e => ?_,os,bare⟩
    cases q : H b with
    | none => exact un.keep b o e q (by intro z;exact absurd (show b ∈ ([] : List Addr) from z) (by simp)) (by simp)
    | some u =>
     rcases hO b with z | ⟨ob,xs,z⟩
     ·rw [q] at z;cases z
     ·have z2 := un.frzs b ob _ z
      obtain ⟨e1,_⟩ := hok b _ z
      obtain ⟨e2,_⟩ := hok' b _ z2
      rw [e] at e1;cases e1
      exact e2
 cases hk : K.lookup a with
 | some o =>
  -- the script is one of the module's own objects
  have e := KX a o hk
  rw [ha] at e
  cases e
  refine core (fun _ => none) (fun _ => .inl rfl) (.inr ⟨_,vs.toArray,_,hk,rfl,rfl,rfl,by rw [List.size_toArray,lenV];exact hl,by simpa using rv⟩) (fun b u z => by have z' : (none : Option HO) = some u := z;cases z') (fun b z => absurd rfl z) fun z => absurd rfl z
 | none =>
  refine core (fun b => if b = a then some (.frz { cls := .type "list",data := .seq vs.toArray } (.lst (ns.map V.int))) else none) (fun b => ?_) (.inl (.inr ⟨{ cls := .type "list",data := .seq vs.toArray },if_pos rfl⟩)) (fun b u z => ?_) (fun b z => ?_) fun _ => hk
  ·by_cases hb : b = a
   ·exact .inr ⟨_,_,if_pos hb⟩
   ·exact .inl (if_neg hb)
  ·by_cases hb : b = a
   ·have z' := (if_pos hb).symm.trans z
    cases z'
    subst hb
    exact ⟨ha,by rw [List.length_map];exact hl,vs,_,rv,ha⟩
   ·have z' := (if_neg hb).symm.trans z
    cases z'
  ·by_cases hb : b = a
   ·exact hb
   ·exact absurd (if_neg hb) z
end L2
namespace L2
open PySem PySem.Spec PyProof.Rows
theorem qcZ {l : PySem.W.OpenLaw} {n k : Nat} {q : Program} {loose : List Str} {XP : (Str → Option Value) → Heap → Prop} {YP : World → Heap → Prop} {d : DefRec} {K : Params → PySem.W.Frag} {CX : World → CXT} {sp : World → Sp} {x : Str}
  (hn : l.most = some n) (hn2 : n ≤ sizeLine) (hdf : d.params.defaults = []) (hr : Room k callerA)
  (hY : ∀ (w : World) (h : Heap),YP w h → (K w.params).In h)
  (F : ∀ (w : World) (mg : Str → Option Value) (fa : Addr) (h : Heap),(K w.params).In h → h.Ns mainGlobals mg → mg d.name = some (.ref fa) →
   ∃ fd : FuncData,(∀ (s : Shared) (u : Value),BindsTo s fd ⟨[u],[]⟩ [(x,u)]) ∧
    ∀ base : Heap,(K w.params).In base → base.Ns mainGlobals mg → FnOk l.prog w (K w.params) mg base (CX w) k fa fd [x] (sp w))
  (hsp : ∀ (w : World) (H : Hp) (a : Addr) (ns : List Int),ns.length ≤ n → qgX H → SqL (K w.params) H a (ns.map V.int) → sp w [.ref a] H (fun v _ => v = .bl true) fun _ _ _ => False)
  (hCX : ∀ (w : World) (H : Hp) (s : Shared) (e : Value) (s' : Shared),CX w [] H s (fun _ _ _ => False) e s' → False) :
  PySem.W.WalkO q loose XP YP l.row.toRowW d [] (fun f vs => PySem.call f vs) := by
 refine Att.TJ hn hdf fun w s₀ s₁ mg mb fa o pm cd doc a vs ns G Y ho hd hcd hmg hobj hints hlen hg => ?_
 have KX := hY w _ Y
 obtain ⟨fd,hb,hF⟩ := F w mg fa _ KX G.T.g hmg
 exact qaJ KX G.T.g G.T.b G.T.builtins G.T.nolimit hg hobj hints (Nat.le_trans hlen hn2) hr hF hb (fun H hO hS => hsp w H a ns hlen hO hS) fun H e s' => hCX w H s₁ e s'
end L2
namespace L2
open PySem PySem.Spec PyProof.Rows
def JE (s : Stmt) : Arguments := match s with
 | .FunctionDef _ a _ _ _ _ _ _ _ _ => a
 | _ => { posonlyargs := [],args := [],vararg := none,kwonlyargs := [],kw_defaults := [],kwarg := none,defaults := [] }
def jD (s : Stmt) : List Stmt := match s with
 | .FunctionDef _ _ b _ _ _ _ _ _ _ => b
 | _ => []
def qk (s : Stmt) : Scope := match s with
 | .FunctionDef _ _ _ _ _ _ sc _ _ _ => sc
 | _ => { kind := .function,names := [],isGenerator := false,isCoroutine := false }
abbrev CX0 : CXT := fun _ _ _ _ _ _ => False
abbrev E0 : XK := fun _ _ _ => False
theorem qhX {X : Cx} : NE CX0 X E0 := fun _ _ _ _ _ _ _ h => h.elim
structure Fun (K : PySem.W.Frag) (x qual : Str) (st : Stmt) (f : Addr) (fd : FuncData) : Prop where
 ex : ∃ (oc : Value) (od : Option Addr) (kV doc pm : Value) (an : Option Addr) (cdv ct : Value) (osl : Array (Option Value)),
  fd = PySem.W.fnOf x qual (JE st) (jD st) (qk st) .none kV doc pm an cdv ct∧K.lookup f = some ⟨oc,od,.func fd,osl⟩∧PySem.W.codeIn K cdv qual = true
 kp : PySem.W.keepIn K (.ref f) = true
section
variable {P : Program} {w : World} {K : PySem.W.Frag} {mg : Str → Option Value} {base : Heap}
theorem Fun.ok {x qual : Str} {st : Stmt} {f : Addr} {fd : FuncData} {N ps : List Str} {k : Nat} {sp : Sp} (F : Fun K x qual st f fd) (S : FnScope N ps (qk st)) (len : ∀ vs H Q E,sp vs H Q E → vs.length = ps.length)
  (hbody : ∀ (cdv : Value) (A : Around) (outer : List Env) (s : Shared) (H : Hp) (vs : List V) (Q : VK) (E : XK),Room k (A.deeper (envOfC qual (qk st) s.heap.objs.size f cdv)) → sp vs H Q E →
   ∃ t,PSs (qah CX0 P w K mg base N qual (qk st) f cdv A outer s H E).nox (jD st) t∧t { nx := fun _ H' => Q .non H',rt := Q } (D7 N vs) H) : FnOk P w K mg base CX0 (k + 1) f fd ps sp := by
 obtain ⟨oc,od,kV,doc,pm,an,cdv,ct,osl,rfl,lk,hcd⟩ := F.ex
 refine qhF lk hcd S len fun A outer s H vs Q E hr hsp => ?_
 obtain ⟨t,h,q⟩ := hbody cdv A outer s H vs Q E hr hsp
 exact ⟨t,h.nox,q⟩
theorem Fun.binds {x qual : Str} {st : Stmt} {f : Addr} {fd : FuncData} {ps : List Str} (F : Fun K x qual st f fd)
  (h : ∀ (kV doc pm : Value) (an : Option Addr) (cdv ct : Value) (us : List Value),us.length = ps.length → bindArgs (PySem.W.fnOf x qual (JE st) (jD st) (qk st) .none kV doc pm an cdv ct) ⟨us,[]⟩ = pure (ps.zip us)) : zl K fd ps [] := by
 obtain ⟨oc,od,kV,doc,pm,an,cdv,ct,osl,rfl,lk,hcd⟩ := F.ex
 exact .all (h kV doc pm an cdv ct)
theorem qfi {x qual : Str} {st : Stmt} {f : Addr} {oc : Value} {od an : Option Addr} {osl : Array (Option Value)} {kV doc pm cdv ct : Value} (l : K.lookup f = some ⟨oc,od,.func (PySem.W.fnOf x qual (JE st) (jD st) (qk st) .none kV doc pm an cdv ct),osl⟩)
  (c : PySem.W.codeIn K cdv qual = true) (k : PySem.W.keepIn K (.ref f) = true) : Fun K x qual st f (PySem.W.fnOf x qual (JE st) (jD st) (qk st) .none kV doc pm an cdv ct) := ⟨⟨oc,od,kV,doc,pm,an,cdv,ct,osl,rfl,l,c⟩,k⟩
end
section
variable {X : Cx}
end
theorem qg4 {A B : Prop} (h : B) : if false = true then A else B := by
 rw [if_neg Bool.false_ne_true]
 exact h
theorem qgY {A B : Prop} (h : A) : if true = true then A else B := by
 rw [if_pos rfl]
 exact h
end L2
set_option maxHeartbeats 4000000
namespace L3
open PySem PySem.Spec PyProof.Rows L2
set_option genInjectivity true in
inductive T where
 | non | bl (b : Bool) | int (i : Int) | str (x : Str) | tup (xs : List T) | ref (a : Addr)
inductive O where
 | lst (xs : List T)
 | frz (xs : List T)
abbrev Gp := Addr → Option O
def gu (G : Gp) (a : Addr) (o : O) : Gp := fun b => if b = a then some o else G b
theorem qo {G : Gp} {a : Addr} {o : O} : gu G a o a = some o := by unfold gu;rw [if_pos rfl]
theorem jK {G : Gp} {a b : Addr} {o : O} (h : b ≠ a) : gu G a o b = G b := by unfold gu;rw [if_neg h]
mutual
inductive Rp (K : PySem.W.Frag) (H : Hp) : T → V → Prop
 | non : Rp K H .non .non
 | bl (b : Bool) : Rp K H (.bl b) (.bl b)
 | int (i : Int) : Rp K H (.int i) (.int i)
 | str (x : Str) : Rp K H (.str x) (.str x)
 | ref (a : Addr) : Rp K H (.ref a) (.ref a)
 | tup {xs : List T} {a : Addr} {vs : List V} : SqT K H a vs → Rps K H xs vs → Rp K H (.tup xs) (.ref a)
inductive Rps (K : PySem.W.Frag) (H : Hp) : List T → List V → Prop
 | nil : Rps K H [] []
 | cons {x : T} {v : V} {xs : List T} {vs : List V} : Rp K H x v → Rps K H xs vs → Rps K H (x :: xs) (v :: vs)
end
def OR (K : PySem.W.Frag) (H : Hp) (a : Addr) : O → Prop
 | .lst xs => ∃ vs,H a = some (.lst vs)∧Rps K H xs vs
 | .frz xs => ∃ vs,(∃ o,H a = some (.frz o (.lst vs)))∧Rps K H xs vs
def HR (K : PySem.W.Frag) (G : Gp) (H : Hp) : Prop := ∀ a o,G a = some o → OR K H a o
def Kp (G : Gp) (H : Hp) (G' : Gp) (H' : Hp) : Prop := ∀ a o,H a = some o → G a = none → H' a = some o∧G' a = none
theorem Kp.refl {G : Gp} {H : Hp} : Kp G H G H := fun _ _ h g => ⟨h,g⟩
theorem Kp.trans {G G1 G2 : Gp} {H H1 H2 : Hp} (a : Kp G H G1 H1) (b : Kp G1 H1 G2 H2) : Kp G H G2 H2 := fun x o h g =>
 let ⟨h1,g1⟩ := a x o h g;b x o h1 g1
section
variable {K : PySem.W.Frag} {G G' : Gp} {H H' : Hp}
theorem HR.noneT (hr : HR K G H) {a : Addr} {vs : List V} (h : Rd H a (.tup vs)) : G a = none := by
 cases e : G a with
 | none => rfl
 | some o =>
  have q := hr a o e
  cases o with
  | lst xs =>
   obtain ⟨us,q1,_⟩ := q
   rcases h with h | ⟨ob,h⟩ <;> (rw [q1] at h;cases h)
  | frz xs =>
   obtain ⟨us,⟨o1,q1⟩,_⟩ := q
   rcases h with h | ⟨ob,h⟩ <;> (rw [q1] at h;cases h)
theorem CW (hr : HR K G H) (k : Kp G H G' H') {a : Addr} {vs : List V} (h : SqT K H a vs) : SqT K H' a vs := by
 rcases h with h | h
 ·have g := hr.noneT h
  rcases h with h | ⟨o,h⟩
  ·exact .inl (.inl (k a _ h g).1)
  ·exact .inl (.inr ⟨o,(k a _ h g).1⟩)
 ·exact .inr h
mutual
theorem Rp.keep (hr : HR K G H) (k : Kp G H G' H') : ∀ {x : T} {v : V},Rp K H x v → Rp K H' x v
 | _,_,.non => .non
 | _,_,.bl b => .bl b
 | _,_,.int i => .int i
 | _,_,.str x => .str x
 | _,_,.ref a => .ref a
 | _,_,.tup h hs => .tup (CW hr k h) (Rps.keep hr k hs)
theorem Rps.keep (hr : HR K G H) (k : Kp G H G' H') : ∀ {x : List T} {v : List V},Rps K H x v → Rps K H' x v
 | _,_,.nil => .nil
 | _,_,.cons a b => .cons (Rp.keep hr k a) (Rps.keep hr k b)
end
theorem Rps.length : ∀ {xs : List T} {vs : List V},Rps K H xs vs → xs.length = vs.length
 | _,_,.nil => rfl
 | _,_,.cons _ b => by simp [Rps.length b]
theorem Rps.get : ∀ {xs : List T} {vs : List V} {i : Nat} {x : T},Rps K H xs vs → xs[i]? = some x → ∃ v,vs[i]? = some v∧Rp K H x v
 | _,_,_,_,.nil,e => by simp at e
 | _,_,0,_,.cons r _,e => by simp at e;subst e;exact ⟨_,rfl,r⟩
 | _,_,i + 1,x,.cons _ t,e => by
  obtain ⟨u,h1,h2⟩ := Rps.get (i := i) (x := x) t (by simpa using e)
  exact ⟨u,by simpa using h1,h2⟩
theorem Rps.append : ∀ {xs ys : List T} {vs us : List V},Rps K H xs vs → Rps K H ys us → Rps K H (xs ++ ys) (vs ++ us)
 | _,_,_,_,.nil,s => s
 | _,_,_,_,.cons r t,s => .cons r (Rps.append t s)
theorem Rps.take : ∀ {xs : List T} {vs : List V} (n : Nat),Rps K H xs vs → Rps K H (xs.take n) (vs.take n)
 | _,_,0,_ => .nil
 | _,_,_ + 1,.nil => .nil
 | _,_,n + 1,.cons r t => .cons r (Rps.take n t)
theorem Rps.drop : ∀ {xs : List T} {vs : List V} (n : Nat),Rps K H xs vs → Rps K H (xs.drop n) (vs.drop n)
 | _,_,0,r => r
 | _,_,_ + 1,.nil => .nil
 | _,_,n + 1,.cons _ t => Rps.drop n t
theorem Rps.set {x : T} {v : V} (r : Rp K H x v) : ∀ {xs : List T} {vs : List V} (i : Nat),Rps K H xs vs → Rps K H (xs.set i x) (vs.set i v)
 | _,_,_,.nil => .nil
 | _,_,0,.cons _ t => .cons r t
 | _,_,i + 1,.cons q t => .cons q (Rps.set r i t)
theorem Rps.ints : ∀ (ns : List Int),Rps K H (ns.map T.int) (ns.map V.int)
 | [] => .nil
 | n :: r => .cons (.int n) (Rps.ints r)
theorem Rps.reverse {xs : List T} {vs : List V} (h : Rps K H xs vs) : Rps K H xs.reverse vs.reverse := by
 induction xs generalizing vs with
 | nil => cases h;exact .nil
 | cons x r ih =>
  cases h with
  | cons a b =>
   rw [List.reverse_cons,List.reverse_cons]
   exact (ih b).append (.cons a .nil)
theorem Kp.laid {p : Addr} {ho : HO} (hp : H p = none) : Kp G H G (upd H p ho) := fun a o h g => ⟨by rw [qV (qJ h hp)];exact h,g⟩
theorem HR.free (hr : HR K G H) {p : Addr} (hp : H p = none) : G p = none := by
 cases e : G p with
 | none => rfl
 | some o =>
  have q := hr p o e
  cases o with
  | lst xs => obtain ⟨us,q1,_⟩ := q;rw [hp] at q1;cases q1
  | frz xs => obtain ⟨us,⟨o1,q1⟩,_⟩ := q;rw [hp] at q1;cases q1
theorem OR.keep (hr : HR K G H) (k : Kp G H G' H') {a : Addr} {o : O} (h : OR K H a o) (e : ∀ u,H a = some u → H' a = some u) : OR K H' a o := by
 cases o with
 | lst xs => obtain ⟨vs,h1,h2⟩ := h;exact ⟨vs,e _ h1,h2.keep hr k⟩
 | frz xs => obtain ⟨vs,⟨o,h1⟩,h2⟩ := h;exact ⟨vs,⟨o,e _ h1⟩,h2.keep hr k⟩
theorem HR.laid (hr : HR K G H) {p : Addr} {ho : HO} (hp : H p = none) : HR K G (upd H p ho) := fun a o e =>
 (hr a o e).keep hr (Kp.laid hp) fun u h => by rw [qV (qJ h hp)];exact h
theorem Kp.newL {p : Addr} {ho : HO} {o' : O} (hp : H p = none) : Kp G H (gu G p o') (upd H p ho) := fun a o h g =>
 ⟨by rw [qV (qJ h hp)];exact h,by rw [jK (qJ h hp)];exact g⟩
theorem HR.newL (hr : HR K G H) {p : Addr} {xs : List T} {vs : List V} (hp : H p = none) (r : Rps K H xs vs) : HR K (gu G p (.lst xs)) (upd H p (.lst vs)) := fun a o e => by
 by_cases ha : a = p
 ·subst ha
  rw [qo] at e;cases e
  exact ⟨vs,zw,r.keep hr (Kp.laid hp)⟩
 ·rw [jK ha] at e
  exact (hr a o e).keep hr (Kp.laid hp) fun u h => by rw [qV ha];exact h
theorem Kp.wr {p : Addr} {ho : HO} {o o' : O} (g : G p = some o) : Kp G H (gu G p o') (upd H p ho) := fun a ob h ga => by
 have ha : a ≠ p := by intro e;subst e;rw [g] at ga;cases ga
 exact ⟨by rw [qV ha];exact h,by rw [jK ha];exact ga⟩
theorem HR.wr (hr : HR K G H) {p : Addr} {ys xs : List T} {vs : List V} (g : G p = some (.lst ys)) (r : Rps K H xs vs) : HR K (gu G p (.lst xs)) (upd H p (.lst vs)) := fun a o e => by
 have k : Kp G H (gu G p (.lst xs)) (upd H p (.lst vs)) := Kp.wr g
 by_cases ha : a = p
 ·subst ha
  rw [qo] at e;cases e
  exact ⟨vs,zw,r.keep hr k⟩
 ·rw [jK ha] at e
  exact (hr a o e).keep hr k fun u h => by rw [qV ha];exact h
end
abbrev St3 := List (Option T)
structure Rel (K : PySem.W.Frag) (τ : St3) (G : Gp) (σ : L2.St) (H : Hp) : Prop where
 hp : HR K G H
 len : τ.length = σ.length
 st : ∀ (i : Nat) (t : T),τ[i]? = some (some t) → ∃ v,σ[i]? = some (some v)∧Rp K H t v
theorem Rel.next {K : PySem.W.Frag} {τ : St3} {G G' : Gp} {σ : L2.St} {H H' : Hp} (r : Rel K τ G σ H) (hr : HR K G' H') (k : Kp G H G' H') : Rel K τ G' σ H' :=
 ⟨hr,r.len,fun i t e => let ⟨v,h1,h2⟩ := r.st i t e;⟨v,h1,h2.keep r.hp k⟩⟩
theorem Rel.set {K : PySem.W.Frag} {τ : St3} {G : Gp} {σ : L2.St} {H : Hp} {t : T} {v : V} (r : Rel K τ G σ H) (i : Nat) (h : Rp K H t v) : Rel K (τ.set i (some t)) G (σ.set i (some v)) H := by
 refine ⟨r.hp,by simp [r.len],fun j u e => ?_⟩
 by_cases hij : i = j
 ·subst hij
  rw [List.getElem?_set_self'] at e
  have hl : i < τ.length := by
   cases q : τ[i]? with
   | none => rw [q] at e;cases e
   | some z => exact (List.getElem?_eq_some_iff.mp q).1
  rw [List.getElem?_eq_getElem hl] at e
  have e' : t = u := by simpa using e
  subst e'
  exact ⟨v,by rw [List.getElem?_set_self (by rw [← r.len];exact hl)],h⟩
 ·rw [List.getElem?_set_ne hij] at e
  obtain ⟨w,h1,h2⟩ := r.st j u e
  exact ⟨w,by rw [List.getElem?_set_ne hij];exact h1,h2⟩
abbrev Q3 := T → Gp → Prop
abbrev TE3 := St3 → Gp → Q3 → Prop
abbrev TT3 := St3 → Gp → (Bool → Gp → Prop) → Prop
abbrev TA3 := St3 → Gp → (List T → Gp → Prop) → Prop
def Aft (K : PySem.W.Frag) (G : Gp) (H : Hp) (q : Q3) (Q : VK) : Prop := ∀ x G',q x G' → ∀ v H',Rp K H' x v → HR K G' H' → Kp G H G' H' → Q v H'
def qg6 (K : PySem.W.Frag) (G : Gp) (H : Hp) (q : Bool → Gp → Prop) (Q : Bool → Hp → Prop) : Prop := ∀ x G',q x G' → ∀ H',HR K G' H' → Kp G H G' H' → Q x H'
def qi8 (K : PySem.W.Frag) (G : Gp) (H : Hp) (q : List T → Gp → Prop) (Q : List V → Hp → Prop) : Prop := ∀ x G',q x G' → ∀ v H',Rps K H' x v → HR K G' H' → Kp G H G' H' → Q v H'
def lE (K : PySem.W.Frag) (t : TE3) : TE := fun σ H Q => ∃ τ G q,Rel K τ G σ H∧t τ G q∧Aft K G H q Q
def lT (K : PySem.W.Frag) (t : TT3) : TT := fun σ H Q => ∃ τ G q,Rel K τ G σ H∧t τ G q∧qg6 K G H q Q
def lA (K : PySem.W.Frag) (t : TA3) : TA := fun σ H Q => ∃ τ G q,Rel K τ G σ H∧t τ G q∧qi8 K G H q Q
abbrev E3 (X : Cx) (e : Expr) (t : TE3) : Prop := PE X e (lE X.K t)
abbrev C3 (X : Cx) (e : Expr) (t : TT3) : Prop := PT X e (lT X.K t)
abbrev W3 (X : Cx) (e : Expr) (t : TT3) : Prop := PW X e (lT X.K t)
abbrev A3 (X : Cx) (es : List Expr) (t : TA3) : Prop := PA X es (lA X.K t)
theorem Aft.back {K : PySem.W.Frag} {G G1 : Gp} {H H1 : Hp} {q : Q3} {Q : VK} (a : Aft K G H q Q) (k : Kp G H G1 H1) : Aft K G1 H1 q Q := fun x G' h v H' r hr k' => a x G' h v H' r hr (k.trans k')
theorem qg6.back {K : PySem.W.Frag} {G G1 : Gp} {H H1 : Hp} {q : Bool → Gp → Prop} {Q : Bool → Hp → Prop} (a : qg6 K G H q Q) (k : Kp G H G1 H1) : qg6 K G1 H1 q Q := fun x G' h H' hr k' => a x G' h H' hr (k.trans k')
theorem W4 {X : Cx} {e : Expr} {t t' : TE} (h : PE X e t) (w : ∀ σ H Q,t' σ H Q → t σ H Q) : PE X e t' := fun pins s σ H Q I q => h pins s σ H Q I (w σ H Q q)
theorem qh6 {X : Cx} {e : Expr} {t t' : TT} (h : PT X e t) (w : ∀ σ H Q,t' σ H Q → t σ H Q) : PT X e t' := fun pins s σ H Q I q => h pins s σ H Q I (w σ H Q q)
theorem qjk {X : Cx} {e : Expr} {t t' : TT} (h : PW X e t) (w : ∀ σ H Q,t' σ H Q → t σ H Q) : PW X e t' := fun wh pins s σ H Q I q => h wh pins s σ H Q I (w σ H Q q)
theorem qiJ {X : Cx} {e : List Expr} {t t' : TA} (h : PA X e t) (w : ∀ σ H Q,t' σ H Q → t σ H Q) : PA X e t' := fun pos pins s σ H Q I q => h pos pins s σ H Q I (w σ H Q q)
theorem zQ {K : PySem.W.Frag} {ta : TE3} {τ : St3} {G : Gp} {σ : L2.St} {H : Hp} {q : Q3} {Q : VK} (r : Rel K τ G σ H) (h : ta τ G q)
  (n : ∀ x G1,q x G1 → ∀ v H1,Rp K H1 x v → HR K G1 H1 → Kp G H G1 H1 → Rel K τ G1 σ H1 → Q v H1) : lE K ta σ H Q :=
 ⟨τ,G,q,r,h,fun x G1 hq v H1 rx hr k => n x G1 hq v H1 rx hr k (r.next hr k)⟩
theorem RA {K : PySem.W.Frag} {ta : TT3} {τ : St3} {G : Gp} {σ : L2.St} {H : Hp} {q : Bool → Gp → Prop} {Q : Bool → Hp → Prop} (r : Rel K τ G σ H) (h : ta τ G q)
  (n : ∀ x G1,q x G1 → ∀ H1,HR K G1 H1 → Kp G H G1 H1 → Rel K τ G1 σ H1 → Q x H1) : lT K ta σ H Q :=
 ⟨τ,G,q,r,h,fun x G1 hq H1 hr k => n x G1 hq H1 hr k (r.next hr k)⟩
theorem JT {K : PySem.W.Frag} {ta : TA3} {τ : St3} {G : Gp} {σ : L2.St} {H : Hp} {q : List T → Gp → Prop} {Q : List V → Hp → Prop} (r : Rel K τ G σ H) (h : ta τ G q)
  (n : ∀ x G1,q x G1 → ∀ v H1,Rps K H1 x v → HR K G1 H1 → Kp G H G1 H1 → Rel K τ G1 σ H1 → Q v H1) : lA K ta σ H Q :=
 ⟨τ,G,q,r,h,fun x G1 hq v H1 rx hr k => n x G1 hq v H1 rx hr k (r.next hr k)⟩
section
variable {X : Cx} {a b c : Expr} {ta tb tc : TE3} {pos : Pos}
def v3 (i : Nat) : TE3 := fun τ G q => match τ[i]? with | some (some t) => q t G | _ => False
theorem qhf (i : Nat) {x : Str} {pos : Pos} (hN : X.N[i]? = some x := by rfl) (hv : Vis X.env.scope x := by first | exact Or.inl rfl | exact Or.inr (Or.inl rfl) | exact Or.inr (Or.inr rfl)) (hd : (x == ("__debug__" : Str)) = false := by decide)
  (hcd : (x == ("__classdict__" : Str)) = false := by decide) : E3 X (.Name x pos) (v3 i) := by
 refine W4 (qgq (i := i) hN hv hd hcd) fun σ H Q ⟨τ,G,q,r,h,af⟩ => ?_
 unfold v3 at h
 split at h
 ·rename_i t e
  obtain ⟨v,e2,rv⟩ := r.st i t e
  exact ⟨v,e2,af t G h v H rv r.hp Kp.refl⟩
 ·exact h.elim
def c3 (t : T) : TE3 := fun _ G q => q t G
theorem e_c {t : T} {v : V} {e : Expr} (h : PE X e (tC v)) (hr : ∀ H,Rp X.K H t v) : E3 X e (c3 t) := W4 h fun σ H Q ⟨τ,G,q,r,h,af⟩ => af t G h v H (hr H) r.hp Kp.refl
theorem qhK {i : Int} {j pos} : E3 X (.Constant (.int i) j pos) (c3 (.int i)) := e_c qgL fun _ => .int i
theorem qjf {b : Bool} {j pos} : E3 X (.Constant (.bool b) j pos) (c3 (.bl b)) := e_c qiz fun _ => .bl b
theorem qie {j pos} : E3 X (.Constant .none j pos) (c3 .non) := e_c qf6 fun _ => .non
theorem qhq {x : Str} {j pos} : E3 X (.Constant (.str x) j pos) (c3 (.str x)) := e_c qbx fun _ => .str x
def n3 : TE3 := fun _ _ _ => False
abbrev R3 := T → T → Gp → Q3 → Prop
def WN (K : PySem.W.Frag) (r3 : R3) (r : R2) : Prop := ∀ x y v u G H q Q,HR K G H → Rp K H x v → Rp K H y u → r3 x y G q → Aft K G H q Q → r v u H Q
def o3 (r : R3) (ta tb : TE3) : TE3 := fun τ G q => ta τ G fun x G1 => tb τ G1 fun y G2 => r x y G2 q
theorem qay {K : PySem.W.Frag} {r3 : R3} {r : R2} (hr : WN K r3 r) {σ : L2.St} {H : Hp} {Q : VK} (h : lE K (o3 r3 ta tb) σ H Q) : tOp r (lE K ta) (lE K tb) σ H Q := by
 obtain ⟨τ,G,q,rl,h,af⟩ := h
 refine zQ rl h fun x G1 h1 v H1 rx hr1 k1 rl1 => zQ rl1 h1 fun y G2 h2 u H2 ry hr2 k2 rl2 => ?_
 exact hr x y v u G2 H2 q Q hr2 (rx.keep hr1 k2) ry h2 (af.back (k1.trans k2))
theorem qaq {op : Operator} {r3 : R3} {r : R2} (ho : OpR X (binaryOp op) r) (hr : WN X.K r3 r) (ha : E3 X a ta) (hb : E3 X b tb) : E3 X (.BinOp a op b pos) (o3 r3 ta tb) :=
 W4 (qhV ho ha hb) fun _ _ _ h => qay hr h
theorem qiA {op : CmpOp} {r3 : R3} {r : R2} (ho : OpR X (compareOp op) r) (hr : WN X.K r3 r) (ha : E3 X a ta) (hb : E3 X b tb) (hm : behindInMarks op b = false) : E3 X (.Compare a [op] [b] pos) (o3 r3 ta tb) :=
 W4 (qdG ho ha hb hm) fun _ _ _ h => qay hr h
def tb3 (t : TE3) : TT3 := fun τ G q => t τ G fun x G' => match x with | .bl k => q k G' | _ => False
theorem qfV {K : PySem.W.Frag} {t : TE3} {t2 : TE} (hw : ∀ σ H Q,lE K t σ H Q → t2 σ H Q) {σ : L2.St} {H : Hp} {Q : Bool → Hp → Prop} (h : lT K (tb3 t) σ H Q) : qgF t2 σ H Q := by
 obtain ⟨τ,G,q,rl,h,af⟩ := h
 refine hw _ _ _ (zQ rl h fun x G1 h1 v H1 rx hr1 k1 rl1 => ?_)
 cases x with
 | bl k => cases rx;exact ⟨k,rfl,af k G1 h1 H1 hr1 k1⟩
 | _ => exact h1.elim
theorem qiu {op : CmpOp} {r3 : R3} {r : R2} (ho : OpR X (compareOp op) r) (hr : WN X.K r3 r) (ha : E3 X a ta) (hb : E3 X b tb) (hm : behindInMarks op b = false) : C3 X (.Compare a [op] [b] pos) (tb3 (o3 r3 ta tb)) :=
 qh6 (qcR ho ha hb hm) fun _ _ _ h => qfV (fun _ _ _ => qay hr) h
def ch3 (r r' : R3) (ta tb tc : TE3) : TE3 := fun τ G q => ta τ G fun x G1 => tb τ G1 fun y G2 => r x y G2 fun z G3 => match z with
 | .bl k => if k = true then tc τ G3 fun w G4 => r' y w G4 q else q (.bl false) G3
 | _ => False
theorem qhJ {K : PySem.W.Frag} {r3 r3' : R3} {r r' : R2} (hr : WN K r3 r) (hr' : WN K r3' r') {σ : L2.St} {H : Hp} {Q : VK} (h : lE K (ch3 r3 r3' ta tb tc) σ H Q) : qcf r r' (lE K ta) (lE K tb) (lE K tc) σ H Q := by
 obtain ⟨τ,G,q,rl,h,af⟩ := h
 refine zQ rl h fun x G1 h1 v H1 rx hr1 k1 rl1 => zQ rl1 h1 fun y G2 h2 u H2 ry hr2 k2 rl2 => ?_
 refine hr x y v u G2 H2 _ _ hr2 (rx.keep hr1 k2) ry h2 fun z G3 h3 w H3 rz hr3 k3 => ?_
 cases z with
 | bl k =>
  cases rz
  refine ⟨k,rfl,?_⟩
  cases k with
  | false =>
   rw [if_neg Bool.false_ne_true]
   rw [show (match T.bl false with | .bl k => if k = true then tc τ G3 fun w G4 => r3' y w G4 q else q (.bl false) G3 | _ => False) = q (.bl false) G3 from by simp] at h3
   exact af _ G3 h3 _ H3 (.bl false) hr3 ((k1.trans k2).trans k3)
  | true =>
   rw [if_pos rfl]
   refine zQ (rl2.next hr3 k3) (show tc τ G3 fun w G4 => r3' y w G4 q from by simpa using h3) fun w G4 h4 w' H4 rw' hr4 k4 rl4 => ?_
   exact hr' y w _ _ G4 H4 q Q hr4 ((ry.keep hr2 k3).keep hr3 k4) rw' h4 (af.back (((k1.trans k2).trans k3).trans k4))
 | _ => exact h3.elim
theorem qdn {op op' : CmpOp} {r3 r3' : R3} {r r' : R2} (ho : OpR X (compareOp op) r) (hr : WN X.K r3 r) (ho' : OpR X (compareOp op') r') (hr' : WN X.K r3' r') (ha : E3 X a ta) (hb : E3 X b tb) (hc : E3 X c tc)
  (hm : lastMarks [op,op'] [b,c] = false := by with_unfolding_all rfl) : E3 X (.Compare a [op,op'] [b,c] pos) (ch3 r3 r3' ta tb tc) :=
 W4 (qa7 ho ho' ha hb hc hm) fun _ _ _ h => qhJ hr hr' h
def qiL (K : PySem.W.Frag) (r3 : T → Gp → Q3 → Prop) (r : V → Hp → VK → Prop) : Prop := ∀ x v G H q Q,HR K G H → Rp K H x v → r3 x G q → Aft K G H q Q → r v H Q
def u3 (r : T → Gp → Q3 → Prop) (ta : TE3) : TE3 := fun τ G q => ta τ G fun x G1 => r x G1 q
theorem qiV {op : UnaryOp} {r3 : T → Gp → Q3 → Prop} {r : V → Hp → VK → Prop} (ho : UnR X (unaryOp op) r) (hr : qiL X.K r3 r) (ha : E3 X a ta) : E3 X (.UnaryOp op a pos) (u3 r3 ta) :=
 W4 (qio ho ha) fun _ _ _ ⟨τ,G,q,rl,h,af⟩ => zQ rl h fun x G1 h1 v H1 rx hr1 k1 rl1 => hr x v G1 H1 q _ hr1 rx h1 (af.back k1)
def zD : T → Gp → Q3 → Prop := fun x G q => match x with | .int i => q (.int (-i)) G | _ => False
theorem qcy {K : PySem.W.Frag} : qiL K zD (rU fun i => .int (-i)) := fun x v G H q Q hr rx h af => by
 cases x with
 | int i => cases rx;exact ⟨i,rfl,af _ G h _ H (.int _) hr Kp.refl⟩
 | _ => exact h.elim
def iI (f : Int → Int → Int) : R3 := fun x y G q => match x,y with | .int i,.int j => q (.int (f i j)) G | _,_ => False
def iC (C : Int → Int → Prop) (f : Int → Int → Int) : R3 := fun x y G q => match x,y with | .int i,.int j => C i j∧q (.int (f i j)) G | _,_ => False
def iB (f : Int → Int → Bool) : R3 := fun x y G q => match x,y with | .int i,.int j => q (.bl (f i j)) G | _,_ => False
theorem qbl {K : PySem.W.Frag} {f : Int → Int → Int} : WN K (iI f) (rI0 fun i j => .int (f i j)) := fun x y v u G H q Q hr rx ry h af => by
 cases x <;> try exact h.elim
 cases y <;> try exact h.elim
 cases rx;cases ry
 exact ⟨_,_,rfl,rfl,af _ G h _ H (.int _) hr Kp.refl⟩
theorem XT {K : PySem.W.Frag} {C : Int → Int → Prop} {f : Int → Int → Int} : WN K (iC C f) (rI C fun i j => .int (f i j)) := fun x y v u G H q Q hr rx ry h af => by
 cases x <;> try exact h.elim
 cases y <;> try exact h.elim
 cases rx;cases ry
 exact ⟨_,_,rfl,rfl,h.1,af _ G h.2 _ H (.int _) hr Kp.refl⟩
theorem QK {K : PySem.W.Frag} {f : Int → Int → Bool} : WN K (iB f) (rI0 fun i j => .bl (f i j)) := fun x y v u G H q Q hr rx ry h af => by
 cases x <;> try exact h.elim
 cases y <;> try exact h.elim
 cases rx;cases ry
 exact ⟨_,_,rfl,rfl,af _ G h _ H (.bl _) hr Kp.refl⟩
theorem qhU (ha : E3 X a ta) (hb : E3 X b tb) : E3 X (.BinOp a .Sub b pos) (o3 (iI (· - ·)) ta tb) := qaq qfv qbl ha hb
theorem qhl (ha : E3 X a ta) (hb : E3 X b tb) : E3 X (.BinOp a .Mult b pos) (o3 (iC ZB (· * ·)) ta tb) := qaq qfn XT ha hb
theorem qg9 (ha : E3 X a ta) (hb : E3 X b tb) : E3 X (.BinOp a .Mod b pos) (o3 (iC (fun _ j => 0 < j) (· % ·)) ta tb) := qaq qfU XT ha hb
theorem qhS (ha : E3 X a ta) (hb : E3 X b tb) : E3 X (.BinOp a .FloorDiv b pos) (o3 (iC L9 (· / ·)) ta tb) := qaq qcF XT ha hb
theorem qhQ (ha : E3 X a ta) (hb : E3 X b tb) : E3 X (.BinOp a .Pow b pos) (o3 (iC LS (fun i j => i ^ j.toNat)) ta tb) := qaq qeq XT ha hb
theorem qdN (ha : E3 X a ta) (hb : E3 X b tb) : E3 X (.BinOp a .BitAnd b pos) (o3 (iI Builtin.bitAnd) ta tb) := qaq qgG qbl ha hb
theorem qhd (ha : E3 X a ta) (hb : E3 X b tb) : E3 X (.BinOp a .LShift b pos) (o3 (iC LS (fun i j => i * 2 ^ j.toNat)) ta tb) := qaq qeZ XT ha hb
theorem qh9 (ha : E3 X a ta) (hb : E3 X b tb) : E3 X (.BinOp a .RShift b pos) (o3 (iC (fun _ j => 0 ≤ j) (fun i j => i / 2 ^ j.toNat)) ta tb) := qaq qgS XT ha hb
theorem qih (ha : E3 X a ta) : E3 X (.UnaryOp .USub a pos) (u3 zD ta) := qiV qgn qcy ha
def qy : T → T → Option Bool
 | .non,.non => some true | .non,.int _ => some false | .int _,.non => some false | .non,.bl _ => some false | .bl _,.non => some false | .non,.str _ => some false | .str _,.non => some false
 | .int i,.int j => some (decide (i = j)) | .bl i,.bl j => some (decide (i = j)) | .str i,.str j => some (decide (i = j))
 | .int _,.str _ => some false | .str _,.int _ => some false | .bl _,.str _ => some false | .str _,.bl _ => some false
 | _,_ => none
theorem T9 {K : PySem.W.Frag} {H : Hp} {x y : T} {v u : V} {k : Bool} (rx : Rp K H x v) (ry : Rp K H y u) (h : qy x y = some k) : qha v u = true∧decide (v = u) = k := by
 cases rx <;> cases ry <;> simp [qy] at h <;> subst h <;> refine ⟨rfl,?_⟩ <;> simp
def ji (neg : Bool) : R3 := fun x y G q => match y with | .non => q (.bl (match x with | .non => !neg | _ => neg)) G | _ => False
theorem qce {K : PySem.W.Frag} {H : Hp} {x : T} {v : V} (rx : Rp K H x v) : decide (v = .non) = (match x with | .non => true | _ => false) := by
 cases rx <;> simp
theorem S4 {K : PySem.W.Frag} : WN K (ji false) (fun x y H Q => y = .non∧Q (.bl (decide (x = .non))) H) := fun x y v u G H q Q hr rx ry h af => by
 cases y <;> try exact h.elim
 cases ry
 refine ⟨rfl,?_⟩
 rw [qce rx]
 refine af _ G h _ H ?_ hr Kp.refl
 cases x <;> exact .bl _
theorem qaU {K : PySem.W.Frag} : WN K (ji true) (fun x y H Q => y = .non∧Q (.bl (!decide (x = .non))) H) := fun x y v u G H q Q hr rx ry h af => by
 cases y <;> try exact h.elim
 cases ry
 refine ⟨rfl,?_⟩
 rw [qce rx]
 refine af _ G h _ H ?_ hr Kp.refl
 cases x <;> exact .bl _
variable {tA tB : TT3} {VJ : List Expr}
def jz (t u : TT3) : TT3 := fun τ G q => t τ G fun k G1 => if k = true then u τ G1 q else q false G1
def or3 (t u : TT3) : TT3 := fun τ G q => t τ G fun k G1 => if k = true then q true G1 else u τ G1 q
def jg (t : TT3) : TT3 := fun τ G q => t τ G fun k G1 => q (!k) G1
theorem qhT (ha : C3 X a tA) : W3 X (.BoolOp .Or [a] pos) tA := qfK ha
theorem qjh (ha : C3 X a tA) (hb : W3 X (.BoolOp .Or (b :: VJ) pos) tB) : W3 X (.BoolOp .Or (a :: b :: VJ) pos) (or3 tA tB) :=
 qjk (qid ha hb) fun _ _ _ ⟨τ,G,q,rl,h,af⟩ => RA rl h fun k G1 h1 H1 hr1 k1 rl1 => by
  cases k with
  | true => rw [if_pos rfl] at h1 ⊢;exact af _ G1 h1 H1 hr1 k1
  | false => rw [if_neg Bool.false_ne_true] at h1 ⊢;exact ⟨τ,G1,q,rl1,h1,af.back k1⟩
theorem qhR (ha : C3 X a tA) : C3 X (.UnaryOp .Not a pos) (jg tA) :=
 qh6 (qga ha) fun _ _ _ ⟨τ,G,q,rl,h,af⟩ => RA rl h fun k G1 h1 H1 hr1 k1 rl1 => af _ G1 h1 H1 hr1 k1
theorem qhW {e : Expr} {t : TE3} (h : E3 X e t) (he : ∀ whole,isTrue e X.env whole = (do let v ← whole;standAt e.pos;holding [v] (truthy v)) := by intro _;rfl) : C3 X e (tb3 t) :=
 qh6 (qdO h he) fun _ _ _ h => qfV (fun _ _ _ h => h) h
def qH (ta tb : TE3) : TE3 := fun τ G q => ta τ G fun x G1 => match x with | .bl k => if k = true then tb τ G1 q else q (.bl false) G1 | _ => False
def jw (ta tb : TE3) : TE3 := fun τ G q => ta τ G fun x G1 => match x with | .bl k => if k = true then q (.bl true) G1 else tb τ G1 q | _ => False
def qZ (ta : TE3) : TE3 := fun τ G q => ta τ G fun x G1 => match x with | .bl k => q (.bl (!k)) G1 | _ => False
theorem qiv {op} (h : E3 X a ta) : E3 X (.BoolOp op [a] pos) ta := qfJ h
theorem qiq (ha : E3 X a ta) (hb : E3 X (.BoolOp .And (b :: VJ) pos) tb) : E3 X (.BoolOp .And (a :: b :: VJ) pos) (qH ta tb) :=
 W4 (qfZ ha hb) fun _ _ _ ⟨τ,G,q,rl,h,af⟩ => zQ rl h fun x G1 h1 v H1 rx hr1 k1 rl1 => by
  cases x with
  | bl k =>
   cases rx
   refine ⟨k,rfl,?_⟩
   cases k with
   | true => rw [if_pos rfl];exact ⟨τ,G1,q,rl1,(show tb τ G1 q from by simpa using h1),af.back k1⟩
   | false => rw [if_neg Bool.false_ne_true];exact af _ G1 (by simpa using h1) _ H1 (.bl false) hr1 k1
  | _ => exact h1.elim
theorem qic (ha : E3 X a ta) : E3 X (.UnaryOp .Not a pos) (qZ ta) :=
 W4 (qd2 ha) fun _ _ _ ⟨τ,G,q,rl,h,af⟩ => zQ rl h fun x G1 h1 v H1 rx hr1 k1 rl1 => by
  cases x with
  | bl k => cases rx;exact ⟨k,rfl,af _ G1 h1 _ H1 (.bl _) hr1 k1⟩
  | _ => exact h1.elim
def if3 (t : TT3) (ta tb : TE3) : TE3 := fun τ G q => t τ G fun k G1 => if k = true then ta τ G1 q else tb τ G1 q
theorem qi2 {c : Expr} (hc : C3 X c tA) (ha : E3 X a ta) (hb : E3 X b tb) : E3 X (.IfExp c a b pos) (if3 tA ta tb) :=
 W4 (qar hc ha hb) fun _ _ _ ⟨τ,G,q,rl,h,af⟩ => RA rl h fun k G1 h1 H1 hr1 k1 rl1 => by
  cases k with
  | true => rw [if_pos rfl] at h1 ⊢;exact ⟨τ,G1,q,rl1,h1,af.back k1⟩
  | false => rw [if_neg Bool.false_ne_true] at h1 ⊢;exact ⟨τ,G1,q,rl1,h1,af.back k1⟩
variable {e : Expr} {es : List Expr} {te : TE3} {t : TA3}
def qg : TA3 := fun _ G q => q [] G
def qb (ta : TE3) (tr : TA3) : TA3 := fun τ G q => ta τ G fun x G1 => tr τ G1 fun xs G2 => q (x :: xs) G2
theorem qit : A3 X [] qg := qiJ KH fun _ H _ ⟨τ,G,q,rl,h,af⟩ => af _ G h _ H .nil rl.hp Kp.refl
theorem qgU (ha : E3 X e te) (hr : A3 X es t) (hs : starEach (e :: es) X.env = (false,eval e X.env) :: starEach es X.env := by rfl) : A3 X (e :: es) (qb te t) :=
 qiJ (Y2 ha hr hs) fun _ _ _ ⟨τ,G,q,rl,h,af⟩ => zQ rl h fun x G1 h1 v H1 rx hr1 k1 rl1 => JT rl1 h1 fun xs G2 h2 vs H2 rs hr2 k2 rl2 =>
  af _ G2 h2 _ H2 (.cons (rx.keep hr1 k2) rs) hr2 (k1.trans k2)
def qK (t : TA3) : TE3 := fun τ G q => t τ G fun xs G1 => xs.length ≤ sizeLine∧q (.tup xs) G1
def zk (t : TA3) : TE3 := fun τ G q => t τ G fun xs G1 => xs.length ≤ sizeLine∧∀ p,G1 p = none → q (.ref p) (gu G1 p (.lst xs))
theorem qh7 {x1} (h : A3 X es t) : E3 X (.Tuple es x1 pos) (qK t) :=
 W4 (qbV h) fun _ _ _ ⟨τ,G,q,rl,h,af⟩ => JT rl h fun xs G1 h1 vs H1 rs hr1 k1 rl1 => ⟨by rw [← rs.length];exact h1.1,fun p hp =>
  af _ G1 h1.2 _ _ (.tup (SqT.of zw) (rs.keep hr1 (Kp.laid hp))) (hr1.laid hp) (k1.trans (Kp.laid hp))⟩
theorem qhZ (h : A3 X es t) : E3 X (.List es pos) (zk t) :=
 W4 (qfg h) fun _ _ _ ⟨τ,G,q,rl,h,af⟩ => JT rl h fun xs G1 h1 vs H1 rs hr1 k1 rl1 => ⟨by rw [← rs.length];exact h1.1,fun p hp =>
  af _ _ (h1.2 p (hr1.free hp)) _ _ (.ref p) (hr1.newL hp rs) (k1.trans (Kp.newL hp))⟩
def SJ (K : PySem.W.Frag) (r3 : List T → Gp → Q3 → Prop) (r : List V → Hp → VK → Prop) : Prop := ∀ xs vs G H q Q,HR K G H → Rps K H xs vs → r3 xs G q → Aft K G H q Q → r vs H Q
def cb3 (r : List T → Gp → Q3 → Prop) (t : TA3) : TE3 := fun τ G q => t τ G fun xs G1 => r xs G1 q
theorem qgO {K : PySem.W.Frag} {r3 : List T → Gp → Q3 → Prop} {r : List V → Hp → VK → Prop} (hr : SJ K r3 r) {σ : L2.St} {H : Hp} {Q : VK} (h : lE K (cb3 r3 t) σ H Q) : tCB r (lA K t) σ H Q := by
 obtain ⟨τ,G,q,rl,h,af⟩ := h
 exact JT rl h fun xs G1 h1 vs H1 rs hr1 k1 rl1 => hr xs vs G1 H1 q Q hr1 rs h1 (af.back k1)
theorem qcJ {x : Str} {p : Pos} {id : String} {r3 : List T → Gp → Q3 → Prop} {r : List V → Hp → VK → Prop} (hc : ZI X (.builtin id) r) (hr : SJ X.K r3 r) (hg : Gl X x) (hm : X.mg x = none) (hv : bootBuiltins x = some (.builtin id)) (ha : A3 X (e :: es) t) (hn : x ≠ "__name__" := by decide) (hdb : (x == ("__debug__" : Str)) = false := by decide)
  (he : starEach (e :: es) X.env = (false,eval e X.env) :: starEach es X.env := by rfl) (hpl : (backTo pos (starEach es X.env)).any (·.1) = false := by rfl) : E3 X (.Call (.Name x p) (e :: es) [] pos) (cb3 r3 t) :=
 W4 (CL hc hg hm hv ha hn hdb he hpl) fun _ _ _ h => qgO hr h
theorem qaC {x : Str} {p : Pos} {ty : String} {r3 : List T → Gp → Q3 → Prop} {r : List V → Hp → VK → Prop} (hc : ZI X (.type ty) r) (hr : SJ X.K r3 r) (hg : Gl X x) (hm : X.mg x = none) (hv : bootBuiltins x = some (.type ty)) (ha : A3 X (e :: es) t) (hn : x ≠ "__name__" := by decide) (hdb : (x == ("__debug__" : Str)) = false := by decide)
  (he : starEach (e :: es) X.env = (false,eval e X.env) :: starEach es X.env := by rfl) (hpl : (backTo pos (starEach es X.env)).any (·.1) = false := by rfl) : E3 X (.Call (.Name x p) (e :: es) [] pos) (cb3 r3 t) :=
 W4 (MH hc hg hm hv ha hn hdb he hpl) fun _ _ _ h => qgO hr h
end
end L3
namespace L3
open PySem PySem.Spec PyProof.Rows L2
def getL (G : Gp) (p : Addr) : Option (List T) := match G p with | some (.lst xs) => some xs | some (.frz xs) => some xs | none => none
section
variable {K : PySem.W.Frag} {G G' : Gp} {H H' : Hp}
theorem zW (hr : HR K G H) {p : Addr} {xs : List T} (h : getL G p = some xs) : ∃ vs,SqL K H p vs∧Rps K H xs vs := by
 unfold getL at h
 split at h
 ·rename_i ys e;cases h
  obtain ⟨vs,h1,h2⟩ := hr p _ e
  exact ⟨vs,SqL.of h1,h2⟩
 ·rename_i ys e;cases h
  obtain ⟨vs,⟨o,h1⟩,h2⟩ := hr p _ e
  exact ⟨vs,.inl (.inr ⟨o,h1⟩),h2⟩
 ·cases h
theorem HR.lst (hr : HR K G H) {p : Addr} {xs : List T} (h : G p = some (.lst xs)) : ∃ vs,H p = some (.lst vs)∧Rps K H xs vs := hr p _ h
theorem Rps.atI {xs : List T} {vs : List V} {i : Int} {x : T} (r : Rps K H xs vs) (h : atI xs i = some x) : ∃ v,L2.atI vs i = some v∧Rp K H x v := by
 unfold L2.atI at h ⊢
 rw [← r.length]
 cases e : ixN xs.length i with
 | none => rw [e] at h;cases h
 | some j =>
  rw [e] at h
  exact r.get (by simpa using h)
end
def ix3 : R3 := fun x y G q => match x,y with
 | .tup xs,.int i => (match atI xs i with | some z => q z G | none => False)
 | .ref p,.int i => (match getL G p with | some xs => (match atI xs i with | some z => q z G | none => False) | none => False)
 | _,_ => False
section
variable {X : Cx} {a b c e : Expr} {es : List Expr} {ta tb tc te : TE3} {t : TA3} {pos : Pos}
theorem qft {K : PySem.W.Frag} : WN K ix3 (rIx K) := fun x y v u G H q Q hr rx ry h af => by
 cases x <;> try exact h.elim
 case tup xs =>
  cases y <;> try exact h.elim
  case int i =>
   unfold ix3 at h
   simp only at h
   split at h
   ·rename_i z e
    cases ry
    cases rx with
    | tup hs rs =>
     obtain ⟨w,e2,rw'⟩ := rs.atI e
     exact .inr (.inl ⟨_,_,i,w,rfl,rfl,hs,e2,af z G h w H rw' hr Kp.refl⟩)
   ·exact h.elim
 case ref p =>
  cases y <;> try exact h.elim
  case int i =>
   unfold ix3 at h
   simp only at h
   split at h
   ·rename_i xs e0
    split at h
    ·rename_i z e
     cases ry
     cases rx
     obtain ⟨vs,hs,rs⟩ := zW hr e0
     obtain ⟨w,e2,rw'⟩ := rs.atI e
     exact .inl ⟨p,vs,i,w,rfl,rfl,hs,e2,af z G h w H rw' hr Kp.refl⟩
    ·exact h.elim
   ·exact h.elim
theorem qi3 (ha : E3 X a ta) (hb : E3 X b tb) (hs : EF b := by intro _ _;rfl) : E3 X (.Subscript a b pos) (o3 ix3 ta tb) := W4 (qfb XH ha hb hs) fun _ _ _ h => qay qft h
def jd {α : Type} (xs : List α) (lo hi : Option Int) : List α := (xs.drop (HT.sIx xs.length 0 lo)).take (HT.sIx xs.length xs.length hi - HT.sIx xs.length 0 lo)
theorem Rps.cut {K : PySem.W.Frag} {H : Hp} {xs : List T} {vs : List V} (r : Rps K H xs vs) (lo hi : Option Int) : Rps K H (jd xs lo hi) (qbZ vs lo hi) := by
 unfold jd qbZ
 rw [r.length]
 exact (r.drop _).take _
abbrev TO3 := St3 → Gp → (Option Int → Gp → Prop) → Prop
def lO (K : PySem.W.Frag) (t : TO3) : TO := fun σ H Q => ∃ τ G q,Rel K τ G σ H∧t τ G q∧∀ x G',q x G' → ∀ H',HR K G' H' → Kp G H G' H' → Q x H'
abbrev P3 (X : Cx) (e : Option Expr) (t : TO3) : Prop := PO X e (lO X.K t)
def np3 : TO3 := fun _ G q => q none G
def sp3 (t : TE3) : TO3 := fun τ G q => t τ G fun x G1 => match x with | .int i => q (some i) G1 | _ => False
theorem qjm {X : Cx} {e : Option Expr} {t t' : TO} (h : PO X e t) (w : ∀ σ H Q,t' σ H Q → t σ H Q) : PO X e t' := fun pins s σ H Q I q => h pins s σ H Q I (w σ H Q q)
theorem qgj (h : E3 X e te) : P3 X (some e) (sp3 te) := qjm (qcW h) fun _ _ _ ⟨τ,G,q,rl,h,af⟩ => zQ rl h fun x G1 h1 v H1 rx hr1 k1 rl1 => by
 cases x <;> try exact h1.elim
 cases rx
 exact ⟨_,rfl,af _ G1 h1 H1 hr1 k1⟩
def sl3 : T → Option Int → Option Int → Gp → Q3 → Prop := fun x lo hi G q => match x with
 | .tup xs => ¬ (HT.sIx xs.length 0 lo = 0∧HT.sIx xs.length xs.length hi = xs.length)∧q (.tup (jd xs lo hi)) G
 | .ref p => (match getL G p with | some xs => ∀ a,G a = none → q (.ref a) (gu G a (.lst (jd xs lo hi))) | none => False)
 | _ => False
def ja (te : TE3) (tl th : TO3) : TE3 := fun τ G q => te τ G fun x G1 => tl τ G1 fun l G2 => th τ G2 fun u G3 => sl3 x l u G3 q
theorem qcV {lo hi : Option Expr} {tl th : TO3} {p2 : Pos} (he : E3 X e te) (hl : P3 X lo tl) (hu : P3 X hi th) : E3 X (.Subscript e (.Slice lo hi none p2) pos) (ja te tl th) :=
 W4 (qal (qgk.or qdD) he hl hu) fun _ _ _ ⟨τ,G,q,rl,h,af⟩ => zQ rl h fun x G1 h1 v H1 rx hr1 k1 rl1 =>
  ⟨τ,G1,_,rl1,h1,fun l G2 h2 H2 hr2 k2 => ⟨τ,G2,_,rl1.next hr2 k2,h2,fun u G3 h3 H3 hr3 k3 => by
   have kk := (k1.trans k2).trans k3
   have rx3 := (rx.keep hr1 k2).keep hr2 k3
   cases x <;> try exact h3.elim
   case tup xs =>
    cases rx3 with
    | tup hs rs =>
     refine .inl ⟨_,_,rfl,hs,by rw [← rs.length];exact h3.1,fun p hp => ?_⟩
     exact af _ G3 h3.2 _ _ (.tup (SqT.of zw) ((rs.cut _ _).keep hr3 (Kp.laid hp))) (hr3.laid hp) (kk.trans (Kp.laid hp))
   case ref p =>
    unfold sl3 at h3
    simp only at h3
    split at h3
    ·rename_i xs e0
     cases rx3
     obtain ⟨vs,hs,rs⟩ := zW hr3 e0
     refine .inr ⟨p,vs,rfl,hs,fun a ha => ?_⟩
     exact af _ _ (h3 a (hr3.free ha)) _ _ (.ref a) (hr3.newL ha (rs.cut _ _)) (kk.trans (Kp.newL ha))
    ·exact h3.elim⟩⟩
theorem NH {K : PySem.W.Frag} {H : Hp} {xs : List T} {vs : List V} (r : Rps K H xs vs) : vs = [] ↔ xs = [] := by
 cases r <;> simp
def qU : R3 := fun x y G q => match x,y with
 | .tup xs,.tup ys => xs ≠ []∧xs.length + ys.length ≤ sizeLine∧q (.tup (xs ++ ys)) G
 | .ref a,.ref b => (match G a,G b with | some (.lst xs),some (.lst ys) => xs.length + ys.length ≤ sizeLine∧∀ p,G p = none → q (.ref p) (gu G p (.lst (xs ++ ys))) | _,_ => False)
 | .int i,.int j => q (.int (i + j)) G
 | _,_ => False
theorem qdd {K : PySem.W.Frag} : WN K qU (fun x y H Q => (rI0 (fun i j => .int (i + j)) x y H Q ∨ qfG K x y H Q) ∨ qiG x y H Q) := fun x y v u G H q Q hr rx ry h af => by
 cases x <;> try exact h.elim
 case int i =>
  cases y <;> try exact h.elim
  cases rx;cases ry
  exact .inl (.inl ⟨_,_,rfl,rfl,af _ G h _ H (.int _) hr Kp.refl⟩)
 case tup xs =>
  cases y <;> try exact h.elim
  case tup ys =>
   obtain ⟨h1,h2,h3⟩ := h
   cases rx with
   | tup hs rs =>
    cases ry with
    | tup hs' rs' =>
     refine .inl (.inr ⟨_,_,_,_,rfl,rfl,hs,hs',fun z => h1 ((NH rs).mp z),by rw [← rs.length,← rs'.length];exact h2,fun z => ?_,fun z p hp => ?_⟩)
     ·have e := (NH rs').mp z
      subst e
      rw [List.append_nil] at h3
      exact af _ G h3 _ H (.tup hs rs) hr Kp.refl
     ·exact af _ G h3 _ _ (.tup (SqT.of zw) ((rs.append rs').keep hr (Kp.laid hp))) (hr.laid hp) (Kp.laid hp)
 case ref a =>
  cases y <;> try exact h.elim
  case ref b =>
   unfold qU at h
   simp only at h
   split at h
   ·rename_i xs ys e1 e2
    cases rx;cases ry
    obtain ⟨vs,g1,r1⟩ := hr.lst e1
    obtain ⟨us,g2,r2⟩ := hr.lst e2
    refine .inr ⟨a,b,vs,us,rfl,rfl,g1,g2,by rw [← r1.length,← r2.length];exact h.1,fun p hp => ?_⟩
    exact af _ _ (h.2 p (hr.free hp)) _ _ (.ref p) (hr.newL hp (r1.append r2)) (Kp.newL hp)
   ·exact h.elim
theorem qeV (ha : E3 X a ta) (hb : E3 X b tb) : E3 X (.BinOp a .Add b pos) (o3 qU ta tb) := qaq ((qfF.or qcT).or qe1) qdd ha hb
def qO : T → Bool
 | .non => true | .bl _ => true | .int _ => true | .str _ => true | _ => false
def eqF : T → T → Bool
 | .non,.non => true
 | .bl a,.bl b => a == b
 | .bl a,.int b => (if a then 1 else 0) == b
 | .int a,.bl b => a == (if b then 1 else 0)
 | .int a,.int b => a == b
 | .str a,.str b => a == b
 | _,_ => false
theorem TX {K : PySem.W.Frag} {H : Hp} {x : T} {v : V} (r : Rp K H x v) (h : qO x = true) : XC v = true := by
 cases r <;> first | rfl | (cases h)
theorem CB {K : PySem.W.Frag} {H : Hp} : ∀ {x : List T} {v : List V},Rps K H x v → x.all qO = true → v.all XC = true
 | _,_,.nil,_ => rfl
 | _,_,.cons a b,h => by
  rw [List.all_cons,Bool.and_eq_true] at h ⊢
  exact ⟨TX a h.1,CB b h.2⟩
theorem qgQ {K : PySem.W.Frag} {H : Hp} {x y : T} {v u : V} (r : Rp K H x v) (s : Rp K H y u) (h : qO x = true) (h' : qO y = true) : eqV v u = eqF x y := by
 cases r <;> first | (cases h;done) | (cases s <;> first | rfl | (cases h';done))
theorem NT {K : PySem.W.Frag} {H : Hp} {x : T} {v : V} (r : Rp K H x v) (h : qO x = true) : ∀ {ys : List T} {us : List V},Rps K H ys us → ys.all qO = true → inV v us = ys.any fun y => eqF y x
 | _,_,.nil,_ => rfl
 | _,_,.cons a b,h' => by
  rw [List.all_cons,Bool.and_eq_true] at h'
  unfold inV
  rw [List.any_cons,List.any_cons,qgQ a r h'.1 h]
  congr 1
  exact NT r h b h'.2
def in3 (neg : Bool) : R3 := fun x y G q => qO x = true∧match y with
 | .tup ys => ys.all qO = true∧q (.bl (if neg then !(ys.any fun y => eqF y x) else (ys.any fun y => eqF y x))) G
 | .ref p => (match getL G p with | some ys => ys.all qO = true∧q (.bl (if neg then !(ys.any fun y => eqF y x) else (ys.any fun y => eqF y x))) G | none => False)
 | _ => False
theorem qgA {K : PySem.W.Frag} {neg : Bool} : WN K (in3 neg) (rIn K neg) := fun x y v u G H q Q hr rx ry h af => by
 obtain ⟨hf,h⟩ := h
 cases y <;> try exact h.elim
 case tup ys =>
  cases ry with
  | tup hs rs =>
   refine ⟨_,_,rfl,.inr hs,TX rx hf,CB rs h.1,?_⟩
   rw [NT rx hf rs h.1]
   exact af _ G h.2 _ H (.bl _) hr Kp.refl
 case ref p =>
  simp only at h
  split at h
  ·rename_i ys e
   cases ry
   obtain ⟨us,hs,rs⟩ := zW hr e
   refine ⟨_,_,rfl,.inl hs,TX rx hf,CB rs h.1,?_⟩
   rw [NT rx hf rs h.1]
   exact af _ G h.2 _ H (.bl _) hr Kp.refl
  ·exact h.elim
def zF : List T → Gp → Q3 → Prop := fun xs G q => match xs with
 | [.tup ys] => q (.int ys.length) G
 | [.str y] => y.length ≤ sizeLine∧q (.int y.length) G
 | [.ref p] => (match getL G p with | some ys => q (.int ys.length) G | none => False)
 | _ => False
theorem X9 {K : PySem.W.Frag} {H : Hp} {x : T} {vs : List V} (r : Rps K H [x] vs) : ∃ v,vs = [v]∧Rp K H x v := by
 cases r with
 | cons a b => cases b;exact ⟨_,rfl,a⟩
theorem qg2 {K : PySem.W.Frag} {H : Hp} {x y : T} {vs : List V} (r : Rps K H [x,y] vs) : ∃ v u,vs = [v,u]∧Rp K H x v∧Rp K H y u := by
 cases r with
 | cons a b => cases b with | cons c d => cases d;exact ⟨_,_,rfl,a,c⟩
theorem js {K : PySem.W.Frag} : SJ K zF (fun xs H Q => ∃ x n,xs = [x]∧qiM K x H n∧Q (.int n) H) := fun xs vs G H q Q hr rs h af => by
 unfold zF at h
 split at h
 ·obtain ⟨v,rfl,r⟩ := X9 rs
  cases r with
  | tup hs r2 => exact ⟨_,_,rfl,.inr ⟨_,hs,rfl⟩,by rw [← r2.length];exact af _ G h _ H (.int _) hr Kp.refl⟩
 ·obtain ⟨v,rfl,r⟩ := X9 rs
  cases r
  exact ⟨_,_,rfl,⟨h.1,rfl⟩,af _ G h.2 _ H (.int _) hr Kp.refl⟩
 ·obtain ⟨v,rfl,r⟩ := X9 rs
  split at h
  ·rename_i ys e
   cases r
   obtain ⟨us,hs,r2⟩ := zW hr e
   exact ⟨_,_,rfl,.inl ⟨_,hs,rfl⟩,by rw [← r2.length];exact af _ G h _ H (.int _) hr Kp.refl⟩
  ·exact h.elim
 ·exact h.elim
def jj : List T → Gp → Q3 → Prop := fun xs G q => match xs with | [.int i] => q (.int (if i < 0 then -i else i)) G | _ => False
theorem M6 {K : PySem.W.Frag} : SJ K jj (fun xs H Q => ∃ i,xs = [.int i]∧Q (.int (if i < 0 then -i else i)) H) := fun xs vs G H q Q hr rs h af => by
 unfold jj at h
 split at h
 ·obtain ⟨v,rfl,r⟩ := X9 rs
  cases r
  exact ⟨_,rfl,af _ G h _ H (.int _) hr Kp.refl⟩
 ·exact h.elim
def jq : List T → Gp → Q3 → Prop := fun xs G q => match xs with | [.int i,.int j] => q (.int (if j < i then j else i)) G | _ => False
theorem qcB {K : PySem.W.Frag} : SJ K jq (fun xs H Q => ∃ i j,xs = [.int i,.int j]∧Q (.int (if j < i then j else i)) H) := fun xs vs G H q Q hr rs h af => by
 unfold jq at h
 split at h
 ·obtain ⟨v,u,rfl,r,r'⟩ := qg2 rs
  cases r;cases r'
  exact ⟨_,_,rfl,af _ G h _ H (.int _) hr Kp.refl⟩
 ·exact h.elim
def jy : List T → Gp → Q3 → Prop := fun xs G q => match xs with | [.int i,.int j] => q (.int (if j > i then j else i)) G | _ => False
def zU : List T → Gp → Q3 → Prop := fun xs G q => match xs with | [.int i] => q (.int i) G | [.bl k] => q (.int (if k then 1 else 0)) G | _ => False
theorem T1 {K : PySem.W.Frag} : SJ K zU (fun xs H Q => (∃ i,xs = [.int i]∧Q (.int i) H) ∨ ∃ k,xs = [.bl k]∧Q (.int (if k then 1 else 0)) H) := fun xs vs G H q Q hr rs h af => by
 unfold zU at h
 split at h
 ·obtain ⟨v,rfl,r⟩ := X9 rs
  cases r
  exact .inl ⟨_,rfl,af _ G h _ H (.int _) hr Kp.refl⟩
 ·obtain ⟨v,rfl,r⟩ := X9 rs
  cases r
  exact .inr ⟨_,rfl,af _ G h _ H (.int _) hr Kp.refl⟩
 ·exact h.elim
def qs : List T → Gp → Q3 → Prop := fun xs G q => match xs with
 | [.tup ys] => q (.tup ys) G
 | [.ref p] => (match getL G p with | some ys => q (.tup ys) G | none => False)
 | _ => False
theorem jW {K : PySem.W.Frag} : SJ K qs (fun xs H Q => ∃ p ys,xs = [.ref p]∧((SqL K H p ys∧∀ l,H l = none → Q (.ref l) (upd H l (.tup ys))) ∨ (SqT K H p ys∧Q (.ref p) H))) := fun xs vs G H q Q hr rs h af => by
 unfold qs at h
 split at h
 ·obtain ⟨v,rfl,r⟩ := X9 rs
  cases r with
  | tup hs r2 => exact ⟨_,_,rfl,.inr ⟨hs,af _ G h _ H (.tup hs r2) hr Kp.refl⟩⟩
 ·obtain ⟨v,rfl,r⟩ := X9 rs
  split at h
  ·rename_i ys e
   cases r
   obtain ⟨us,hs,r2⟩ := zW hr e
   exact ⟨_,_,rfl,.inl ⟨hs,fun l hl => af _ G h _ _ (.tup (SqT.of zw) (r2.keep hr (Kp.laid hl))) (hr.laid hl) (Kp.laid hl)⟩⟩
  ·exact h.elim
 ·exact h.elim
def qY : List T → Gp → Q3 → Prop := fun xs G q => match xs with
 | [.tup ys] => ∀ p,G p = none → q (.ref p) (gu G p (.lst ys))
 | [.ref p] => (match getL G p with | some ys => ∀ p,G p = none → q (.ref p) (gu G p (.lst ys)) | none => False)
 | _ => False
theorem KT {K : PySem.W.Frag} : SJ K qY (fun xs H Q => ∃ p ys,xs = [.ref p]∧(SqL K H p ys ∨ SqT K H p ys)∧∀ l,H l = none → Q (.ref l) (upd H l (.lst ys))) := fun xs vs G H q Q hr rs h af => by
 unfold qY at h
 split at h
 ·obtain ⟨v,rfl,r⟩ := X9 rs
  cases r with
  | tup hs r2 => exact ⟨_,_,rfl,.inr hs,fun l hl => af _ _ (h l (hr.free hl)) _ _ (.ref l) (hr.newL hl r2) (Kp.newL hl)⟩
 ·obtain ⟨v,rfl,r⟩ := X9 rs
  split at h
  ·rename_i ys e
   cases r
   obtain ⟨us,hs,r2⟩ := zW hr e
   exact ⟨_,_,rfl,.inl hs,fun l hl => af _ _ (h l (hr.free hl)) _ _ (.ref l) (hr.newL hl r2) (Kp.newL hl)⟩
  ·exact h.elim
 ·exact h.elim
def jc : T → List T → Gp → Q3 → Prop := fun x xs G q => match x,xs with
 | .ref l,[.ref b] => (match G l,G b with | some (.lst ys),some (.lst zs) => ys.length + zs.length ≤ sizeLine∧q .non (gu G l (.lst (ys ++ zs))) | _,_ => False)
 | _,_ => False
def z9 : T → List T → Gp → Q3 → Prop := fun x xs G q => match x,xs with
 | .ref l,[y] => (match G l with | some (.lst ys) => ys.length < sizeLine∧q .non (gu G l (.lst (ys ++ [y]))) | _ => False)
 | _,_ => False
def qhI (K : PySem.W.Frag) (r3 : T → List T → Gp → Q3 → Prop) (r : V → List V → Hp → VK → Prop) : Prop := ∀ x xs v vs G H q Q,HR K G H → Rp K H x v → Rps K H xs vs → r3 x xs G q → Aft K G H q Q → r v vs H Q
theorem qdA {K : PySem.W.Frag} : qhI K jc NZ := fun x xs v vs G H q Q hr rx rs h af => by
 unfold jc at h
 split at h
 ·rename_i l b
  split at h
  ·rename_i ys zs e1 e2
   cases rx
   obtain ⟨u,rfl,r⟩ := X9 rs
   cases r
   obtain ⟨vs,g1,r1⟩ := hr.lst e1
   obtain ⟨us,g2,r2⟩ := hr.lst e2
   exact ⟨l,b,vs,us,rfl,rfl,g1,g2,by rw [← r1.length,← r2.length];exact h.1,af _ _ h.2 _ _ .non (hr.wr e1 (r1.append r2)) (Kp.wr e1)⟩
  ·exact h.elim
 ·exact h.elim
theorem qcq {K : PySem.W.Frag} : qhI K z9 NP := fun x xs v vs G H q Q hr rx rs h af => by
 unfold z9 at h
 split at h
 ·rename_i l y
  split at h
  ·rename_i ys e1
   cases rx
   obtain ⟨u,rfl,r⟩ := X9 rs
   obtain ⟨vs,g1,r1⟩ := hr.lst e1
   exact ⟨l,vs,u,rfl,rfl,g1,by rw [← r1.length];exact h.1,af _ _ h.2 _ _ .non (hr.wr e1 (r1.append (.cons r .nil))) (Kp.wr e1)⟩
  ·exact h.elim
 ·exact h.elim
def bm3 (r : T → List T → Gp → Q3 → Prop) (to : TE3) (t : TA3) : TE3 := fun τ G q => to τ G fun x G1 => (match x with | .ref p => (getL G1 p).isSome = true | _ => False)∧t τ G1 fun xs G2 => r x xs G2 q
theorem qiP {o : Expr} {to : TE3} {name : Str} {apos cpos : Pos} {id : String} {r3 : T → List T → Gp → Q3 → Prop} {r : V → List V → Hp → VK → Prop} (slot : Slot "list" name id) (hty : typeOf (.builtin id) = pure (.type "method_descriptor")) (hm : MtR X id r) (hr : qhI X.K r3 r) (ho : E3 X o to) (ha : A3 X (e :: es) t)
  (hbase : attributeBase o name X.env (eval o X.env) = eval o X.env := by rfl)
  (hfew : ((backTo cpos (starEach (e :: es) X.env)).all (fun x => !x.1) && (backToKw cpos (keywordEach [] X.env)).all (fun x => x.1.isSome)
   && decide ((e :: es).length + ([] : List Keyword).length + (if ([] : List Keyword).isEmpty then 0 else 1) < 30)) = true := by rfl)
  (hline : (apos.endLine == cpos.line) = true := by rfl) (hs : starEach (e :: es) X.env = (false,eval e X.env) :: starEach es X.env := by rfl) (hplain : (backTo cpos (starEach es X.env)).any (·.1) = false := by rfl) :
  E3 X (.Call (.Attribute o name apos) (e :: es) [] cpos) (bm3 r3 to t) :=
 W4 (qhi PySem.F.plainAttrs_list slot hty hm ho ha hbase hfew hline hs hplain) fun _ _ _ ⟨τ,G,q,rl,h,af⟩ => zQ rl h fun x G1 h1 v H1 rx hr1 k1 rl1 => by
  obtain ⟨hp,h1⟩ := h1
  cases x <;> try exact hp.elim
  case ref p =>
   cases rx
   have hp' : (getL G1 p).isSome = true := hp
   obtain ⟨ys,e⟩ := Option.isSome_iff_exists.mp hp'
   obtain ⟨us,hs,r2⟩ := zW hr1 e
   exact ⟨.inl ⟨rfl,us,hs⟩,JT rl1 h1 fun xs G2 h2 vs H2 rs hr2 k2 rl2 => hr _ xs _ vs G2 H2 q _ hr2 (.ref p) rs h2 (af.back (k1.trans k2))⟩
theorem qau {o : Expr} {to : TE3} {apos cpos : Pos} (ho : E3 X o to) (ha : A3 X [e] t)
  (hbase : attributeBase o "append" X.env (eval o X.env) = eval o X.env := by rfl)
  (hfew : ((backTo cpos (starEach [e] X.env)).all (fun x => !x.1) && (backToKw cpos (keywordEach [] X.env)).all (fun x => x.1.isSome)
   && decide (([e] : List Expr).length + ([] : List Keyword).length + (if ([] : List Keyword).isEmpty then 0 else 1) < 30)) = true := by rfl)
  (hline : (apos.endLine == cpos.line) = true := by rfl) (hs : starEach [e] X.env = (false,eval e X.env) :: starEach [] X.env := by rfl) (hplain : (backTo cpos (starEach [] X.env)).any (·.1) = false := by rfl) :
  E3 X (.Call (.Attribute o "append" apos) [e] [] cpos) (bm3 z9 to t) := qiP PySem.F.slot_list_append PySem.F.type_list_append V7 qcq ho ha hbase hfew hline hs hplain
theorem qam {o : Expr} {to : TE3} {apos cpos : Pos} (ho : E3 X o to) (ha : A3 X [e] t)
  (hbase : attributeBase o "extend" X.env (eval o X.env) = eval o X.env := by rfl)
  (hfew : ((backTo cpos (starEach [e] X.env)).all (fun x => !x.1) && (backToKw cpos (keywordEach [] X.env)).all (fun x => x.1.isSome)
   && decide (([e] : List Expr).length + ([] : List Keyword).length + (if ([] : List Keyword).isEmpty then 0 else 1) < 30)) = true := by rfl)
  (hline : (apos.endLine == cpos.line) = true := by rfl) (hs : starEach [e] X.env = (false,eval e X.env) :: starEach [] X.env := by rfl) (hplain : (backTo cpos (starEach [] X.env)).any (·.1) = false := by rfl) :
  E3 X (.Call (.Attribute o "extend" apos) [e] [] cpos) (bm3 jc to t) := qiP PySem.F.slot_list_extend PySem.F.type_list_extend NA qdA ho ha hbase hfew hline hs hplain
end
end L3
namespace L3
open PySem PySem.Spec PyProof.Rows L2
def tyT (G : Gp) : T → Option String
 | .non => some "NoneType" | .bl _ => some "bool" | .int _ => some "int" | .str _ => some "str" | .tup _ => some "tuple"
 | .ref p => if (getL G p).isSome then some "list" else none
def zq (t c : String) : Bool := t == c || (t == "bool" && c == "int")
theorem CA (K : PySem.W.Frag) : ∀ t ∈ ["NoneType","bool","int","str","tuple","list"],∀ c ∈ ["bool","int","str","tuple","list"],PySem.W.kitOne K (.type t) (.type c) = some (zq t c) := by
 intro t ht c hc
 simp only [List.mem_cons,List.not_mem_nil,or_false] at ht hc
 rcases ht with rfl | rfl | rfl | rfl | rfl | rfl <;> rcases hc with rfl | rfl | rfl | rfl | rfl <;> kernel_rfl
section
variable {X : Cx} {a b c e : Expr} {es : List Expr} {ta tb tc te : TE3} {t : TA3} {pos : Pos}
def TyS (K : PySem.W.Frag) (H : Hp) (x : V) (t : String) : Prop := match x with
 | .non => t = "NoneType" | .bl _ => t = "bool" | .int _ => t = "int" | .str _ => t = "str"
 | .ref a => (t = "tuple"∧∃ vs,SqT K H a vs) ∨ (t = "list"∧∃ vs,SqL K H a vs)
 | _ => False
theorem TyS.mem {K : PySem.W.Frag} {H : Hp} {x : V} {t : String} (h : TyS K H x t) : t ∈ ["NoneType","bool","int","str","tuple","list"] := by
 cases x <;> simp [TyS] at h <;> first | (subst h;decide) | (rcases h with ⟨rfl,_⟩ | ⟨rfl,_⟩ <;> decide)
theorem TyS.kitx {pins : List (Addr × Obj)} {σ : L2.St} {H : Hp} {s : Shared} {x : V} {u : Value} {t : String} (I : Inv X pins σ H s) (rx : jx x u) (h : TyS X.K H x t) :
  ∃ HH : Heap → Prop,PySem.W.KitX X.K u (.type t) HH∧HH s.heap∧u ≠ .builtin "__main__.__loader__#opaque" := by
 cases x with
 | non => cases (show u = Value.none from rx);cases (show t = _ from h);exact ⟨_,PySem.W.kitx_none,True.intro,fun z => nomatch z⟩
 | bl y => cases (show u = Value.bool y from rx);cases (show t = _ from h);exact ⟨_,PySem.W.kitx_bool,True.intro,fun z => nomatch z⟩
 | int i => obtain ⟨tk,q⟩ := (show ∃ t,u = Value.int i t from rx);cases q;cases (show t = _ from h);exact ⟨_,PySem.W.kitx_int,True.intro,fun z => nomatch z⟩
 | str y => obtain ⟨tk,q⟩ := (show ∃ t,u = Value.str y t from rx);cases q;cases (show t = _ from h);exact ⟨_,PySem.W.kitx_str,True.intro,fun z => nomatch z⟩
 | ref a =>
  cases (show u = Value.ref a from rx)
  rcases (show (t = "tuple"∧∃ vs,SqT X.K H a vs) ∨ (t = "list"∧∃ vs,SqL X.K H a vs) from h) with ⟨rfl,vs,hs⟩ | ⟨rfl,vs,hs⟩
  ·obtain ⟨its,_,p,_⟩ := I.tuple hs
   obtain ⟨o,h1,h2,_⟩ := p
   exact ⟨_,PySem.W.kitx_tuple,⟨o,h1,h2⟩,fun z => nomatch z⟩
  ·obtain ⟨its,_,p,_⟩ := I.list hs
   obtain ⟨o,n,h1,h2,_⟩ := p
   exact ⟨_,PySem.W.kitx_list,⟨o,h1,h2⟩,fun z => nomatch z⟩
 | _ => exact False.elim h
abbrev QL : List String := ["bool","int","str","tuple","list"]
theorem qa8 : ZI X (.builtin "isinstance") (fun xs H Q => ∃ x t c,xs = [x,.ty c]∧TyS X.K H x t∧c ∈ QL∧Q (.bl (zq t c)) H) := by
 intro pins s σ H xs us Q I r h
 obtain ⟨x,t,c,rfl,ht,hc,q⟩ := h
 obtain ⟨u,w,rfl,rx,rc⟩ := N0 r
 cases (show w = Value.type c from rc)
 obtain ⟨HH,kx,hh,ne⟩ := ht.kitx I rx
 exact PySem.W.kia_one kx I.kIn hh (CA X.K t ht.mem c hc) ne fun tk => ⟨.bl _,H,I.tok tk,rfl,q⟩
theorem qa5 (K : PySem.W.Frag) {t c d : String} (ht : t ∈ ["NoneType","bool","int","str","tuple","list"]) (hc : c ∈ QL) (hd : d ∈ QL) : PySem.W.kitAny K (.type t) [.type c,.type d] = some (zq t c || zq t d) := by
 unfold PySem.W.kitAny
 rw [CA K t ht c hc]
 cases zq t c with
 | true => rfl
 | false =>
  show PySem.W.kitAny K (.type t) [.type d] = _
  unfold PySem.W.kitAny
  rw [CA K t ht d hd]
  cases zq t d <;> rfl
theorem NG : ZI X (.builtin "isinstance") (fun xs H Q => ∃ x t c d p,xs = [x,.ref p]∧H p = some (.tup [.ty c,.ty d])∧TyS X.K H x t∧c ∈ QL∧d ∈ QL∧Q (.bl (zq t c || zq t d)) H) := by
 intro pins s σ H xs us Q I r h
 obtain ⟨x,t,c,d,p,rfl,hp,ht,hc,hd,q⟩ := h
 obtain ⟨u,w,rfl,rx,rc⟩ := N0 r
 cases (show w = Value.ref p from rc)
 obtain ⟨HH,kx,hh,ne⟩ := ht.kitx I rx
 obtain ⟨_,its,rv,⟨o,ho,hcl,n,hda⟩⟩ := (show YY X.prog X.w H s.heap p (.tup [.ty c,.ty d]) from I.hok p _ hp)
 obtain ⟨u1,u2,rfl,r1,r2⟩ := N0 rv
 cases (show u1 = Value.type c from r1)
 cases (show u2 = Value.type d from r2)
 obtain ⟨cl,dd,da,sl⟩ := o
 cases (show cl = _ from hcl)
 cases (show da = _ from hda)
 exact PySem.W.kia_tup kx I.kIn hh ho (qa5 X.K ht.mem hc hd) ne fun tk => ⟨.bl _,H,I.tok tk,rfl,q⟩
theorem qb5 {K : PySem.W.Frag} {G : Gp} {H : Hp} (hr : HR K G H) {x : T} {v : V} {t : String} (r : Rp K H x v) (h : tyT G x = some t) : TyS K H v t := by
 cases r with
 | non => cases h;rfl
 | bl _ => cases h;rfl
 | int _ => cases h;rfl
 | str _ => cases h;rfl
 | tup hs rs => cases h;exact .inl ⟨rfl,_,hs⟩
 | ref a =>
  have h : (if (getL G a).isSome then some "list" else none) = some t := h
  split at h
  ·rename_i e
   cases h
   obtain ⟨ys,e⟩ := Option.isSome_iff_exists.mp e
   obtain ⟨us,hs,_⟩ := zW hr e
   exact .inr ⟨rfl,us,hs⟩
  ·cases h
def zL (f : String → Bool) (te : TE3) : TE3 := fun τ G q => te τ G fun x G1 => match tyT G1 x with | some t => q (.bl (f t)) G1 | none => False
theorem qhA {tn : Str} {ty : String} {p p2 : Pos} (he : E3 X e te) (hg : Gl X "isinstance") (hm : X.mg "isinstance" = none) (hg2 : Gl X tn) (hm2 : X.mg tn = none) (hv : bootBuiltins tn = some (.type ty)) (hmem : ty ∈ QL := by decide) (hn : tn ≠ "__name__" := by decide) (hdb : (tn == ("__debug__" : Str)) = false := by decide)
  (hs : starEach [e,.Name tn p2] X.env = (false,eval e X.env) :: starEach [.Name tn p2] X.env := by rfl) (hs2 : starEach [.Name tn p2] X.env = (false,eval (.Name tn p2) X.env) :: starEach [] X.env := by rfl) (hpl : (backTo pos (starEach [.Name tn p2] X.env)).any (·.1) = false := by rfl) :
  E3 X (.Call (.Name "isinstance" p) [e,.Name tn p2] [] pos) (zL (fun t => zq t ty) te) :=
 W4 (CL qa8 hg hm PyProof.Rows.boot_isinstance (Y2 he (Y2 (TH (v := .ty ty) hg2 hm2 hv rfl hn hdb) KH hs2) hs) (by decide) (by decide) hs hpl)
  fun _ _ _ ⟨τ,G,q,rl,h,af⟩ => zQ rl h fun x G1 h1 v H1 rx hr1 k1 rl1 => by
   split at h1
   ·rename_i t e1
    exact ⟨_,t,ty,rfl,qb5 hr1 rx e1,hmem,af _ G1 h1 _ H1 (.bl _) hr1 k1⟩
   ·exact h1.elim
theorem qf4 {tn tn' : Str} {ty ty' : String} {p p2 p3 p4 : Pos} {x1} (he : E3 X e te) (hg : Gl X "isinstance") (hm : X.mg "isinstance" = none) (hg2 : Gl X tn) (hm2 : X.mg tn = none) (hv : bootBuiltins tn = some (.type ty)) (hg3 : Gl X tn') (hm3 : X.mg tn' = none) (hv3 : bootBuiltins tn' = some (.type ty'))
  (hmem : ty ∈ QL := by decide) (hn : tn ≠ "__name__" := by decide) (hdb : (tn == ("__debug__" : Str)) = false := by decide) (hmem3 : ty' ∈ QL := by decide) (hn3 : tn' ≠ "__name__" := by decide) (hdb3 : (tn' == ("__debug__" : Str)) = false := by decide)
  (hs : starEach [e,.Tuple [.Name tn p2,.Name tn' p3] x1 p4] X.env = (false,eval e X.env) :: starEach [.Tuple [.Name tn p2,.Name tn' p3] x1 p4] X.env := by rfl) (hs2 : starEach [.Tuple [.Name tn p2,.Name tn' p3] x1 p4] X.env = (false,eval (.Tuple [.Name tn p2,.Name tn' p3] x1 p4) X.env) :: starEach [] X.env := by rfl)
  (hs3 : starEach [.Name tn p2,.Name tn' p3] X.env = (false,eval (.Name tn p2) X.env) :: starEach [.Name tn' p3] X.env := by rfl) (hs4 : starEach [.Name tn' p3] X.env = (false,eval (.Name tn' p3) X.env) :: starEach [] X.env := by rfl)
  (hpl : (backTo pos (starEach [.Tuple [.Name tn p2,.Name tn' p3] x1 p4] X.env)).any (·.1) = false := by rfl) :
  E3 X (.Call (.Name "isinstance" p) [e,.Tuple [.Name tn p2,.Name tn' p3] x1 p4] [] pos) (zL (fun t => zq t ty || zq t ty') te) :=
 W4 (CL NG hg hm PyProof.Rows.boot_isinstance (Y2 he (Y2 (qbV (Y2 (TH (v := .ty ty) hg2 hm2 hv rfl hn hdb) (Y2 (TH (v := .ty ty') hg3 hm3 hv3 rfl hn3 hdb3) KH hs4) hs3)) KH hs2) hs) (by decide) (by decide) hs hpl)
  fun _ _ _ ⟨τ,G,q,rl,h,af⟩ => zQ rl h fun x G1 h1 v H1 rx hr1 k1 rl1 => by
   refine ⟨by show 2 ≤ sizeLine;decide,fun pp hp => ?_⟩
   split at h1
   ·rename_i t e1
    have hr2 := hr1.laid (ho := .tup [.ty ty,.ty ty']) hp
    have kk : Kp G1 H1 G1 (upd H1 pp (.tup [.ty ty,.ty ty'])) := Kp.laid hp
    exact ⟨_,t,ty,ty',pp,rfl,zw,qb5 hr2 (rx.keep hr1 kk) e1,hmem,hmem3,af _ G1 h1 _ _ (.bl _) hr2 (k1.trans kk)⟩
   ·exact h1.elim
structure Ends3 where
 nx : St3 → Gp → Prop
 rt : Q3
 bk : St3 → Gp → Prop := fun _ _ => False
 ct : St3 → Gp → Prop := fun _ _ => False
abbrev TS3 := Ends3 → St3 → Gp → Prop
def qa9 (K : PySem.W.Frag) (G : Gp) (H : Hp) (q : St3 → Gp → Prop) (Q : L2.St → Hp → Prop) : Prop := ∀ τ G',q τ G' → ∀ σ H',Rel K τ G' σ H' → Kp G H G' H' → Q σ H'
structure AftD (K : PySem.W.Frag) (G : Gp) (H : Hp) (d : Ends3) (D : Ends) : Prop where
 nx : qa9 K G H d.nx D.nx
 rt : Aft K G H d.rt D.rt
 bk : qa9 K G H d.bk D.bk
 ct : qa9 K G H d.ct D.ct
theorem qa9.back {K : PySem.W.Frag} {G G1 : Gp} {H H1 : Hp} {q : St3 → Gp → Prop} {Q : L2.St → Hp → Prop} (a : qa9 K G H q Q) (k : Kp G H G1 H1) : qa9 K G1 H1 q Q := fun x G' h v H' r k' => a x G' h v H' r (k.trans k')
theorem AftD.back {K : PySem.W.Frag} {G G1 : Gp} {H H1 : Hp} {d : Ends3} {D : Ends} (a : AftD K G H d D) (k : Kp G H G1 H1) : AftD K G1 H1 d D := ⟨a.nx.back k,a.rt.back k,a.bk.back k,a.ct.back k⟩
def lS (K : PySem.W.Frag) (t : TS3) : TS := fun D σ H => ∃ τ G d,Rel K τ G σ H∧t d τ G∧AftD K G H d D
abbrev S3 (X : Cx) (st : Stmt) (t : TS3) : Prop := PS X st (lS X.K t)
abbrev B3 (X : Cx) (st : List Stmt) (t : TS3) : Prop := PSs X st (lS X.K t)
theorem qag {X : Cx} {st : Stmt} {t t' : TS} (h : PS X st t) (w : ∀ D σ H,t' D σ H → t D σ H) : PS X st t' := fun pins s σ H D I q => h pins s σ H D I (w D σ H q)
theorem qgv {X : Cx} {st : List Stmt} {t t' : TS} (h : PSs X st t) (w : ∀ D σ H,t' D σ H → t D σ H) : PSs X st t' := fun pins s σ H D I q => h pins s σ H D I (w D σ H q)
variable {st : Stmt} {VJ : List Stmt} {t1 t2 : TS3} {tA : TT3}
def qm : TS3 := fun d τ G => d.nx τ G
def qv (t u : TS3) : TS3 := fun d τ G => t { d with nx := u d } τ G
theorem qiw : B3 X [] qm := qgv qdh fun _ σ H ⟨τ,G,d,rl,h,af⟩ => af.nx τ G h σ H rl Kp.refl
theorem qf1 (h1 : S3 X st t1) (h2 : B3 X VJ t2) : B3 X (st :: VJ) (qv t1 t2) := qgv (qap h1 h2) fun D σ H ⟨τ,G,d,rl,h,af⟩ =>
 ⟨τ,G,{ d with nx := t2 d },rl,h,⟨fun τ' G' h' σ' H' rl' k' => ⟨τ',G',d,rl',h',af.back k'⟩,af.rt,af.bk,af.ct⟩⟩
theorem qh1 (h1 : S3 X st t1) : B3 X [st] t1 := qc9 h1
def qQ (te : TE3) : TS3 := fun d τ G => te τ G fun _ G1 => d.nx τ G1
theorem qeH (he : E3 X e te) (hs : swapsWith e none pos.line X.env = pure false := by rfl) : S3 X (.Expr e pos) (qQ te) := qag (qcz he hs) fun _ σ H ⟨τ,G,d,rl,h,af⟩ =>
 zQ rl h fun x G1 h1 v H1 rx hr1 k1 rl1 => af.nx τ G1 h1 σ H1 rl1 k1
def qz (te : TE3) : TS3 := fun d τ G => te τ G d.rt
theorem qis (he : E3 X e te) : S3 X (.Return (some e) pos) (qz te) := qag (qf3 he) fun _ σ H ⟨τ,G,d,rl,h,af⟩ => ⟨τ,G,d.rt,rl,h,af.rt⟩
def zd : TS3 := fun d _ G => d.rt .non G
def qN (c : TT3) (t u : TS3) : TS3 := fun d τ G => c τ G fun k G1 => if k = true then t d τ G1 else u d τ G1
theorem qi1 {c : Expr} {ba bb : List Stmt} (hc : C3 X c tA) (ha : B3 X ba t1) (hb : B3 X bb t2) : S3 X (.If c ba bb pos) (qN tA t1 t2) := qag (qiB hc ha hb) fun _ σ H ⟨τ,G,d,rl,h,af⟩ =>
 RA rl h fun k G1 h1 H1 hr1 k1 rl1 => by
  cases k with
  | true => rw [if_pos rfl] at h1 ⊢;exact ⟨τ,G1,d,rl1,h1,af.back k1⟩
  | false => rw [if_neg Bool.false_ne_true] at h1 ⊢;exact ⟨τ,G1,d,rl1,h1,af.back k1⟩
def jr : TS3 := fun _ _ _ => False
theorem qcC {sts : List Stmt} : B3 X sts jr := fun _ _ _ _ _ _ ⟨_,_,_,_,h,_⟩ => h.elim
abbrev TG3 := T → St3 → Gp → (St3 → Gp → Prop) → Prop
abbrev N5 := List T → St3 → Gp → (St3 → Gp → Prop) → Prop
def lG (K : PySem.W.Frag) (t : TG3) : TG := fun v σ H Q => ∃ x τ G q,Rp K H x v∧Rel K τ G σ H∧t x τ G q∧qa9 K G H q Q
def lGs (K : PySem.W.Frag) (t : N5) : TGs := fun v σ H Q => ∃ x τ G q,Rps K H x v∧Rel K τ G σ H∧t x τ G q∧qa9 K G H q Q
abbrev G3 (X : Cx) (e : Expr) (t : TG3) : Prop := PG X e (lG X.K t)
abbrev Gs3 (X : Cx) (es : List Expr) (t : N5) : Prop := PGs X es (lGs X.K t)
theorem qhw {X : Cx} {e : Expr} {t t' : TG} (h : PG X e t) (w : ∀ v σ H Q,t' v σ H Q → t v σ H Q) : PG X e t' := fun pins s σ H v u Q I r q => h pins s σ H v u Q I r (w v σ H Q q)
theorem qfW {X : Cx} {e : List Expr} {t t' : TGs} (h : PGs X e t) (w : ∀ v σ H Q,t' v σ H Q → t v σ H Q) : PGs X e t' := fun pins s σ H v u Q I r q => h pins s σ H v u Q I r (w v σ H Q q)
def gn3 (i : Nat) : TG3 := fun x τ G q => q (τ.set i (some x)) G
theorem qdT {i : Nat} {x : Str} (hN : X.N.Nodup) (hi : X.N[i]? = some x := by rfl) (hx : Loc X.env.scope x := by first | exact Or.inl rfl | exact Or.inr rfl) (hf : X.fn x = true ∨ X.env.scope.names.lookup x = some .local := by first | exact .inl rfl | exact .inr rfl) : G3 X (.Name x pos) (gn3 i) :=
 qhw (qdx hN hi hx hf) fun v σ H Q ⟨x,τ,G,q,rx,rl,h,af⟩ => af _ G h _ H (rl.set i rx) Kp.refl
def qw : N5 := fun xs τ G q => match xs with | [] => q τ G | _ => False
def qj (t : TG3) (u : N5) : N5 := fun xs τ G q => match xs with | x :: r => t x τ G fun τ' G' => u r τ' G' q | [] => False
theorem qhr : Gs3 X [] qw := qfW qdt fun v σ H Q ⟨x,τ,G,q,rx,rl,h,af⟩ => by
 cases rx with
 | nil => exact ⟨rfl,af _ G h _ H rl Kp.refl⟩
 | cons _ _ => exact h.elim
theorem qgH {tg : TG3} {tgs : N5} (h1 : G3 X e tg) (h2 : Gs3 X es tgs) (hs : (assignEach (e :: es) X.env).map (·.2) = assign e X.env :: (assignEach es X.env).map (·.2) := by rfl) : Gs3 X (e :: es) (qj tg tgs) := qfW (qaD h1 h2 hs) fun v σ H Q ⟨x,τ,G,q,rx,rl,h,af⟩ => by
 cases rx with
 | nil => exact h.elim
 | cons r rs => exact ⟨_,_,rfl,_,τ,G,_,r,rl,h,fun τ' G' h' σ' H' rl' k' => ⟨_,τ',G',q,rs.keep rl.hp k',rl',h',af.back k'⟩⟩
def qx (n : Nat) (t : N5) : TG3 := fun x τ G q => match x with | .tup xs => xs.length = n∧t xs τ G q | _ => False
theorem qh4 {k : Nat} {tgs : N5} {n : Nat} (hc : X.calm = true) (h : Gs3 X es tgs) (hn : (assignEach es X.env).length = n := by rfl) (hst : (assignEach es X.env).findIdx? (·.1) = none := by rfl) : G3 X (.Tuple es k pos) (qx n tgs) :=
 qhw (qfA hc h hn hst) fun v σ H Q ⟨x,τ,G,q,rx,rl,h,af⟩ => by
  cases x <;> try exact h.elim
  case tup xs =>
   cases rx with
   | tup hs rs => exact ⟨_,_,rfl,hs,by rw [← rs.length];exact h.1,_,τ,G,q,rs,rl,h.2,af⟩
def je : T → T → T → Gp → (Gp → Prop) → Prop := fun o i v G q => match o,i with
 | .ref p,.int k => (match G p with | some (.lst xs) => (match ixN xs.length k with | some j => q (gu G p (.lst (xs.set j v))) | none => False) | _ => False)
 | _,_ => False
def qT (to ti : TE3) : TG3 := fun x τ G q => to τ G fun o G1 => ti τ G1 fun i G2 => je o i x G2 fun G3 => q τ G3
theorem qhP {o i : Expr} {to ti : TE3} (ho : E3 X o to) (hi : E3 X i ti) (ha : ∀ v,assign (.Subscript o i pos) X.env v = (do
      let ov ← holding [v] (eval o X.env)
      let iv ← holding [v,ov] (eval i X.env)
      standAt pos
      holding [v,ov,iv] (setItem ov iv v)
      release [v,ov,iv] []) := by intro _;rfl) : G3 X (.Subscript o i pos) (qT to ti) :=
  qhw (qfc ho hi qaR ha) fun v σ H Q ⟨x,τ,G,q,rx,rl,h,af⟩ => zQ rl h fun y G1 h1 u H1 ry hr1 k1 rl1 => zQ rl1 h1 fun z G2 h2 w H2 rz hr2 k2 rl2 => by
    have rx2 := (rx.keep rl.hp k1).keep hr1 k2
    have ry2 := ry.keep hr1 k2
    unfold je at h2
    split at h2
    · rename_i p k
      split at h2
      · rename_i xs e
        split at h2
        · rename_i j ej
          cases ry2;cases rz
          obtain ⟨vs,g1,r1⟩ := hr2.lst e
          have kk : Kp G2 H2 (gu G2 p (.lst (xs.set j x))) (upd H2 p (.lst (vs.set j v))) := Kp.wr e
          exact ⟨p,vs,k,j,rfl,rfl,g1,by rw [← r1.length];exact ej,af τ _ h2 σ _ (rl2.next (hr2.wr e (r1.set rx2 j)) kk) ((k1.trans k2).trans kk)⟩
        · exact h2.elim
      · exact h2.elim
    · exact h2.elim
def qD (te : TE3) (g : TG3) : TS3 := fun d τ G => te τ G fun x G1 => g x τ G1 d.nx
theorem qhE {tg e : Expr} {g : TG3} (he : E3 X e te) (hg : G3 X tg g) (hs : swapsWithSole [tg] e pos.line X.env = pure false := by rfl) (hw : swappedStores [tg] e X.env = pure none := by rfl)
  (h1 : (assignEach [tg] X.env).map (·.2) = [assign tg X.env] := by rfl) : S3 X (.Assign [tg] e pos) (qD te g) := qag (qe8 he hg hs hw h1) fun _ σ H ⟨τ,G,d,rl,h,af⟩ =>
 zQ rl h fun x G1 h1 v H1 rx hr1 k1 rl1 => ⟨x,τ,G1,d.nx,rx,rl1,h1,af.nx.back k1⟩
theorem qhO (i : Nat) {x : Str} {e : Expr} {pos' : Pos} (hN : X.N.Nodup) (he : E3 X e te) (hi : X.N[i]? = some x := by rfl) (hx : Loc X.env.scope x := by first | exact Or.inl rfl | exact Or.inr rfl) (hs : swapsWith e (some (.Name x pos')) pos.line X.env = pure false := by rfl) (hf : X.fn x = true ∨ X.env.scope.names.lookup x = some .local := by first | exact .inl rfl | exact .inr rfl) :
  S3 X (.Assign [.Name x pos'] e pos) (qD te (gn3 i)) := qag (qe3 hN hi hx he hs hf) fun _ σ H ⟨τ,G,d,rl,h,af⟩ =>
 zQ rl h fun x G1 h1 v H1 rx hr1 k1 rl1 => af.nx _ G1 h1 _ H1 (rl1.set i rx) k1
def zE (i j : Nat) (ta : TA3) : TS3 := fun d τ G => ta τ G fun xs G1 => match xs with | [x,y] => d.nx ((τ.set i (some x)).set j (some y)) G1 | _ => False
theorem qik {i j : Nat} {x y : Str} {a b : Expr} {tt : TA3} {px py pt : Pos} {kt k2 pt2} (hc : X.calm = true) (hN : X.N.Nodup) (hi : X.N[i]? = some x) (hj : X.N[j]? = some y) (hij : i ≠ j)
  (hx : X.env.scope.names.lookup x = some .local) (hy : X.env.scope.names.lookup y = some .local) (ha : A3 X [a,b] tt)
  (hw : swappedStores [.Tuple [.Name x px,.Name y py] kt pt] (.Tuple [a,b] k2 pt2) X.env = pure (some [x,y]) := by rfl)
  (hs : swapsWithSole [.Tuple [.Name x px,.Name y py] kt pt] (.Tuple [a,b] k2 pt2) pos.line X.env = pure false := by rfl) :
  S3 X (.Assign [.Tuple [.Name x px,.Name y py] kt pt] (.Tuple [a,b] k2 pt2) pos) (zE i j tt) := qag (qgP hc hN hi hj hij hx hy ha hw hs) fun _ σ H ⟨τ,G,d,rl,h,af⟩ =>
 JT rl h fun xs G1 h1 vs H1 rs hr1 k1 rl1 => by
  split at h1
  ·obtain ⟨v,u,rfl,r,r'⟩ := qg2 rs
   exact ⟨v,u,rfl,af.nx _ G1 h1 _ H1 ((rl1.set i r).set j r') k1⟩
  ·exact h1.elim
end
end L3
namespace L3
open PySem PySem.Spec PyProof.Rows L2
abbrev TI3 := St3 → Gp → (List T → (Gp → Prop) → Gp → Prop) → Prop
def qdJ (K : PySem.W.Frag) (J : It) (items : List T) (stay : Gp → Prop) (G0 : Gp) (H0 : Hp) : Prop := ∀ G H,HR K G H → Kp G0 H0 G H → stay G →
 (∀ i x,items[i]? = some x → J.go i H)∧(∀ i x v H',items[i]? = some x → J.yld i H v H' → Rp K H' x v∧HR K G H'∧Kp G H G H')∧J.stop items.length H
def lI (K : PySem.W.Frag) (wi : TI3) : TI := fun σ H R => ∃ τ G r,Rel K τ G σ H∧wi τ G r∧∀ items stay G',r items stay G' → ∀ J H',HR K G' H' → Kp G H G' H' → qdJ K J items stay G' H' → R J H'
abbrev I3 (X : Cx) (tg iter : Expr) (wi : TI3) : Prop := PI X tg iter (lI X.K wi)
theorem qf8 {X : Cx} {tg e : Expr} {t t' : TI} (h : PI X tg e t) (w : ∀ σ H R,t' σ H R → t σ H R) : PI X tg e t' := fun pins s σ H R I q => h pins s σ H R I (w σ H R q)
section
variable {X : Cx} {a b c e l tg : Expr} {es : List Expr} {ta tb tc te : TE3} {t : TA3} {pos : Pos}
theorem qed {tl : TE} (hl : PE X l tl) : PI X tg l (fun σ H R => tl σ H fun x H1 => ∃ a,x = .ref a∧(((∃ xs,SqL X.K H1 a xs)∧R (Itl X.K a) H1) ∨ ((∃ xs,SqT X.K H1 a xs)∧R (Itt X.K a) H1))) := by
 intro pins s σ H R I h
 refine thn (hl pins s σ H _ I h) fun v s1 ⟨x,H1,I1,r1,q1⟩ => ?_
 obtain ⟨a,e,⟨⟨xs,hq⟩,q⟩ | ⟨⟨xs,hq⟩,q⟩⟩ := q1
 ·subst e
  cases r1
  obtain ⟨its,rv,p,hz⟩ := I1.list hq
  refine wpAny_pyIter_list p.isList ?_
  refine ⟨s1.heap.objs.size,[s1.heap.objs.size],_,_,H1,rfl,I1.kept (t' := s1.toks) fun b o e => Heap.get?_push_of_some _ e,MJ a _,⟨_,Heap.get?_push_size _ rfl,rfl,rfl⟩,fun b hb => ?_,q⟩
  have e : b = s1.heap.objs.size := by simpa using hb
  subst e
  exact I1.fpOk (Nat.le_refl _) (I1.hok.fresh (Nat.le_refl _))
 ·subst e
  cases r1
  obtain ⟨its,rv,p,hz⟩ := I1.tuple hq
  refine wpAny_pyIter_tuple (show s1.heap.IsTuple a its.toArray from p) ?_
  refine ⟨s1.heap.objs.size,[s1.heap.objs.size],_,_,H1,rfl,I1.kept (t' := s1.toks) fun b o e => Heap.get?_push_of_some _ e,LA a _,⟨_,Heap.get?_push_size _ rfl,rfl,rfl⟩,fun b hb => ?_,q⟩
  have e : b = s1.heap.objs.size := by simpa using hb
  subst e
  exact I1.fpOk (Nat.le_refl _) (I1.hok.fresh (Nat.le_refl _))
def jI (tl : TE3) : TI3 := fun τ G r => tl τ G fun x G1 => match x with
 | .tup xs => r xs (fun _ => True) G1
 | .ref p => (match getL G1 p with | some xs => r xs (fun G => getL G p = some xs) G1 | none => False)
 | _ => False
theorem qeE {K : PySem.W.Frag} {p : Addr} {xs : List T} {G0 : Gp} {H0 : Hp} : qdJ K (Itl K p) xs (fun G => getL G p = some xs) G0 H0 := by
 intro G H hr _ hs
 obtain ⟨vs,sq,rs⟩ := zW hr hs
 refine ⟨fun i x hi => ?_,fun i x v H' hi y => ?_,⟨vs,sq,by rw [rs.length];exact Nat.le_refl _⟩⟩
 ·obtain ⟨v,hv,_⟩ := rs.get hi
  exact ⟨vs,v,sq,hv⟩
 ·obtain ⟨e,y⟩ := y
  subst e
  obtain ⟨w,hw,rw'⟩ := rs.get hi
  have e2 := (y vs sq).symm.trans hw
  cases e2
  exact ⟨rw',hr,Kp.refl⟩
theorem qf9 {K : PySem.W.Frag} {p : Addr} {xs : List T} {vs : List V} {G0 : Gp} {H0 : Hp} (hr0 : HR K G0 H0) (sq0 : SqT K H0 p vs) (rs0 : Rps K H0 xs vs) : qdJ K (Itt K p) xs (fun _ => True) G0 H0 := by
 intro G H hr k _
 have sq := CW hr0 k sq0
 have rs := rs0.keep hr0 k
 refine ⟨fun i x hi => ?_,fun i x v H' hi y => ?_,⟨vs,sq,by rw [rs.length];exact Nat.le_refl _⟩⟩
 ·obtain ⟨v,hv,_⟩ := rs.get hi
  exact ⟨vs,v,sq,hv⟩
 ·obtain ⟨e,y⟩ := y
  subst e
  obtain ⟨w,hw,rw'⟩ := rs.get hi
  have e2 := (y vs sq).symm.trans hw
  cases e2
  exact ⟨rw',hr,Kp.refl⟩
theorem qhY (hl : E3 X l te) : I3 X tg l (jI te) := qf8 (qed hl) fun σ H R ⟨τ,G,r,rl,h,af⟩ => zQ rl h fun x G1 h1 v H1 rx hr1 k1 rl1 => by
 cases x <;> try exact h1.elim
 case tup xs =>
  cases rx with
  | tup hs rs => exact ⟨_,rfl,.inr ⟨⟨_,hs⟩,af _ _ G1 h1 _ H1 hr1 k1 (qf9 hr1 hs rs)⟩⟩
 case ref p =>
  simp only at h1
  split at h1
  ·rename_i xs e0
   cases rx
   obtain ⟨vs,hs,rs⟩ := zW hr1 e0
   exact ⟨_,rfl,.inl ⟨⟨_,hs⟩,af _ _ G1 h1 _ H1 hr1 k1 qeE⟩⟩
  ·exact h1.elim
def DI (lo : Int) (n : Nat) : List T := (List.range n).map fun (i : Nat) => T.int (lo + (i : Int))
theorem qcj {K : PySem.W.Frag} {lo : Int} {n : Nat} {G0 : Gp} {H0 : Hp} : qdJ K (Itr lo n) (DI lo n) (fun _ => True) G0 H0 := by
 intro G H hr k _
 have hl : (DI lo n).length = n := by simp [DI]
 refine ⟨fun i x hi => ?_,fun i x v H' hi y => ?_,(show n ≤ (DI lo n).length by rw [hl];exact Nat.le_refl n)⟩
 ·have := (List.getElem?_eq_some_iff.mp hi).1
  rw [hl] at this
  exact this
 ·obtain ⟨e,y⟩ := y
  subst e
  subst y
  have h1 := (List.getElem?_eq_some_iff.mp hi).1
  rw [hl] at h1
  unfold DI at hi
  rw [List.getElem?_map,List.getElem?_range h1] at hi
  have e : T.int (lo + (i : Int)) = x := by simpa using hi
  subst e
  exact ⟨.int _,hr,Kp.refl⟩
def zh (ta : TA3) : TI3 := fun τ G r => ta τ G fun xs G1 => match xs with
 | [.int j] => (-(2 ^ 62) ≤ j∧j < 2 ^ 62)∧r (DI 0 j.toNat) (fun _ => True) G1
 | [.int i,.int j] => (-(2 ^ 62) ≤ i∧i < 2 ^ 62∧-(2 ^ 62) ≤ j∧j < 2 ^ 62)∧r (DI i (j - i).toNat) (fun _ => True) G1
 | _ => False
theorem qaW {p : Pos} (hg : Gl X "range") (hm : X.mg "range" = none) (ha : A3 X [a] t) (hs : starEach [a] X.env = [(false,eval a X.env)] := by rfl) (h1 : ∀ τ G q,t τ G q → t τ G fun xs G => q xs G∧xs.length = 1) : I3 X tg (.Call (.Name "range" p) [a] [] pos) (zh t) :=
 qf8 (NX hg hm ha hs) fun σ H R ⟨τ,G,r,rl,h,af⟩ => JT rl (h1 _ _ _ h) fun xs G1 h1 vs H1 rs hr1 k1 rl1 => by
  obtain ⟨h1,hl⟩ := h1
  simp only at h1
  split at h1
  ·obtain ⟨v,rfl,r1⟩ := X9 rs
   cases r1
   exact ⟨_,rfl,h1.1.1,h1.1.2,af _ _ G1 h1.2 _ H1 hr1 k1 qcj⟩
  ·simp at hl
  ·exact h1.elim
theorem qaK {p : Pos} (hg : Gl X "range") (hm : X.mg "range" = none) (ha : A3 X [a,b] t) (hs : starEach [a,b] X.env = [(false,eval a X.env),(false,eval b X.env)] := by rfl) (hs2 : starEach [b] X.env = [(false,eval b X.env)] := by rfl) (h1 : ∀ τ G q,t τ G q → t τ G fun xs G => q xs G∧xs.length = 2) : I3 X tg (.Call (.Name "range" p) [a,b] [] pos) (zh t) :=
 qf8 (N4 hg hm ha hs hs2) fun σ H R ⟨τ,G,r,rl,h,af⟩ => JT rl (h1 _ _ _ h) fun xs G1 h1 vs H1 rs hr1 k1 rl1 => by
  obtain ⟨h1,hl⟩ := h1
  simp only at h1
  split at h1
  ·simp at hl
  ·obtain ⟨v,u,rfl,r1,r2⟩ := qg2 rs
   cases r1;cases r2
   exact ⟨_,_,rfl,h1.1,af _ _ G1 h1.2 _ H1 hr1 k1 qcj⟩
  ·exact h1.elim
def S5 (stay : Gp → Prop) (g : TG3) (tb : TS3) (d : Ends3) : List T → St3 → Gp → Prop
 | [],τ,G => stay G∧d.nx τ G
 | x :: r,τ,G => stay G∧g x τ G fun τ2 G2 => tb { d with nx := S5 stay g tb d r,ct := S5 stay g tb d r,bk := d.nx } τ2 G2
def UH (wi : TI3) (g : TG3) (tb : TS3) : TS3 := fun d τ G => wi τ G fun items stay G1 => S5 stay g tb d items τ G1
theorem qhn {iter : Expr} {body : List Stmt} {wi : TI3} {g : TG3} {tb : TS3} (hp : PassesOwn (model X.prog X.w) X.A X.env X.xe) (hc : X.calm = true) (hi : I3 X tg iter wi) (hg : G3 X tg g) (hb : B3 X body tb)
  (hs : ∀ x,foldedSetIterable iter X.env x = pure x := by intro _;rfl) : S3 X (.For tg iter body [] pos) (UH wi g tb) :=
 qag (qgR hp hc hi hg hb hs) fun D σ H ⟨τ,G,d,rl,h,af⟩ => by
  refine ⟨τ,G,_,rl,h,fun items stay G1 h1 J H1 hr1 k1 ok => ?_⟩
  refine ⟨fun i m σ' H' => m = items.length - i∧i ≤ items.length∧∃ τ' G',Rel X.K τ' G' σ' H'∧Kp G1 H1 G' H'∧S5 stay g tb d (items.drop i) τ' G',⟨_,rfl,Nat.zero_le _,τ,G1,rl.next hr1 k1,Kp.refl,by simpa using h1⟩,?_⟩
  rintro i m σ' H' ⟨rfl,hi,τ',G',rl',k',h'⟩
  by_cases hlt : i < items.length
  ·rw [List.drop_eq_getElem_cons hlt] at h'
   obtain ⟨hst,h'⟩ := h'
   obtain ⟨go,yld,_⟩ := ok G' H' rl'.hp k' hst
   have hx : items[i]? = some items[i] := List.getElem?_eq_getElem hlt
   refine .inr ⟨go i _ hx,fun σ2 H2 => ∃ τ2 G2,Rel X.K τ2 G2 σ2 H2∧Kp G1 H1 G2 H2∧S5 stay g tb d (items.drop (i + 1)) τ2 G2,fun σ2 H2 h2 => ⟨_,by omega,rfl,hlt,h2⟩,fun v H2 y => ?_⟩
   obtain ⟨rv,hr2,k2⟩ := yld i _ v H2 hx y
   have k3 : Kp G1 H1 G' H2 := k'.trans k2
   refine ⟨_,τ',G',_,rv,rl'.next hr2 k2,h',fun τ3 G3 h3 σ3 H3 rl3 k4 => ?_⟩
   have k5 : Kp G H G3 H3 := (k1.trans k3).trans k4
   refine ⟨τ3,G3,_,rl3,h3,⟨fun τ4 G4 h4 σ4 H4 rl4 k6 => ⟨τ4,G4,rl4,(k3.trans k4).trans k6,h4⟩,af.rt.back k5,af.nx.back k5,fun τ4 G4 h4 σ4 H4 rl4 k6 => ⟨τ4,G4,rl4,(k3.trans k4).trans k6,h4⟩⟩⟩
  ·have e : i = items.length := by omega
   subst e
   rw [List.drop_length] at h'
   obtain ⟨_,_,stop⟩ := ok G' H' rl'.hp k' h'.1
   exact .inl ⟨stop,af.nx τ' G' h'.2 σ' H' rl' (k1.trans k')⟩
theorem zH {stay : Gp → Prop} {g : TG3} {tb : TS3} {d : Ends3} (items : List T) (Pv : Nat → St3 → Gp → Prop) {τ : St3} {G : Gp} (h0 : Pv 0 τ G) (hst : ∀ i τ G,i ≤ items.length → Pv i τ G → stay G)
  (hs : ∀ i x τ G (nx : St3 → Gp → Prop),items[i]? = some x → Pv i τ G → (∀ τ G,Pv (i + 1) τ G → nx τ G) → g x τ G fun τ2 G2 => tb { d with nx := nx,ct := nx,bk := d.nx } τ2 G2)
  (hd : ∀ τ G,Pv items.length τ G → d.nx τ G) : S5 stay g tb d items τ G := by
 have key : ∀ (r : List T) (i : Nat) τ G,items.drop i = r → i ≤ items.length → Pv i τ G → S5 stay g tb d r τ G := by
  intro r
  induction r with
  | nil =>
   intro i τ G e hi p
   have : i = items.length := by have := congrArg List.length e;simp at this;omega
   subst this
   exact ⟨hst _ τ G hi p,hd τ G p⟩
  | cons x r ih =>
   intro i τ G e hi p
   have hl : i < items.length := by
    apply Classical.byContradiction
    intro z
    rw [List.drop_eq_nil_of_le (by omega)] at e
    cases e
   have e' := List.drop_eq_getElem_cons hl
   rw [e] at e'
   injection e' with e1 e2
   refine ⟨hst i τ G hi p,hs i x τ G _ (by rw [List.getElem?_eq_getElem hl,e1]) p fun τ2 G2 p2 => ih (i + 1) τ2 G2 e2.symm hl p2⟩
 exact key items 0 τ G (by simp) (Nat.zero_le _) h0
def XU (c : TT3) (tb : TS3) : TS3 := fun d τ G => ∃ W : Nat → St3 → Gp → Prop,(∃ m,W m τ G)∧∀ m τ G,W m τ G →
 c τ G fun b G1 => if b = true then ∃ N : St3 → Gp → Prop,(∀ τ' G',N τ' G' → ∃ m',m' < m∧W m' τ' G')∧tb { d with nx := N,ct := N,bk := d.nx } τ G1 else d.nx τ G1
theorem qct {c : Expr} {body : List Stmt} {tc : TT3} {tb : TS3} (hp : PassesOwn (model X.prog X.w) X.A X.env X.xe) (hc : C3 X c tc) (hb : B3 X body tb) : S3 X (.While c body [] pos) (XU tc tb) :=
 qag (qaP hp hc hb) fun D σ H ⟨τ,G,d,rl,⟨W,⟨m0,w0⟩,turn⟩,af⟩ => by
  refine ⟨fun m σ' H' => ∃ τ' G',Rel X.K τ' G' σ' H'∧Kp G H G' H'∧W m τ' G',⟨m0,τ,G,rl,Kp.refl,w0⟩,?_⟩
  rintro m σ' H' ⟨τ',G',rl',k',w'⟩
  refine RA rl' (turn m τ' G' w') fun b G1 h1 H1 hr1 k1 rl1 => ?_
  cases b with
  | true =>
   rw [if_pos rfl] at h1 ⊢
   obtain ⟨N,hN,h1⟩ := h1
   refine ⟨fun σ2 H2 => ∃ τ2 G2,Rel X.K τ2 G2 σ2 H2∧Kp G H G2 H2∧N τ2 G2,fun σ2 H2 ⟨τ2,G2,r2,k2,n2⟩ => ?_,τ',G1,_,rl1,h1,⟨fun τ2 G2 h2 σ2 H2 r2 k2 => ⟨τ2,G2,r2,(k'.trans k1).trans k2,h2⟩,af.rt.back (k'.trans k1),af.nx.back (k'.trans k1),fun τ2 G2 h2 σ2 H2 r2 k2 => ⟨τ2,G2,r2,(k'.trans k1).trans k2,h2⟩⟩⟩
   obtain ⟨m',hm,w2⟩ := hN τ2 G2 n2
   exact ⟨m',hm,τ2,G2,r2,k2,w2⟩
  | false =>
   rw [if_neg Bool.false_ne_true] at h1 ⊢
   exact af.nx τ' G1 h1 σ' H1 rl1 (k'.trans k1)
abbrev Sp3 := List T → Gp → Q3 → Prop
def lSp (K : PySem.W.Frag) (sp : Sp3) : Sp := fun vs H Q _ => ∃ ts G q,HR K G H∧Rps K H ts vs∧sp ts G q∧Aft K G H q Q
def Fn3 (P : Program) (w : World) (K : PySem.W.Frag) (mg : Str → Option Value) (base : Heap) (k : Nat) (x : Str) (sp : Sp3) : Prop :=
 ∃ f fd ps,FnOk P w K mg base CX0 k f fd ps (lSp K sp)∧zl K fd ps []∧PySem.W.keepIn K (.ref f) = true∧mg x = some (.ref f)
theorem Fn3.mono {P : Program} {w : World} {K : PySem.W.Frag} {mg : Str → Option Value} {base : Heap} {j k : Nat} {x : Str} {sp : Sp3} (F : Fn3 P w K mg base j x sp) (h : j ≤ k) : Fn3 P w K mg base k x sp :=
 let ⟨f,fd,ps,a,b,c,d⟩ := F;⟨f,fd,ps,a.mono h,b,c,d⟩
theorem qfu {k : Nat} {x : Str} {p : Pos} {sp : Sp3} (F : Fn3 X.prog X.w X.K X.mg X.base k x sp) (hr : Room k X.A) (hg : Gl X x) (ha : A3 X (e :: es) t) (hdb : (x == ("__debug__" : Str)) = false := by decide)
  (he : starEach (e :: es) X.env = (false,eval e X.env) :: starEach es X.env := by rfl) (hpl : (backTo pos (starEach es X.env)).any (·.1) = false := by rfl) : E3 X (.Call (.Name x p) (e :: es) [] pos) (cb3 sp t) := by
 obtain ⟨f,fd,ps,F,b,kp,m⟩ := F
 refine W4 (qcI F hr hg m kp b .nil qhX ha hdb he hpl) fun σ H Q ⟨τ,G,q,rl,h,af⟩ => JT rl h fun xs G1 h1 vs H1 rs hr1 k1 rl1 => ?_
 rw [List.append_nil]
 exact ⟨xs,G1,q,hr1,rs,h1,af.back k1⟩
def qi (N : List Str) (ts : List T) : St3 := ts.map some ++ List.replicate (N.length - ts.length) none
theorem SH {K : PySem.W.Frag} {N : List Str} {G : Gp} {H : Hp} {ts : List T} {vs : List V} (hr : HR K G H) (rs : Rps K H ts vs) : Rel K (qi N ts) G (L2.D7 N vs) H := by
 refine ⟨hr,by simp [qi,L2.D7,rs.length],fun i t e => ?_⟩
 unfold qi at e
 by_cases hi : i < ts.length
 ·rw [List.getElem?_append_left (by simpa using hi),List.getElem?_map] at e
  cases q : ts[i]? with
  | none => rw [q] at e;cases e
  | some z =>
   rw [q] at e
   have e' : z = t := by simpa using e
   subst e'
   obtain ⟨v,hv,r⟩ := rs.get q
   refine ⟨v,?_,r⟩
   unfold L2.D7
   rw [List.getElem?_append_left (by rw [List.length_map,← rs.length];exact hi),List.getElem?_map,hv]
   rfl
 ·rw [List.getElem?_append_right (by simpa using hi),List.getElem?_replicate] at e
  split at e <;> cases e
theorem qep {P : Program} {w : World} {K : PySem.W.Frag} {mg : Str → Option Value} {base : Heap} {x qual : Str} {st : Stmt} {f : Addr} {fd : FuncData} {N ps : List Str} {k : Nat} {sp : Sp3} {t3 : TS3} (F : Fun K x qual st f fd) (S : FnScope N ps (qk st)) (bd : zl K fd ps []) (hm : mg x = some (.ref f))
  (body : ∀ (cdv : Value) (A : Around) (outer : List Env) (s : Shared) (H : Hp) (E : XK),Room k (A.deeper (envOfC qual (qk st) s.heap.objs.size f cdv)) →
   B3 (qah CX0 P w K mg base N qual (qk st) f cdv A outer s H E).nox (jD st) t3)
  (read : ∀ ts G q,sp ts G q → ts.length = ps.length∧t3 { nx := fun _ G' => q .non G',rt := q } (qi N ts) G) : Fn3 P w K mg base (k + 1) x sp := by
 refine ⟨f,fd,ps,F.ok S (fun vs H Q E ⟨ts,G,q,h1,h2,h3,h4⟩ => by rw [← h2.length];exact (read ts G q h3).1) fun cdv A outer s H vs Q E hr ⟨ts,G,q,h1,h2,h3,h4⟩ => ?_,bd,F.kp,hm⟩
 refine ⟨_,body cdv A outer s H E hr,qi N ts,G,_,SH h1 h2,(read ts G q h3).2,⟨fun τ' G' h' σ' H' rl' k' => h4 _ G' h' _ H' .non rl'.hp k',h4,fun _ _ z => z.elim,fun _ _ z => z.elim⟩⟩
def qcX (xs : List T) : Option Bool := match xs with
 | [] => some true
 | .bl k :: r => (match qcX r with | some j => some (k && j) | none => none)
 | _ => none
def qiK (xs : List T) : Option Bool := match xs with
 | [] => some false
 | .bl k :: r => (match qiK r with | some j => some (k || j) | none => none)
 | _ => none
theorem qat {P : Program} {w : World} {A : Around} {its : List Value} {ks : List Bool} (h : its = ks.map Value.bool) : TruthOf P w A (fun i v => its.toArray[i]? = some v) (fun i => ks.getD i true) := by
 intro i v s Q E hp hq
 subst h
 have hp' : ks[i]?.map Value.bool = some v := by simpa using hp
 cases e : ks[i]? with
 | none => rw [e] at hp';cases hp'
 | some k =>
  rw [e] at hp'
  cases hp'
  have : ks.getD i true = k := by rw [List.getD_eq_getElem?_getD,e];rfl
  have hq : Q (ks.getD i true) s := hq
  rw [this] at hq
  exact wpAny_truthy_bool hq
theorem XM : ∀ {ks : List Bool} {us : List Value},jh (ks.map V.bl) us → us = ks.map Value.bool
 | [],_,r => by cases r;rfl
 | k :: ks,_,r => by
  cases r with
  | cons a b => rw [show _ = Value.bool k from a,XM b];rfl
theorem NQ (ks : List Bool) : ((List.range ks.length).all fun i => ks.getD i true) = ks.all id := by
 induction ks with
 | nil => rfl
 | cons k ks ih =>
  rw [List.length_cons,List.range_succ_eq_map,List.all_cons,List.all_map,List.all_cons]
  congr 1
theorem YM (hc : X.calm = true) : ZI X (.builtin "all") (fun xs H Q => ∃ (p : Addr) (ks : List Bool),xs = [.ref p]∧SqL X.K H p (ks.map V.bl)∧Q (.bl (ks.all id)) H) := by
 intro pins s σ H xs us Q I r h
 obtain ⟨p,ks,rfl,hq,q⟩ := h
 obtain ⟨u,rfl,rp⟩ := EJ r
 cases (show u = Value.ref p from rp)
 obtain ⟨its,rv,pl,hz⟩ := I.list hq
 have hb := XM rv
 have hlen : its.length = ks.length := by rw [hb];simp
 have hp : p < s.heap.objs.size := by obtain ⟨o,n,e,_⟩ := pl;exact Heap.lt_size e
 refine call_all_walk (wpAny_pyIter_list pl.isList ⟨s.heap.objs.size,_,_,_,_,_,fun i => ks.getD i true,rfl,Walks.list (A := X.A.in1) (show X.A.in1.handled = none from I.ok.hd hc) s.heap.objs.size p (Nat.ne_of_lt hp) its.toArray,⟨⟨_,Heap.get?_push_size _ rfl,rfl,rfl⟩,?_⟩,qat hb,fun h' tk hk => ?_⟩)
 ·obtain ⟨o,n,e,c,_,d⟩ := pl
  exact ⟨o,Heap.get?_push_of_some _ e,c,n,d⟩
 ·refine ⟨.bl _,H,?_,rfl,by rw [List.size_toArray,hlen,NQ];exact q⟩
  exact I.kept (h' := h') (t' := tk) fun b o e => hk b o (by simp;exact Nat.ne_of_lt (Heap.lt_size e)) (Heap.get?_push_of_some _ e)
end
end L3
namespace L3
open PySem PySem.Spec PyProof.Rows L2
def XD (env : Env) : List (Str × NameKind) → List (Str × Addr) → List (Str × Addr)
 | [],cs => cs
 | (n,k) :: r,cs => if k = .free then XD env r ((n,(env.cells.lookup n).getD 0) :: cs) else XD env r cs
theorem Z8 {scope : Scope} {env : Env} (h : ∀ y ∈ scope.names,y.2 = .free → ∃ c,env.cells.lookup y.1 = some c) : closureFor scope env = pure (XD env scope.names []) := by
 have key : ∀ (l : List (Str × NameKind)) (cs : List (Str × Addr)),(∀ y ∈ l,y.2 = .free → ∃ c,env.cells.lookup y.1 = some c) →
   (forIn l cs fun (x : Str × NameKind) (r : List (Str × Addr)) => if (x.2 == NameKind.free) = true then (do let a ← cellOf env x.1;pure (ForInStep.yield ((x.1,a) :: r))) else pure (ForInStep.yield r)) = (pure (XD env l cs) : Sem _) := by
  intro l
  induction l with
  | nil => intro cs _;rfl
  | cons y r ih =>
   intro cs hl
   obtain ⟨n,k⟩ := y
   rw [List.forIn_cons]
   by_cases hk : k = .free
   ·subst hk
    obtain ⟨c,hc⟩ := hl (n,.free) List.mem_cons_self rfl
    have e : cellOf env n = pure c := by unfold cellOf;rw [show List.lookup n env.cells = some c from hc]
    simp only [beq_self_eq_true,if_true]
    rw [e,pure_bind,pure_bind]
    show forIn r ((n,c) :: cs) _ = _
    rw [ih _ fun z hz => hl z (List.mem_cons_of_mem _ hz)]
    show _ = (pure (if NameKind.free = NameKind.free then XD env r ((n,(env.cells.lookup n).getD 0) :: cs) else XD env r cs) : Sem _)
    rw [if_pos rfl,show List.lookup n env.cells = some c from hc]
    rfl
   ·have hb : (k == NameKind.free) = false := by cases k <;> first | rfl | exact absurd rfl hk
    simp only [hb,Bool.false_eq_true,if_false]
    rw [pure_bind]
    show forIn r cs _ = _
    rw [ih _ fun z hz => hl z (List.mem_cons_of_mem _ hz)]
    show _ = (pure (if k = NameKind.free then XD env r ((n,(env.cells.lookup n).getD 0) :: cs) else XD env r cs) : Sem _)
    rw [if_neg hk]
 have := key scope.names [] h
 unfold closureFor
 refine Eq.trans ?_ this
 exact bind_pure (m := Sem) _
theorem YX {env : Env} : ∀ (l : List (Str × NameKind)) (cs : List (Str × Addr)) (x : Str) (c : Addr),(∀ y ∈ l,y.2 = .free → ∃ c,env.cells.lookup y.1 = some c) →
  (∀ x c,cs.lookup x = some c → env.cells.lookup x = some c) → (XD env l cs).lookup x = some c → env.cells.lookup x = some c
 | [],_,_,_,_,h,e => h _ _ e
 | (n,k) :: r,cs,x,c,hl,h,e => by
  unfold XD at e
  split at e
  ·rename_i hk
   refine YX r _ x c (fun y hy => hl y (List.mem_cons_of_mem _ hy)) (fun x c e => ?_) e
   rw [List.lookup_cons] at e
   split at e
   ·rename_i hx
    have hx' : x = n := by simpa using hx
    subst hx'
    obtain ⟨d,hd⟩ := hl (x,k) List.mem_cons_self hk
    have hd : List.lookup x env.cells = some d := hd
    rw [hd] at e ⊢
    exact e
   ·exact h _ _ e
  ·exact YX r cs x c (fun y hy => hl y (List.mem_cons_of_mem _ hy)) h e
theorem DJ {env : Env} : ∀ (l : List (Str × NameKind)) (cs : List (Str × Addr)) (x : Str),((x,NameKind.free) ∈ l ∨ ∃ c,cs.lookup x = some c) → ∃ c,(XD env l cs).lookup x = some c
 | [],_,_,h => by
  rcases h with h | h
  ·simp at h
  ·exact h
 | (n,k) :: r,cs,x,h => by
  unfold XD
  have put : ∀ d : Addr,(x = n ∨ ∃ c,cs.lookup x = some c) → ∃ c,((n,d) :: cs).lookup x = some c := fun d z => by
   rw [List.lookup_cons]
   cases hx : x == n with
   | true => exact ⟨d,rfl⟩
   | false =>
    rcases z with z | z
    ·rw [z] at hx;simp at hx
    ·exact z
  split
  ·rename_i hk
   refine DJ r _ x ?_
   rcases h with h | h
   ·rcases List.mem_cons.mp h with e | e
    ·cases e;exact .inr (put _ (.inl rfl))
    ·exact .inl e
   ·exact .inr (put _ (.inr h))
  ·rename_i hk
   refine DJ r _ x ?_
   rcases h with h | h
   ·rcases List.mem_cons.mp h with e | e
    ·cases e;exact absurd rfl hk
    ·exact .inl e
   ·exact .inr h
theorem CO {env : Env} : ∀ (l : List (Str × NameKind)) (cs : List (Str × Addr)) (x : Str) (c : Addr),(XD env l cs).lookup x = some c → (x,NameKind.free) ∈ l ∨ cs.lookup x = some c
 | [],_,_,_,e => .inr e
 | (n,k) :: r,cs,x,c,e => by
  unfold XD at e
  split at e
  ·rename_i hk
   rcases CO r _ x c e with z | z
   ·exact .inl (List.mem_cons_of_mem _ z)
   ·rw [List.lookup_cons] at z
    split at z
    ·rename_i hx
     have hx' : x = n := by simpa using hx
     subst hx';subst hk
     exact .inl List.mem_cons_self
    ·exact .inr z
  ·rcases CO r cs x c e with z | z
   ·exact .inl (List.mem_cons_of_mem _ z)
   ·exact .inr z
theorem UM {α : Type} : ∀ (xs ys : List (Str × α)) (x : Str),(xs ++ ys).lookup x = (match xs.lookup x with | some c => some c | none => ys.lookup x)
 | [],ys,x => rfl
 | (n,c) :: xs,ys,x => by
  rw [List.cons_append,List.lookup_cons,List.lookup_cons]
  cases x == n with
  | true => rfl
  | false => exact UM xs ys x
theorem jE : ∀ (l : List (Str × NameKind)) {n : Nat} {acc : List (Str × Addr)},cellsFrom n l acc = cellsFrom n l [] ++ acc
 | [],_,_ => rfl
 | (x,k) :: r,n,acc => by
  unfold cellsFrom
  split
  ·rw [jE r (acc := (x,n) :: acc),jE r (acc := [(x,n)]),List.append_assoc];rfl
  ·exact jE r
theorem Z6 : ∀ (l : List (Str × NameKind)) (n : Nat) (acc : List (Str × Addr)) (x : Str) (c : Addr),(x,c) ∈ cellsFrom n l acc → (x,NameKind.cell) ∈ l ∨ (x,c) ∈ acc
 | [],_,_,_,_,h => .inr h
 | (y,k) :: r,n,acc,x,c,h => by
  unfold cellsFrom at h
  split at h
  ·rename_i hk
   have hk : k = .cell := by simpa using hk
   rcases Z6 r _ _ x c h with z | z
   ·exact .inl (List.mem_cons_of_mem _ z)
   ·rcases List.mem_cons.mp z with e | e
    ·cases e;subst hk;exact .inl List.mem_cons_self
    ·exact .inr e
  ·rcases Z6 r _ _ x c h with z | z
   ·exact .inl (List.mem_cons_of_mem _ z)
   ·exact .inr z
theorem QA : ∀ (l : List (Str × NameKind)) (n : Nat) (acc : List (Str × Addr)) (x : Str),((x,NameKind.cell) ∈ l ∨ ∃ c,acc.lookup x = some c) → ∃ c,(cellsFrom n l acc).lookup x = some c
 | [],_,_,_,h => by
  rcases h with h | h
  ·simp at h
  ·exact h
 | (y,k) :: r,n,acc,x,h => by
  unfold cellsFrom
  have put : (x = y ∨ ∃ c,acc.lookup x = some c) → ∃ c,((y,n) :: acc).lookup x = some c := fun z => by
   rw [List.lookup_cons]
   cases hx : x == y with
   | true => exact ⟨n,rfl⟩
   | false =>
    rcases z with z | z
    ·rw [z] at hx;simp at hx
    ·exact z
  split
  ·refine QA r _ _ x ?_
   rcases h with h | h
   ·rcases List.mem_cons.mp h with e | e
    ·cases e;exact .inr (put (.inl rfl))
    ·exact .inl e
   ·exact .inr (put (.inr h))
  ·rename_i hk
   refine QA r _ _ x ?_
   rcases h with h | h
   ·rcases List.mem_cons.mp h with e | e
    ·cases e;exact absurd rfl hk
    ·exact .inl e
   ·exact .inr h
theorem j0 {M : Model} {A : Around} {E : Value → Shared → Prop} {s : Shared} {scope : Scope} {globals : Addr} {cl : List (Str × Addr)} {qual : Str} {env : Env} {Q : Env → Shared → Prop}
  (hQ : ∀ h₁ : Heap,h₁.Ns s.heap.objs.size (fun _ => none) → (∀ b o,s.heap.get? b = some o → h₁.get? b = some o) → CellsOk h₁ (s.heap.objs.size + 1) (cellsFrom (s.heap.objs.size + 1) scope.names []) → Q (newEnv scope s.heap.objs.size globals (cellsFrom (s.heap.objs.size + 1) scope.names cl) qual none .none (some env) builtinsNs) { s with heap := h₁ }) :
  wpAny M A (newFunctionEnv scope globals cl [] qual none .none (some env)) Q E s := by
 simp only [newFunctionEnv,Option.isSome_some,if_true]
 refine wpAny_bind (wpAny_alloc ?_)
 refine wpAny_bind (wpAny_layCells _ (fun name kind cells => by cases hkc : kind == NameKind.cell <;> simp [hkc]) _ _ _ _ ?_)
 have ok := cellsFrom_ok scope.names (s.heap.push { cls := .type "dict",data := .dict #[] }) (s.heap.objs.size + 1) [] ⟨fun _ _ hm => (nomatch hm),List.Pairwise.nil⟩ (by rw [Heap.size_push];exact Nat.le_refl _)
 rw [Heap.size_push] at ok
 rw [show ({ s with heap := s.heap.push { cls := .type "dict",data := .dict #[] } } : Shared).heap.objs.size = s.heap.objs.size + 1 from Heap.size_push ..]
 rw [List.forIn_nil]
 refine wpAny_bind (wpAny_pure (wpAny_pure ?_))
 exact hQ _ ((Heap.Ns.new s.heap (.type "dict")).keeps (pushCells_keeps _ _)) (fun b o e => pushCells_keeps _ _ b o (Heap.get?_push_of_some _ e)) ok
def qq (X : Cx) (N' : List Str) (scope : Scope) (s : Shared) (H : Hp) (fp : List Addr) : Cx where
 prog := X.prog
 w := X.w
 K := X.K
 mg := X.mg
 base := X.base
 A := X.A
 N := N'
 s₀ := s
 H₀ := H
 env := compEnvC scope (cellsFrom (s.heap.objs.size + 1) scope.names (XD X.env scope.names [])) s.heap.objs.size X.env
 outer := X.stack
 stack := X.stack
 ex := fp
 fn := fun x => scope.names.lookup x == some .cell
 calm := true
 pn := []
 xe := fun _ _ => False
def MD (outer inner : Scope) : Bool := (inner.kind == .function) && inner.names.all fun y =>
 (y.2 != .cell || inner.names.lookup y.1 == some .cell) && (y.2 != .local || inner.names.lookup y.1 == some .local) && (y.2 != .free || (inner.names.lookup y.1 == some .free && (outer.names.lookup y.1 == some .cell || outer.names.lookup y.1 == some .free)))
def cap {α : Type} (m : List (Option Nat)) (σ : List (Option α)) : List (Option α) := m.map fun o => match o with | some j => (σ[j]?).join | none => none
def Y9 (N N' : List Str) (scope : Scope) (m : List (Option Nat)) : Bool := (m.length == N'.length) && (m.zip N').all fun p => match p.1 with
 | none => true
 | some j => N[j]? == some p.2 && scope.names.lookup p.2 == some .free
theorem qaf {α : Type} {m : List (Option Nat)} {σ : List (Option α)} {i : Nat} {v : α} (h : (cap m σ)[i]? = some (some v)) : ∃ j,m[i]? = some (some j)∧σ[j]? = some (some v) := by
 unfold cap at h
 rw [List.getElem?_map] at h
 cases e : m[i]? with
 | none => rw [e] at h;cases h
 | some o =>
  rw [e] at h
  cases o with
  | none => cases h
  | some j =>
   refine ⟨j,rfl,?_⟩
   have h' : (σ[j]?).join = some v := by simpa using h
   cases q : σ[j]? with
   | none => rw [q] at h';cases h'
   | some z => rw [q] at h';exact congrArg some h'
theorem M9 {N N' : List Str} {scope : Scope} {m : List (Option Nat)} (h : Y9 N N' scope m = true) {i j : Nat} {x : Str} (e : m[i]? = some (some j)) (hx : N'[i]? = some x) : N[j]? = some x∧scope.names.lookup x = some .free := by
 unfold Y9 at h
 rw [Bool.and_eq_true] at h
 have hm : (some j,x) ∈ m.zip N' := List.mem_of_getElem? (i := i) (List.getElem?_zip_eq_some.mpr ⟨e,hx⟩)
 have := List.all_eq_true.mp h.2 _ hm
 simp only [Bool.and_eq_true,beq_iff_eq] at this
 exact this
theorem qcp {N N' : List Str} {scope : Scope} {m : List (Option Nat)} {α : Type} (σ : List (Option α)) (h : Y9 N N' scope m = true) : (cap m σ).length = N'.length := by
 unfold Y9 at h
 rw [Bool.and_eq_true] at h
 unfold cap
 rw [List.length_map]
 simpa using h.1
structure ScFacts (outer inner : Scope) : Prop where
 kind : inner.kind = .function
 own : ∀ y ∈ inner.names,y.2 = .cell → inner.names.lookup y.1 = some .cell
 loc : ∀ y ∈ inner.names,y.2 = .local → inner.names.lookup y.1 = some .local
 free : ∀ y ∈ inner.names,y.2 = .free → inner.names.lookup y.1 = some .free∧(outer.names.lookup y.1 = some .cell ∨ outer.names.lookup y.1 = some .free)
theorem EH {outer inner : Scope} (h : MD outer inner = true) : ScFacts outer inner := by
 unfold MD at h
 rw [Bool.and_eq_true] at h
 have ha := List.all_eq_true.mp h.2
 refine ⟨by simpa using h.1,fun y hy e => ?_,fun y hy e => ?_,fun y hy e => ?_⟩
 ·have := ha y hy
  rw [e] at this
  simpa using this
 ·have := ha y hy
  rw [e] at this
  simpa using this
 ·have := ha y hy
  rw [e] at this
  simpa using this
theorem Q6 {scope : Scope} {env : Env} {x : Str} {k : NameKind} (h : (relabel scope env).names.lookup x = some k) : scope.names.lookup x = some k ∨ (k = .cell∧scope.names.lookup x = some .free) := by
 have key : ∀ (l : List (Str × NameKind)),(l.map fun (n,k) => if (k == NameKind.free && env.scope.kind == .function && env.kindOf n == some .cell) then (n,NameKind.cell) else (n,k)).lookup x = some k → l.lookup x = some k ∨ (k = .cell∧l.lookup x = some .free) := by
  intro l
  induction l with
  | nil => intro h;simp at h
  | cons y r ih =>
   intro h
   obtain ⟨n,j⟩ := y
   rw [List.map_cons] at h
   dsimp only at h
   by_cases hc : (j == NameKind.free && env.scope.kind == .function && env.kindOf n == some .cell) = true
   ·rw [if_pos hc,List.lookup_cons] at h
    rw [List.lookup_cons]
    cases hx : x == n with
    | true =>
     rw [hx] at h
     have hk : NameKind.cell = k := by simpa using h
     have hj : j = .free := by simp only [Bool.and_eq_true,beq_iff_eq] at hc;exact hc.1.1
     exact .inr ⟨hk.symm,by rw [hj]⟩
    | false => rw [hx] at h;exact ih h
   ·rw [if_neg hc,List.lookup_cons] at h
    rw [List.lookup_cons]
    cases hx : x == n with
    | true => rw [hx] at h;exact .inl h
    | false => rw [hx] at h;exact ih h
 exact key scope.names h
def PF (X : Cx) (ifs : List Expr) (t : TT) : Prop :=
 ∀ (pins : List (Addr × Obj)) (s : Shared) (σ : L2.St) (H : Hp) (Q : Bool → Hp → Prop),Inv X pins σ H s → t σ H Q →
  wpAny (model X.prog X.w) X.A (forIn ifs true fun c r => if r = true then do let ok ← isTrue c X.env (eval c X.env);pure (ForInStep.yield ok) else pure (ForInStep.yield r)) (TP X pins σ Q) X.xe s
theorem qd3 {X : Cx} : PF X [] (fun _ H Q => Q true H) := fun _ _ _ H _ I h => wpAny_tests_nil ⟨H,I,h⟩
theorem qfO {X : Cx} {c : Expr} {t : TT} (h : PT X c t) : PF X [c] t := fun pins s σ H Q I q => wpAny_tests_one (h pins s σ H Q I q)
section
variable {X : Cx} {pins : List (Addr × Obj)} {σ : L2.St} {H : Hp} {s : Shared}
theorem C2 {N' : List Str} {scope : Scope} {fp : List Addr} {m : List (Option Nat)} {h1 : Heap} {mm : Str → Option Value} (hc : X.calm = true) (I : Inv X pins σ H s) (sc : ScFacts X.env.scope scope) (hcap : Y9 X.N N' scope m = true)
  (hfp : ∀ b ∈ fp,RN X pins H b) (hob : ∀ b ∈ fp,∃ o,s.heap.get? b = some o) (hns : h1.Ns s.heap.objs.size mm) (hk : ∀ b o,s.heap.get? b = some o → h1.get? b = some o) (hown : CellsOk h1 (s.heap.objs.size + 1) (cellsFrom (s.heap.objs.size + 1) scope.names [])) :
  Inv (qq X N' scope s H fp) [] (cap m σ) H { s with heap := h1 } := by
 have hcl : ∀ y ∈ scope.names,y.2 = .free → ∃ c,X.env.cells.lookup y.1 = some c := fun y hy e => by
  rcases (sc.free y hy e).2 with z | z
  ·exact I.ok.has y.1 (.inl z)
  ·exact I.ok.has y.1 (.inr z)
 have cl : ∀ x c,(XD X.env scope.names []).lookup x = some c → X.env.cells.lookup x = some c := fun x c e => YX scope.names [] x c hcl (fun _ _ z => by simp at z) e
 have clt : ∀ x c,(XD X.env scope.names []).lookup x = some c → c < s.heap.objs.size := fun x c e => by
  obtain ⟨v,q⟩ := I.cell x c (cl x c e)
  exact q.lt
 -- a cell of the block: its own,or one from around
 have cs : ∀ x c,(cellsFrom (s.heap.objs.size + 1) scope.names (XD X.env scope.names [])).lookup x = some c → ((x,c) ∈ cellsFrom (s.heap.objs.size + 1) scope.names []∧s.heap.objs.size + 1 ≤ c∧h1.IsCell c none) ∨ (XD X.env scope.names []).lookup x = some c := fun x c e => by
  rw [jE,UM] at e
  cases q : (cellsFrom (s.heap.objs.size + 1) scope.names []).lookup x with
  | none => rw [q] at e;exact .inr e
  | some d =>
   rw [q] at e
   cases e
   have mem := PySem.mem_of_lookup q
   exact .inl ⟨mem,(hown.empty x _ mem).2,(hown.empty x _ mem).1⟩
 have fpne : ∀ b ∈ fp,b ≠ s.heap.objs.size := fun b hb => let ⟨o,e⟩ := hob b hb;Nat.ne_of_lt (Heap.lt_size e)
 refine ⟨⟨I.ok.mod,sc.kind,I.ok.glob,I.ok.blt,Nat.le_refl _,fun x y c e1 e2 => ?_,fun x hx => ?_,fun x c hf e => ?_,fun _ => I.ok.hd hc,I.ok.frames,.inl rfl,fun b hb => ⟨fpne b hb,fun x c e => ?_⟩,I.bs,Nat.le_trans I.ok.bsz I.sz,fun b o e hb => ?_,fun b hb z => ?_,I.stack,I.stkFree⟩,
  rfl,I.bare,Un.kept hk,⟨mm,hns,fun i x v e1 e2 e3 => ?_⟩,fun x c e => ?_,I.fresh,fun x c e => ?_,fun p hp => absurd (show p ∈ ([] : List (Addr × Obj)) from hp) (by simp),I.hok.kept hk,qcp σ hcap⟩
 ·rcases cs x c e1 with ⟨m1,l1,_⟩ | z1 <;> rcases cs y c e2 with ⟨m2,l2,_⟩ | z2
  ·exact PySem.name_of_addr hown.apart m1 m2
  ·exact absurd (clt y c z2) (Nat.not_lt.mpr (Nat.le_trans (Nat.le_succ _) l1))
  ·exact absurd (clt x c z1) (Nat.not_lt.mpr (Nat.le_trans (Nat.le_succ _) l2))
  ·exact I.ok.inj x y c (cl x c z1) (cl y c z2)
 ·have hx : (relabel scope X.env).names.lookup x = some .cell ∨ (relabel scope X.env).names.lookup x = some .free := hx
  have hf : scope.names.lookup x = some .cell ∨ scope.names.lookup x = some .free := by
   rcases hx with z | z
   ·rcases Q6 z with q | ⟨_,q⟩
    ·exact .inl q
    ·exact .inr q
   ·rcases Q6 z with q | ⟨q,_⟩
    ·exact .inr q
    ·cases q
  show ∃ c,(cellsFrom (s.heap.objs.size + 1) scope.names (XD X.env scope.names [])).lookup x = some c
  rcases hf with hf | hf
  ·exact QA scope.names _ _ x (.inl (PySem.mem_of_lookup hf))
  ·exact QA scope.names _ _ x (.inr (DJ scope.names [] x (.inl (PySem.mem_of_lookup hf))))
 ·have hf : scope.names.lookup x = some .cell := by simpa [qq] using hf
  rcases cs x c e with ⟨_,l1,_⟩ | z1
  ·exact Nat.le_trans (Nat.le_succ _) l1
  ·rcases CO scope.names [] x c z1 with q | q
   ·rw [(sc.free _ q rfl).1] at hf;cases hf
   ·simp at q
 ·rcases cs x c e with ⟨_,l1,_⟩ | z1
  ·obtain ⟨o,eo⟩ := hob b hb
   exact Nat.ne_of_gt (Nat.lt_of_lt_of_le (Heap.lt_size eo) (Nat.le_trans (Nat.le_succ _) l1))
  ·exact (hfp b hb).2.2.2.2.1 x c (cl x c z1)
 ·rcases (hfp b hb).2.2.2.1 with z | z
  ·exact I.ok.noex b o e z
  ·exact absurd (Nat.lt_of_lt_of_le (Heap.lt_size e) (Nat.le_trans I.ok.bsz z)) (Nat.lt_irrefl _)
 ·rcases List.mem_cons.mp (I.stkSub b z) with q | q
  ·exact (hfp b hb).2.1 q
  ·exact (hfp b hb).2.2.1 q
 ·obtain ⟨j,ej,es⟩ := qaf e2
  obtain ⟨hN,hfr⟩ := M9 hcap ej e1
  have mem := PySem.mem_of_lookup hfr
  have ho := (sc.free _ mem rfl).2
  obtain ⟨m0,hn0,hl0⟩ := I.loc
  obtain ⟨u,ru,lk⟩ := hl0 j x v hN es (ho.elim (fun z => .inr (.inl z)) fun z => .inr (.inr z))
  refine ⟨u,ru,.inr ⟨?_,?_⟩⟩
  ·rcases e3 with z | z | z
   ·rcases Q6 z with q | ⟨q,_⟩
    ·rw [hfr] at q;cases q
    ·cases q
   ·exact .inl z
   ·exact .inr z
  ·rcases lk with ⟨z,_⟩ | ⟨_,c,hc',hcell⟩
   ·have z : X.env.scope.names.lookup x = some .local := z
    rcases ho with q | q <;> (rw [z] at q;cases q)
   ·obtain ⟨c',hc2⟩ := DJ (env := X.env) scope.names [] x (.inl mem)
    have e := cl x c' hc2
    rw [hc'] at e
    cases e
    obtain ⟨o,eo,d⟩ := hcell
    refine ⟨c,?_,o,hk c o eo,d⟩
    show (cellsFrom (s.heap.objs.size + 1) scope.names (XD X.env scope.names [])).lookup x = some c
    rw [jE,UM]
    cases q : (cellsFrom (s.heap.objs.size + 1) scope.names []).lookup x with
    | none => exact hc2
    | some d =>
     rcases Z6 scope.names _ [] x d (PySem.mem_of_lookup q) with z | z
     ·rw [sc.own _ z rfl] at hfr;cases hfr
     ·simp at z
 ·rcases cs x c e with ⟨_,_,z⟩ | z1
  ·exact ⟨none,z⟩
  ·obtain ⟨v,o,eo,d⟩ := I.cell x c (cl x c z1)
   exact ⟨v,o,hk c o eo,d⟩
 ·rcases cs x c e with ⟨_,l1,_⟩ | z1
  ·exact I.hok.fresh (Nat.le_trans (Nat.le_succ _) l1)
  ·exact I.freeC x c (cl x c z1)
theorem ED {N' : List Str} {scope : Scope} {fp : List Addr} {pins' : List (Addr × Obj)} {σ' : L2.St} {H' : Hp} {s' : Shared} {h2 : Heap} (I : Inv X pins σ H s) (hfp : ∀ b ∈ fp,RN X pins H b) (J : Inv (qq X N' scope s H fp) pins' σ' H' s')
  (sb : Heap.SameBut s.heap.objs.size s'.heap h2) : Inv X pins σ H' { s' with heap := h2 } := by
 have ne : ∀ b o,s.heap.get? b = some o → b ≠ s.heap.objs.size := fun b o e => Nat.ne_of_lt (Heap.lt_size e)
 have g : ∀ b,b ≠ s.heap.objs.size → h2.get? b = s'.heap.get? b := fun b hb => sb.2 b hb
 have hn : H' s.heap.objs.size = none := J.free
 have u : Un (frs X.stack) fp H H' s.heap s'.heap := J.base
 refine I.call' (s' := { s' with heap := h2 }) J.os ⟨fun b o e n hb hx => ?_,fun b o e n hb hx => ?_,u.free,fun b o e hx => ?_,u.tups,u.frzs,u.tbls⟩ (fun a o e => ?_) J.bare fun b hb => ⟨(hfp b hb).2.2.2.1,(hfp b hb).2.1,(hfp b hb).2.2.2.2.1,(hfp b hb).2.2.2.2.2⟩
 ·show h2.get? b = _
  rw [g b (ne b o e)];exact u.keep b o e n hb hx
 ·show ∃ sl,h2.get? b = _
  rw [g b (ne b o e)];exact u.slot b o e n hb hx
 ·show ∃ o',h2.get? b = _
  rw [g b (ne b o e)];exact u.there b o e hx
 ·refine (J.hok a o e).stay (fun b v hb q => ?_) (fun _ q => q) fun _ _ q => q
  have hb' : b ≠ s.heap.objs.size := by
   intro z
   subst z
   rcases hb with z | z
   ·rw [← z] at e;rw [hn] at e;cases e
   ·rw [hn] at z;cases z
  rw [g b hb'];exact q
end
end L3
namespace L3
open PySem PySem.Spec PyProof.Rows L2
def tLC (wi : TI) (g : TG) (tif : TT) (te : TE) (m : List (Option Nat)) : TE := fun σ H Q => wi σ H fun J H1 => ∀ D,H1 D = none →
 ∃ W : Nat → Nat → L2.St → Hp → Prop,(∃ n,W 0 n (cap m σ) (upd H1 D (.lst [])))∧∀ i n σ H,W i n σ H →
  (J.stop i H∧Q (.ref D) H) ∨ (J.go i H∧∀ x H',J.yld i H x H' → g x σ H' fun σ2 H2 => tif σ2 H2 fun k H3 =>
   if k = true then te σ2 H3 fun y H4 => ∃ zs,H4 D = some (.lst zs)∧zs.length < sizeLine∧∃ n',n' < n∧W (i + 1) n' σ2 (upd H4 D (.lst (zs ++ [y])))
   else ∃ n',n' < n∧W (i + 1) n' σ2 H3)
section
variable {X : Cx}
theorem qhs {elt tg iter : Expr} {ifs : List Expr} {scope : Scope} {pos : Pos} {N' : List Str} {m : List (Option Nat)} {wi : TI} {g : TG} {tif : TT} {te : TE} (hc : X.calm = true) (hi : PI X tg iter wi)
  (hg : ∀ s H fp,PG (qq X N' scope s H fp) tg g) (hf : ∀ s H fp,PF (qq X N' scope s H fp) ifs tif) (he : ∀ s H fp,PE (qq X N' scope s H fp) elt te)
  (hsc : MD X.env.scope scope = true) (hcap : Y9 X.N N' scope m = true) (hs : ∀ x,foldedSetIterable iter X.env x = pure x := by intro _;rfl) :
  PE X (.ListComp elt [⟨tg,iter,ifs,0⟩] scope pos) (tLC wi g tif te m) := by
 intro pins s σ H Q I h
 have sc := EH hsc
 have hcl : ∀ y ∈ scope.names,y.2 = .free → ∃ c,X.env.cells.lookup y.1 = some c := fun y hy e => by
  rcases (sc.free y hy e).2 with z | z
  ·exact I.ok.has y.1 (.inl z)
  ·exact I.ok.has y.1 (.inr z)
 rw [eval_ListComp]
 refine wpAny_comprehension_free (use := none) (g := ⟨tg,iter,ifs,0⟩) (gs := []) rfl hs (Z8 hcl) sc.kind sc.loc ?_
 show wpAny _ _ (eval iter X.env) _ _ s
 refine thn (hi pins s σ H _ I h) fun v s1 h1 => thn h1 fun itv s2 h2 => ?_
 obtain ⟨it,fp,tn,J,H2,rfl,I2,T,st2,f2,hW⟩ := h2
 refine wpAny_newObj_type ?_
 have hD : H2 s2.heap.objs.size = none := I2.fresh
 obtain ⟨W,⟨n0,w0⟩,turn⟩ := hW _ hD
 generalize hDe : s2.heap.objs.size = D at *
 have I3 : Inv X pins σ (upd H2 D (.lst [])) { s2 with heap := s2.heap.push { cls := .type "list",dict := none,data := .seq ([] : List Value).toArray } } := by
  subst hDe
  exact I2.laid (t' := s2.toks) (fun b u e => Heap.get?_push_of_some _ e) (Nat.le_refl _) ⟨Nat.zero_le _,[],0,.nil,Heap.get?_push_size _ rfl⟩
 have ob2 := T.obj 0 _ st2
 have ob3 : ∀ b ∈ fp,∃ o,(s2.heap.push { cls := .type "list",dict := none,data := .seq ([] : List Value).toArray }).get? b = some o := fun b hb => let ⟨o,e,_⟩ := ob2 b hb;⟨o,Heap.get?_push_of_some _ e⟩
 have f3 : ∀ b ∈ fp,RN X pins (upd H2 D (.lst [])) b := fun b hb => by
  obtain ⟨o,e,_⟩ := ob2 b hb
  have : b ≠ D := by rw [← hDe];exact Nat.ne_of_lt (Heap.lt_size e)
  exact ⟨by rw [qV this];exact (f2 b hb).1,(f2 b hb).2⟩
 have k23 : ∀ b o,s2.heap.get? b = some o → (s2.heap.push { cls := .type "list",dict := none,data := .seq ([] : List Value).toArray }).get? b = some o := fun b o e => Heap.get?_push_of_some _ e
 generalize hH3 : upd H2 D (.lst []) = H3 at *
 generalize hs3 : ({ s2 with heap := s2.heap.push { cls := .type "list",dict := none,data := .seq ([] : List Value).toArray } } : Shared) = s3 at *
 have ob3 : ∀ b ∈ fp,∃ o,s3.heap.get? b = some o := by rw [← hs3];exact ob3
 have k23 : ∀ b o,s2.heap.get? b = some o → s3.heap.get? b = some o := by rw [← hs3];exact k23
 refine j0 fun h₁ hns hk hown => ?_
 have I4 : Inv (qq X N' scope s3 H3 fp) [] (cap m σ) H3 { s3 with heap := h₁ } := C2 hc I3 sc hcap f3 ob3 hns hk hown
 have tn4 : tn 0 h₁ := T.keep _ _ _ st2 fun b hb o e => hk b o (k23 b o e)
 have fr4 : ∀ b ∈ fp,H3 b = none := fun b hb => (f3 b hb).1
 have stat : ∀ {H' : Hp},(∀ b ∈ fp,H' b = none) → ∀ b ∈ fp,RN (qq X N' scope s3 H3 fp) [] H' b := fun hn b hb => by
  refine ⟨hn b hb,I4.ok.exf b hb |>.1,I4.ok.exfs b hb,.inl hb,fun x c e => (I4.ok.exf b hb).2 x c e,fun p hp => absurd (show p ∈ ([] : List (Addr × Obj)) from hp) (by simp)⟩
 show codeAny (model X.prog X.w) X.A (.compStart (.ListComp elt [⟨tg,iter,ifs,0⟩] scope pos) 0 (.ref it) (.ref D) (qq X N' scope s3 H3 fp).env) (compPost (model X.prog X.w) X.A X.xe none (EP X pins σ Q) (.ref D) s3.heap.objs.size) { s3 with heap := h₁ }
 have loop : codeAny (model X.prog X.w) X.A (.compLoop (.ListComp elt [⟨tg,iter,ifs,0⟩] scope pos) 0 (.ref it) (.ref D) (qq X N' scope s3 H3 fp).env) (compPost (model X.prog X.w) X.A X.xe none (EP X pins σ Q) (.ref D) s3.heap.objs.size) { s3 with heap := h₁ } := by
  refine codeAny_loop rfl (fun n s' => ∃ i σ' H',Inv (qq X N' scope s3 H3 fp) [] σ' H' s'∧tn i s'.heap∧(∀ b ∈ fp,H' b = none)∧W i n σ' H') (fun n s' hI => ?_) n0 ⟨0,cap m σ,H3,I4,tn4,fr4,w0⟩
  show wpAny _ X.A ((compTurn (.ListComp elt [⟨tg,iter,ifs,0⟩] scope pos) 0 (.ref it) (.ref D) (qq X N' scope s3 H3 fp).env).onRaise (fun x => do noteFrame x (qq X N' scope s3 H3 fp).env;theTreesLotGoes x)) _ _ s'
  refine wpAny_noted ?_
  rw [compTurn_list]
  refine wpAny_bind (wpAny_standAt (wpAny_bind ?_))
  obtain ⟨i,σ5,H5,I5,st5,fr5,w5⟩ := hI
  rcases turn i n σ5 H5 w5 with ⟨stop,q⟩ | ⟨go,step⟩
  ·refine thn (T.done (qq X N' scope s3 H3 fp) rfl rfl rfl rfl i [] s' σ5 H5 _ I5 (stat fr5) st5 stop) fun r s6 ⟨hr,I6⟩ => ?_
   subst hr
   refine wpAny_pure ?_
   obtain ⟨mm,hn6,_⟩ := I6.loc
   exact ⟨mm,hn6,fun h' sb => ⟨.ref D,H5,ED I3 f3 I6 sb,rfl,q⟩⟩
  ·refine thn (T.item (qq X N' scope s3 H3 fp) rfl rfl rfl rfl i [] s' σ5 H5 _ I5 (stat fr5) st5 go) fun r s6 ⟨u,hr,h6⟩ => ?_
   subst hr
   refine wpAny_bind (thn h6 fun _ s7 ⟨x,H7,I7,r7,y7,st7,fr7⟩ => ?_)
   have I7' := I7.pinned (stat fr7) (T.obj _ _ st7)
   have again : ∀ {σ8 : L2.St} {H8 : Hp} {s8 : Shared},Inv (qq X N' scope s3 H3 fp) ([] ++ EO fp s7.heap) σ8 H8 s8 → (∃ n',n' < n∧W (i + 1) n' σ8 H8) →
     ∃ m',m' < n∧∃ i σ' H',Inv (qq X N' scope s3 H3 fp) [] σ' H' s8∧tn i s8.heap∧(∀ b ∈ fp,H' b = none)∧W i m' σ' H' := fun {σ8 H8 s8} I8 ⟨n',hn,w8⟩ => by
    refine ⟨n',hn,i + 1,σ8,H8,I8.unpinned,T.keep _ _ _ st7 fun b hb o e => (I8.pin (b,o) (List.mem_append_right _ (List.mem_append_right _ (zS hb e)))).1,fun b hb => ?_,w8⟩
    obtain ⟨o,e,d⟩ := T.obj _ _ st7 b hb
    exact (I8.pin (b,o) (List.mem_append_right _ (List.mem_append_right _ (zS hb e)))).2.1
   refine wpAny_bind (wpAny_mono (hg s3 H3 fp _ s7 σ5 H7 x u _ I7' r7 (step x H7 y7)) (fun _ s8 ⟨σ8,H8,I8,q8⟩ => ?_) fun _ _ z => z.elim)
   refine wpAny_bind (wpAny_mono (hf s3 H3 fp _ s8 σ8 H8 _ I8 q8) (fun k s9 ⟨H9,I9,q9⟩ => ?_) fun _ _ z => z.elim)
   cases k with
   | false =>
    rw [if_neg Bool.false_ne_true] at q9
    exact wpAny_pure ⟨rfl,again I9 q9⟩
   | true =>
    rw [if_pos rfl] at q9
    refine wpAny_bind (wpAny_bind (wpAny_mono (he s3 H3 fp _ s9 σ8 H9 _ I9 q9) (fun w s10 ⟨y,H10,I10,r10,q10⟩ => ?_) fun _ _ z => z.elim))
    obtain ⟨zs,hz,hl,q10⟩ := q10
    refine wpAny_bind (wpAny_mono (V7 (X := qq X N' scope s3 H3 fp) _ s10 σ8 H10 (.ref D) [y] (.ref D) [w] (fun _ H11 => H11 = upd H10 D (.lst (zs ++ [y]))) I10 rfl (.cons r10 .nil) ⟨D,zs,y,rfl,rfl,hz,hl,rfl⟩) (fun _ s11 ⟨_,H11,I11,_,e11⟩ => ?_) fun _ _ z => z.elim)
    subst e11
    exact wpAny_pure (wpAny_pure ⟨rfl,again I11 q10⟩)
 exact codeAny_compStart_list loop (T.self X.A 0 _ _ _ tn4 loop)
end
end L3
namespace L3
open PySem PySem.Spec PyProof.Rows L2
section
variable {K : PySem.W.Frag} {G G' : Gp} {H H' : Hp}
theorem qc7 {D : Addr} {o : HO} {ws : List V} (hD : H D = some (.lst ws)) {a : Addr} {vs : List V} (h : SqT K H a vs) : SqT K (upd H D o) a vs := by
 rcases h with h | h
 ·refine .inl ?_
  rcases h with h | ⟨ob,h⟩
  ·have : a ≠ D := by intro e;subst e;rw [hD] at h;cases h
   exact .inl (by rw [qV this];exact h)
  ·have : a ≠ D := by intro e;subst e;rw [hD] at h;cases h
   exact .inr ⟨ob,by rw [qV this];exact h⟩
 ·exact .inr h
mutual
theorem Rp.wrD {D : Addr} {o : HO} {ws : List V} (hD : H D = some (.lst ws)) : ∀ {x : T} {v : V},Rp K H x v → Rp K (upd H D o) x v
 | _,_,.non => .non
 | _,_,.bl b => .bl b
 | _,_,.int i => .int i
 | _,_,.str x => .str x
 | _,_,.ref a => .ref a
 | _,_,.tup h hs => .tup (qc7 hD h) (Rps.wrD hD hs)
theorem Rps.wrD {D : Addr} {o : HO} {ws : List V} (hD : H D = some (.lst ws)) : ∀ {x : List T} {v : List V},Rps K H x v → Rps K (upd H D o) x v
 | _,_,.nil => .nil
 | _,_,.cons a b => .cons (Rp.wrD hD a) (Rps.wrD hD b)
end
theorem HR.wrD {D : Addr} {o : HO} {ws : List V} (hr : HR K G H) (hD : H D = some (.lst ws)) (g : G D = none) : HR K G (upd H D o) := fun a ob e => by
 have ha : a ≠ D := by intro z;subst z;rw [g] at e;cases e
 have q := hr a ob e
 cases ob with
 | lst xs => obtain ⟨vs,h1,h2⟩ := q;exact ⟨vs,by rw [qV ha];exact h1,h2.wrD hD⟩
 | frz xs => obtain ⟨vs,⟨o1,h1⟩,h2⟩ := q;exact ⟨vs,⟨o1,by rw [qV ha];exact h1⟩,h2.wrD hD⟩
theorem Rel.wrD {D : Addr} {o : HO} {ws : List V} {τ : St3} {σ : L2.St} (r : Rel K τ G σ H) (hD : H D = some (.lst ws)) (g : G D = none) : Rel K τ G σ (upd H D o) :=
 ⟨r.hp.wrD hD g,r.len,fun i t e => let ⟨v,h1,h2⟩ := r.st i t e;⟨v,h1,h2.wrD hD⟩⟩
theorem Kp.wrD {D : Addr} {o : HO} (k : Kp G H G' H') (hD : H D = none) : Kp G H G' (upd H' D o) := fun a ob h g => by
 obtain ⟨h1,h2⟩ := k a ob h g
 exact ⟨by rw [qV (qJ h hD)];exact h1,h2⟩
theorem qak {α : Type} {m : List (Option Nat)} {σ : List (Option α)} {i j : Nat} (h : m[i]? = some (some j)) : (cap m σ)[i]? = some ((σ[j]?).join) := by
 unfold cap;rw [List.getElem?_map,h];rfl
theorem Rel.cap {τ : St3} {σ : L2.St} (r : Rel K τ G σ H) (m : List (Option Nat)) : Rel K (cap m τ) G (L3.cap m σ) H := by
 refine ⟨r.hp,by simp [L3.cap],fun i t e => ?_⟩
 obtain ⟨j,e1,e2⟩ := qaf e
 obtain ⟨v,h1,h2⟩ := r.st j t e2
 exact ⟨v,by rw [qak e1,h1];rfl,h2⟩
end
def VP (stay : Gp → Prop) (g : TG3) (tif : TT3) (te : TE3) (q : Q3) : List T → List T → St3 → Gp → Prop
 | [],ys,_,G => stay G∧∀ p,G p = none → q (.ref p) (gu G p (.lst ys))
 | x :: r,ys,τ,G => stay G∧g x τ G fun τ2 G2 => tif τ2 G2 fun k G3 => if k = true then te τ2 G3 fun y G4 => ys.length < sizeLine∧VP stay g tif te q r (ys ++ [y]) τ2 G4 else VP stay g tif te q r ys τ2 G3
def lc3 (wi : TI3) (g : TG3) (tif : TT3) (te : TE3) (m : List (Option Nat)) : TE3 := fun τ G q => wi τ G fun items stay G1 => VP stay g tif te q items [] (cap m τ) G1
abbrev F3 (X : Cx) (ifs : List Expr) (t : TT3) : Prop := PF X ifs (lT X.K t)
def tt3 : TT3 := fun _ G q => q true G
theorem qhh {X : Cx} : F3 X [] tt3 := fun pins s σ H Q I ⟨τ,G,q,rl,h,af⟩ => qd3 pins s σ H Q I (af true G h H rl.hp Kp.refl)
theorem qh3 {X : Cx} {c : Expr} {t : TT3} (h : C3 X c t) : F3 X [c] t := qfO h
section
variable {X : Cx}
theorem qi5 {elt tg iter : Expr} {ifs : List Expr} {scope : Scope} {pos : Pos} (N' : List Str) (m : List (Option Nat)) {wi : TI3} {g : TG3} {tif : TT3} {te : TE3} (hc : X.calm = true) (hi : I3 X tg iter wi)
  (hg : ∀ s H fp,G3 (qq X N' scope s H fp) tg g) (hf : ∀ s H fp,F3 (qq X N' scope s H fp) ifs tif) (he : ∀ s H fp,E3 (qq X N' scope s H fp) elt te)
  (hsc : MD X.env.scope scope = true) (hcap : Y9 X.N N' scope m = true) (hs : ∀ x,foldedSetIterable iter X.env x = pure x := by intro _;rfl) :
  E3 X (.ListComp elt [⟨tg,iter,ifs,0⟩] scope pos) (lc3 wi g tif te m) :=
 W4 (qhs (g := lG X.K g) (tif := lT X.K tif) (te := lE X.K te) hc hi hg hf he hsc hcap hs) fun σ H Q ⟨τ,G,q,rl,h,af⟩ => by
  refine ⟨τ,G,_,rl,h,fun items stay G1 h1 J H1 hr1 k1 ok D hD => ?_⟩
  have gD : G1 D = none := hr1.free hD
  refine ⟨fun i n σ' H' => n = items.length - i∧i ≤ items.length∧∃ τ' G' ys vs,Rel X.K τ' G' σ' H'∧Kp G1 H1 G' H'∧H' D = some (.lst vs)∧Rps X.K H' ys vs∧G' D = none∧VP stay g tif te q (items.drop i) ys τ' G',
   ⟨_,rfl,Nat.zero_le _,cap m τ,G1,[],[],((rl.next hr1 k1).cap m).next (hr1.laid hD) (Kp.laid hD),Kp.laid hD,zw,.nil,gD,by simpa using h1⟩,?_⟩
  rintro i n σ' H' ⟨rfl,hi,τ',G',ys,vs,rl',k',hDl,rys,gD',h'⟩
  by_cases hlt : i < items.length
  ·rw [List.drop_eq_getElem_cons hlt] at h'
   obtain ⟨hst,h'⟩ := h'
   obtain ⟨go,yld,_⟩ := ok G' H' rl'.hp k' hst
   have hx : items[i]? = some items[i] := List.getElem?_eq_getElem hlt
   refine .inr ⟨go i _ hx,fun v H2 y => ?_⟩
   obtain ⟨rv,hr2,k2⟩ := yld i _ v H2 hx y
   have nxt : ∀ {τ4 : St3} {G4 : Gp} {σ4 : L2.St} {H4 : Hp} {ys4 : List T} {vs4 : List V},Rel X.K τ4 G4 σ4 H4 → Kp G1 H1 G4 H4 → H4 D = some (.lst vs4) → Rps X.K H4 ys4 vs4 → G4 D = none → VP stay g tif te q (items.drop (i + 1)) ys4 τ4 G4 →
     ∃ n',n' < items.length - i∧(n' = items.length - (i + 1)∧i + 1 ≤ items.length∧∃ τ' G' ys vs,Rel X.K τ' G' σ4 H4∧Kp G1 H1 G' H4∧H4 D = some (.lst vs)∧Rps X.K H4 ys vs∧G' D = none∧VP stay g tif te q (items.drop (i + 1)) ys τ' G') :=
    fun {τ4 G4 σ4 H4 ys4 vs4} a b c d e f => ⟨_,by omega,rfl,hlt,τ4,G4,ys4,vs4,a,b,c,d,e,f⟩
   refine ⟨_,τ',G',_,rv,rl'.next hr2 k2,h',fun τ3 G3 h3 σ3 H3 rl3 k3 => ⟨τ3,G3,_,rl3,h3,fun k G4 h4 H4 hr4 k4 => ?_⟩⟩
   have kk := (k2.trans k3).trans k4
   obtain ⟨hD4,gD4⟩ := kk D _ hDl gD'
   have rys4 := rys.keep rl'.hp kk
   cases k with
   | false =>
    rw [if_neg Bool.false_ne_true] at h4
    refine qg4 ?_
    exact nxt (rl3.next hr4 k4) (k'.trans kk) hD4 rys4 gD4 h4
   | true =>
    rw [if_pos rfl] at h4
    refine qgY ?_
    refine ⟨τ3,G4,_,rl3.next hr4 k4,h4,fun z G5 h5 w H5 rw5 hr5 k5 => ?_⟩
    obtain ⟨hD5,gD5⟩ := k5 D _ hD4 gD4
    have rys5 := rys4.keep hr4 k5
    exact ⟨vs,hD5,by rw [← rys.length];exact h5.1,nxt (((rl3.next hr4 k4).next hr5 k5).wrD hD5 gD5) (((k'.trans kk).trans k5).wrD hD) zw ((rys5.append (.cons rw5 .nil)).wrD hD5) gD5 h5.2⟩
  ·have e : i = items.length := by omega
   subst e
   rw [List.drop_length] at h'
   obtain ⟨_,_,stop⟩ := ok G' H' rl'.hp k' h'.1
   refine .inl ⟨stop,af _ _ (h'.2 D gD') _ H' (.ref D) (fun a o e => ?_) fun a o e ga => ?_⟩
   ·by_cases ha : a = D
    ·subst ha
     rw [qo] at e;cases e
     exact ⟨vs,hDl,rys⟩
    ·rw [jK ha] at e
     exact rl'.hp a o e
   ·obtain ⟨e1,g1⟩ := k1 a o e ga
    obtain ⟨e2,g2⟩ := k' a o e1 g1
    exact ⟨e2,by rw [jK (qJ e1 hD)];exact g2⟩
end
end L3
namespace L3
open PySem PySem.Spec PyProof.Rows L2
structure Src (P : Program) (w : World) (it c : Addr) (St : Nat → Heap → Prop) (Has : Array Value → Heap → Prop) : Prop where
 obj : ∀ {k h},St k h → ∃ o,h.get? it = some o∧∀ v,o.data ≠ .cell v
 keep : ∀ {k h h'},St k h → (∀ o,h.get? it = some o → h'.get? it = some o) → St k h'
 hkeep : ∀ {xs h h'},Has xs h → (∀ o,h.get? c = some o → h'.get? c = some o) → Has xs h'
 item : ∀ {A : Around} {s : Shared} {k : Nat} {xs : Array Value} {x : Value} {Q : Value → Shared → Prop} {E : Value → Shared → Prop},St k s.heap → Has xs s.heap → xs[k]? = some x →
  (∀ h',St (k + 1) h' → Heap.SameBut it s.heap h' → Q x { s with heap := h' }) → wpAny (model P w) A (Builtin.SmallTypes.nextOf (.ref it)) Q E s
 done : ∀ {A : Around} {s : Shared} {k : Nat} {xs : Array Value} {Q : Value → Shared → Prop} {E : Value → Shared → Prop},A.handled = none → St k s.heap → Has xs s.heap → xs[k]? = none →
  (∀ h' e,Heap.ExtBut it s.heap h' → (∃ o,h'.get? e = some o∧o.cls = .type "StopIteration") → E (.ref e) { s with heap := h' }) → wpAny (model P w) A (Builtin.SmallTypes.nextOf (.ref it)) Q E s
theorem qan {P : Program} {w : World} (it l : Addr) : Src P w it l (fun k h => h.IsListIter it l k) (fun xs h => h.IsList l xs) where
 obj := fun st => let ⟨o,e,_,d⟩ := st;⟨o,e,fun v z => by rw [d] at z;cases z⟩
 keep := fun st k => st.at fun o e => k o e
 hkeep := fun st k => st.at fun o e => k o e
 item := fun st hl hx hQ => wpAny_nextOf_list_item st hl hx hQ
 done := fun hh st hl hx hE => wpAny_nextOf_list_end hh st hl hx hE
theorem LX {P : Program} {w : World} {A : Around} {s : Shared} {it t : Addr} {i : Nat} {its : Array Value} {x : Value} {Q : Value → Shared → Prop} {E : Value → Shared → Prop} (hit : s.heap.IsTupleIter it t i) (ht : s.heap.IsTuple t its) (hx : its[i]? = some x)
  (hQ : ∀ h',h'.IsTupleIter it t (i + 1) → Heap.SameBut it s.heap h' → Q x { s with heap := h' }) : wpAny (model P w) A (Builtin.SmallTypes.nextOf (.ref it)) Q E s := by
 obtain ⟨o1,e1,c1,d1⟩ := id hit
 obtain ⟨o2,e2,_,n2,d2⟩ := ht
 unfold Builtin.SmallTypes.nextOf
 refine wpAny_bind (wpAny_callSpecial?_slot (name := Str.ofString "__next__") hit.typeIs F.slot_tuple_iterator_next (wpAny_call_entry F.slot_tuple_iterator_next hit.typeIs F.entry_tuple_iterator_next ?_ (F.args_tuple_iterator_next_1 _)))
 refine wpAny_bind (m := field (.ref it) 0) (wpAny_field e1 d1 (x := .ref t) rfl ?_)
 rw [if_neg (show ¬ ((Value.ref t == Value.none) = true) by exact Bool.false_ne_true)]
 refine wpAny_bind (m := field (.ref it) 1) (wpAny_field e1 d1 (x := .int i 0) rfl ?_)
 refine wpAny_bind (m := seqItems? (.ref t)) (wpAny_seqItems e2 d2 ?_)
 simp only [Int.toNat_natCast,hx]
 refine wpAny_bind (wpAny_setField e1 d1 (by simp) (wpAny_pure ⟨x,rfl,wpAny_pure (hQ _ ⟨_,Heap.get?_update_self _ e1 (Obj.isFreed_of_fields (Obj.data_mapFields d1 _)),(Obj.cls_mapFields ..).trans c1,?_⟩ (Heap.SameBut.update ..))⟩))
 rw [Obj.data_mapFields d1];simp [rawInt]
theorem XE {P : Program} {w : World} {A : Around} {s : Shared} {it t : Addr} {i : Nat} {its : Array Value} {Q : Value → Shared → Prop} {E : Value → Shared → Prop} (hh : A.handled = none) (hit : s.heap.IsTupleIter it t i) (ht : s.heap.IsTuple t its) (hx : its[i]? = none)
  (hE : ∀ h' e,Heap.ExtBut it s.heap h' → (∃ o,h'.get? e = some o∧o.cls = .type "StopIteration") → E (.ref e) { s with heap := h' }) : wpAny (model P w) A (Builtin.SmallTypes.nextOf (.ref it)) Q E s := by
 obtain ⟨o1,e1,c1,d1⟩ := id hit
 obtain ⟨o2,e2,_,n2,d2⟩ := ht
 unfold Builtin.SmallTypes.nextOf
 refine wpAny_bind (wpAny_callSpecial?_slot (name := Str.ofString "__next__") hit.typeIs F.slot_tuple_iterator_next (wpAny_call_entry F.slot_tuple_iterator_next hit.typeIs F.entry_tuple_iterator_next ?_ (F.args_tuple_iterator_next_1 _)))
 refine wpAny_bind (m := field (.ref it) 0) (wpAny_field e1 d1 (x := .ref t) rfl ?_)
 rw [if_neg (show ¬ ((Value.ref t == Value.none) = true) by exact Bool.false_ne_true)]
 refine wpAny_bind (m := field (.ref it) 1) (wpAny_field e1 d1 (x := .int i 0) rfl ?_)
 refine wpAny_bind (m := seqItems? (.ref t)) (wpAny_seqItems e2 d2 ?_)
 simp only [Int.toNat_natCast,hx]
 refine wpAny_bind (wpAny_rule (wpAny_bind (wpAny_setField e1 d1 (by simp) ?_)))
 refine wpAny_bind (m := newExc (.type "StopIteration") []) ?_
 simp only [newExc,newTuple]
 refine wpAny_bind (wpAny_newObj_type ?_ (by size_fits))
 refine wpAny_bind (m := firstArgMember _ _) (wpAny_of_eq (a := Value.none) (by first | rfl | (simp only [firstArgMember] <;> rfl)) (wpAny_newObj_type ?_ (by size_fits)))
 simp only [raiseNew]
 refine wpAny_bind (wpAny_handled ?_)
 first | rw [show A.in1.handled = Option.none from hh] | rw [show A.handled = Option.none from hh]
 exact wpAny_bind (wpAny_pure (wpAny_throw (hE _ _ (((Heap.SameBut.update ..).extBut.push _).push _) ⟨_,Heap.get?_push_size _ rfl,rfl⟩)))
theorem qdg {P : Program} {w : World} (it t : Addr) : Src P w it t (fun k h => h.IsTupleIter it t k) (fun xs h => h.IsTuple t xs) where
 obj := fun st => let ⟨o,e,_,d⟩ := st;⟨o,e,fun v z => by rw [d] at z;cases z⟩
 keep := fun st k => st.at fun o e => k o e
 hkeep := fun st k => st.at fun o e => k o e
 item := fun st hl hx hQ => LX st hl hx hQ
 done := fun hh st hl hx hE => XE hh st hl hx hE
structure ZA (z ti to i1 i2 c1 c2 : Addr) : Prop where
 ne : ([z,ti,to,i1,i2] : List Addr).Nodup
 a1 : c1 ∉ [z,to,i1,i2]
 a2 : c2 ∉ [z,to,i1,i2]
section
variable {P : Program} {w : World} {A : Around} {s : Shared} {z ti to i1 i2 c1 c2 : Addr} {S1 S2 : Nat → Heap → Prop} {H1 H2 : Array Value → Heap → Prop} {k1 k2 : Nat} {xs ys : Array Value} {x y a b : Value} {E : Value → Shared → Prop}
theorem qao {Q : Value → Shared → Prop} (R1 : Src P w i1 c1 S1 H1) (R2 : Src P w i2 c2 S2 H2) (D : ZA z ti to i1 i2 c1 c2) (hz : IsZip s.heap z ti to .none) (hi : IsPair s.heap ti (.ref i1) (.ref i2)) (ho : IsPair s.heap to a b)
  (p1 : S1 k1 s.heap) (p2 : S2 k2 s.heap) (l1 : H1 xs s.heap) (l2 : H2 ys s.heap) (hx : xs[k1]? = some x) (hy : ys[k2]? = some y)
  (hQ : ∀ h',IsZip h' z ti to (rawInt s.heap.objs.size) → IsPair h' to x y → S1 (k1 + 1) h' → S2 (k2 + 1) h' → IsPair h' s.heap.objs.size x y → (∀ c o,c ∉ [z,to,i1,i2] → s.heap.get? c = some o → h'.get? c = some o) → Q (.ref s.heap.objs.size) { s with heap := h' }) :
  wpAny (model P w) A (Builtin.«zip.__next__» ⟨[.ref z],[]⟩) (fun fin s' => ∃ v,fin = .done (.ret v)∧Q v s') E s := by
 have ne := D.ne
 simp only [List.nodup_cons,List.mem_cons,List.not_mem_nil,not_or,or_false] at ne
 obtain ⟨⟨n1,n2,n3,n4⟩,⟨n5,n6,n7⟩,⟨n8,n9⟩,n10,_⟩ := ne
 have a1 := D.a1
 have a2 := D.a2
 simp only [List.mem_cons,List.not_mem_nil,not_or,or_false] at a1 a2
 obtain ⟨q1,q2,q3,q4⟩ := a1
 obtain ⟨r1,r2,r3,r4⟩ := a2
 refine wpAny_bind (m := field (.ref z) 2) (wpAny_field hz rfl (x := .bool false) rfl ?_)
 refine wpAny_bind (m := field (.ref z) 3) (wpAny_field hz rfl (x := .ref ti) rfl ?_)
 refine wpAny_bind (wpAny_seqItems hi rfl ?_)
 refine wpAny_bind (m := Builtin.SmallTypes.ownedTupleIsFree (.ref z)) ?_
 unfold Builtin.SmallTypes.ownedTupleIsFree
 refine wpAny_bind (wpAny_field hz rfl (x := Value.none) rfl (wpAny_pure ?_))
 simp only [if_true]
 refine wpAny_bind (wpAny_rule (wpAny_bind (wpAny_field hz rfl (x := .ref to) rfl (wpAny_bind (wpAny_setField_rec hz (by simp) fun g1 z1 s1 => ?_)))))
 replace z1 : IsZip g1 z ti to Value.ellipsis := z1
 refine wpAny_bind ?_
 simp only [List.zipIdx_cons,List.zipIdx_nil,List.forIn_cons,List.forIn_nil]
 refine wpAny_bind (wpAny_bind (wpAny_onRaise (wpAny_bind (m := Builtin.SmallTypes.nextOf (.ref i1)) ?_)))
 refine R1.item (R1.keep p1 fun o e => s1.extBut _ _ (Ne.symm n3) e) (R1.hkeep l1 fun o e => s1.extBut _ _ q1 e) hx fun g2 p12 s2 => wpAny_pure ?_
 have t2 : IsPair g2 to a b := s2.extBut _ _ n8 (s1.extBut _ _ (Ne.symm n2) ho)
 refine wpAny_bind (wpAny_seqItems t2 rfl (wpAny_bind (wpAny_updateSeq_pair t2 fun g3 t3 s3 => ?_)))
 replace t3 : IsPair g3 to x b := t3
 refine wpAny_bind (wpAny_letGo (wpAny_pure (wpAny_bind (wpAny_bind (wpAny_onRaise (wpAny_bind (m := Builtin.SmallTypes.nextOf (.ref i2)) ?_))))))
 refine R2.item (R2.keep p2 fun o e => s3.extBut _ _ (Ne.symm n9) (s2.extBut _ _ (Ne.symm n10) (s1.extBut _ _ (Ne.symm n4) e))) (R2.hkeep l2 fun o e => s3.extBut _ _ r2 (s2.extBut _ _ r3 (s1.extBut _ _ r1 e))) hy fun g4 p24 s4 => wpAny_pure ?_
 have t4 : IsPair g4 to x b := s4.extBut _ _ n9 t3
 refine wpAny_bind (wpAny_seqItems t4 rfl (wpAny_bind (wpAny_updateSeq_pair t4 fun g5 t5 s5 => ?_)))
 replace t5 : IsPair g5 to x y := t5
 refine wpAny_bind (wpAny_letGo (wpAny_pure (wpAny_pure (wpAny_bind (wpAny_seqItems t5 rfl (wpAny_bind (wpAny_newTuple ?_)))))))
 have sz : g5.objs.size = s.heap.objs.size := by rw [s5.1,s4.1,s3.1,s2.1,s1.1]
 have z5 : IsZip g5 z ti to Value.ellipsis := s5.extBut _ _ n2 (s4.extBut _ _ n4 (s3.extBut _ _ n2 (s2.extBut _ _ n3 z1)))
 have kk : ∀ c o,c ∉ [z,to,i1,i2] → s.heap.get? c = some o → g5.get? c = some o := fun c o hc e => by
  simp only [List.mem_cons,List.not_mem_nil,not_or,or_false] at hc
  exact s5.extBut _ _ hc.2.1 (s4.extBut _ _ hc.2.2.2 (s3.extBut _ _ hc.2.1 (s2.extBut _ _ hc.2.2.1 (s1.extBut _ _ hc.1 e))))
 have p15 : S1 (k1 + 1) g5 := R1.keep p12 fun o e => s5.extBut _ _ (Ne.symm n8) (s4.extBut _ _ n10 (s3.extBut _ _ (Ne.symm n8) e))
 have p25 : S2 (k2 + 1) g5 := R2.keep p24 fun o e => s5.extBut _ _ (Ne.symm n9) e
 have zlt : z < g5.objs.size := Heap.lt_size z5
 refine wpAny_bind (m := Builtin.SmallTypes.ownedTupleHandOut (.ref z) (.ref g5.objs.size)) ?_
 unfold Builtin.SmallTypes.ownedTupleHandOut
 have z6 : IsZip (g5.push { cls := .type "tuple",data := .seq #[x,y] }) z ti to Value.ellipsis := Heap.get?_push_of_some _ z5
 refine wpAny_bind (wpAny_setField_rec z6 (by simp) fun g7 z7 s7 => ?_)
 replace z7 : IsZip g7 z ti to (rawInt g5.objs.size) := z7
 refine wpAny_setField_rec z7 (by simp) fun g8 z8 s8 => ?_
 replace z8 : IsZip g8 z ti to (rawInt g5.objs.size) := z8
 have up : ∀ c o,c ≠ z → g5.get? c = some o → g8.get? c = some o := fun c o hc e => s8.extBut _ _ hc (s7.extBut _ _ hc (Heap.get?_push_of_some _ e))
 have t8 : IsPair g8 g5.objs.size x y := s8.extBut _ _ (Nat.ne_of_gt zlt) (s7.extBut _ _ (Nat.ne_of_gt zlt) (Heap.get?_push_size _ rfl))
 rw [sz] at z8 t8
 refine wpAny_pure ⟨_,rfl,?_⟩
 show Q (Value.ref g5.objs.size) _
 rw [sz]
 exact hQ g8 z8 (up _ _ (Ne.symm n2) t5) (R1.keep p15 fun o e => up _ o (Ne.symm n3) e) (R2.keep p25 fun o e => up _ o (Ne.symm n4) e) t8 fun c o hc e => up c o (fun q => hc (by simp [q])) (kk c o hc e)
theorem qcA {Q : Fin → Shared → Prop} (hh : A.handled = none) (R1 : Src P w i1 c1 S1 H1) (R2 : Src P w i2 c2 S2 H2) (D : ZA z ti to i1 i2 c1 c2) (hz : IsZip s.heap z ti to .none) (hi : IsPair s.heap ti (.ref i1) (.ref i2)) (ho : IsPair s.heap to a b)
  (p1 : S1 k1 s.heap) (p2 : S2 k2 s.heap) (l1 : H1 xs s.heap) (l2 : H2 ys s.heap) (hend : xs[k1]? = none ∨ ys[k2]? = none)
  (hE : ∀ h' e,(∀ c o,c ∉ [z,to,i1,i2] → s.heap.get? c = some o → h'.get? c = some o) → (∃ o,h'.get? e = some o∧o.cls = .type "StopIteration") → E (.ref e) { s with heap := h' }) :
  wpAny (model P w) A (Builtin.«zip.__next__» ⟨[.ref z],[]⟩) Q E s := by
 have ne := D.ne
 simp only [List.nodup_cons,List.mem_cons,List.not_mem_nil,not_or,or_false] at ne
 obtain ⟨⟨n1,n2,n3,n4⟩,⟨n5,n6,n7⟩,⟨n8,n9⟩,n10,_⟩ := ne
 have a1 := D.a1
 have a2 := D.a2
 simp only [List.mem_cons,List.not_mem_nil,not_or,or_false] at a1 a2
 obtain ⟨q1,q2,q3,q4⟩ := a1
 obtain ⟨r1,r2,r3,r4⟩ := a2
 refine wpAny_bind (m := field (.ref z) 2) (wpAny_field hz rfl (x := .bool false) rfl ?_)
 refine wpAny_bind (m := field (.ref z) 3) (wpAny_field hz rfl (x := .ref ti) rfl ?_)
 refine wpAny_bind (wpAny_seqItems hi rfl ?_)
 refine wpAny_bind (m := Builtin.SmallTypes.ownedTupleIsFree (.ref z)) ?_
 unfold Builtin.SmallTypes.ownedTupleIsFree
 refine wpAny_bind (wpAny_field hz rfl (x := Value.none) rfl (wpAny_pure ?_))
 simp only [if_true]
 refine wpAny_bind (wpAny_rule (wpAny_bind (wpAny_field hz rfl (x := .ref to) rfl (wpAny_bind (wpAny_setField_rec hz (by simp) fun g1 z1 s1 => ?_)))))
 replace z1 : IsZip g1 z ti to Value.ellipsis := z1
 refine wpAny_bind ?_
 simp only [List.zipIdx_cons,List.zipIdx_nil,List.forIn_cons,List.forIn_nil]
 refine wpAny_bind (wpAny_bind (wpAny_onRaise (wpAny_bind (m := Builtin.SmallTypes.nextOf (.ref i1)) ?_)))
 cases hx : xs[k1]? with
 | none =>
  refine R1.done hh (R1.keep p1 fun o e => s1.extBut _ _ (Ne.symm n3) e) (R1.hkeep l1 fun o e => s1.extBut _ _ q1 e) hx fun g2 e s2 ⟨oe,he,ce⟩ => ?_
  have z2 : IsZip g2 z ti to Value.ellipsis := s2 _ _ n3 z1
  have ez : e ≠ z := fun q => by subst q;rw [z2] at he;cases he;simp at ce
  refine wpAny_setField_rec z2 (by simp) fun g3 _ s3 => hE g3 e (fun c o hc q => ?_) ⟨oe,s3.extBut _ _ ez he,ce⟩
  simp only [List.mem_cons,List.not_mem_nil,not_or,or_false] at hc
  exact s3.extBut _ _ hc.1 (s2 _ _ hc.2.2.1 (s1.extBut _ _ hc.1 q))
 | some x =>
  have hy : ys[k2]? = none := by rcases hend with q | q;rw [hx] at q;cases q;exact q
  refine R1.item (R1.keep p1 fun o e => s1.extBut _ _ (Ne.symm n3) e) (R1.hkeep l1 fun o e => s1.extBut _ _ q1 e) hx fun g2 p12 s2 => wpAny_pure ?_
  have t2 : IsPair g2 to a b := s2.extBut _ _ n8 (s1.extBut _ _ (Ne.symm n2) ho)
  refine wpAny_bind (wpAny_seqItems t2 rfl (wpAny_bind (wpAny_updateSeq_pair t2 fun g3 t3 s3 => ?_)))
  refine wpAny_bind (wpAny_letGo (wpAny_pure (wpAny_bind (wpAny_bind (wpAny_onRaise (wpAny_bind (m := Builtin.SmallTypes.nextOf (.ref i2)) ?_))))))
  refine R2.done hh (R2.keep p2 fun o e => s3.extBut _ _ (Ne.symm n9) (s2.extBut _ _ (Ne.symm n10) (s1.extBut _ _ (Ne.symm n4) e))) (R2.hkeep l2 fun o e => s3.extBut _ _ r2 (s2.extBut _ _ r3 (s1.extBut _ _ r1 e))) hy fun g4 e s4 ⟨oe,he,ce⟩ => ?_
  have z4 : IsZip g4 z ti to Value.ellipsis := s4 _ _ n4 (s3.extBut _ _ n2 (s2.extBut _ _ n3 z1))
  have ez : e ≠ z := fun q => by subst q;rw [z4] at he;cases he;simp at ce
  refine wpAny_setField_rec z4 (by simp) fun g5 _ s5 => hE g5 e (fun c o hc q => ?_) ⟨oe,s5.extBut _ _ ez he,ce⟩
  simp only [List.mem_cons,List.not_mem_nil,not_or,or_false] at hc
  exact s5.extBut _ _ hc.1 (s4 _ _ hc.2.2.2 (s3.extBut _ _ hc.2.1 (s2.extBut _ _ hc.2.2.1 (s1.extBut _ _ hc.1 q))))
end
end L3
namespace L3
open PySem PySem.Spec PyProof.Rows L2
abbrev qip (b : Bool) : String := if b then "list_iterator" else "tuple_iterator"
abbrev zT (b : Bool) (c : Addr) : Obj := { cls := .type (qip b),data := .fields #[.ref c,.int 0 0] }
def qax (b : Bool) (it c : Addr) (k : Nat) (h : Heap) : Prop := match b with | true => h.IsListIter it c k | false => h.IsTupleIter it c k
def SI (b : Bool) (c : Addr) (xs : Array Value) (h : Heap) : Prop := match b with | true => h.IsList c xs | false => h.IsTuple c xs
theorem zZ {P : Program} {w : World} (b : Bool) (it c : Addr) : Src P w it c (qax b it c) (SI b c) := by
 cases b
 ·exact qdg it c
 ·exact qan it c
theorem TU {P : Program} {w : World} {A : Around} {s : Shared} {b : Bool} {c : Addr} {xs : Array Value} {Q : Value → Shared → Prop} {E : Value → Shared → Prop} (h : SI b c xs s.heap) (q : Q (.ref s.heap.objs.size) { s with heap := s.heap.push (zT b c) }) :
  wpAny (model P w) A (pyIter (.ref c)) Q E s := by
 cases b
 ·exact wpAny_pyIter_tuple (show s.heap.IsTuple c xs from h) q
 ·exact wpAny_pyIter_list (show s.heap.IsList c xs from h) q
theorem MV {b : Bool} {c : Addr} {xs : Array Value} {h : Heap} {o : Obj} (q : SI b c xs h) : SI b c xs (h.push o) := by
 cases b
 ·exact (show h.IsTuple c xs from q).at fun _ e => Heap.get?_push_of_some _ e
 ·exact (show h.IsList c xs from q).at fun _ e => Heap.get?_push_of_some _ e
abbrev zh1 (h : Heap) (o1 : Obj) : Heap := h.push o1
abbrev zh2 (h : Heap) (o1 o2 : Obj) : Heap := (zh1 h o1).push o2
abbrev zh3 (h : Heap) (o1 o2 : Obj) : Heap := (zh2 h o1 o2).push { cls := .type "tuple",data := .seq #[.ref h.objs.size,.ref (zh1 h o1).objs.size] }
abbrev zh4 (h : Heap) (o1 o2 : Obj) : Heap := (zh3 h o1 o2).push { cls := .type "tuple",data := .seq #[.none,.none] }
abbrev zh5 (h : Heap) (o1 o2 : Obj) : Heap := (zh4 h o1 o2).push { cls := .type "zip",data := .fields #[.none,.bool false,.bool false,.ref (zh2 h o1 o2).objs.size,.ref (zh3 h o1 o2).objs.size] }
theorem MR (c1 c2 : Addr) (o1 o2 : Obj) :
  Meets (Builtin.«zip.__new__» ⟨[.type "zip",.ref c1,.ref c2],[]⟩) (fun _ R s =>
   (∀ (P : Program) (w : World) (A : Around) (Q : Value → Shared → Prop) (E : Value → Shared → Prop),Q (.ref s.heap.objs.size) { s with heap := zh1 s.heap o1 } → wpAny (model P w) A (pyIter (.ref c1)) Q E s) ∧
   (∀ (P : Program) (w : World) (A : Around) (Q : Value → Shared → Prop) (E : Value → Shared → Prop),Q (.ref (zh1 s.heap o1).objs.size) { s with heap := zh2 s.heap o1 o2 } → wpAny (model P w) A (pyIter (.ref c2)) Q E { s with heap := zh1 s.heap o1 }) ∧
   R (.ok (.ret (.ref (zh4 s.heap o1 o2).objs.size))) { s with heap := zh5 s.heap o1 o2 }) :=
 .of_wp fun prog w A R s h => by
  obtain ⟨hp,g,d,tk,os⟩ := s
  obtain ⟨h1,h2,h⟩ := h
  have hsub := sub_zip
  have k1 := fun A Q E => h1 prog w A Q E
  have k2 := fun A Q E => h2 prog w A Q E
  wp_walk using k1 _ _ _,k2 _ _ _
  exact ⟨_,rfl,h⟩
end L3
namespace L3
open PySem PySem.Spec PyProof.Rows L2
def qa2 (b1 b2 : Bool) (z ti to i1 i2 c1 c2 : Addr) (k : Nat) (h : Heap) : Prop :=
 IsZip h z ti to .none∧IsPair h ti (.ref i1) (.ref i2)∧(∃ a b,IsPair h to a b)∧qax b1 i1 c1 k h∧qax b2 i2 c2 k h
section
variable {P : Program} {w : World} {A : Around} {s : Shared} {E : Value → Shared → Prop}
theorem qaV {b1 b2 : Bool} {c1 c2 : Addr} {xs ys : Array Value} {Q : Value → Shared → Prop} (h1 : SI b1 c1 xs s.heap) (h2 : SI b2 c2 ys s.heap)
  (q : ∀ h',qa2 b1 b2 (s.heap.objs.size + 4) (s.heap.objs.size + 2) (s.heap.objs.size + 3) s.heap.objs.size (s.heap.objs.size + 1) c1 c2 0 h' → (∀ c o,s.heap.get? c = some o → h'.get? c = some o) → Q (.ref (s.heap.objs.size + 4)) { s with heap := h' }) :
  wpAny (model P w) A (call (.type "zip") [.ref c1,.ref c2]) Q E s := by
 refine callType_new F.called_zip (by decide) (F.typeCall_zip_2 _ _) (F.newCall_zip_2 _ _) (fun obj => F.args_object_init_3 obj _ _) F.entry_zip_new
  (MR c1 c2 (zT b1 c1) (zT b2 c2)) ⟨fun P w A Q E q => TU h1 q,fun P w A Q E q => TU (s := { s with heap := zh1 s.heap (zT b1 c1) }) (MV h2) q,?_⟩
 have e1 : (zh1 s.heap (zT b1 c1)).objs.size = s.heap.objs.size + 1 := Heap.size_push ..
 have e2 : (zh2 s.heap (zT b1 c1) (zT b2 c2)).objs.size = s.heap.objs.size + 2 := by rw [Heap.size_push,e1]
 have e3 : (zh3 s.heap (zT b1 c1) (zT b2 c2)).objs.size = s.heap.objs.size + 3 := by rw [Heap.size_push,e2]
 have e4 : (zh4 s.heap (zT b1 c1) (zT b2 c2)).objs.size = s.heap.objs.size + 4 := by rw [Heap.size_push,e3]
 have g5 : (zh5 s.heap (zT b1 c1) (zT b2 c2)).get? (zh4 s.heap (zT b1 c1) (zT b2 c2)).objs.size = some _ := Heap.get?_push_size _ rfl
 have g4 : (zh5 s.heap (zT b1 c1) (zT b2 c2)).get? (zh3 s.heap (zT b1 c1) (zT b2 c2)).objs.size = some _ := Heap.get?_push_of_some _ (Heap.get?_push_size _ rfl)
 have g3 : (zh5 s.heap (zT b1 c1) (zT b2 c2)).get? (zh2 s.heap (zT b1 c1) (zT b2 c2)).objs.size = some _ := Heap.get?_push_of_some _ (Heap.get?_push_of_some _ (Heap.get?_push_size _ rfl))
 have g2 : (zh5 s.heap (zT b1 c1) (zT b2 c2)).get? (zh1 s.heap (zT b1 c1)).objs.size = some (zT b2 c2) := Heap.get?_push_of_some _ (Heap.get?_push_of_some _ (Heap.get?_push_of_some _ (Heap.get?_push_size _ rfl)))
 have g1 : (zh5 s.heap (zT b1 c1) (zT b2 c2)).get? s.heap.objs.size = some (zT b1 c1) := Heap.get?_push_of_some _ (Heap.get?_push_of_some _ (Heap.get?_push_of_some _ (Heap.get?_push_of_some _ (Heap.get?_push_size _ rfl))))
 show _∧_
 rw [e2,e3,e4] at g5
 rw [e1,e2] at g3
 rw [e3] at g4
 rw [e1] at g2
 rw [e4]
 refine ⟨⟨_,g5,rfl⟩,q _ ⟨g5,g3,⟨_,_,g4⟩,?_,?_⟩ fun c o e => Heap.get?_push_of_some _ (Heap.get?_push_of_some _ (Heap.get?_push_of_some _ (Heap.get?_push_of_some _ (Heap.get?_push_of_some _ e))))⟩
 ·cases b1 <;> exact ⟨_,g1,rfl,rfl⟩
 ·cases b2 <;> exact ⟨_,g2,rfl,rfl⟩
theorem qaH {b1 b2 : Bool} {z ti to i1 i2 c1 c2 : Addr} {k : Nat} {xs ys : Array Value} {x y : Value} {Q : Option Value → Shared → Prop} (D : ZA z ti to i1 i2 c1 c2) (st : qa2 b1 b2 z ti to i1 i2 c1 c2 k s.heap) (l1 : SI b1 c1 xs s.heap) (l2 : SI b2 c2 ys s.heap) (hx : xs[k]? = some x) (hy : ys[k]? = some y)
  (hQ : ∀ h',IsZip h' z ti to (rawInt s.heap.objs.size) → IsPair h' ti (.ref i1) (.ref i2) → (∃ a b,IsPair h' to a b) → qax b1 i1 c1 (k + 1) h' → qax b2 i2 c2 (k + 1) h' → IsPair h' s.heap.objs.size x y → (∀ c o,c ∉ [z,to,i1,i2] → s.heap.get? c = some o → h'.get? c = some o) → Q (some (.ref s.heap.objs.size)) { s with heap := h' }) :
  wpAny (model P w) A (pyNext (.ref z)) Q E s := by
 obtain ⟨hz,hi,⟨a,b,ho⟩,p1,p2⟩ := st
 have ty : s.TypeIs (.ref z) "zip" := ⟨_,hz,rfl⟩
 have nti : ti ∉ [z,to,i1,i2] := by
  have ne := D.ne
  simp only [List.nodup_cons,List.mem_cons,List.not_mem_nil,not_or,or_false] at ne ⊢
  exact ⟨Ne.symm ne.1.1,ne.2.1.1,ne.2.1.2.1,ne.2.1.2.2⟩
 unfold pyNext
 exact wpAny_bind (wpAny_attempt (wpAny_callSpecial?_slot (name := Str.ofString "__next__") ty F.slot_zip_next (wpAny_call_entry F.slot_zip_next ty F.entry_zip_next
  (qao (zZ b1 i1 c1) (zZ b2 i2 c2) D hz hi ho p1 p2 l1 l2 hx hy fun h' u1 u2 u3 u4 u5 u6 => wpAny_pure (hQ h' u1 (u6 _ _ nti hi) ⟨_,_,u2⟩ u3 u4 u5 u6)) (F.args_zip_next_1 _))))
theorem RI {b1 b2 : Bool} {z ti to i1 i2 c1 c2 : Addr} {k : Nat} {xs ys : Array Value} {Q : Option Value → Shared → Prop} (hh : A.handled = none) (D : ZA z ti to i1 i2 c1 c2) (st : qa2 b1 b2 z ti to i1 i2 c1 c2 k s.heap) (l1 : SI b1 c1 xs s.heap) (l2 : SI b2 c2 ys s.heap) (hend : xs[k]? = none ∨ ys[k]? = none)
  (hQ : ∀ h',(∀ c o,c ∉ [z,to,i1,i2] → s.heap.get? c = some o → h'.get? c = some o) → Q none { s with heap := h' }) : wpAny (model P w) A (pyNext (.ref z)) Q E s := by
 obtain ⟨hz,hi,⟨a,b,ho⟩,p1,p2⟩ := st
 have ty : s.TypeIs (.ref z) "zip" := ⟨_,hz,rfl⟩
 unfold pyNext
 refine wpAny_bind (wpAny_attempt (wpAny_callSpecial?_slot (name := Str.ofString "__next__") ty F.slot_zip_next (wpAny_call_entry F.slot_zip_next ty F.entry_zip_next
  (qcA hh (zZ b1 i1 c1) (zZ b2 i2 c2) D hz hi ho p1 p2 l1 l2 hend fun h' e hk ⟨o,q1,q2⟩ => ?_) (F.args_zip_next_1 _))))
 exact wpAny_bind (wpAny_isInstance (T := "StopIteration") (b := true) ⟨o,q1,q2⟩ isSubtype_stop (wpAny_pure (hQ _ hk)))
end
def SqB (K : PySem.W.Frag) (b : Bool) (H : Hp) (a : Addr) (xs : List V) : Prop := match b with | true => SqL K H a xs | false => SqT K H a xs
theorem SqB.get {X : Cx} {pins : List (Addr × Obj)} {σ : L2.St} {H : Hp} {s : Shared} {b : Bool} {a : Addr} {xs : List V} (I : Inv X pins σ H s) (h : SqB X.K b H a xs) : ∃ its : List Value,jh xs its∧SI b a its.toArray s.heap∧xs.length ≤ sizeLine := by
 cases b
 ·obtain ⟨its,r,p,hz⟩ := I.tuple (show SqT X.K H a xs from h)
  exact ⟨its,r,(show s.heap.IsTuple a its.toArray from p),hz⟩
 ·obtain ⟨its,r,p,hz⟩ := I.list (show SqL X.K H a xs from h)
  exact ⟨its,r,p.isList,hz⟩
theorem SqB.inj {X : Cx} {pins : List (Addr × Obj)} {σ : L2.St} {H : Hp} {s : Shared} {b : Bool} {a : Addr} {xs ys : List V} (I : Inv X pins σ H s) (h : SqB X.K b H a xs) (h' : SqB X.K b H a ys) : xs = ys := by
 cases b
 ·exact I.tuple_inj h h'
 ·exact I.list_inj h h'
def Itz (K : PySem.W.Frag) (b1 b2 : Bool) (c1 c2 : Addr) : It :=
  ⟨fun i H => ∃ xs ys x y,SqB K b1 H c1 xs∧SqB K b2 H c2 ys∧xs[i]? = some x∧ys[i]? = some y,
   fun i H v H' => ∃ p x y,H p = none∧v = .ref p∧H' = upd H p (.tup [x,y])∧(∀ xs,SqB K b1 H c1 xs → xs[i]? = some x)∧(∀ ys,SqB K b2 H c2 ys → ys[i]? = some y),
   fun i H => ∃ xs ys,SqB K b1 H c1 xs∧SqB K b2 H c2 ys∧(xs.length ≤ i ∨ ys.length ≤ i)⟩
theorem qdE {b : Bool} {c : Addr} {xs : Array Value} {h : Heap} (q : SI b c xs h) : c < h.objs.size := by
 cases b
 ·obtain ⟨o,e,_⟩ := (show h.IsTuple c xs from q);exact Heap.lt_size e
 ·obtain ⟨o,e,_⟩ := (show h.IsList c xs from q);exact Heap.lt_size e
theorem qaI {P : Program} {w : World} {K : PySem.W.Frag} {es : List Expr} {k1 : Nat} {pt : Pos} {b1 b2 : Bool} {z ti to i1 i2 c1 c2 : Addr} (D : ZA z ti to i1 i2 c1 c2) : Turn P w K (.Tuple es k1 pt) (Itz K b1 b2 c1 c2) [z,ti,to,i1,i2] z (qa2 b1 b2 z ti to i1 i2 c1 c2) where
 mem := by simp
 obj := fun i h ⟨hz,hi,⟨a,b,ho⟩,p1,p2⟩ c hc => by
  simp only [List.mem_cons,List.not_mem_nil,or_false] at hc
  rcases hc with rfl | rfl | rfl | rfl | rfl
  ·exact ⟨_,hz,fun v q => by cases q⟩
  ·exact ⟨_,hi,fun v q => by cases q⟩
  ·exact ⟨_,ho,fun v q => by cases q⟩
  ·exact (zZ (P := P) (w := w) b1 c c1).obj p1
  ·exact (zZ (P := P) (w := w) b2 c c2).obj p2
 keep := fun i h h' ⟨hz,hi,⟨a,b,ho⟩,p1,p2⟩ k =>
  ⟨k z (by simp) _ hz,k ti (by simp) _ hi,⟨a,b,k to (by simp) _ ho⟩,(zZ (P := P) (w := w) b1 i1 c1).keep p1 fun o e => k i1 (by simp) o e,(zZ (P := P) (w := w) b2 i2 c2).keep p2 fun o e => k i2 (by simp) o e⟩
 item := by
  intro X hP hw hK hc i pins s σ H E I hf st hg
  subst hP hw hK
  obtain ⟨xs,ys,x,y,sq1,sq2,hx,hy⟩ := hg
  obtain ⟨its1,rv1,l1,z1⟩ := sq1.get I
  obtain ⟨its2,rv2,l2,z2⟩ := sq2.get I
  obtain ⟨u1,hu1,ru1⟩ := rv1.get hx
  obtain ⟨u2,hu2,ru2⟩ := rv2.get hy
  refine qaH D st l1 l2 (x := u1) (y := u2) (by simpa using hu1) (by simpa using hu2) fun h' hz hi ho p1 p2 hp hk => ?_
  have hfr : H s.heap.objs.size = none := I.fresh
  have free : ∀ b ∈ [z,ti,to,i1,i2],H b = none := fun b hb => (hf b hb).1
  refine ⟨_,rfl,wpAny_letOwnedTupleGo_zip hz fun h2 hz2 s2 => ?_⟩
  have zlt : z < s.heap.objs.size := Heap.lt_size st.1
  have hp2 : IsPair h2 s.heap.objs.size u1 u2 := (s2.2 _ (Nat.ne_of_gt zlt)).trans hp
  have ne := D.ne
  simp only [List.nodup_cons,List.mem_cons,List.not_mem_nil,not_or,or_false] at ne
  have up : ∀ c o,c ≠ z → h'.get? c = some o → h2.get? c = some o := fun c o hc e => (s2.2 c hc).trans e
  have kk : ∀ c o,c ∉ [z,to,i1,i2] → s.heap.get? c = some o → h2.get? c = some o := fun c o hc e => up c o (fun q => hc (by simp [q])) (hk c o hc e)
  have I3 : Inv X pins σ (upd H s.heap.objs.size (.tup [x,y])) { s with heap := h2 } := by
   refine I.step (g' := s.gens) (d' := s.drawn) (t' := s.toks) (ch := [z,to,i1,i2]) (fun b hb => ?_) (fun b o _ _ hcb e _ => kk b o hcb e) (fun b o _ _ hcb e _ => ⟨o.slots,kk b o hcb e⟩) (fun b o _ e n => by rw [qV (Nat.ne_of_lt (Heap.lt_size e))];exact n) (fun b o hcb e => ⟨o,kk b o hcb e⟩)
    (fun b _ e => by rw [qV (qJ e hfr)];exact e) (fun b _ _ e => by rw [qV (qJ e hfr)];exact e) (fun b ps e => ⟨#[],by rw [qV (qJ e hfr),e];simp⟩) (fun m hm => ?_) (fun b u e => ?_) I.bare
   ·obtain ⟨f0,f1,f2,f3,f4,f5⟩ := hf b (by simp only [List.mem_cons,List.not_mem_nil,or_false] at hb ⊢;rcases hb with q | q | q | q <;> simp [q])
    exact ⟨f3,f1,f4,f5⟩
   ·obtain ⟨o,es',ep,ho',r⟩ := hm
    refine ⟨o,es',ep,kk _ o (fun q => ?_) ho',r⟩
    obtain ⟨f0,f1,_⟩ := hf X.env.locals (by simp only [List.mem_cons,List.not_mem_nil,or_false] at q ⊢;rcases q with q | q | q | q <;> simp [q])
    exact f1 rfl
   ·by_cases hb : b = s.heap.objs.size
    ·subst hb
     rw [zw] at e
     cases e
     exact ⟨by show 2 ≤ sizeLine;decide,[u1,u2],.cons ru1 (.cons ru2 .nil),⟨_,hp2,rfl,_,rfl⟩⟩
    ·rw [qV hb] at e
     refine (I.hok b u e).stay (fun c v hcb q => kk c v (fun m => ?_) q) (fun _ q => by rw [qV (qJ q hfr)];exact q) fun _ _ q => by rw [qV (qJ q hfr)];exact q
     have hn := free c (by simp only [List.mem_cons,List.not_mem_nil,or_false] at m ⊢;rcases m with q | q | q | q <;> simp [q])
     rcases hcb with q | q
     ·rw [q] at hn;rw [hn] at e;cases e
     ·rw [hn] at q;cases q
  refine ⟨.ref s.heap.objs.size,_,I3,rfl,⟨_,x,y,hfr,rfl,rfl,fun zs q => by rw [q.inj I sq1];exact hx,fun zs q => by rw [q.inj I sq2];exact hy⟩,⟨hz2,up _ _ (Ne.symm ne.1.1) hi,let ⟨a,b,q⟩ := ho;⟨a,b,up _ _ (Ne.symm ne.1.2.1) q⟩,(zZ (P := X.prog) (w := X.w) b1 i1 c1).keep p1 fun o e => up _ o (Ne.symm ne.1.2.2.1) e,(zZ (P := X.prog) (w := X.w) b2 i2 c2).keep p2 fun o e => up _ o (Ne.symm ne.1.2.2.2) e⟩,fun b hb => ?_⟩
  rw [qV (fun q => ?_)]
  ·exact free b hb
  ·subst q
   obtain ⟨hz0,hi0,⟨a0,b0,ho0⟩,q1,q2⟩ := st
   simp only [List.mem_cons,List.not_mem_nil,or_false] at hb
   rcases hb with q | q | q | q | q
   ·exact absurd q (Nat.ne_of_gt zlt)
   ·exact absurd q (Nat.ne_of_gt (Heap.lt_size hi0))
   ·exact absurd q (Nat.ne_of_gt (Heap.lt_size ho0))
   ·obtain ⟨o,e,_⟩ := (zZ (P := X.prog) (w := X.w) b1 i1 c1).obj q1
    exact absurd q (Nat.ne_of_gt (Heap.lt_size e))
   ·obtain ⟨o,e,_⟩ := (zZ (P := X.prog) (w := X.w) b2 i2 c2).obj q2
    exact absurd q (Nat.ne_of_gt (Heap.lt_size e))
 done := by
  intro X hP hw hK hc i pins s σ H E I hf st hg
  subst hP hw hK
  obtain ⟨xs,ys,sq1,sq2,hend⟩ := hg
  obtain ⟨its1,rv1,l1,z1⟩ := sq1.get I
  obtain ⟨its2,rv2,l2,z2⟩ := sq2.get I
  have e1 := rv1.length
  have e2 := rv2.length
  refine RI (I.ok.hd hc) D st l1 l2 (by rcases hend with q | q;exact .inl (by simp;omega);exact .inr (by simp;omega)) fun h' hk => ⟨rfl,?_⟩
  have free : ∀ b ∈ [z,ti,to,i1,i2],H b = none := fun b hb => (hf b hb).1
  refine I.step (g' := s.gens) (d' := s.drawn) (t' := s.toks) (ch := [z,to,i1,i2]) (fun b hb => ?_) (fun b o _ _ hcb e _ => hk b o hcb e) (fun b o _ _ hcb e _ => ⟨o.slots,hk b o hcb e⟩) (fun _ _ _ _ n => n) (fun b o hcb e => ⟨o,hk b o hcb e⟩) (fun _ _ e => e) (fun _ _ _ e => e) (fun b ps e => ⟨#[],by rw [e];simp⟩) (fun m hm => ?_) (fun b u e => ?_) I.bare
  ·obtain ⟨f0,f1,f2,f3,f4,f5⟩ := hf b (by simp only [List.mem_cons,List.not_mem_nil,or_false] at hb ⊢;rcases hb with q | q | q | q <;> simp [q])
   exact ⟨f3,f1,f4,f5⟩
  ·obtain ⟨o,es',ep,ho',r⟩ := hm
   refine ⟨o,es',ep,hk _ o (fun q => ?_) ho',r⟩
   obtain ⟨f0,f1,_⟩ := hf X.env.locals (by simp only [List.mem_cons,List.not_mem_nil,or_false] at q ⊢;rcases q with q | q | q | q <;> simp [q])
   exact f1 rfl
  ·refine (I.hok b u e).stay (fun c v hcb q => hk c v (fun m => ?_) q) (fun _ q => q) fun _ _ q => q
   have hn := free c (by simp only [List.mem_cons,List.not_mem_nil,or_false] at m ⊢;rcases m with q | q | q | q <;> simp [q])
   rcases hcb with q | q
   ·rw [q] at hn;rw [hn] at e;cases e
   ·rw [hn] at q;cases q
 self := fun A i s Q E st h => wpAny_pyIter_zip st.1 h
end L3
namespace L3
open PySem PySem.Spec PyProof.Rows L2
theorem qdW {n c1 c2 : Addr} (h1 : c1 < n) (h2 : c2 < n) : ZA (n + 4) (n + 2) (n + 3) n (n + 1) c1 c2 := by
 have k : ∀ n c : Nat,c < n → c ≠ n + 4∧c ≠ n + 3∧c ≠ n∧c ≠ n + 1 := fun n c h => by omega
 have d : ∀ n : Nat,(([n + 4,n + 2,n + 3,n,n + 1] : List Nat)).Nodup := fun n => by
  simp only [List.nodup_cons,List.mem_cons,List.not_mem_nil,not_or,or_false,List.nodup_nil,and_true,not_false_eq_true]
  omega
 refine ⟨d n,?_,?_⟩
 ·simp only [List.mem_cons,List.not_mem_nil,not_or,or_false];exact k n c1 h1
 ·simp only [List.mem_cons,List.not_mem_nil,not_or,or_false];exact k n c2 h2
section
variable {X : Cx} {a b e l : Expr} {es : List Expr} {pos : Pos}
theorem qfk {p pt : Pos} {k1 : Nat} {ta : TA} (hg : Gl X "zip") (hm : X.mg "zip" = none) (ha : PA X [a,b] ta) (hs : starEach [a,b] X.env = [(false,eval a X.env),(false,eval b X.env)] := by rfl) (hs2 : starEach [b] X.env = [(false,eval b X.env)] := by rfl) :
  PI X (.Tuple es k1 pt) (.Call (.Name "zip" p) [a,b] [] pos) (fun σ H R => ta σ H fun vs H1 => ∃ b1 b2 c1 c2 xs ys,vs = [.ref c1,.ref c2]∧SqB X.K b1 H1 c1 xs∧SqB X.K b2 H1 c2 ys∧R (Itz X.K b1 b2 c1 c2) H1) := by
 intro pins s σ H R I h
 refine Call_ (WL I hg hm PyProof.Rows.boot_zip (PyProof.Rows.callWith_type1 (thn (ha pos pins s σ H _ I h) fun us s1 ⟨vs,H1,I1,r1,q1⟩ => ?_) (by rw [hs,hs2]) (by rw [hs2];rfl)))
 obtain ⟨b1,b2,c1,c2,xs,ys,rfl,sq1,sq2,q⟩ := q1
 obtain ⟨u1,u2,rfl,e1,e2⟩ := N0 r1
 cases (show u1 = Value.ref c1 from e1)
 cases (show u2 = Value.ref c2 from e2)
 obtain ⟨its1,rv1,l1,z1⟩ := sq1.get I1
 obtain ⟨its2,rv2,l2,z2⟩ := sq2.get I1
 refine qaV l1 l2 fun h' st hk => wpAny_pyIter_zip st.1 ?_
 refine ⟨s1.heap.objs.size + 4,[s1.heap.objs.size + 4,s1.heap.objs.size + 2,s1.heap.objs.size + 3,s1.heap.objs.size,s1.heap.objs.size + 1],_,_,H1,rfl,I1.kept (t' := s1.toks) hk,qaI (qdW (qdE l1) (qdE l2)),st,fun c hc => ?_,q⟩
 have hle : s1.heap.objs.size ≤ c := by
  simp only [List.mem_cons,List.not_mem_nil,or_false] at hc
  rcases hc with rfl | rfl | rfl | rfl | rfl <;> first | exact Nat.le_refl _ | exact Nat.le_add_right _ _
 exact I1.fpOk hle (I1.hok.fresh hle)
end
def zC (G : Gp) : T → Option (List T)
 | .tup xs => some xs
 | .ref p => getL G p
 | _ => none
theorem MT {K : PySem.W.Frag} {G0 : Gp} {H0 : Hp} {x : T} {v : V} {us : List T} (hr0 : HR K G0 H0) (rx : Rp K H0 x v) (h : zC G0 x = some us) :
  ∃ b c,v = .ref c∧∀ G H,HR K G H → Kp G0 H0 G H → zC G x = some us → ∃ vs,SqB K b H c vs∧Rps K H us vs := by
 cases rx with
 | tup hs rs =>
  cases h
  exact ⟨false,_,rfl,fun G H hr k _ => ⟨_,(CW hr0 k hs : SqT K H _ _),rs.keep hr0 k⟩⟩
 | ref a => exact ⟨true,a,rfl,fun G H hr k hq => let ⟨vs,h1,h2⟩ := zW hr (show getL G a = some us from hq);⟨vs,h1,h2⟩⟩
 | _ => cases h
def qbj (us vs : List T) : List T := (us.zip vs).map fun p => .tup [p.1,p.2]
theorem C6 {us vs : List T} {i : Nat} {x : T} (h : (qbj us vs)[i]? = some x) : ∃ a b,us[i]? = some a∧vs[i]? = some b∧x = .tup [a,b] := by
 unfold qbj at h
 rw [List.getElem?_map] at h
 cases e : (us.zip vs)[i]? with
 | none => rw [e] at h;cases h
 | some p =>
  rw [e] at h
  have := List.getElem?_zip_eq_some.mp e
  exact ⟨p.1,p.2,this.1,this.2,by simpa using h.symm⟩
theorem qgi {K : PySem.W.Frag} {b1 b2 : Bool} {c1 c2 : Addr} {x y : T} {us vs : List T} {G0 : Gp} {H0 : Hp}
  (f1 : ∀ G H,HR K G H → Kp G0 H0 G H → zC G x = some us → ∃ vs,SqB K b1 H c1 vs∧Rps K H us vs) (f2 : ∀ G H,HR K G H → Kp G0 H0 G H → zC G y = some vs → ∃ ws,SqB K b2 H c2 ws∧Rps K H vs ws) :
  qdJ K (Itz K b1 b2 c1 c2) (qbj us vs) (fun G => zC G x = some us∧zC G y = some vs) G0 H0 := by
 intro G H hr k ⟨h1,h2⟩
 obtain ⟨p,sp,rp⟩ := f1 G H hr k h1
 obtain ⟨q,sq,rq⟩ := f2 G H hr k h2
 refine ⟨fun i z hz => ?_,fun i z v H' hz hy => ?_,⟨p,q,sp,sq,?_⟩⟩
 ·obtain ⟨a,b,ha,hb,_⟩ := C6 hz
  obtain ⟨v,hv,_⟩ := rp.get ha
  obtain ⟨w,hw,_⟩ := rq.get hb
  exact ⟨p,q,v,w,sp,sq,hv,hw⟩
 ·obtain ⟨a,b,ha,hb,rfl⟩ := C6 hz
  obtain ⟨t,v1,v2,ht,rfl,rfl,g1,g2⟩ := hy
  obtain ⟨v,hv,rv⟩ := rp.get ha
  obtain ⟨w,hw,rw'⟩ := rq.get hb
  have e1 := (g1 p sp).symm.trans hv
  have e2 := (g2 q sq).symm.trans hw
  obtain rfl : v1 = v := Option.some.inj e1
  obtain rfl : v2 = w := Option.some.inj e2
  have kk : Kp G H G (upd H t (.tup [v1,v2])) := Kp.laid ht
  exact ⟨.tup (SqT.of zw) (.cons (rv.keep hr kk) (.cons (rw'.keep hr kk) .nil)),hr.laid ht,kk⟩
 ·rw [← rp.length,← rq.length,show (qbj us vs).length = min us.length vs.length by simp [qbj]]
  omega
def K8 (ta : TA3) : TI3 := fun τ G r => ta τ G fun xs G1 => match xs with
 | [x,y] => (match zC G1 x,zC G1 y with | some us,some vs => r (qbj us vs) (fun G => zC G x = some us∧zC G y = some vs) G1 | _,_ => False)
 | _ => False
section
variable {X : Cx} {a b e l : Expr} {es : List Expr} {pos : Pos} {t : TA3}
theorem qho {p pt : Pos} {k1 : Nat} (hg : Gl X "zip") (hm : X.mg "zip" = none) (ha : A3 X [a,b] t) (hs : starEach [a,b] X.env = [(false,eval a X.env),(false,eval b X.env)] := by rfl) (hs2 : starEach [b] X.env = [(false,eval b X.env)] := by rfl) :
  I3 X (.Tuple es k1 pt) (.Call (.Name "zip" p) [a,b] [] pos) (K8 t) :=
 qf8 (qfk hg hm ha hs hs2) fun σ H R ⟨τ,G,r,rl,h,af⟩ => JT rl h fun xs G1 h1 vs H1 rs hr1 k1 rl1 => by
  split at h1
  ·rename_i x y
   split at h1
   ·rename_i us ws e1 e2
    obtain ⟨v,u,rfl,r1,r2⟩ := qg2 rs
    obtain ⟨b1,c1,rfl,f1⟩ := MT hr1 r1 e1
    obtain ⟨b2,c2,rfl,f2⟩ := MT hr1 r2 e2
    obtain ⟨p,sp,_⟩ := f1 G1 H1 hr1 Kp.refl e1
    obtain ⟨q,sq,_⟩ := f2 G1 H1 hr1 Kp.refl e2
    exact ⟨b1,b2,c1,c2,p,q,rfl,sp,sq,af _ _ G1 h1 _ H1 hr1 k1 (qgi f1 f2)⟩
   ·exact h1.elim
  ·exact h1.elim
def jb : List T → Gp → Q3 → Prop := fun xs G q => match xs with
 | [.ref p] => (match getL G p with | some ys => (match qcX ys with | some k => q (.bl k) G | none => False) | none => False)
 | _ => False
theorem MF {K : PySem.W.Frag} {H : Hp} : ∀ {ys : List T} {vs : List V} {k : Bool},Rps K H ys vs → qcX ys = some k → ∃ ks : List Bool,vs = ks.map V.bl∧ks.all id = k
 | _,_,_,.nil,h => by cases h;exact ⟨[],rfl,rfl⟩
 | y :: ys,_,k,.cons a b,h => by
  unfold qcX at h
  split at h
  ·rename_i e;cases e
  ·rename_i j r e
   cases e
   split at h
   ·rename_i i ei
    obtain ⟨ks,rfl,hk⟩ := MF b ei
    cases a
    cases h
    exact ⟨j :: ks,rfl,by rw [List.all_cons,hk];rfl⟩
   ·cases h
  ·cases h
theorem MZ {K : PySem.W.Frag} : SJ K jb (fun xs H Q => ∃ (p : Addr) (ks : List Bool),xs = [.ref p]∧SqL K H p (ks.map V.bl)∧Q (.bl (ks.all id)) H) := fun xs vs G H q Q hr rs h af => by
 unfold jb at h
 split at h
 ·rename_i p
  obtain ⟨v,rfl,r⟩ := X9 rs
  cases r
  split at h
  ·rename_i ys e0
   split at h
   ·rename_i k e1
    obtain ⟨us,hs,r2⟩ := zW hr e0
    obtain ⟨ks,rfl,hk⟩ := MF r2 e1
    exact ⟨p,ks,rfl,hs,by rw [hk];exact af _ G h _ H (.bl _) hr Kp.refl⟩
   ·exact h.elim
  ·exact h.elim
 ·exact h.elim
end
end L3
namespace L3
open PySem PySem.Spec PyProof.Rows L2
def qhj : Value → Bool
 | .type t => t == "list"
 | _ => false
def EL : List (Addr × Obj) → Bool
 | [] => true
 | p :: r => if qhj p.2.cls then false else EL r
theorem XO : ∀ {K : List (Addr × Obj)} {a : Addr} {o : Obj},EL K = true → K.lookup a = some o → o.cls ≠ .type "list"
 | [],_,_,_,e => by simp at e
 | (b,x) :: r,a,o,h,e => by
  unfold EL at h
  split at h
  ·cases h
  ·rename_i hx
   rw [List.lookup_cons] at e
   split at e
   ·cases e
    intro z
    rw [z] at hx
    exact hx rfl
   ·exact XO h e
theorem LQ {K : PySem.W.Frag} {H : Hp} {a : Addr} {ns : List Int} (hK : EL K = true) (hO : qgX H) (hS : SqL K H a (ns.map V.int)) : ∃ o,H a = some (.frz o (.lst (ns.map V.int))) := by
 rcases hS with (h | h) | ⟨o,its,n,h1,h2,_⟩
 ·rcases hO a with z | ⟨o,xs,z⟩ <;> (rw [h] at z;cases z)
 ·exact h
 ·exact absurd h2 (XO hK h1)
def only (a : Addr) (ns : List Int) : Gp := fun b => if b = a then some (.frz (ns.map T.int)) else none
theorem qdp {K : PySem.W.Frag} {H : Hp} {a : Addr} {ns : List Int} (h : ∃ o,H a = some (.frz o (.lst (ns.map V.int)))) : HR K (only a ns) H := fun b o e => by
 unfold only at e
 split at e
 ·rename_i hb;subst hb;cases e;exact ⟨_,h,Rps.ints ns⟩
 ·cases e
def RX : Sp3 := fun ts G q => ∃ (a : Addr) (ns : List Int),ts = [.ref a]∧G a = some (.frz (ns.map T.int))∧ns.length ≤ 63∧∀ G',q (.bl true) G'
theorem qii {l : PySem.W.OpenLaw} {k : Nat} {q : Program} {loose : List Str} {XP : (Str → Option Value) → Heap → Prop} {YP : World → Heap → Prop} {d : DefRec} {K : Params → PySem.W.Frag} {x : Str} (hn : l.most = some 63) (hdf : d.params.defaults = []) (hr : Room k callerA)
  (hY : ∀ (w : World) (h : Heap),YP w h → (K w.params).In h) (hK : ∀ w : World,EL (K w.params) = true)
  (F : ∀ (w : World) (mg : Str → Option Value) (fa : Addr) (h : Heap),(K w.params).In h → h.Ns mainGlobals mg → mg d.name = some (.ref fa) →
   ∃ fd : FuncData,(∀ (s : Shared) (u : Value),BindsTo s fd ⟨[u],[]⟩ [(x,u)])∧∀ base : Heap,(K w.params).In base → base.Ns mainGlobals mg → FnOk l.prog w (K w.params) mg base CX0 k fa fd [x] (lSp (K w.params) RX)) :
  PySem.W.WalkO q loose XP YP l.row.toRowW d [] (fun f vs => PySem.call f vs) :=
 L2.qcZ (n := 63) (k := k) (x := x) (CX := fun _ => CX0) (sp := fun w => lSp (K w.params) RX) hn (by decide) hdf hr hY F
  (fun w H a ns hl hO hS => ⟨[.ref a],only a ns,fun t _ => t = .bl true,qdp (LQ (hK w) hO hS),.cons (.ref a) .nil,⟨a,ns,rfl,by simp [only],hl,fun _ => rfl⟩,fun t G' e v H' r _ _ => by subst e;cases r;rfl⟩) fun _ _ _ _ _ z => z
theorem qdb {P : Program} {w : World} {K : PySem.W.Frag} {mg : Str → Option Value} {base : Heap} {x qual : Str} {st : Stmt} {f : Addr} {fd : FuncData} {N ps : List Str} {k : Nat} {sp : Sp3} {t3 : TS3} (F : Fun K x qual st f fd) (S : FnScope N ps (qk st))
  (body : ∀ (cdv : Value) (A : Around) (outer : List Env) (s : Shared) (H : Hp) (E : XK),Room k (A.deeper (envOfC qual (qk st) s.heap.objs.size f cdv)) →
   B3 (qah CX0 P w K mg base N qual (qk st) f cdv A outer s H E).nox (jD st) t3)
  (read : ∀ ts G q,sp ts G q → ts.length = ps.length∧t3 { nx := fun _ G' => q .non G',rt := q } (qi N ts) G) : FnOk P w K mg base CX0 (k + 1) f fd ps (lSp K sp) := by
 refine F.ok S (fun vs H Q E ⟨ts,G,q,h1,h2,h3,h4⟩ => by rw [← h2.length];exact (read ts G q h3).1) fun cdv A outer s H vs Q E hr ⟨ts,G,q,h1,h2,h3,h4⟩ => ?_
 refine ⟨_,body cdv A outer s H E hr,qi N ts,G,_,SH h1 h2,(read ts G q h3).2,⟨fun τ' G' h' σ' H' rl' k' => h4 _ G' h' _ H' .non rl'.hp k',h4,fun _ _ z => z.elim,fun _ _ z => z.elim⟩⟩
end L3
namespace L3
open PySem PySem.Spec PyProof.Rows L2
abbrev eh1 (h : Heap) (o1 : Obj) : Heap := h.push o1
abbrev eh2 (h : Heap) (o1 : Obj) : Heap := (eh1 h o1).push { cls := .type "enumerate",data := .fields #[.none,.bool false,.ref h.objs.size,rawInt 0,.none,.none] }
theorem LJ (c : Addr) (o1 : Obj) (ob : Obj) :
  Meets (Builtin.«enumerate.__new__» ⟨[.type "enumerate",.ref c],[]⟩) (fun _ R s => s.heap.get? c = some ob ∧
   (∀ (P : Program) (w : World) (A : Around) (Q : Value → Shared → Prop) (E : Value → Shared → Prop),Q (.ref s.heap.objs.size) { s with heap := eh1 s.heap o1 } → wpAny (model P w) A (pyIter (.ref c)) Q E s) ∧
   R (.ok (.ret (.ref (eh1 s.heap o1).objs.size))) { s with heap := eh2 s.heap o1 }) :=
 .of_wp fun prog w A R s h => by
  obtain ⟨hp,g,d,tk,os⟩ := s
  obtain ⟨hl,h1,h⟩ := h
  have hsub := sub_enumerate
  have k1 := fun A Q E => h1 prog w A Q E
  wp_walk using wpAny_loadPart' hl
  refine wpAny_stack_any fun st => wpAny_pure ?_
  split
  ·rename_i c _ _ _ _ _
   cases (c == Value.type "enumerate")
   ·wp_walk using wpAny_loadPart' hl,k1 _ _ _
    exact ⟨_,rfl,h⟩
   ·wp_walk using wpAny_loadPart' hl,k1 _ _ _
    exact ⟨_,rfl,h⟩
  ·wp_walk using wpAny_loadPart' hl,k1 _ _ _
   exact ⟨_,rfl,h⟩
theorem qas {b : Bool} {c : Addr} {xs : Array Value} {h : Heap} (q : SI b c xs h) : ∃ o,h.get? c = some o := by
 cases b
 ·obtain ⟨o,e,_⟩ := (show h.IsTuple c xs from q);exact ⟨o,e⟩
 ·obtain ⟨o,e,_⟩ := (show h.IsList c xs from q);exact ⟨o,e⟩
section
variable {P : Program} {w : World} {A : Around} {s : Shared} {E : Value → Shared → Prop}
theorem NB {b : Bool} {c : Addr} {xs : Array Value} {Q : Value → Shared → Prop} (h1 : SI b c xs s.heap)
  (q : ∀ h',IsEnum h' (s.heap.objs.size + 1) s.heap.objs.size 0 .none → qax b s.heap.objs.size c 0 h' → (∀ c o,s.heap.get? c = some o → h'.get? c = some o) → Q (.ref (s.heap.objs.size + 1)) { s with heap := h' }) :
  wpAny (model P w) A (call (.type "enumerate") [.ref c]) Q E s := by
 obtain ⟨ob,hob⟩ := qas h1
 refine callType_new F.called_enumerate (by decide) (F.typeCall_enumerate_1 _) (F.newCall_enumerate_1 _) (fun obj => F.args_object_init_2 obj _) F.entry_enumerate_new
  (LJ c (zT b c) ob) ⟨hob,fun P w A Q E q => TU h1 q,?_⟩
 have e1 : (eh1 s.heap (zT b c)).objs.size = s.heap.objs.size + 1 := Heap.size_push ..
 have g2 : (eh2 s.heap (zT b c)).get? (eh1 s.heap (zT b c)).objs.size = some _ := Heap.get?_push_size _ rfl
 have g1 : (eh2 s.heap (zT b c)).get? s.heap.objs.size = some (zT b c) := Heap.get?_push_of_some _ (Heap.get?_push_size _ rfl)
 show _∧_
 rw [e1] at g2 ⊢
 refine ⟨⟨_,g2,rfl⟩,q _ g2 ?_ fun c o e => Heap.get?_push_of_some _ (Heap.get?_push_of_some _ e)⟩
 cases b <;> exact ⟨_,g1,rfl,rfl⟩
end
theorem qa3 {P : Program} {w : World} {A : Around} (hh : A.handled = none) (b : Bool) (it c : Addr) (hne : c ≠ it) (xs : Array Value) :
  Draws P w A it [it,c] xs.size (fun i v => xs[i]? = some v) (fun i h => qax b it c i h∧SI b c xs h) where
 live := fun i h st => let ⟨o,e,_⟩ := (zZ (P := P) (w := w) b it c).obj st.1;⟨o,e⟩
 frame := fun i h h' st hk => ⟨(zZ (P := P) (w := w) b it c).keep st.1 fun o e => hk it (by simp) o e,(zZ (P := P) (w := w) b it c).hkeep st.2 fun o e => hk c (by simp) o e⟩
 item := fun i s Q E hi st hQ => by
  refine (zZ (P := P) (w := w) b it c).item st.1 st.2 (x := xs[i]) (by simp [hi]) fun h' st' sb => ?_
  exact hQ _ h' s.toks (by simp [hi]) ⟨st',(zZ (P := P) (w := w) b it c).hkeep st.2 fun o e => (sb.2 c hne).trans e⟩ sb
 done := fun s Q E st hE => (zZ (P := P) (w := w) b it c).done hh st.1 st.2 (by simp) hE
theorem CG {P : Program} {w : World} {A : Around} {s : Shared} {E : Value → Shared → Prop} {b : Bool} {e it c : Addr} {i : Nat} {xs : Array Value} {old : Value} {Q : Option Value → Shared → Prop} (hh : A.handled = none) (he : IsEnum s.heap e it i old) (p1 : qax b it c i s.heap) (l1 : SI b c xs s.heap) (hx : xs[i]? = none)
  (hQ : ∀ h',Heap.ExtBut it s.heap h' → Q none { s with heap := h' }) : wpAny (model P w) A (pyNext (.ref e)) Q E s := by
 have hT : s.TypeIs (.ref e) "enumerate" := ⟨_,he,rfl⟩
 unfold pyNext
 refine wpAny_bind (wpAny_attempt (wpAny_callSpecial?_slot (name := Str.ofString "__next__") hT F.slot_enumerate_next
  (wpAny_call_entry F.slot_enumerate_next hT F.entry_enumerate_next ?_ (F.args_enumerate_next_1 _))))
 show wpAny _ _ (field (.ref e) 2 >>= _) _ _ _
 refine wpAny_bind (wpAny_field he rfl (x := .ref it) rfl ?_)
 refine wpAny_bind ((zZ (P := P) (w := w) b it c).done (show A.in1.handled = none from hh) p1 l1 hx fun h' x he' hx' => ?_)
 obtain ⟨o,ho,hc⟩ := hx'
 refine wpAny_bind (wpAny_isInstance (T := "StopIteration") (b := true) ⟨o,ho,hc⟩ isSubtype_stop ?_)
 exact wpAny_pure (hQ _ he')
def Ite (K : PySem.W.Frag) (b : Bool) (c : Addr) : It :=
  ⟨fun i H => ∃ xs x,SqB K b H c xs∧xs[i]? = some x,
   fun i H v H' => ∃ p x,H p = none∧v = .ref p∧H' = upd H p (.tup [.int i,x])∧(∀ xs,SqB K b H c xs → xs[i]? = some x),
   fun i H => ∃ xs,SqB K b H c xs∧xs.length ≤ i⟩
def qf7 (b : Bool) (e it c : Addr) (k : Nat) (h : Heap) : Prop := (∃ old,IsEnum h e it k old)∧qax b it c k h
theorem ML {P : Program} {w : World} {K : PySem.W.Frag} {es : List Expr} {k1 : Nat} {pt : Pos} {b : Bool} {e it c : Addr} (n1 : e ≠ it) (n2 : c ≠ e) (n3 : c ≠ it) : Turn P w K (.Tuple es k1 pt) (Ite K b c) [e,it] e (qf7 b e it c) where
 mem := by simp
 obj := fun i h ⟨⟨old,he⟩,p1⟩ d hd => by
  simp only [List.mem_cons,List.not_mem_nil,or_false] at hd
  rcases hd with rfl | rfl
  ·exact ⟨_,he,fun v q => by cases q⟩
  ·exact (zZ (P := P) (w := w) b d c).obj p1
 keep := fun i h h' ⟨⟨old,he⟩,p1⟩ k => ⟨⟨old,k e (by simp) _ he⟩,(zZ (P := P) (w := w) b it c).keep p1 fun o e => k it (by simp) o e⟩
 item := by
  intro X hP hw hK hc i pins s σ H E I hf st hg
  subst hP hw hK
  obtain ⟨xs,x,sq,hx⟩ := hg
  obtain ⟨its,rv,l1,z1⟩ := sq.get I
  obtain ⟨u,hu,ru⟩ := rv.get hx
  obtain ⟨⟨old,he⟩,p1⟩ := st
  have hil : i < its.toArray.size := by have := (List.getElem?_eq_some_iff.mp hu).1;simpa using this
  refine wpAny_pyNext_enum_itemD (qa3 (show X.A.in1.handled = none from I.ok.hd hc) b it c n3 its.toArray) he ⟨p1,l1⟩ hil n1 (by simp only [List.mem_cons,List.not_mem_nil,or_false,not_or];exact ⟨n1,Ne.symm n2⟩) fun y h' tk hy ho st' ht hsz hk => ?_
  have hy' : y = u := by
   have : its.toArray[i]? = some u := by simpa using hu
   rw [this] at hy;exact (Option.some.inj hy).symm
  subst hy'
  have hfr : H s.heap.objs.size = none := I.fresh
  have free : ∀ b ∈ [e,it],H b = none := fun b hb => (hf b hb).1
  refine ⟨_,rfl,wpAny_letOwnedTupleGo_enum ho fun h2 hz2 s2 => ?_⟩
  have elt : e < s.heap.objs.size := Heap.lt_size he
  have hp2 : h2.get? s.heap.objs.size = some { cls := .type "tuple",data := .seq #[.int i tk,y] } := (s2.2 _ (Nat.ne_of_gt elt)).trans ht
  have up : ∀ c o,c ≠ e → h'.get? c = some o → h2.get? c = some o := fun c o hc e => (s2.2 c hc).trans e
  have kk : ∀ c o,c ∉ [e,it] → s.heap.get? c = some o → h2.get? c = some o := fun c o hc q => by
   simp only [List.mem_cons,List.not_mem_nil,or_false,not_or] at hc
   exact up c o hc.1 (hk c o hc.1 hc.2 q)
  have I3 : Inv X pins σ (upd H s.heap.objs.size (.tup [.int i,x])) { s with heap := h2,toks := tk + 1 } := by
   refine I.step (g' := s.gens) (d' := s.drawn) (t' := tk + 1) (ch := [e,it]) (fun b hb => ?_) (fun b o _ _ hcb e _ => kk b o hcb e) (fun b o _ _ hcb e _ => ⟨o.slots,kk b o hcb e⟩) (fun b o _ e n => by rw [qV (Nat.ne_of_lt (Heap.lt_size e))];exact n) (fun b o hcb e => ⟨o,kk b o hcb e⟩)
    (fun b _ e => by rw [qV (qJ e hfr)];exact e) (fun b _ _ e => by rw [qV (qJ e hfr)];exact e) (fun b ps e => ⟨#[],by rw [qV (qJ e hfr),e];simp⟩) (fun m hm => ?_) (fun b u e => ?_) I.bare
   ·obtain ⟨f0,f1,f2,f3,f4,f5⟩ := hf b hb
    exact ⟨f3,f1,f4,f5⟩
   ·obtain ⟨o,es',ep,ho',r⟩ := hm
    refine ⟨o,es',ep,kk _ o (fun q => ?_) ho',r⟩
    obtain ⟨f0,f1,_⟩ := hf X.env.locals q
    exact f1 rfl
   ·by_cases hb : b = s.heap.objs.size
    ·subst hb
     rw [zw] at e
     cases e
     exact ⟨by show 2 ≤ sizeLine;decide,[.int i tk,y],.cons ⟨tk,rfl⟩ (.cons ru .nil),⟨_,hp2,rfl,_,rfl⟩⟩
    ·rw [qV hb] at e
     refine (I.hok b u e).stay (fun c v hcb q => kk c v (fun m => ?_) q) (fun _ q => by rw [qV (qJ q hfr)];exact q) fun _ _ q => by rw [qV (qJ q hfr)];exact q
     have hn := free c m
     rcases hcb with q | q
     ·rw [q] at hn;rw [hn] at e;cases e
     ·rw [hn] at q;cases q
  refine ⟨.ref s.heap.objs.size,_,I3,rfl,⟨_,x,hfr,rfl,rfl,fun zs q => by rw [q.inj I sq];exact hx⟩,⟨⟨_,by push_cast;exact hz2⟩,(zZ (P := X.prog) (w := X.w) b it c).keep st'.1 fun o e => up _ o (Ne.symm n1) e⟩,fun b hb => ?_⟩
  rw [qV (fun q => ?_)]
  ·exact free b hb
  ·subst q
   simp only [List.mem_cons,List.not_mem_nil,or_false] at hb
   rcases hb with q | q
   ·exact absurd q (Nat.ne_of_gt elt)
   ·obtain ⟨o,e,_⟩ := (zZ (P := X.prog) (w := X.w) b it c).obj p1
    exact absurd q (Nat.ne_of_gt (Heap.lt_size e))
 done := by
  intro X hP hw hK hc i pins s σ H E I hf st hg
  subst hP hw hK
  obtain ⟨xs,sq,hend⟩ := hg
  obtain ⟨its,rv,l1,z1⟩ := sq.get I
  obtain ⟨⟨old,he⟩,p1⟩ := st
  have e1 := rv.length
  have free : ∀ b ∈ [e,it],H b = none := fun b hb => (hf b hb).1
  refine CG (I.ok.hd hc) he p1 l1 (by simp;omega) fun h' hk0 => ⟨rfl,?_⟩
  have hk : ∀ c o,c ∉ [e,it] → s.heap.get? c = some o → h'.get? c = some o := fun c o hcb q => hk0 c o (by simp only [List.mem_cons,List.not_mem_nil,or_false,not_or] at hcb;exact hcb.2) q
  refine I.step (g' := s.gens) (d' := s.drawn) (t' := s.toks) (ch := [e,it]) (fun b hb => ?_) (fun b o _ _ hcb e _ => hk b o hcb e) (fun b o _ _ hcb e _ => ⟨o.slots,hk b o hcb e⟩) (fun _ _ _ _ n => n) (fun b o hcb e => ⟨o,hk b o hcb e⟩) (fun _ _ e => e) (fun _ _ _ e => e) (fun b ps e => ⟨#[],by rw [e];simp⟩) (fun m hm => ?_) (fun b u e => ?_) I.bare
  ·obtain ⟨f0,f1,f2,f3,f4,f5⟩ := hf b hb
   exact ⟨f3,f1,f4,f5⟩
  ·obtain ⟨o,es',ep,ho',r⟩ := hm
   refine ⟨o,es',ep,hk _ o (fun q => ?_) ho',r⟩
   obtain ⟨f0,f1,_⟩ := hf X.env.locals q
   exact f1 rfl
  ·refine (I.hok b u e).stay (fun c v hcb q => hk c v (fun m => ?_) q) (fun _ q => q) fun _ _ q => q
   have hn := free c m
   rcases hcb with q | q
   ·rw [q] at hn;rw [hn] at e;cases e
   ·rw [hn] at q;cases q
 self := fun A i s Q E st h => let ⟨⟨old,he⟩,_⟩ := st;wpAny_pyIter_enum he h
section
variable {X : Cx} {a b e l : Expr} {es : List Expr} {pos : Pos}
theorem qcD {p pt : Pos} {k1 : Nat} {ta : TA} (hg : Gl X "enumerate") (hm : X.mg "enumerate" = none) (ha : PA X [a] ta) (hs : starEach [a] X.env = [(false,eval a X.env)] := by rfl) :
  PI X (.Tuple es k1 pt) (.Call (.Name "enumerate" p) [a] [] pos) (fun σ H R => ta σ H fun vs H1 => ∃ b1 c1 xs,vs = [.ref c1]∧SqB X.K b1 H1 c1 xs∧R (Ite X.K b1 c1) H1) := by
 intro pins s σ H R I h
 refine Call_ (WL I hg hm PyProof.Rows.boot_enumerate (PyProof.Rows.callWith_type1 (thn (ha pos pins s σ H _ I h) fun us s1 ⟨vs,H1,I1,r1,q1⟩ => ?_) (by rw [hs];rfl) (by rfl)))
 obtain ⟨b1,c1,xs,rfl,sq1,q⟩ := q1
 obtain ⟨u1,rfl,e1⟩ := EJ r1
 cases (show u1 = Value.ref c1 from e1)
 obtain ⟨its1,rv1,l1,z1⟩ := sq1.get I1
 refine NB l1 fun h' he hit hk => wpAny_pyIter_enum he ?_
 have lt := qdE l1
 have ne3 : ∀ n c : Nat,c < n → n + 1 ≠ n∧c ≠ n + 1∧c ≠ n := fun n c h => by omega
 obtain ⟨m1,m2,m3⟩ := ne3 _ _ lt
 refine ⟨s1.heap.objs.size + 1,[s1.heap.objs.size + 1,s1.heap.objs.size],_,_,H1,rfl,I1.kept (t' := s1.toks) hk,ML m1 m2 m3,⟨⟨_,he⟩,hit⟩,fun c hc => ?_,q⟩
 have hle : s1.heap.objs.size ≤ c := by
  simp only [List.mem_cons,List.not_mem_nil,or_false] at hc
  rcases hc with rfl | rfl <;> first | exact Nat.le_refl _ | exact Nat.le_add_right _ _
 exact I1.fpOk hle (I1.hok.fresh hle)
end
def QY (k : Nat) : List T → List T
 | [] => []
 | x :: r => .tup [.int (k : Int),x] :: QY (k + 1) r
def M4 (us : List T) : List T := QY 0 us
theorem ET : ∀ {us : List T} {k i : Nat} {x : T},(QY k us)[i]? = some x → ∃ a,us[i]? = some a∧x = .tup [.int ((k + i : Nat) : Int),a]
 | [],_,_,_,h => by simp [QY] at h
 | u :: us,k,0,x,h => by simp [QY] at h;exact ⟨u,rfl,by simp [← h]⟩
 | u :: us,k,i + 1,x,h => by
  simp [QY] at h
  obtain ⟨a,ha,hx⟩ := ET h
  exact ⟨a,by simpa using ha,by rw [hx];congr 4;omega⟩
theorem EQ : ∀ (us : List T) (k : Nat),(QY k us).length = us.length
 | [],_ => rfl
 | u :: us,k => by simp [QY,EQ us]
theorem DY (us : List T) : (M4 us).length = us.length := EQ us 0
theorem UD {us : List T} {i : Nat} {x : T} (h : (M4 us)[i]? = some x) : ∃ a,us[i]? = some a∧x = .tup [.int (i : Int),a] := by
 obtain ⟨a,ha,hx⟩ := ET h
 exact ⟨a,ha,by rw [hx];congr 4;omega⟩
theorem qfH {K : PySem.W.Frag} {b1 : Bool} {c1 : Addr} {x : T} {us : List T} {G0 : Gp} {H0 : Hp}
  (f1 : ∀ G H,HR K G H → Kp G0 H0 G H → zC G x = some us → ∃ vs,SqB K b1 H c1 vs∧Rps K H us vs) :
  qdJ K (Ite K b1 c1) (M4 us) (fun G => zC G x = some us) G0 H0 := by
 intro G H hr k h1
 obtain ⟨p,sp,rp⟩ := f1 G H hr k h1
 refine ⟨fun i z hz => ?_,fun i z v H' hz hy => ?_,⟨p,sp,?_⟩⟩
 ·obtain ⟨a,ha,_⟩ := UD hz
  obtain ⟨v,hv,_⟩ := rp.get ha
  exact ⟨p,v,sp,hv⟩
 ·obtain ⟨a,ha,rfl⟩ := UD hz
  obtain ⟨t,v1,ht,rfl,rfl,g1⟩ := hy
  obtain ⟨v,hv,rv⟩ := rp.get ha
  have e1 := (g1 p sp).symm.trans hv
  obtain rfl : v1 = v := Option.some.inj e1
  have kk : Kp G H G (upd H t (.tup [.int i,v1])) := Kp.laid ht
  exact ⟨.tup (SqT.of zw) (.cons (.int _) (.cons (rv.keep hr kk) .nil)),hr.laid ht,kk⟩
 ·rw [← rp.length,DY]
  exact Nat.le_refl _
def XV (ta : TA3) : TI3 := fun τ G r => ta τ G fun xs G1 => match xs with
 | [x] => (match zC G1 x with | some us => r (M4 us) (fun G => zC G x = some us) G1 | _ => False)
 | _ => False
section
variable {X : Cx} {a b e l : Expr} {es : List Expr} {pos : Pos} {t : TA3}
theorem qeX {p pt : Pos} {k1 : Nat} (hg : Gl X "enumerate") (hm : X.mg "enumerate" = none) (ha : A3 X [a] t) (hs : starEach [a] X.env = [(false,eval a X.env)] := by rfl) :
  I3 X (.Tuple es k1 pt) (.Call (.Name "enumerate" p) [a] [] pos) (XV t) :=
 qf8 (qcD hg hm ha hs) fun σ H R ⟨τ,G,r,rl,h,af⟩ => JT rl h fun xs G1 h1 vs H1 rs hr1 k1 rl1 => by
  split at h1
  ·rename_i x
   split at h1
   ·rename_i us e1
    obtain ⟨v,rfl,r1⟩ := X9 rs
    obtain ⟨b1,c1,rfl,f1⟩ := MT hr1 r1 e1
    obtain ⟨p,sp,_⟩ := f1 G1 H1 hr1 Kp.refl e1
    exact ⟨b1,c1,p,rfl,sp,af _ _ G1 h1 _ H1 hr1 k1 (qfH f1)⟩
   ·exact h1.elim
  ·exact h1.elim
end
end L3
namespace L3
open PySem PySem.Spec PyProof.Rows L2
section
variable {X : Cx} {a b c e : Expr} {es : List Expr} {ta tb tc te : TE3} {t : TA3} {pos : Pos}
def jn (i : Nat) (r : R3) (te : TE3) : TS3 := fun d τ G => match τ[i]? with
 | some (some x) => te τ G fun y G1 => r x y G1 fun z G2 => d.nx (τ.set i (some z)) G2
 | _ => False
theorem qaF (i : Nat) {x : Str} {pos' : Pos} (hN : X.N.Nodup) (he : E3 X e te) (hi : X.N[i]? = some x := by rfl) (hx : Loc X.env.scope x := by first | exact Or.inl rfl | exact Or.inr rfl) (hf : X.fn x = true ∨ X.env.scope.names.lookup x = some .local := by first | exact .inl rfl | exact .inr rfl) :
  S3 X (.AugAssign (.Name x pos') .Add e pos) (jn i (iI (· + ·)) te) :=
 qag (qfE (i := i) hN hi hx he qe9 hf) fun D σ H ⟨τ,G,d,rl,h,af⟩ => by
  unfold jn at h
  split at h
  ·rename_i x e1
   obtain ⟨v,e2,rv⟩ := rl.st i x e1
   refine ⟨v,e2,zQ rl h fun y G1 h1 u H1 ry hr1 k1 rl1 => ?_⟩
   have rv1 := rv.keep rl.hp k1
   cases x <;> try exact h1.elim
   cases y <;> try exact h1.elim
   cases rv1;cases ry
   exact ⟨_,_,rfl,rfl,af.nx _ G1 h1 _ H1 (rl1.set i (.int _)) k1⟩
  ·exact h.elim
def qcK (ns : List Int) : Prop := ns.length ≤ 1000000∧∀ x ∈ ns,-1000000000000 ≤ x∧x ≤ 1000000000000
theorem TQ (ns : List Int) : ∀ j,j ≤ ns.length → preSum (fun i => ns.getD i 0) j = (ns.take j).sum
 | 0,_ => by simp [preSum]
 | j + 1,h => by
  have hj : j < ns.length := h
  unfold preSum
  rw [TQ ns j (by omega),List.take_succ_eq_append_getElem hj,List.sum_append,List.getD_eq_getElem?_getD,List.getElem?_eq_getElem hj]
  simp
theorem qb2 : ∀ (ns : List Int),(∀ x ∈ ns,-1000000000000 ≤ x∧x ≤ 1000000000000) → -1000000000000 * (ns.length : Int) ≤ ns.sum∧ns.sum ≤ 1000000000000 * (ns.length : Int)
 | [],_ => by simp
 | n :: r,h => by
  have h1 := h n List.mem_cons_self
  have h2 := qb2 r fun x hx => h x (List.mem_cons_of_mem _ hx)
  rw [List.sum_cons,List.length_cons]
  omega
theorem VR (hc : X.calm = true) : ZI X (.builtin "sum") (fun xs H Q => ∃ (p : Addr) (ns : List Int),xs = [.ref p]∧SqL X.K H p (ns.map V.int)∧qcK ns∧Q (.int ns.sum) H) := by
 intro pins s σ H xs us Q I r h
 obtain ⟨p,ns,rfl,hq,ok,q⟩ := h
 obtain ⟨u,rfl,rp⟩ := EJ r
 cases (show u = Value.ref p from rp)
 obtain ⟨its,rv,pl,hz⟩ := I.list hq
 have hlen : its.length = ns.length := by have := rv.length;simp at this;omega
 have hp : p < s.heap.objs.size := by obtain ⟨o,n,e,_⟩ := pl;exact Heap.lt_size e
 have bd : ∀ j,j ≤ ns.length → InLong (preSum (fun i => ns.getD i 0) j) := fun j hj => by
  rw [TQ ns j hj]
  have := qb2 (ns.take j) fun x hx => ok.2 x (List.mem_of_mem_take hx)
  have hl : (ns.take j).length ≤ 1000000 := Nat.le_trans (by rw [List.length_take];omega) ok.1
  unfold InLong
  omega
 refine call_sum_walk (wpAny_pyIter_list pl.isList ⟨s.heap.objs.size,_,_,_,_,_,fun i => ns.getD i 0,rfl,Walks.list (A := X.A.in1) (show X.A.in1.handled = none from I.ok.hd hc) s.heap.objs.size p (Nat.ne_of_lt hp) its.toArray,⟨⟨_,Heap.get?_push_size _ rfl,rfl,rfl⟩,?_⟩,fun b hb => ?_,fun i v hv => ?_,fun j hj => ?_,fun h' tk t' hk => ?_⟩)
 ·obtain ⟨o,n,e,c,_,d⟩ := pl
  exact ⟨o,Heap.get?_push_of_some _ e,c,n,d⟩
 ·have lt1 : ∀ n c : Nat,c < n → c < n + 1 := fun n c h => by omega
  rw [show (({ s with heap := s.heap.push _ } : Shared).heap.objs.size) = s.heap.objs.size + 1 from Heap.size_push ..]
  simp only [List.mem_cons,List.not_mem_nil,or_false] at hb
  rcases hb with rfl | rfl
  ·exact Nat.lt_succ_self _
  ·exact lt1 _ _ hp
 ·have hv' : its[i]? = some v := by simpa using hv
  obtain ⟨hi,_⟩ := List.getElem?_eq_some_iff.mp hv'
  have hi' : i < ns.length := by omega
  obtain ⟨u,hu,ru⟩ := rv.get (i := i) (show (ns.map V.int)[i]? = some (V.int (ns[i])) by simp [hi'])
  rw [hv'] at hu;cases hu
  obtain ⟨t,rfl⟩ := ru
  exact ⟨t,by show Value.int ns[i] t = Value.int (ns.getD i 0) t;rw [List.getD_eq_getElem?_getD,List.getElem?_eq_getElem hi'];rfl⟩
 ·have hj' : j < ns.length := by rw [List.size_toArray] at hj;omega
  refine ⟨?_,bd _ hj'⟩
  have := ok.2 (ns.getD j 0) (by rw [List.getD_eq_getElem?_getD,List.getElem?_eq_getElem hj'];exact List.getElem_mem hj')
  show InLong (ns.getD j 0)
  unfold InLong
  omega
 ·refine ⟨.int _,H,?_,⟨_,rfl⟩,by rw [List.size_toArray,hlen,TQ ns _ (Nat.le_refl _),List.take_length];exact q⟩
  exact I.kept (h' := h') (t' := tk) fun b o e => hk b o (by simp;exact Nat.ne_of_lt (Heap.lt_size e)) (Heap.get?_push_of_some _ e)
def X3 : List T → Option (List Int)
 | [] => some []
 | .int i :: r => (match X3 r with | some ns => some (i :: ns) | none => none)
 | _ => none
theorem VT (ns : List Int) : X3 (ns.map T.int) = some ns := by
 induction ns with
 | nil => rfl
 | cons n r ih => simp [X3,ih]
theorem DQ : ∀ {xs : List T} {ns : List Int},X3 xs = some ns → xs = ns.map T.int
 | [],_,h => by simp [X3] at h;subst h;rfl
 | x :: r,ns,h => by
  unfold X3 at h
  split at h
  ·rename_i e;cases e
  ·rename_i i r' e
   cases e
   split at h
   ·rename_i ms e2
    cases h
    rw [DQ e2];rfl
   ·cases h
  ·cases h
def qdM : List T → Gp → Q3 → Prop := fun xs G q => match xs with
 | [.ref p] => (match getL G p with | some ys => (match X3 ys with | some ns => qcK ns∧q (.int ns.sum) G | none => False) | none => False)
 | _ => False
theorem DM {K : PySem.W.Frag} {H : Hp} : ∀ {ns : List Int} {vs : List V},Rps K H (ns.map T.int) vs → vs = ns.map V.int
 | [],_,r => by cases r;rfl
 | n :: ns,_,r => by
  cases r with
  | cons a b => cases a;rw [DM b];rfl
theorem M3 {K : PySem.W.Frag} : SJ K qdM (fun xs H Q => ∃ (p : Addr) (ns : List Int),xs = [.ref p]∧SqL K H p (ns.map V.int)∧qcK ns∧Q (.int ns.sum) H) := fun xs vs G H q Q hr rs h af => by
 unfold qdM at h
 split at h
 ·rename_i p
  obtain ⟨v,rfl,r⟩ := X9 rs
  cases r
  split at h
  ·rename_i ys e0
   split at h
   ·rename_i ns e1
    obtain ⟨us,hs,r2⟩ := zW hr e0
    have := DQ e1
    subst this
    have := DM r2
    subst this
    exact ⟨p,ns,rfl,hs,h.1,af _ G h.2 _ H (.int _) hr Kp.refl⟩
   ·exact h.elim
  ·exact h.elim
 ·exact h.elim
def jv : List T → Gp → Q3 → Prop := fun xs G q => match xs with
 | [.ref p] => (match getL G p with | some ys => (match qiK ys with | some k => q (.bl k) G | none => False) | none => False)
 | _ => False
end
end L3
namespace L3
open PySem PySem.Spec PyProof.Rows L2
section
variable {X : Cx}
theorem qdi {elt tg iter : Expr} {ifs : List Expr} {scope : Scope} {pos cpos : Pos} {N' : List Str} {m : List (Option Nat)} {wi : TI} {g : TG} {tif : TT} {te : TE} {use : Option (Value → Sem Unit)} {Qc : Value → Shared → Prop} {QD : Addr → Hp → Prop} (hc : X.calm = true) (hi : PI X tg iter wi)
  (hg : ∀ s H fp,PG (qq X N' scope s H fp) tg g) (hf : ∀ s H fp,PF (qq X N' scope s H fp) ifs tif) (he : ∀ s H fp,PE (qq X N' scope s H fp) elt te)
  (hsc : MD X.env.scope scope = true) (hcap : Y9 X.N N' scope m = true) (hs : ∀ x,foldedSetIterable iter X.env x = pure x) {pins : List (Addr × Obj)} {s : Shared} {σ : L2.St} {H : Hp} (I : Inv X pins σ H s)
  (h : wi σ H fun J H1 => ∀ D,H1 D = none →
   ∃ W : Nat → Nat → L2.St → Hp → Prop,(∃ n,W 0 n (cap m σ) (upd H1 D (.lst [])))∧∀ i n σ H,W i n σ H →
    (J.stop i H∧QD D H) ∨ (J.go i H∧∀ x H',J.yld i H x H' → g x σ H' fun σ2 H2 => tif σ2 H2 fun k H3 =>
     if k = true then te σ2 H3 fun y H4 => ∃ zs,H4 D = some (.lst zs)∧zs.length < sizeLine∧∃ n',n' < n∧W (i + 1) n' σ2 (upd H4 D (.lst (zs ++ [y])))
     else ∃ n',n' < n∧W (i + 1) n' σ2 H3))
  (fin : ∀ (D : Addr) (s3 : Shared) (H3 : Hp) (fp : List Addr) (s6 : Shared) (H6 : Hp) (σ6 : L2.St) (r : Flow),Inv X pins σ H3 s3 → (∀ b ∈ fp,RN X pins H3 b) → Inv (qq X N' scope s3 H3 fp) [] σ6 H6 s6 → QD D H6 → compPost (model X.prog X.w) X.A X.xe use Qc (.ref D) s3.heap.objs.size (.ok r) s6) :
  wpAny (model X.prog X.w) X.A (comprehension (.ListComp elt [⟨tg,iter,ifs,0⟩] scope pos) scope X.env cpos (newList []) false (eval iter X.env) use) Qc X.xe s := by
 have sc := EH hsc
 have hcl : ∀ y ∈ scope.names,y.2 = .free → ∃ c,X.env.cells.lookup y.1 = some c := fun y hy e => by
  rcases (sc.free y hy e).2 with z | z
  ·exact I.ok.has y.1 (.inl z)
  ·exact I.ok.has y.1 (.inr z)
 refine wpAny_comprehension_free (g := ⟨tg,iter,ifs,0⟩) (gs := []) rfl hs (Z8 hcl) sc.kind sc.loc ?_
 show wpAny _ _ (eval iter X.env) _ _ s
 refine thn (hi pins s σ H _ I h) fun v s1 h1 => thn h1 fun itv s2 h2 => ?_
 obtain ⟨it,fp,tn,J,H2,rfl,I2,T,st2,f2,hW⟩ := h2
 refine wpAny_newObj_type ?_
 have hD : H2 s2.heap.objs.size = none := I2.fresh
 obtain ⟨W,⟨n0,w0⟩,turn⟩ := hW _ hD
 generalize hDe : s2.heap.objs.size = D at *
 have I3 : Inv X pins σ (upd H2 D (.lst [])) { s2 with heap := s2.heap.push { cls := .type "list",dict := none,data := .seq ([] : List Value).toArray } } := by
  subst hDe
  exact I2.laid (t' := s2.toks) (fun b u e => Heap.get?_push_of_some _ e) (Nat.le_refl _) ⟨Nat.zero_le _,[],0,.nil,Heap.get?_push_size _ rfl⟩
 have ob2 := T.obj 0 _ st2
 have ob3 : ∀ b ∈ fp,∃ o,(s2.heap.push { cls := .type "list",dict := none,data := .seq ([] : List Value).toArray }).get? b = some o := fun b hb => let ⟨o,e,_⟩ := ob2 b hb;⟨o,Heap.get?_push_of_some _ e⟩
 have f3 : ∀ b ∈ fp,RN X pins (upd H2 D (.lst [])) b := fun b hb => by
  obtain ⟨o,e,_⟩ := ob2 b hb
  have : b ≠ D := by rw [← hDe];exact Nat.ne_of_lt (Heap.lt_size e)
  exact ⟨by rw [qV this];exact (f2 b hb).1,(f2 b hb).2⟩
 have k23 : ∀ b o,s2.heap.get? b = some o → (s2.heap.push { cls := .type "list",dict := none,data := .seq ([] : List Value).toArray }).get? b = some o := fun b o e => Heap.get?_push_of_some _ e
 generalize hH3 : upd H2 D (.lst []) = H3 at *
 generalize hs3 : ({ s2 with heap := s2.heap.push { cls := .type "list",dict := none,data := .seq ([] : List Value).toArray } } : Shared) = s3 at *
 have ob3 : ∀ b ∈ fp,∃ o,s3.heap.get? b = some o := by rw [← hs3];exact ob3
 have k23 : ∀ b o,s2.heap.get? b = some o → s3.heap.get? b = some o := by rw [← hs3];exact k23
 refine j0 fun h₁ hns hk hown => ?_
 have I4 : Inv (qq X N' scope s3 H3 fp) [] (cap m σ) H3 { s3 with heap := h₁ } := C2 hc I3 sc hcap f3 ob3 hns hk hown
 have tn4 : tn 0 h₁ := T.keep _ _ _ st2 fun b hb o e => hk b o (k23 b o e)
 have fr4 : ∀ b ∈ fp,H3 b = none := fun b hb => (f3 b hb).1
 have stat : ∀ {H' : Hp},(∀ b ∈ fp,H' b = none) → ∀ b ∈ fp,RN (qq X N' scope s3 H3 fp) [] H' b := fun hn b hb => by
  refine ⟨hn b hb,I4.ok.exf b hb |>.1,I4.ok.exfs b hb,.inl hb,fun x c e => (I4.ok.exf b hb).2 x c e,fun p hp => absurd (show p ∈ ([] : List (Addr × Obj)) from hp) (by simp)⟩
 show codeAny (model X.prog X.w) X.A (.compStart (.ListComp elt [⟨tg,iter,ifs,0⟩] scope pos) 0 (.ref it) (.ref D) (qq X N' scope s3 H3 fp).env) (compPost (model X.prog X.w) X.A X.xe use Qc (.ref D) s3.heap.objs.size) { s3 with heap := h₁ }
 have loop : codeAny (model X.prog X.w) X.A (.compLoop (.ListComp elt [⟨tg,iter,ifs,0⟩] scope pos) 0 (.ref it) (.ref D) (qq X N' scope s3 H3 fp).env) (compPost (model X.prog X.w) X.A X.xe use Qc (.ref D) s3.heap.objs.size) { s3 with heap := h₁ } := by
  refine codeAny_loop rfl (fun n s' => ∃ i σ' H',Inv (qq X N' scope s3 H3 fp) [] σ' H' s'∧tn i s'.heap∧(∀ b ∈ fp,H' b = none)∧W i n σ' H') (fun n s' hI => ?_) n0 ⟨0,cap m σ,H3,I4,tn4,fr4,w0⟩
  show wpAny _ X.A ((compTurn (.ListComp elt [⟨tg,iter,ifs,0⟩] scope pos) 0 (.ref it) (.ref D) (qq X N' scope s3 H3 fp).env).onRaise (fun x => do noteFrame x (qq X N' scope s3 H3 fp).env;theTreesLotGoes x)) _ _ s'
  refine wpAny_noted ?_
  rw [compTurn_list]
  refine wpAny_bind (wpAny_standAt (wpAny_bind ?_))
  obtain ⟨i,σ5,H5,I5,st5,fr5,w5⟩ := hI
  rcases turn i n σ5 H5 w5 with ⟨stop,q⟩ | ⟨go,step⟩
  ·refine thn (T.done (qq X N' scope s3 H3 fp) rfl rfl rfl rfl i [] s' σ5 H5 _ I5 (stat fr5) st5 stop) fun r s6 ⟨hr,I6⟩ => ?_
   subst hr
   refine wpAny_pure ?_
   exact fin D s3 H3 fp s6 H5 σ5 _ I3 f3 I6 q
  ·refine thn (T.item (qq X N' scope s3 H3 fp) rfl rfl rfl rfl i [] s' σ5 H5 _ I5 (stat fr5) st5 go) fun r s6 ⟨u,hr,h6⟩ => ?_
   subst hr
   refine wpAny_bind (thn h6 fun _ s7 ⟨x,H7,I7,r7,y7,st7,fr7⟩ => ?_)
   have I7' := I7.pinned (stat fr7) (T.obj _ _ st7)
   have again : ∀ {σ8 : L2.St} {H8 : Hp} {s8 : Shared},Inv (qq X N' scope s3 H3 fp) ([] ++ EO fp s7.heap) σ8 H8 s8 → (∃ n',n' < n∧W (i + 1) n' σ8 H8) →
     ∃ m',m' < n∧∃ i σ' H',Inv (qq X N' scope s3 H3 fp) [] σ' H' s8∧tn i s8.heap∧(∀ b ∈ fp,H' b = none)∧W i m' σ' H' := fun {σ8 H8 s8} I8 ⟨n',hn,w8⟩ => by
    refine ⟨n',hn,i + 1,σ8,H8,I8.unpinned,T.keep _ _ _ st7 fun b hb o e => (I8.pin (b,o) (List.mem_append_right _ (List.mem_append_right _ (zS hb e)))).1,fun b hb => ?_,w8⟩
    obtain ⟨o,e,d⟩ := T.obj _ _ st7 b hb
    exact (I8.pin (b,o) (List.mem_append_right _ (List.mem_append_right _ (zS hb e)))).2.1
   refine wpAny_bind (wpAny_mono (hg s3 H3 fp _ s7 σ5 H7 x u _ I7' r7 (step x H7 y7)) (fun _ s8 ⟨σ8,H8,I8,q8⟩ => ?_) fun _ _ z => z.elim)
   refine wpAny_bind (wpAny_mono (hf s3 H3 fp _ s8 σ8 H8 _ I8 q8) (fun k s9 ⟨H9,I9,q9⟩ => ?_) fun _ _ z => z.elim)
   cases k with
   | false =>
    rw [if_neg Bool.false_ne_true] at q9
    exact wpAny_pure ⟨rfl,again I9 q9⟩
   | true =>
    rw [if_pos rfl] at q9
    refine wpAny_bind (wpAny_bind (wpAny_mono (he s3 H3 fp _ s9 σ8 H9 _ I9 q9) (fun w s10 ⟨y,H10,I10,r10,q10⟩ => ?_) fun _ _ z => z.elim))
    obtain ⟨zs,hz,hl,q10⟩ := q10
    refine wpAny_bind (wpAny_mono (V7 (X := qq X N' scope s3 H3 fp) _ s10 σ8 H10 (.ref D) [y] (.ref D) [w] (fun _ H11 => H11 = upd H10 D (.lst (zs ++ [y]))) I10 rfl (.cons r10 .nil) ⟨D,zs,y,rfl,rfl,hz,hl,rfl⟩) (fun _ s11 ⟨_,H11,I11,_,e11⟩ => ?_) fun _ _ z => z.elim)
    subst e11
    exact wpAny_pure (wpAny_pure ⟨rfl,again I11 q10⟩)
 exact codeAny_compStart_list loop (T.self X.A 0 _ _ _ tn4 loop)
theorem qaz {i : Nat} {y : Str} {py spos : Pos} {elt tg iter : Expr} {ifs : List Expr} {scope : Scope} {pos : Pos} {N' : List Str} {m : List (Option Nat)} {wi : TI} {g : TG} {tif : TT} {te : TE} (hc : X.calm = true) (hN : X.N.Nodup) (hi : PI X tg iter wi)
  (hg : ∀ s H fp,PG (qq X N' scope s H fp) tg g) (hf : ∀ s H fp,PF (qq X N' scope s H fp) ifs tif) (he : ∀ s H fp,PE (qq X N' scope s H fp) elt te)
  (hsc : MD X.env.scope scope = true) (hcap : Y9 X.N N' scope m = true) (hs : ∀ x,foldedSetIterable iter X.env x = pure x) (hiy : X.N[i]? = some y) (hl : X.env.scope.names.lookup y = some .local)
  (hsw : swapsWith (.ListComp elt [⟨tg,iter,ifs,0⟩] scope pos) (some (.Name y py)) spos.line X.env = pure true) :
  PS X (.Assign [.Name y py] (.ListComp elt [⟨tg,iter,ifs,0⟩] scope pos) spos) (qhy (tLC wi g tif te m) (qdm i)) := by
 intro pins s σ H D I h
 rw [exec_Assign_Name_used _ _ _ _ hsw]
 refine wpAny_bind (wpAny_standAt (wpAny_bind ?_))
 show wpAny _ X.A (do let _ ← comprehension (.ListComp elt [⟨tg,iter,ifs,0⟩] scope pos) scope X.env _ (newList []) false (eval iter X.env) (some (assign (.Name y py) X.env))) _ _ s
 refine wpAny_bind (wpAny_mono (qdi (use := some (assign (.Name y py) X.env)) (QD := fun D' H' => D.nx (σ.set i (some (.ref D'))) H') (Qc := fun _ s' => ∃ σ' H',Inv X pins σ' H' s'∧D.nx σ' H') hc hi hg hf he hsc hcap hs I h fun D' s3 H3 fp s6 H6 σ6 r I3 f3 I6 q => ?_) (fun _ s' hq => wpAny_pure (wpAny_pure hq)) fun _ _ e => e)
 have I7 : Inv X pins σ H6 s6 := ED (h2 := s6.heap) I3 f3 I6 ⟨rfl,fun _ _ => rfl⟩
 obtain ⟨mm,hn6,_⟩ := I6.loc
 have hfC : RN X pins H6 s3.heap.objs.size := I3.fpOk (Nat.le_refl _) I6.free
 obtain ⟨f0,f1,f2,f3',f4,f5⟩ := hfC
 show wpAny _ X.A (assign (.Name y py) X.env (.ref D')) _ _ _
 refine wpAny_assign_Name (R6 I7 hN hiy (.inl hl) (v := .ref D') rfl (fun s8 I8 hch => ?_) (.inr hl))
 obtain ⟨a,sb,ha⟩ := hch
 have hne : s3.heap.objs.size ≠ a := by
  rcases ha with rfl | ha
  ·exact f1
  ·exact Ne.symm (f4 _ _ ha)
 refine ⟨mm,hn6.sameBut sb hne,fun h' sb' => ⟨_,_,I8.turned (t' := s8.toks) (fun b o hb e => (sb'.2 b hb).trans e) f0 f1 f3' f4 f5,q⟩⟩
end
theorem qhL {K : PySem.W.Frag} {m : List (Option Nat)} {wi : TI3} {g : TG3} {tif : TT3} {te : TE3} {σ : L2.St} {H : Hp} {Q : VK} (hh : lE K (lc3 wi g tif te m) σ H Q) : tLC (lI K wi) (lG K g) (lT K tif) (lE K te) m σ H Q := by
  obtain ⟨τ,G,q,rl,h,af⟩ := hh
  refine ⟨τ,G,_,rl,h,fun items stay G1 h1 J H1 hr1 k1 ok D hD => ?_⟩
  have gD : G1 D = none := hr1.free hD
  refine ⟨fun i n σ' H' => n = items.length - i∧i ≤ items.length∧∃ τ' G' ys vs,Rel K τ' G' σ' H'∧Kp G1 H1 G' H'∧H' D = some (.lst vs)∧Rps K H' ys vs∧G' D = none∧VP stay g tif te q (items.drop i) ys τ' G',
   ⟨_,rfl,Nat.zero_le _,cap m τ,G1,[],[],((rl.next hr1 k1).cap m).next (hr1.laid hD) (Kp.laid hD),Kp.laid hD,zw,.nil,gD,by simpa using h1⟩,?_⟩
  rintro i n σ' H' ⟨rfl,hi,τ',G',ys,vs,rl',k',hDl,rys,gD',h'⟩
  by_cases hlt : i < items.length
  ·rw [List.drop_eq_getElem_cons hlt] at h'
   obtain ⟨hst,h'⟩ := h'
   obtain ⟨go,yld,_⟩ := ok G' H' rl'.hp k' hst
   have hx : items[i]? = some items[i] := List.getElem?_eq_getElem hlt
   refine .inr ⟨go i _ hx,fun v H2 y => ?_⟩
   obtain ⟨rv,hr2,k2⟩ := yld i _ v H2 hx y
   have nxt : ∀ {τ4 : St3} {G4 : Gp} {σ4 : L2.St} {H4 : Hp} {ys4 : List T} {vs4 : List V},Rel K τ4 G4 σ4 H4 → Kp G1 H1 G4 H4 → H4 D = some (.lst vs4) → Rps K H4 ys4 vs4 → G4 D = none → VP stay g tif te q (items.drop (i + 1)) ys4 τ4 G4 →
     ∃ n',n' < items.length - i∧(n' = items.length - (i + 1)∧i + 1 ≤ items.length∧∃ τ' G' ys vs,Rel K τ' G' σ4 H4∧Kp G1 H1 G' H4∧H4 D = some (.lst vs)∧Rps K H4 ys vs∧G' D = none∧VP stay g tif te q (items.drop (i + 1)) ys τ' G') :=
    fun {τ4 G4 σ4 H4 ys4 vs4} a b c d e f => ⟨_,by omega,rfl,hlt,τ4,G4,ys4,vs4,a,b,c,d,e,f⟩
   refine ⟨_,τ',G',_,rv,rl'.next hr2 k2,h',fun τ3 G3 h3 σ3 H3 rl3 k3 => ⟨τ3,G3,_,rl3,h3,fun k G4 h4 H4 hr4 k4 => ?_⟩⟩
   have kk := (k2.trans k3).trans k4
   obtain ⟨hD4,gD4⟩ := kk D _ hDl gD'
   have rys4 := rys.keep rl'.hp kk
   cases k with
   | false =>
    rw [if_neg Bool.false_ne_true] at h4
    refine qg4 ?_
    exact nxt (rl3.next hr4 k4) (k'.trans kk) hD4 rys4 gD4 h4
   | true =>
    rw [if_pos rfl] at h4
    refine qgY ?_
    refine ⟨τ3,G4,_,rl3.next hr4 k4,h4,fun z G5 h5 w H5 rw5 hr5 k5 => ?_⟩
    obtain ⟨hD5,gD5⟩ := k5 D _ hD4 gD4
    have rys5 := rys4.keep hr4 k5
    exact ⟨vs,hD5,by rw [← rys.length];exact h5.1,nxt (((rl3.next hr4 k4).next hr5 k5).wrD hD5 gD5) (((k'.trans kk).trans k5).wrD hD) zw ((rys5.append (.cons rw5 .nil)).wrD hD5) gD5 h5.2⟩
  ·have e : i = items.length := by omega
   subst e
   rw [List.drop_length] at h'
   obtain ⟨_,_,stop⟩ := ok G' H' rl'.hp k' h'.1
   refine .inl ⟨stop,af _ _ (h'.2 D gD') _ H' (.ref D) (fun a o e => ?_) fun a o e ga => ?_⟩
   ·by_cases ha : a = D
    ·subst ha
     rw [qo] at e;cases e
     exact ⟨vs,hDl,rys⟩
    ·rw [jK ha] at e
     exact rl'.hp a o e
   ·obtain ⟨e1,g1⟩ := k1 a o e ga
    obtain ⟨e2,g2⟩ := k' a o e1 g1
    exact ⟨e2,by rw [jK (qJ e1 hD)];exact g2⟩
theorem qcr {X : Cx} {py spos : Pos} {elt tg iter : Expr} {ifs : List Expr} {scope : Scope} {pos : Pos} {y : Str} (i : Nat) (N' : List Str) (m : List (Option Nat)) {wi : TI3} {g : TG3} {tif : TT3} {te : TE3} (hc : X.calm = true) (hN : X.N.Nodup) (hi : I3 X tg iter wi)
  (hg : ∀ s H fp,G3 (qq X N' scope s H fp) tg g) (hf : ∀ s H fp,F3 (qq X N' scope s H fp) ifs tif) (he : ∀ s H fp,E3 (qq X N' scope s H fp) elt te)
  (hsc : MD X.env.scope scope = true) (hcap : Y9 X.N N' scope m = true) (hl : X.env.scope.names.lookup y = some .local) (hsw : swapsWith (.ListComp elt [⟨tg,iter,ifs,0⟩] scope pos) (some (.Name y py)) spos.line X.env = pure true) (hiy : X.N[i]? = some y := by rfl) (hs : ∀ x,foldedSetIterable iter X.env x = pure x := by intro _;rfl) :
  S3 X (.Assign [.Name y py] (.ListComp elt [⟨tg,iter,ifs,0⟩] scope pos) spos) (qD (lc3 wi g tif te m) (gn3 i)) :=
 qag (qaz (g := lG X.K g) (tif := lT X.K tif) (te := lE X.K te) hc hN hi hg hf he hsc hcap hs hiy hl hsw) fun _ σ H ⟨τ,G,d,rl,h,af⟩ =>
  qhL ⟨τ,G,_,rl,h,fun x G1 h1 v H1 rx hr1 k1 => af.nx _ G1 h1 _ H1 ((rl.next hr1 k1).set i rx) k1⟩
end L3
set_option autoImplicit true
namespace L3
open PySem PySem.Spec PyProof.Rows L2
structure jE3 (X : Cx) (e : Expr) (t : TE3) : Prop where h : E3 X e t
structure jC3 (X : Cx) (e : Expr) (t : TT3) : Prop where h : C3 X e t
structure jW3 (X : Cx) (e : Expr) (t : TT3) : Prop where h : W3 X e t
structure jA3 (X : Cx) (e : List Expr) (t : TA3) : Prop where h : A3 X e t
structure jP3 (X : Cx) (e : Option Expr) (t : TO3) : Prop where h : P3 X e t
structure jS3 (X : Cx) (e : Stmt) (t : TS3) : Prop where h : S3 X e t
structure jB3 (X : Cx) (e : List Stmt) (t : TS3) : Prop where h : B3 X e t
structure jG3 (X : Cx) (e : Expr) (t : TG3) : Prop where h : G3 X e t
structure jGs3 (X : Cx) (e : List Expr) (t : N5) : Prop where h : Gs3 X e t
structure jI3 (X : Cx) (tg e : Expr) (t : TI3) : Prop where h : I3 X tg e t
structure jF3 (X : Cx) (e : List Expr) (t : TT3) : Prop where h : F3 X e t
theorem qc {X : Cx} (i : Nat) {x : Str} {pos : Pos} (hN : X.N[i]? = some x := by rfl) (hv : Vis X.env.scope x := by first | exact Or.inl rfl | exact Or.inr (Or.inl rfl) | exact Or.inr (Or.inr rfl)) (hd : (x == ("__debug__" : Str)) = false := by decide)
  (hcd : (x == ("__classdict__" : Str)) = false := by decide) : jE3 X (.Name x pos) (v3 i) :=
 ⟨qhf (i := i) (hN := hN) (hv := hv) (hd := hd) (hcd := hcd)⟩
theorem qd {X : Cx} {i : Int} {j pos} : jE3 X (.Constant (.int i) j pos) (c3 (.int i)) :=
 ⟨qhK ⟩
theorem qae {X : Cx} {b : Bool} {j pos} : jE3 X (.Constant (.bool b) j pos) (c3 (.bl b)) :=
 ⟨qjf ⟩
theorem W0 {X : Cx} {j pos} : jE3 X (.Constant .none j pos) (c3 .non) :=
 ⟨qie ⟩
theorem qM {X : Cx} {x : Str} {j pos} : jE3 X (.Constant (.str x) j pos) (c3 (.str x)) :=
 ⟨qhq ⟩
theorem j3 {ta : TE3} {tb : TE3} {pos : Pos} {a : Expr} {b : Expr} {X : Cx} {op : CmpOp} {r3 : R3} {r : R2} (ho : OpR X (compareOp op) r) (hr : WN X.K r3 r) (ha : jE3 X a ta) (hb : jE3 X b tb) (hm : behindInMarks op b = false) : jE3 X (.Compare a [op] [b] pos) (o3 r3 ta tb) :=
 ⟨qiA (ho := ho) (hr := hr) (ha := ha.h) (hb := hb.h) (hm := hm)⟩
theorem qS {ta : TE3} {tb : TE3} {pos : Pos} {a : Expr} {b : Expr} {X : Cx} {op : CmpOp} {r3 : R3} {r : R2} (ho : OpR X (compareOp op) r) (hr : WN X.K r3 r) (ha : jE3 X a ta) (hb : jE3 X b tb) (hm : behindInMarks op b = false) : jC3 X (.Compare a [op] [b] pos) (tb3 (o3 r3 ta tb)) :=
 ⟨qiu (ho := ho) (hr := hr) (ha := ha.h) (hb := hb.h) (hm := hm)⟩
theorem KQ {ta : TE3} {tb : TE3} {tc : TE3} {pos : Pos} {a : Expr} {b : Expr} {c : Expr} {X : Cx} {op op' : CmpOp} {r3 r3' : R3} {r r' : R2} (ho : OpR X (compareOp op) r) (hr : WN X.K r3 r) (ho' : OpR X (compareOp op') r') (hr' : WN X.K r3' r') (ha : jE3 X a ta) (hb : jE3 X b tb) (hc : jE3 X c tc)
  (hm : lastMarks [op,op'] [b,c] = false := by with_unfolding_all rfl) : jE3 X (.Compare a [op,op'] [b,c] pos) (ch3 r3 r3' ta tb tc) :=
 ⟨qdn (ho := ho) (hr := hr) (ho' := ho') (hr' := hr') (ha := ha.h) (hb := hb.h) (hc := hc.h) (hm := hm)⟩
theorem EY {ta : TE3} {tb : TE3} {pos : Pos} {a : Expr} {b : Expr} {X : Cx} (ha : jE3 X a ta) (hb : jE3 X b tb) : jE3 X (.BinOp a .Sub b pos) (o3 (iI (· - ·)) ta tb) :=
 ⟨qhU (ha := ha.h) (hb := hb.h)⟩
theorem zu {ta : TE3} {tb : TE3} {pos : Pos} {a : Expr} {b : Expr} {X : Cx} (ha : jE3 X a ta) (hb : jE3 X b tb) : jE3 X (.BinOp a .Mult b pos) (o3 (iC ZB (· * ·)) ta tb) :=
 ⟨qhl (ha := ha.h) (hb := hb.h)⟩
theorem jU {ta : TE3} {tb : TE3} {pos : Pos} {a : Expr} {b : Expr} {X : Cx} (ha : jE3 X a ta) (hb : jE3 X b tb) : jE3 X (.BinOp a .Mod b pos) (o3 (iC (fun _ j => 0 < j) (· % ·)) ta tb) :=
 ⟨qg9 (ha := ha.h) (hb := hb.h)⟩
theorem YQ {ta : TE3} {tb : TE3} {pos : Pos} {a : Expr} {b : Expr} {X : Cx} (ha : jE3 X a ta) (hb : jE3 X b tb) : jE3 X (.BinOp a .FloorDiv b pos) (o3 (iC L9 (· / ·)) ta tb) :=
 ⟨qhS (ha := ha.h) (hb := hb.h)⟩
theorem qgg {ta : TE3} {tb : TE3} {pos : Pos} {a : Expr} {b : Expr} {X : Cx} (ha : jE3 X a ta) (hb : jE3 X b tb) : jE3 X (.BinOp a .Pow b pos) (o3 (iC LS (fun i j => i ^ j.toNat)) ta tb) :=
 ⟨qhQ (ha := ha.h) (hb := hb.h)⟩
theorem X6 {ta : TE3} {tb : TE3} {pos : Pos} {a : Expr} {b : Expr} {X : Cx} (ha : jE3 X a ta) (hb : jE3 X b tb) : jE3 X (.BinOp a .BitAnd b pos) (o3 (iI Builtin.bitAnd) ta tb) :=
 ⟨qdN (ha := ha.h) (hb := hb.h)⟩
theorem KI {ta : TE3} {tb : TE3} {pos : Pos} {a : Expr} {b : Expr} {X : Cx} (ha : jE3 X a ta) (hb : jE3 X b tb) : jE3 X (.BinOp a .LShift b pos) (o3 (iC LS (fun i j => i * 2 ^ j.toNat)) ta tb) :=
 ⟨qhd (ha := ha.h) (hb := hb.h)⟩
theorem qgz {ta : TE3} {tb : TE3} {pos : Pos} {a : Expr} {b : Expr} {X : Cx} (ha : jE3 X a ta) (hb : jE3 X b tb) : jE3 X (.BinOp a .RShift b pos) (o3 (iC (fun _ j => 0 ≤ j) (fun i j => i / 2 ^ j.toNat)) ta tb) :=
 ⟨qh9 (ha := ha.h) (hb := hb.h)⟩
theorem YN {ta : TE3} {pos : Pos} {a : Expr} {X : Cx} (ha : jE3 X a ta) : jE3 X (.UnaryOp .USub a pos) (u3 zD ta) :=
 ⟨qih (ha := ha.h)⟩
theorem NL {tA : TT3} {pos : Pos} {a : Expr} {X : Cx} (ha : jC3 X a tA) : jW3 X (.BoolOp .Or [a] pos) tA :=
 ⟨qhT (ha := ha.h)⟩
theorem qdw {VJ : List Expr} {tA : TT3} {tB : TT3} {pos : Pos} {a : Expr} {X : Cx} (ha : jC3 X a tA) (hb : jW3 X (.BoolOp .Or (b :: VJ) pos) tB) : jW3 X (.BoolOp .Or (a :: b :: VJ) pos) (or3 tA tB) :=
 ⟨qjh (ha := ha.h) (hb := hb.h)⟩
theorem MQ {tA : TT3} {pos : Pos} {a : Expr} {X : Cx} (ha : jC3 X a tA) : jC3 X (.UnaryOp .Not a pos) (jg tA) :=
 ⟨qhR (ha := ha.h)⟩
theorem DX {X : Cx} {e : Expr} {t : TE3} (h : jE3 X e t) (he : ∀ whole,isTrue e X.env whole = (do let v ← whole;standAt e.pos;holding [v] (truthy v)) := by intro _;rfl) : jC3 X e (tb3 t) :=
 ⟨qhW (h := h.h) (he := he)⟩
theorem VN {ta : TE3} {pos : Pos} {a : Expr} {X : Cx} {op} (h : jE3 X a ta) : jE3 X (.BoolOp op [a] pos) ta :=
 ⟨qiv (h := h.h)⟩
theorem ZJ {VJ : List Expr} {ta : TE3} {tb : TE3} {pos : Pos} {a : Expr} {X : Cx} (ha : jE3 X a ta) (hb : jE3 X (.BoolOp .And (b :: VJ) pos) tb) : jE3 X (.BoolOp .And (a :: b :: VJ) pos) (qH ta tb) :=
 ⟨qiq (ha := ha.h) (hb := hb.h)⟩
theorem qbd {ta : TE3} {pos : Pos} {a : Expr} {X : Cx} (ha : jE3 X a ta) : jE3 X (.UnaryOp .Not a pos) (qZ ta) :=
 ⟨qic (ha := ha.h)⟩
theorem qeA {tA : TT3} {ta : TE3} {tb : TE3} {pos : Pos} {a : Expr} {b : Expr} {X : Cx} {c : Expr} (hc : jC3 X c tA) (ha : jE3 X a ta) (hb : jE3 X b tb) : jE3 X (.IfExp c a b pos) (if3 tA ta tb) :=
 ⟨qi2 (hc := hc.h) (ha := ha.h) (hb := hb.h)⟩
theorem qe {X : Cx}  : jA3 X [] qg :=
 ⟨qit ⟩
theorem qa {te : TE3} {t : TA3} {es : List Expr} {X : Cx} (ha : jE3 X e te) (hr : jA3 X es t) (hs : starEach (e :: es) X.env = (false,eval e X.env) :: starEach es X.env := by rfl) : jA3 X (e :: es) (qb te t) :=
 ⟨qgU (ha := ha.h) (hr := hr.h) (hs := hs)⟩
theorem qE {t : TA3} {pos : Pos} {es : List Expr} {X : Cx} {x1} (h : jA3 X es t) : jE3 X (.Tuple es x1 pos) (qK t) :=
 ⟨qh7 (h := h.h)⟩
theorem jf {t : TA3} {pos : Pos} {es : List Expr} {X : Cx} (h : jA3 X es t) : jE3 X (.List es pos) (zk t) :=
 ⟨qhZ (h := h.h)⟩
theorem qL {t : TA3} {pos : Pos} {es : List Expr} {X : Cx} {x : Str} {p : Pos} {id : String} {r3 : List T → Gp → Q3 → Prop} {r : List V → Hp → VK → Prop} (hc : ZI X (.builtin id) r) (hr : SJ X.K r3 r) (hg : Gl X x) (hm : X.mg x = none) (hv : bootBuiltins x = some (.builtin id)) (ha : jA3 X (e :: es) t) (hn : x ≠ "__name__" := by decide) (hdb : (x == ("__debug__" : Str)) = false := by decide)
  (he : starEach (e :: es) X.env = (false,eval e X.env) :: starEach es X.env := by rfl) (hpl : (backTo pos (starEach es X.env)).any (·.1) = false := by rfl) : jE3 X (.Call (.Name x p) (e :: es) [] pos) (cb3 r3 t) :=
 ⟨qcJ (hc := hc) (hr := hr) (hg := hg) (hm := hm) (hv := hv) (ha := ha.h) (hn := hn) (hdb := hdb) (he := he) (hpl := hpl)⟩
theorem zo {t : TA3} {pos : Pos} {es : List Expr} {X : Cx} {x : Str} {p : Pos} {ty : String} {r3 : List T → Gp → Q3 → Prop} {r : List V → Hp → VK → Prop} (hc : ZI X (.type ty) r) (hr : SJ X.K r3 r) (hg : Gl X x) (hm : X.mg x = none) (hv : bootBuiltins x = some (.type ty)) (ha : jA3 X (e :: es) t) (hn : x ≠ "__name__" := by decide) (hdb : (x == ("__debug__" : Str)) = false := by decide)
  (he : starEach (e :: es) X.env = (false,eval e X.env) :: starEach es X.env := by rfl) (hpl : (backTo pos (starEach es X.env)).any (·.1) = false := by rfl) : jE3 X (.Call (.Name x p) (e :: es) [] pos) (cb3 r3 t) :=
 ⟨qaC (hc := hc) (hr := hr) (hg := hg) (hm := hm) (hv := hv) (ha := ha.h) (hn := hn) (hdb := hdb) (he := he) (hpl := hpl)⟩
theorem qu {ta : TE3} {tb : TE3} {pos : Pos} {a : Expr} {b : Expr} {X : Cx} (ha : jE3 X a ta) (hb : jE3 X b tb) (hs : EF b := by intro _ _;rfl) : jE3 X (.Subscript a b pos) (o3 ix3 ta tb) :=
 ⟨qi3 (ha := ha.h) (hb := hb.h) (hs := hs)⟩
theorem CK {te : TE3} {e : Expr} {X : Cx} (h : jE3 X e te) : jP3 X (some e) (sp3 te) :=
 ⟨qgj (h := h.h)⟩
theorem KZ {te : TE3} {pos : Pos} {e : Expr} {X : Cx} {lo hi : Option Expr} {tl th : TO3} {p2 : Pos} (he : jE3 X e te) (hl : jP3 X lo tl) (hu : jP3 X hi th) : jE3 X (.Subscript e (.Slice lo hi none p2) pos) (ja te tl th) :=
 ⟨qcV (he := he.h) (hl := hl.h) (hu := hu.h)⟩
theorem qF {ta : TE3} {tb : TE3} {pos : Pos} {a : Expr} {b : Expr} {X : Cx} (ha : jE3 X a ta) (hb : jE3 X b tb) : jE3 X (.BinOp a .Add b pos) (o3 qU ta tb) :=
 ⟨qeV (ha := ha.h) (hb := hb.h)⟩
theorem DW {t : TA3} {e : Expr} {X : Cx} {o : Expr} {to : TE3} {apos cpos : Pos} (ho : jE3 X o to) (ha : jA3 X [e] t)
  (hbase : attributeBase o "append" X.env (eval o X.env) = eval o X.env := by rfl)
  (hfew : ((backTo cpos (starEach [e] X.env)).all (fun x => !x.1) && (backToKw cpos (keywordEach [] X.env)).all (fun x => x.1.isSome)
   && decide (([e] : List Expr).length + ([] : List Keyword).length + (if ([] : List Keyword).isEmpty then 0 else 1) < 30)) = true := by rfl)
  (hline : (apos.endLine == cpos.line) = true := by rfl) (hs : starEach [e] X.env = (false,eval e X.env) :: starEach [] X.env := by rfl) (hplain : (backTo cpos (starEach [] X.env)).any (·.1) = false := by rfl) : jE3 X (.Call (.Attribute o "append" apos) [e] [] cpos) (bm3 z9 to t) :=
 ⟨qau (ho := ho.h) (ha := ha.h) (hbase := hbase) (hfew := hfew) (hline := hline) (hs := hs) (hplain := hplain)⟩
theorem RV {t : TA3} {e : Expr} {X : Cx} {o : Expr} {to : TE3} {apos cpos : Pos} (ho : jE3 X o to) (ha : jA3 X [e] t)
  (hbase : attributeBase o "extend" X.env (eval o X.env) = eval o X.env := by rfl)
  (hfew : ((backTo cpos (starEach [e] X.env)).all (fun x => !x.1) && (backToKw cpos (keywordEach [] X.env)).all (fun x => x.1.isSome)
   && decide (([e] : List Expr).length + ([] : List Keyword).length + (if ([] : List Keyword).isEmpty then 0 else 1) < 30)) = true := by rfl)
  (hline : (apos.endLine == cpos.line) = true := by rfl) (hs : starEach [e] X.env = (false,eval e X.env) :: starEach [] X.env := by rfl) (hplain : (backTo cpos (starEach [] X.env)).any (·.1) = false := by rfl) : jE3 X (.Call (.Attribute o "extend" apos) [e] [] cpos) (bm3 jc to t) :=
 ⟨qam (ho := ho.h) (ha := ha.h) (hbase := hbase) (hfew := hfew) (hline := hline) (hs := hs) (hplain := hplain)⟩
theorem JW {te : TE3} {pos : Pos} {e : Expr} {X : Cx} {tn : Str} {ty : String} {p p2 : Pos} (he : jE3 X e te) (hg : Gl X "isinstance") (hm : X.mg "isinstance" = none) (hg2 : Gl X tn) (hm2 : X.mg tn = none) (hv : bootBuiltins tn = some (.type ty)) (hmem : ty ∈ QL := by decide) (hn : tn ≠ "__name__" := by decide) (hdb : (tn == ("__debug__" : Str)) = false := by decide)
  (hs : starEach [e,.Name tn p2] X.env = (false,eval e X.env) :: starEach [.Name tn p2] X.env := by rfl) (hs2 : starEach [.Name tn p2] X.env = (false,eval (.Name tn p2) X.env) :: starEach [] X.env := by rfl) (hpl : (backTo pos (starEach [.Name tn p2] X.env)).any (·.1) = false := by rfl) : jE3 X (.Call (.Name "isinstance" p) [e,.Name tn p2] [] pos) (zL (fun t => zq t ty) te) :=
 ⟨qhA (he := he.h) (hg := hg) (hm := hm) (hg2 := hg2) (hm2 := hm2) (hv := hv) (hmem := hmem) (hn := hn) (hdb := hdb) (hs := hs) (hs2 := hs2) (hpl := hpl)⟩
theorem NJ {te : TE3} {pos : Pos} {e : Expr} {X : Cx} {tn tn' : Str} {ty ty' : String} {p p2 p3 p4 : Pos} {x1} (he : jE3 X e te) (hg : Gl X "isinstance") (hm : X.mg "isinstance" = none) (hg2 : Gl X tn) (hm2 : X.mg tn = none) (hv : bootBuiltins tn = some (.type ty)) (hg3 : Gl X tn') (hm3 : X.mg tn' = none) (hv3 : bootBuiltins tn' = some (.type ty'))
  (hmem : ty ∈ QL := by decide) (hn : tn ≠ "__name__" := by decide) (hdb : (tn == ("__debug__" : Str)) = false := by decide) (hmem3 : ty' ∈ QL := by decide) (hn3 : tn' ≠ "__name__" := by decide) (hdb3 : (tn' == ("__debug__" : Str)) = false := by decide)
  (hs : starEach [e,.Tuple [.Name tn p2,.Name tn' p3] x1 p4] X.env = (false,eval e X.env) :: starEach [.Tuple [.Name tn p2,.Name tn' p3] x1 p4] X.env := by rfl) (hs2 : starEach [.Tuple [.Name tn p2,.Name tn' p3] x1 p4] X.env = (false,eval (.Tuple [.Name tn p2,.Name tn' p3] x1 p4) X.env) :: starEach [] X.env := by rfl)
  (hs3 : starEach [.Name tn p2,.Name tn' p3] X.env = (false,eval (.Name tn p2) X.env) :: starEach [.Name tn' p3] X.env := by rfl) (hs4 : starEach [.Name tn' p3] X.env = (false,eval (.Name tn' p3) X.env) :: starEach [] X.env := by rfl)
  (hpl : (backTo pos (starEach [.Tuple [.Name tn p2,.Name tn' p3] x1 p4] X.env)).any (·.1) = false := by rfl) : jE3 X (.Call (.Name "isinstance" p) [e,.Tuple [.Name tn p2,.Name tn' p3] x1 p4] [] pos) (zL (fun t => zq t ty || zq t ty') te) :=
 ⟨qf4 (he := he.h) (hg := hg) (hm := hm) (hg2 := hg2) (hm2 := hm2) (hv := hv) (hg3 := hg3) (hm3 := hm3) (hv3 := hv3) (hmem := hmem) (hn := hn) (hdb := hdb) (hmem3 := hmem3) (hn3 := hn3) (hdb3 := hdb3) (hs := hs) (hs2 := hs2) (hs3 := hs3) (hs4 := hs4) (hpl := hpl)⟩
theorem qX {X : Cx}  : jB3 X [] qm :=
 ⟨qiw ⟩
theorem qf {VJ : List Stmt} {st : Stmt} {t1 : TS3} {t2 : TS3} {X : Cx} (h1 : jS3 X st t1) (h2 : jB3 X VJ t2) : jB3 X (st :: VJ) (qv t1 t2) :=
 ⟨qf1 (h1 := h1.h) (h2 := h2.h)⟩
theorem ql {st : Stmt} {t1 : TS3} {X : Cx} (h1 : jS3 X st t1) : jB3 X [st] t1 :=
 ⟨qh1 (h1 := h1.h)⟩
theorem WG {te : TE3} {pos : Pos} {e : Expr} {X : Cx} (he : jE3 X e te) (hs : swapsWith e none pos.line X.env = pure false := by rfl) : jS3 X (.Expr e pos) (qQ te) :=
 ⟨qeH (he := he.h) (hs := hs)⟩
theorem qr {te : TE3} {pos : Pos} {e : Expr} {X : Cx} (he : jE3 X e te) : jS3 X (.Return (some e) pos) (qz te) :=
 ⟨qis (he := he.h)⟩
theorem zx {tA : TT3} {t1 : TS3} {t2 : TS3} {pos : Pos} {X : Cx} {c : Expr} {ba bb : List Stmt} (hc : jC3 X c tA) (ha : jB3 X ba t1) (hb : jB3 X bb t2) : jS3 X (.If c ba bb pos) (qN tA t1 t2) :=
 ⟨qi1 (hc := hc.h) (ha := ha.h) (hb := hb.h)⟩
theorem qaG {X : Cx} {sts : List Stmt} : jB3 X sts jr :=
 ⟨qcC ⟩
theorem qt {pos : Pos} {X : Cx} {i : Nat} {x : Str} (hN : X.N.Nodup) (hi : X.N[i]? = some x := by rfl) (hx : Loc X.env.scope x := by first | exact Or.inl rfl | exact Or.inr rfl) (hf : X.fn x = true ∨ X.env.scope.names.lookup x = some .local := by first | exact .inl rfl | exact .inr rfl) : jG3 X (.Name x pos) (gn3 i) :=
 ⟨qdT (hN := hN) (hi := hi) (hx := hx) (hf := hf)⟩
theorem zJ {X : Cx}  : jGs3 X [] qw :=
 ⟨qhr ⟩
theorem qp {es : List Expr} {X : Cx} {tg : TG3} {tgs : N5} (h1 : jG3 X e tg) (h2 : jGs3 X es tgs) (hs : (assignEach (e :: es) X.env).map (·.2) = assign e X.env :: (assignEach es X.env).map (·.2) := by rfl) : jGs3 X (e :: es) (qj tg tgs) :=
 ⟨qgH (h1 := h1.h) (h2 := h2.h) (hs := hs)⟩
theorem zG {pos : Pos} {es : List Expr} {X : Cx} {k : Nat} {tgs : N5} {n : Nat} (hc : X.calm = true) (h : jGs3 X es tgs) (hn : (assignEach es X.env).length = n := by rfl) (hst : (assignEach es X.env).findIdx? (·.1) = none := by rfl) : jG3 X (.Tuple es k pos) (qx n tgs) :=
 ⟨qh4 (hc := hc) (h := h.h) (hn := hn) (hst := hst)⟩
theorem qbw {pos : Pos} {X : Cx} {o i : Expr} {to ti : TE3} (ho : jE3 X o to) (hi : jE3 X i ti) (ha : ∀ v,assign (.Subscript o i pos) X.env v = (do
      let ov ← holding [v] (eval o X.env)
      let iv ← holding [v,ov] (eval i X.env)
      standAt pos
      holding [v,ov,iv] (setItem ov iv v)
      release [v,ov,iv] []) := by intro _;rfl) : jG3 X (.Subscript o i pos) (qT to ti) :=
  ⟨qhP (ho := ho.h) (hi := hi.h) (ha := ha)⟩
theorem jA {te : TE3} {pos : Pos} {X : Cx} {tg e : Expr} {g : TG3} (he : jE3 X e te) (hg : jG3 X tg g) (hs : swapsWithSole [tg] e pos.line X.env = pure false := by rfl) (hw : swappedStores [tg] e X.env = pure none := by rfl)
  (h1 : (assignEach [tg] X.env).map (·.2) = [assign tg X.env] := by rfl) : jS3 X (.Assign [tg] e pos) (qD te g) :=
 ⟨qhE (he := he.h) (hg := hg.h) (hs := hs) (hw := hw) (h1 := h1)⟩
theorem zb {te : TE3} {pos : Pos} {X : Cx} (i : Nat) {x : Str} {e : Expr} {pos' : Pos} (hN : X.N.Nodup) (he : jE3 X e te) (hi : X.N[i]? = some x := by rfl) (hx : Loc X.env.scope x := by first | exact Or.inl rfl | exact Or.inr rfl) (hs : swapsWith e (some (.Name x pos')) pos.line X.env = pure false := by rfl) (hf : X.fn x = true ∨ X.env.scope.names.lookup x = some .local := by first | exact .inl rfl | exact .inr rfl) : jS3 X (.Assign [.Name x pos'] e pos) (qD te (gn3 i)) :=
 ⟨qhO (i := i) (hN := hN) (he := he.h) (hi := hi) (hx := hx) (hs := hs) (hf := hf)⟩
theorem V1 {pos : Pos} {X : Cx} {i j : Nat} {x y : Str} {a b : Expr} {tt : TA3} {px py pt : Pos} {kt k2 pt2} (hc : X.calm = true) (hN : X.N.Nodup) (hi : X.N[i]? = some x) (hj : X.N[j]? = some y) (hij : i ≠ j)
  (hx : X.env.scope.names.lookup x = some .local) (hy : X.env.scope.names.lookup y = some .local) (ha : jA3 X [a,b] tt)
  (hw : swappedStores [.Tuple [.Name x px,.Name y py] kt pt] (.Tuple [a,b] k2 pt2) X.env = pure (some [x,y]) := by rfl)
  (hs : swapsWithSole [.Tuple [.Name x px,.Name y py] kt pt] (.Tuple [a,b] k2 pt2) pos.line X.env = pure false := by rfl) : jS3 X (.Assign [.Tuple [.Name x px,.Name y py] kt pt] (.Tuple [a,b] k2 pt2) pos) (zE i j tt) :=
 ⟨qik (hc := hc) (hN := hN) (hi := hi) (hj := hj) (hij := hij) (hx := hx) (hy := hy) (ha := ha.h) (hw := hw) (hs := hs)⟩
theorem Q5 {te : TE3} {X : Cx} {tg : Expr} {l : Expr} (hl : jE3 X l te) : jI3 X tg l (jI te) :=
 ⟨qhY (hl := hl.h)⟩
theorem zc {t : TA3} {pos : Pos} {a : Expr} {X : Cx} {tg : Expr} {p : Pos} (hg : Gl X "range") (hm : X.mg "range" = none) (ha : jA3 X [a] t) (hs : starEach [a] X.env = [(false,eval a X.env)] := by rfl) (h1 : ∀ τ G q,t τ G q → t τ G fun xs G => q xs G∧xs.length = 1) : jI3 X tg (.Call (.Name "range" p) [a] [] pos) (zh t) :=
 ⟨qaW (hg := hg) (hm := hm) (ha := ha.h) (hs := hs) (h1 := h1)⟩
theorem ZQ {t : TA3} {pos : Pos} {a : Expr} {b : Expr} {X : Cx} {tg : Expr} {p : Pos} (hg : Gl X "range") (hm : X.mg "range" = none) (ha : jA3 X [a,b] t) (hs : starEach [a,b] X.env = [(false,eval a X.env),(false,eval b X.env)] := by rfl) (hs2 : starEach [b] X.env = [(false,eval b X.env)] := by rfl) (h1 : ∀ τ G q,t τ G q → t τ G fun xs G => q xs G∧xs.length = 2) : jI3 X tg (.Call (.Name "range" p) [a,b] [] pos) (zh t) :=
 ⟨qaK (hg := hg) (hm := hm) (ha := ha.h) (hs := hs) (hs2 := hs2) (h1 := h1)⟩
theorem ZR {pos : Pos} {X : Cx} {tg : Expr} {iter : Expr} {body : List Stmt} {wi : TI3} {g : TG3} {tb : TS3} (hp : PassesOwn (model X.prog X.w) X.A X.env X.xe) (hc : X.calm = true) (hi : jI3 X tg iter wi) (hg : jG3 X tg g) (hb : jB3 X body tb)
  (hs : ∀ x,foldedSetIterable iter X.env x = pure x := by intro _;rfl) : jS3 X (.For tg iter body [] pos) (UH wi g tb) :=
 ⟨qhn (hp := hp) (hc := hc) (hi := hi.h) (hg := hg.h) (hb := hb.h) (hs := hs)⟩
theorem K4 {pos : Pos} {X : Cx} {c : Expr} {body : List Stmt} {tc : TT3} {tb : TS3} (hp : PassesOwn (model X.prog X.w) X.A X.env X.xe) (hc : jC3 X c tc) (hb : jB3 X body tb) : jS3 X (.While c body [] pos) (XU tc tb) :=
 ⟨qct (hp := hp) (hc := hc.h) (hb := hb.h)⟩
theorem qh {t : TA3} {pos : Pos} {es : List Expr} {X : Cx} {k : Nat} {x : Str} {p : Pos} {sp : Sp3} (F : Fn3 X.prog X.w X.K X.mg X.base k x sp) (hr : Room k X.A) (hg : Gl X x) (ha : jA3 X (e :: es) t) (hdb : (x == ("__debug__" : Str)) = false := by decide)
  (he : starEach (e :: es) X.env = (false,eval e X.env) :: starEach es X.env := by rfl) (hpl : (backTo pos (starEach es X.env)).any (·.1) = false := by rfl) : jE3 X (.Call (.Name x p) (e :: es) [] pos) (cb3 sp t) :=
 ⟨qfu (F := F) (hr := hr) (hg := hg) (ha := ha.h) (hdb := hdb) (he := he) (hpl := hpl)⟩
theorem JI {X : Cx} {elt tg iter : Expr} {ifs : List Expr} {scope : Scope} {pos : Pos} (N' : List Str) (m : List (Option Nat)) {wi : TI3} {g : TG3} {tif : TT3} {te : TE3} (hc : X.calm = true) (hi : jI3 X tg iter wi)
  (hg : ∀ s H fp,jG3 (qq X N' scope s H fp) tg g) (hf : ∀ s H fp,jF3 (qq X N' scope s H fp) ifs tif) (he : ∀ s H fp,jE3 (qq X N' scope s H fp) elt te)
  (hsc : MD X.env.scope scope = true) (hcap : Y9 X.N N' scope m = true) (hs : ∀ x,foldedSetIterable iter X.env x = pure x := by intro _;rfl) : jE3 X (.ListComp elt [⟨tg,iter,ifs,0⟩] scope pos) (lc3 wi g tif te m) :=
 ⟨qi5 (N' := N') (m := m) (hc := hc) (hi := hi.h) (hg := (fun s H fp => (hg s H fp).h)) (hf := (fun s H fp => (hf s H fp).h)) (he := (fun s H fp => (he s H fp).h)) (hsc := hsc) (hcap := hcap) (hs := hs)⟩
theorem zA {X : Cx} : jF3 X [] tt3 :=
 ⟨qhh ⟩
theorem qaa {X : Cx} {c : Expr} {t : TT3} (h : jC3 X c t) : jF3 X [c] t :=
 ⟨qh3 (h := h.h)⟩
theorem qbU {t : TA3} {pos : Pos} {es : List Expr} {a : Expr} {b : Expr} {X : Cx} {p pt : Pos} {k1 : Nat} (hg : Gl X "zip") (hm : X.mg "zip" = none) (ha : jA3 X [a,b] t) (hs : starEach [a,b] X.env = [(false,eval a X.env),(false,eval b X.env)] := by rfl) (hs2 : starEach [b] X.env = [(false,eval b X.env)] := by rfl) : jI3 X (.Tuple es k1 pt) (.Call (.Name "zip" p) [a,b] [] pos) (K8 t) :=
 ⟨qho (hg := hg) (hm := hm) (ha := ha.h) (hs := hs) (hs2 := hs2)⟩
theorem qab {t : TA3} {pos : Pos} {es : List Expr} {a : Expr} {X : Cx} {p pt : Pos} {k1 : Nat} (hg : Gl X "enumerate") (hm : X.mg "enumerate" = none) (ha : jA3 X [a] t) (hs : starEach [a] X.env = [(false,eval a X.env)] := by rfl) : jI3 X (.Tuple es k1 pt) (.Call (.Name "enumerate" p) [a] [] pos) (XV t) :=
 ⟨qeX (hg := hg) (hm := hm) (ha := ha.h) (hs := hs)⟩
theorem MG {te : TE3} {pos : Pos} {e : Expr} {X : Cx} (i : Nat) {x : Str} {pos' : Pos} (hN : X.N.Nodup) (he : jE3 X e te) (hi : X.N[i]? = some x := by rfl) (hx : Loc X.env.scope x := by first | exact Or.inl rfl | exact Or.inr rfl) (hf : X.fn x = true ∨ X.env.scope.names.lookup x = some .local := by first | exact .inl rfl | exact .inr rfl) : jS3 X (.AugAssign (.Name x pos') .Add e pos) (jn i (iI (· + ·)) te) :=
 ⟨qaF (i := i) (hN := hN) (he := he.h) (hi := hi) (hx := hx) (hf := hf)⟩
theorem QB {X : Cx} {py spos : Pos} {elt tg iter : Expr} {ifs : List Expr} {scope : Scope} {pos : Pos} {y : Str} (i : Nat) (N' : List Str) (m : List (Option Nat)) {wi : TI3} {g : TG3} {tif : TT3} {te : TE3} (hc : X.calm = true) (hN : X.N.Nodup) (hi : jI3 X tg iter wi)
  (hg : ∀ s H fp,jG3 (qq X N' scope s H fp) tg g) (hf : ∀ s H fp,jF3 (qq X N' scope s H fp) ifs tif) (he : ∀ s H fp,jE3 (qq X N' scope s H fp) elt te)
  (hsc : MD X.env.scope scope = true) (hcap : Y9 X.N N' scope m = true) (hl : X.env.scope.names.lookup y = some .local) (hsw : swapsWith (.ListComp elt [⟨tg,iter,ifs,0⟩] scope pos) (some (.Name y py)) spos.line X.env = pure true) (hiy : X.N[i]? = some y := by rfl) (hs : ∀ x,foldedSetIterable iter X.env x = pure x := by intro _;rfl) : jS3 X (.Assign [.Name y py] (.ListComp elt [⟨tg,iter,ifs,0⟩] scope pos) spos) (qD (lc3 wi g tif te m) (gn3 i)) :=
 ⟨qcr (i := i) (N' := N') (m := m) (hc := hc) (hN := hN) (hi := hi.h) (hg := (fun s H fp => (hg s H fp).h)) (hf := (fun s H fp => (hf s H fp).h)) (he := (fun s H fp => (he s H fp).h)) (hsc := hsc) (hcap := hcap) (hl := hl) (hsw := hsw) (hiy := hiy) (hs := hs)⟩
theorem jpt {X : Cx} {e : Expr} {t : TT3} (h : jW3 X e t) : jC3 X e t := ⟨PW.pt h.h⟩
theorem qI {P : Program} {w : World} {K : PySem.W.Frag} {mg : Str → Option Value} {base : Heap} {x qual : Str} {st : Stmt} {f : Addr} {fd : FuncData} {N ps : List Str} {k : Nat} {sp : Sp3} {t3 : TS3} (F : Fun K x qual st f fd) (S : FnScope N ps (qk st)) (bd : zl K fd ps []) (hm : mg x = some (.ref f))
  (body : ∀ (cdv : Value) (A : Around) (outer : List Env) (s : Shared) (H : Hp) (E : XK),Room k (A.deeper (envOfC qual (qk st) s.heap.objs.size f cdv)) →
   jB3 (qah CX0 P w K mg base N qual (qk st) f cdv A outer s H E).nox (jD st) t3)
  (read : ∀ ts G q,sp ts G q → ts.length = ps.length∧t3 { nx := fun _ G' => q .non G',rt := q } (qi N ts) G) : Fn3 P w K mg base (k + 1) x sp :=
 qep F S bd hm (fun cdv A outer s H E hr => (body cdv A outer s H E hr).h) read
theorem qaZ {P : Program} {w : World} {K : PySem.W.Frag} {mg : Str → Option Value} {base : Heap} {x qual : Str} {st : Stmt} {f : Addr} {fd : FuncData} {N ps : List Str} {k : Nat} {sp : Sp3} {t3 : TS3} (F : Fun K x qual st f fd) (S : FnScope N ps (qk st))
  (body : ∀ (cdv : Value) (A : Around) (outer : List Env) (s : Shared) (H : Hp) (E : XK),Room k (A.deeper (envOfC qual (qk st) s.heap.objs.size f cdv)) →
   jB3 (qah CX0 P w K mg base N qual (qk st) f cdv A outer s H E).nox (jD st) t3)
  (read : ∀ ts G q,sp ts G q → ts.length = ps.length∧t3 { nx := fun _ G' => q .non G',rt := q } (qi N ts) G) : FnOk P w K mg base CX0 (k + 1) f fd ps (lSp K sp) :=
 qdb F S (fun cdv A outer s H E hr => (body cdv A outer s H E hr).h) read
end L3
namespace L3
open PySem PySem.Spec PyProof.Rows L2
open PySem.SeqAt
def Ex (G G' : Gp) : Prop := ∀ b o,G b = some o → G' b = some o
theorem Ex.refl {G : Gp} : Ex G G := fun _ _ e => e
theorem Ex.trans {G G1 G2 : Gp} (a : Ex G G1) (b : Ex G1 G2) : Ex G G2 := fun x o e => b x o (a x o e)
theorem ze {G : Gp} {p : Addr} {o : O} (hp : G p = none) : Ex G (gu G p o) := fun b ob e => by
 rw [jK (by rintro rfl;rw [hp] at e;cases e)];exact e
mutual
inductive Dp (G : Gp) : T → PyData → Prop
 | non : Dp G .non .none
 | bl (b : Bool) : Dp G (.bl b) (.bool b)
 | int (i : Int) : Dp G (.int i) (.int i)
 | str (x : Str) : Dp G (.str x) (.str x)
 | tup {xs : List T} {ds : List PyData} : Dps G xs ds → Dp G (.tup xs) (.tuple ds)
 | lst {p : Addr} {xs : List T} {ds : List PyData} : getL G p = some xs → Dps G xs ds → Dp G (.ref p) (.list ds)
inductive Dps (G : Gp) : List T → List PyData → Prop
 | nil : Dps G [] []
 | cons {x : T} {d : PyData} {xs : List T} {ds : List PyData} : Dp G x d → Dps G xs ds → Dps G (x :: xs) (d :: ds)
end
theorem Ex.getL {G G' : Gp} (e : Ex G G') {p : Addr} {xs : List T} (h : getL G p = some xs) : getL G' p = some xs := by
 unfold L3.getL at h ⊢
 split at h
 ·rename_i ys g;cases h;rw [e _ _ g]
 ·rename_i ys g;cases h;rw [e _ _ g]
 ·cases h
mutual
theorem Dp.up {G G' : Gp} (e : Ex G G') : ∀ {x : T} {d : PyData},Dp G x d → Dp G' x d
 | _,_,.non => .non
 | _,_,.bl b => .bl b
 | _,_,.int i => .int i
 | _,_,.str x => .str x
 | _,_,.tup h => .tup (Dps.up e h)
 | _,_,.lst h1 h2 => .lst (e.getL h1) (Dps.up e h2)
theorem Dps.up {G G' : Gp} (e : Ex G G') : ∀ {x : List T} {d : List PyData},Dps G x d → Dps G' x d
 | _,_,.nil => .nil
 | _,_,.cons a b => .cons (Dp.up e a) (Dps.up e b)
end
theorem Dps.length {G : Gp} : ∀ {xs : List T} {ds : List PyData},Dps G xs ds → xs.length = ds.length
 | _,_,.nil => rfl
 | _,_,.cons _ b => by simp [Dps.length b]
theorem Dps.get {G : Gp} : ∀ {xs : List T} {ds : List PyData} {i : Nat} {x : T},Dps G xs ds → xs[i]? = some x → ∃ d,ds[i]? = some d∧Dp G x d
 | _,_,_,_,.nil,e => by simp at e
 | _,_,0,_,.cons r _,e => by simp at e;subst e;exact ⟨_,rfl,r⟩
 | _,_,i + 1,x,.cons _ t,e => by
  obtain ⟨u,h1,h2⟩ := Dps.get (i := i) (x := x) t (by simpa using e)
  exact ⟨u,by simpa using h1,h2⟩
theorem Dps.ints {G : Gp} : ∀ (ns : List Int),Dps G (ns.map T.int) (ns.map PyData.int)
 | [] => .nil
 | n :: r => .cons (.int n) (Dps.ints r)
mutual
inductive DV (K : PySem.W.Frag) (H : Hp) : V → PyData → Prop
 | non : DV K H .non .none
 | bl (b : Bool) : DV K H (.bl b) (.bool b)
 | int (i : Int) : DV K H (.int i) (.int i)
 | str (x : Str) : DV K H (.str x) (.str x)
 | tup {a : Addr} {vs : List V} {ds : List PyData} : SqT K H a vs → DVs K H vs ds → DV K H (.ref a) (.tuple ds)
 | lst {a : Addr} {vs : List V} {ds : List PyData} : SqL K H a vs → DVs K H vs ds → DV K H (.ref a) (.list ds)
inductive DVs (K : PySem.W.Frag) (H : Hp) : List V → List PyData → Prop
 | nil : DVs K H [] []
 | cons {x : V} {d : PyData} {xs : List V} {ds : List PyData} : DV K H x d → DVs K H xs ds → DVs K H (x :: xs) (d :: ds)
end
mutual
theorem Dp.dv {K : PySem.W.Frag} {G : Gp} {H : Hp} (hr : HR K G H) : ∀ {x : T} {d : PyData} {v : V},Dp G x d → Rp K H x v → DV K H v d
 | _,_,_,.non,.non => .non
 | _,_,_,.bl b,.bl _ => .bl b
 | _,_,_,.int i,.int _ => .int i
 | _,_,_,.str x,.str _ => .str x
 | _,_,_,.tup h,.tup hs rs => .tup hs (Dps.dv hr h rs)
 | _,_,_,.lst g h,r => by
  cases r
  obtain ⟨_,hs,rs⟩ := zW hr g
  exact .lst hs (Dps.dv hr h rs)
theorem Dps.dv {K : PySem.W.Frag} {G : Gp} {H : Hp} (hr : HR K G H) : ∀ {x : List T} {d : List PyData} {v : List V},Dps G x d → Rps K H x v → DVs K H v d
 | _,_,_,.nil,.nil => .nil
 | _,_,_,.cons a b,.cons c d => .cons (Dp.dv hr a c) (Dps.dv hr b d)
end
mutual
def ZF : PyData → PyData → Option Bool
 | .none,.none => some true
 | .bool a,.bool b => some (a == b)
 | .int a,.int b => some (a == b)
 | .str a,.str b => some (a == b)
 | .list xs,.list ys => YK xs ys
 | .tuple xs,.tuple ys => YK xs ys
 | _,_ => none
def YK : List PyData → List PyData → Option Bool
 | [],[] => some true
 | x :: xs,y :: ys => match ZF x y,YK xs ys with | some a,some b => some (a && b) | _,_ => none
 | _,_ => some false
end
mutual
def dpt : PyData → Nat
 | .list xs => qav xs + 1
 | .tuple xs => qav xs + 1
 | _ => 0
def qav : List PyData → Nat
 | [] => 0
 | x :: xs => max (dpt x) (qav xs)
end
section
variable {X : Cx} {pins : List (Addr × Obj)} {σ : L2.St} {H : Hp} {s : Shared}
mutual
theorem DV.inj (I : Inv X pins σ H s) : ∀ {v : V} {d e : PyData},DV X.K H v d → DV X.K H v e → d = e
 | _,_,_,.non,.non => rfl
 | _,_,_,.bl _,.bl _ => rfl
 | _,_,_,.int _,.int _ => rfl
 | _,_,_,.str _,.str _ => rfl
 | _,_,_,.tup h hs,.tup k ks => by
  have := I.tuple_inj h k
  subst this
  rw [DVs.inj I hs ks]
 | _,_,_,.lst h hs,.lst k ks => by
  have := I.list_inj h k
  subst this
  rw [DVs.inj I hs ks]
 | _,_,_,.tup h hs,.lst k ks => by
  obtain ⟨i1,_,p1,_⟩ := I.tuple h
  obtain ⟨i2,_,p2,_⟩ := I.list k
  exact absurd rfl (ne_of_list_tuple p2.isList (show s.heap.IsTuple _ i1.toArray from p1))
 | _,_,_,.lst k ks,.tup h hs => by
  obtain ⟨i1,_,p1,_⟩ := I.tuple h
  obtain ⟨i2,_,p2,_⟩ := I.list k
  exact absurd rfl (ne_of_list_tuple p2.isList (show s.heap.IsTuple _ i1.toArray from p1))
theorem DVs.inj (I : Inv X pins σ H s) : ∀ {v : List V} {d e : List PyData},DVs X.K H v d → DVs X.K H v e → d = e
 | _,_,_,.nil,.nil => rfl
 | _,_,_,.cons a b,.cons c d => by rw [DV.inj I a c,DVs.inj I b d]
end
mutual
theorem RF : ∀ {d : PyData} {b : Bool},ZF d d = some b → b = true
 | .none,_,h => by simp [ZF] at h;exact h
 | .bool _,_,h => by simp [ZF] at h;exact h
 | .int _,_,h => by simp [ZF] at h;exact h
 | .str _,_,h => by simp [ZF] at h;exact h
 | .list xs,_,h => by simp only [ZF] at h;exact EI h
 | .tuple xs,_,h => by simp only [ZF] at h;exact EI h
 | .dict _,_,h => by simp [ZF] at h
theorem EI : ∀ {d : List PyData} {b : Bool},YK d d = some b → b = true
 | [],_,h => by simp [YK] at h;exact h
 | x :: xs,b,h => by
  simp only [YK] at h
  split at h
  ·rename_i a c e1 e2
   rw [RF e1,EI e2] at h
   simpa using h.symm
  ·cases h
end
theorem JV : ∀ {xs ys : List PyData} {b : Bool},YK xs ys = some b → xs.length = ys.length → ∃ e : Nat → Bool,(∀ (j : Nat) x y,xs[j]? = some x → ys[j]? = some y → ZF x y = some (e j))∧b = (List.range xs.length).all e
 | [],[],b,h,_ => by simp [YK] at h;exact ⟨fun _ => true,by simp,by simp [h]⟩
 | x :: xs,y :: ys,b,h,hl => by
  simp only [YK] at h
  split at h
  ·rename_i a c e1 e2
   obtain ⟨e,h1,h2⟩ := JV e2 (by simpa using hl)
   refine ⟨fun j => match j with | 0 => a | j + 1 => e j,fun j u v hu hv => ?_,?_⟩
   ·cases j with
    | zero => simp at hu hv;subst hu;subst hv;exact e1
    | succ j => exact h1 j u v (by simpa using hu) (by simpa using hv)
   ·rw [List.length_cons,List.range_succ_eq_map,List.all_cons,List.all_map]
    cases h
    rw [h2]
    rfl
  ·cases h
 | [],_ :: _,_,_,hl => by simp at hl
 | _ :: _,[],_,_,hl => by simp at hl
theorem JY : ∀ {xs ys : List PyData} {b : Bool},YK xs ys = some b → xs.length ≠ ys.length → b = false∧∃ e : Nat → Bool,∀ (j : Nat) x y,xs[j]? = some x → ys[j]? = some y → ZF x y = some (e j)
 | [],[],_,_,hl => by simp at hl
 | [],_ :: _,b,h,_ => by simp [YK] at h;exact ⟨h,fun _ => true,by simp⟩
 | _ :: _,[],b,h,_ => by simp [YK] at h;exact ⟨h,fun _ => true,by simp⟩
 | x :: xs,y :: ys,b,h,hl => by
  simp only [YK] at h
  split at h
  ·rename_i a c e1 e2
   obtain ⟨h0,e,h1⟩ := JY e2 (by simpa using hl)
   subst h0
   refine ⟨by simpa using h.symm,fun j => match j with | 0 => a | j + 1 => e j,fun j u v hu hv => ?_⟩
   cases j with
   | zero => simp at hu hv;subst hu;subst hv;exact e1
   | succ j => exact h1 j u v (by simpa using hu) (by simpa using hv)
  ·cases h
theorem V3 : ∀ {xs : List PyData} {x : PyData},x ∈ xs → dpt x ≤ qav xs
 | [],_,h => by simp at h
 | y :: ys,x,h => by
  simp only [qav]
  rcases List.mem_cons.mp h with e | e
  ·subst e;omega
  ·have := V3 e;omega
theorem DVs.get {K : PySem.W.Frag} {H : Hp} : ∀ {xs : List V} {ds : List PyData} {i : Nat} {x : V},DVs K H xs ds → xs[i]? = some x → ∃ d,ds[i]? = some d∧DV K H x d
 | _,_,_,_,.nil,e => by simp at e
 | _,_,0,_,.cons r _,e => by simp at e;subst e;exact ⟨_,rfl,r⟩
 | _,_,i + 1,x,.cons _ t,e => by
  obtain ⟨u,h1,h2⟩ := DVs.get (i := i) (x := x) t (by simpa using e)
  exact ⟨u,by simpa using h1,h2⟩
theorem DVs.length {K : PySem.W.Frag} {H : Hp} : ∀ {xs : List V} {ds : List PyData},DVs K H xs ds → xs.length = ds.length
 | _,_,.nil => rfl
 | _,_,.cons _ b => by simp [DVs.length b]
theorem JK {vs : List V} {us : List Value} (r : jh vs us) {j : Nat} (h : j < us.toArray.size) : ∃ v,vs[j]? = some v∧jx v us.toArray[j] := by
 have hj : j < vs.length := by rw [r.length];simpa using h
 obtain ⟨u,hu,ru⟩ := r.get (List.getElem?_eq_getElem hj)
 refine ⟨vs[j],List.getElem?_eq_getElem hj,?_⟩
 have hj2 : j < us.length := by simpa using h
 rw [List.getElem?_eq_getElem hj2] at hu
 have : us[j] = u := Option.some.inj hu
 simpa [this] using ru
theorem CS (I : Inv X pins σ H s) : ∀ (n : Nat) {v u : V} {d e : PyData} {b : Bool} {x y : Value} {A : Around},DV X.K H v d → DV X.K H u e → ZF d e = some b → dpt d ≤ n → A.units + n < cLine → jx v x → jx u y →
  RcAt A s x y b∧EqAt A s x y b := by
 intro n
 induction n with
 | zero =>
  intro v u d e b x y A hv hu h hd hn rx ry
  cases hv with
  | non => cases hu <;> simp [ZF] at h;subst h;cases (show x = Value.none from rx);cases (show y = Value.none from ry);exact ⟨RcAt.none_none,EqAt.same _⟩
  | bl a => cases hu <;> simp [ZF] at h;subst h;cases (show x = Value.bool _ from rx);cases (show y = Value.bool _ from ry);exact ⟨RcAt.bool_bool _ _,EqAt.bool_bool _ _⟩
  | int a => cases hu <;> simp [ZF] at h;subst h;obtain ⟨t,rfl⟩ := (show ∃ t,x = Value.int _ t from rx);obtain ⟨t',rfl⟩ := (show ∃ t,y = Value.int _ t from ry);exact ⟨RcAt.int_int _ _ _ _,EqAt.int_int _ _ _ _⟩
  | str a => cases hu <;> simp [ZF] at h;subst h;obtain ⟨t,rfl⟩ := (show ∃ t,x = Value.str _ t from rx);obtain ⟨t',rfl⟩ := (show ∃ t,y = Value.str _ t from ry);exact ⟨RcAt.str_str _ _ _ _,EqAt.str_str _ _ _ _⟩
  | tup => simp [dpt] at hd
  | lst => simp [dpt] at hd
 | succ n ih =>
  intro v u d e b x y A hv hu h hd hn rx ry
  have fin : ∀ {l l' : Addr} {k : Bool},x = .ref l → y = .ref l' → v = .ref l → u = .ref l' → b = k → RcAt A s x y k → RcAt A s x y b∧EqAt A s x y b := by
   rintro l l' k rfl rfl rfl rfl rfl rc
   refine ⟨rc,?_⟩
   by_cases hll : l = l'
   ·subst hll
    have := DV.inj I hv hu
    subst this
    rw [RF h]
    exact EqAt.same _
   ·exact EqAt.of_refs hll rc
  cases hv with
  | non => cases hu <;> simp [ZF] at h;subst h;cases (show x = Value.none from rx);cases (show y = Value.none from ry);exact ⟨RcAt.none_none,EqAt.same _⟩
  | bl a => cases hu <;> simp [ZF] at h;subst h;cases (show x = Value.bool _ from rx);cases (show y = Value.bool _ from ry);exact ⟨RcAt.bool_bool _ _,EqAt.bool_bool _ _⟩
  | int a => cases hu <;> simp [ZF] at h;subst h;obtain ⟨t,rfl⟩ := (show ∃ t,x = Value.int _ t from rx);obtain ⟨t',rfl⟩ := (show ∃ t,y = Value.int _ t from ry);exact ⟨RcAt.int_int _ _ _ _,EqAt.int_int _ _ _ _⟩
  | str a => cases hu <;> simp [ZF] at h;subst h;obtain ⟨t,rfl⟩ := (show ∃ t,x = Value.str _ t from rx);obtain ⟨t',rfl⟩ := (show ∃ t,y = Value.str _ t from ry);exact ⟨RcAt.str_str _ _ _ _,EqAt.str_str _ _ _ _⟩
  | tup hq hs =>
   cases hu with
   | tup kq ks =>
    rename_i a1 vs1 ds1 a2 vs2 ds2
    simp only [ZF] at h
    obtain ⟨i1,r1,p1,z1⟩ := I.tuple hq
    obtain ⟨i2,r2,p2,z2⟩ := I.tuple kq
    have l1 := hs.length;have l2 := ks.length;have m1 := r1.length;have m2 := r2.length
    have el : ∀ (e : Nat → Bool),(∀ (j : Nat) x y,ds1[j]? = some x → ds2[j]? = some y → ZF x y = some (e j)) → ∀ j (h1 : j < i1.toArray.size) (h2 : j < i2.toArray.size),EqAt A.in1 s i1.toArray[j] i2.toArray[j] (e j) := fun e he j h1 h2 => by
     obtain ⟨w1,g1,q1⟩ := JK r1 h1
     obtain ⟨w2,g2,q2⟩ := JK r2 h2
     obtain ⟨d1,f1,dv1⟩ := hs.get g1
     obtain ⟨d2,f2,dv2⟩ := ks.get g2
     have := V3 (List.mem_of_getElem? f1)
     exact (ih dv1 dv2 (he j d1 d2 f1 f2) (by simp only [dpt] at hd;omega) (show A.units + 1 + n < cLine by omega) q1 q2).2
    cases (show x = Value.ref a1 from rx)
    cases (show y = Value.ref a2 from ry)
    by_cases hl : ds1.length = ds2.length
    ·obtain ⟨e,he,hb⟩ := JV h hl
     refine fin rfl rfl rfl rfl (k := (List.range (min i1.toArray.size i2.toArray.size)).all e && i1.toArray.size == i2.toArray.size) ?_ (RcAt.tuples (show s.heap.IsTuple a1 i1.toArray from p1) (show s.heap.IsTuple a2 i2.toArray from p2) (by omega) (el e he))
     have e1 : i1.toArray.size = ds1.length := by rw [List.size_toArray];omega
     have e2 : i2.toArray.size = ds1.length := by rw [List.size_toArray];omega
     rw [e1,e2,hb];simp
    ·obtain ⟨hb,e,he⟩ := JY h hl
     refine fin rfl rfl rfl rfl (k := (List.range (min i1.toArray.size i2.toArray.size)).all e && i1.toArray.size == i2.toArray.size) ?_ (RcAt.tuples (show s.heap.IsTuple a1 i1.toArray from p1) (show s.heap.IsTuple a2 i2.toArray from p2) (by omega) (el e he))
     have e1 : i1.toArray.size ≠ i2.toArray.size := by rw [List.size_toArray,List.size_toArray];omega
     rw [hb];simp [e1]
     intro;omega
   | _ => simp [ZF] at h
  | lst hq hs =>
   cases hu with
   | lst kq ks =>
    rename_i a1 vs1 ds1 a2 vs2 ds2
    simp only [ZF] at h
    obtain ⟨i1,r1,p1,z1⟩ := I.list hq
    obtain ⟨i2,r2,p2,z2⟩ := I.list kq
    have l1 := hs.length;have l2 := ks.length;have m1 := r1.length;have m2 := r2.length
    have el : ∀ (e : Nat → Bool),(∀ (j : Nat) x y,ds1[j]? = some x → ds2[j]? = some y → ZF x y = some (e j)) → ∀ j (h1 : j < i1.toArray.size) (h2 : j < i2.toArray.size),EqAt A.in1 s i1.toArray[j] i2.toArray[j] (e j) := fun e he j h1 h2 => by
     obtain ⟨w1,g1,q1⟩ := JK r1 h1
     obtain ⟨w2,g2,q2⟩ := JK r2 h2
     obtain ⟨d1,f1,dv1⟩ := hs.get g1
     obtain ⟨d2,f2,dv2⟩ := ks.get g2
     have := V3 (List.mem_of_getElem? f1)
     exact (ih dv1 dv2 (he j d1 d2 f1 f2) (by simp only [dpt] at hd;omega) (show A.units + 1 + n < cLine by omega) q1 q2).2
    cases (show x = Value.ref a1 from rx)
    cases (show y = Value.ref a2 from ry)
    by_cases hl : ds1.length = ds2.length
    ·obtain ⟨e,he,hb⟩ := JV h hl
     refine fin rfl rfl rfl rfl (k := (List.range i1.toArray.size).all e) ?_ (RcAt.lists p1.isList p2.isList (by rw [List.size_toArray,List.size_toArray];omega) (by omega) (el e he))
     have e1 : i1.toArray.size = ds1.length := by rw [List.size_toArray];omega
     rw [e1,hb]
    ·obtain ⟨hb,e,he⟩ := JY h hl
     refine fin rfl rfl rfl rfl (k := false) hb (RcAt.lists_lengths p1.isList p2.isList (by rw [List.size_toArray,List.size_toArray];simp;omega) (by omega))
   | _ => simp [ZF] at h
theorem qdH (I : Inv X pins σ H s) {n : Nat} {v u : V} {d e : PyData} {b : Bool} {x y : Value} {A : Around} (hv : DV X.K H v d) (hu : DV X.K H u e) (h : ZF d e = some b) (hd : dpt d ≤ n + 1) (hn : A.units + (n + 1) < cLine) (rx : jx v x) (ry : jx u y) (hs : dpt d ≠ 0) : RcNeAt A s x y (!b) := by
 cases hv with
 | tup hq hs' =>
  cases hu with
  | tup kq ks =>
   rename_i a1 vs1 ds1 a2 vs2 ds2
   simp only [ZF] at h
   obtain ⟨i1,r1,p1,z1⟩ := I.tuple hq
   obtain ⟨i2,r2,p2,z2⟩ := I.tuple kq
   have l1 := hs'.length;have l2 := ks.length;have m1 := r1.length;have m2 := r2.length
   have el : ∀ (e : Nat → Bool),(∀ (j : Nat) x y,ds1[j]? = some x → ds2[j]? = some y → ZF x y = some (e j)) → ∀ j (h1 : j < i1.toArray.size) (h2 : j < i2.toArray.size),EqAt A.in1 s i1.toArray[j] i2.toArray[j] (e j) := fun e he j h1 h2 => by
    obtain ⟨w1,g1,q1⟩ := JK r1 h1
    obtain ⟨w2,g2,q2⟩ := JK r2 h2
    obtain ⟨d1,f1,dv1⟩ := hs'.get g1
    obtain ⟨d2,f2,dv2⟩ := ks.get g2
    have := V3 (List.mem_of_getElem? f1)
    exact (CS I n dv1 dv2 (he j d1 d2 f1 f2) (by simp only [dpt] at hd;omega) (show A.units + 1 + n < cLine by omega) q1 q2).2
   cases (show x = Value.ref a1 from rx)
   cases (show y = Value.ref a2 from ry)
   by_cases hl : ds1.length = ds2.length
   ·obtain ⟨e,he,hb⟩ := JV h hl
    have := RcNeAt.tuples (show s.heap.IsTuple a1 i1.toArray from p1) (show s.heap.IsTuple a2 i2.toArray from p2) (A := A) (by omega) (el e he)
    have e1 : i1.toArray.size = ds1.length := by rw [List.size_toArray];omega
    have e2 : i2.toArray.size = ds1.length := by rw [List.size_toArray];omega
    rw [e1,e2] at this
    rw [hb];simpa using this
   ·obtain ⟨hb,e,he⟩ := JY h hl
    have := RcNeAt.tuples (show s.heap.IsTuple a1 i1.toArray from p1) (show s.heap.IsTuple a2 i2.toArray from p2) (A := A) (by omega) (el e he)
    have e1 : (i1.toArray.size == i2.toArray.size) = false := by rw [List.size_toArray,List.size_toArray];simp;omega
    rw [e1] at this
    rw [hb];simpa using this
  | _ => simp [ZF] at h
 | lst hq hs' =>
  cases hu with
  | lst kq ks =>
   rename_i a1 vs1 ds1 a2 vs2 ds2
   simp only [ZF] at h
   obtain ⟨i1,r1,p1,z1⟩ := I.list hq
   obtain ⟨i2,r2,p2,z2⟩ := I.list kq
   have l1 := hs'.length;have l2 := ks.length;have m1 := r1.length;have m2 := r2.length
   have el : ∀ (e : Nat → Bool),(∀ (j : Nat) x y,ds1[j]? = some x → ds2[j]? = some y → ZF x y = some (e j)) → ∀ j (h1 : j < i1.toArray.size) (h2 : j < i2.toArray.size),EqAt A.in1 s i1.toArray[j] i2.toArray[j] (e j) := fun e he j h1 h2 => by
    obtain ⟨w1,g1,q1⟩ := JK r1 h1
    obtain ⟨w2,g2,q2⟩ := JK r2 h2
    obtain ⟨d1,f1,dv1⟩ := hs'.get g1
    obtain ⟨d2,f2,dv2⟩ := ks.get g2
    have := V3 (List.mem_of_getElem? f1)
    exact (CS I n dv1 dv2 (he j d1 d2 f1 f2) (by simp only [dpt] at hd;omega) (show A.units + 1 + n < cLine by omega) q1 q2).2
   cases (show x = Value.ref a1 from rx)
   cases (show y = Value.ref a2 from ry)
   by_cases hl : ds1.length = ds2.length
   ·obtain ⟨e,he,hb⟩ := JV h hl
    have := RcNeAt.lists p1.isList p2.isList (A := A) (by rw [List.size_toArray,List.size_toArray];omega) (by omega) (el e he)
    have e1 : i1.toArray.size = ds1.length := by rw [List.size_toArray];omega
    rw [e1] at this
    rw [hb];exact this
   ·obtain ⟨hb,e,he⟩ := JY h hl
    rw [hb]
    exact RcNeAt.lists_lengths p1.isList p2.isList (by rw [List.size_toArray,List.size_toArray];simp;omega) (by omega)
  | _ => simp [ZF] at h
 | _ => simp [dpt] at hs
def qdL (K : PySem.W.Frag) (neg : Bool) : R2 := fun x y H Q => ∃ d e b,DV K H x d∧DV K H y e∧ZF d e = some b∧dpt d ≤ 40∧dpt d ≠ 0∧Q (.bl (if neg then !b else b)) H
theorem qeN (hu : X.A.units + 64 < cLine) : OpR X (compareOp .Eq) (qdL X.K false) := by
 intro pins s σ H x y v u Q I rx ry h
 obtain ⟨d,e,b,hx,hy,hb,hd,_,q⟩ := h
 exact (CS I 40 hx hy hb hd (by omega) rx ry).1 X.prog X.w X.xe _ ⟨.bl b,H,I,rfl,q⟩
theorem qfY (hu : X.A.units + 64 < cLine) : OpR X (compareOp .NotEq) (qdL X.K true) := by
 intro pins s σ H x y v u Q I rx ry h
 obtain ⟨d,e,b,hx,hy,hb,hd,hs,q⟩ := h
 exact qdH I (n := 40) hx hy hb (by omega) (by omega) rx ry hs X.prog X.w X.xe _ ⟨.bl (!b),H,I,rfl,q⟩
end
def qP (neg : Bool) : R3 := fun x y G q => match qy x y with
 | some k => q (.bl (if neg then !k else k)) G
 | none => ∃ d e b,Dp G x d∧Dp G y e∧ZF d e = some b∧dpt d ≤ 40∧dpt d ≠ 0∧q (.bl (if neg then !b else b)) G
theorem qG {K : PySem.W.Frag} : WN K (qP false) (fun x y H Q => rEq x y H Q ∨ qdL K false x y H Q) := fun x y v u G H q Q hr rx ry h af => by
 unfold qP at h
 split at h
 ·rename_i k e
  obtain ⟨h1,h2⟩ := T9 rx ry e
  refine .inl ⟨h1,?_⟩
  rw [h2]
  exact af _ G h _ H (.bl _) hr Kp.refl
 ·obtain ⟨d,e,b,h1,h2,h3,h4,h5,h6⟩ := h
  exact .inr ⟨d,e,b,h1.dv hr rx,h2.dv hr ry,h3,h4,h5,af _ G h6 _ H (.bl _) hr Kp.refl⟩
theorem WC {K : PySem.W.Frag} : WN K (qP true) (fun x y H Q => rNe x y H Q ∨ qdL K true x y H Q) := fun x y v u G H q Q hr rx ry h af => by
 unfold qP at h
 split at h
 ·rename_i k e
  obtain ⟨h1,h2⟩ := T9 rx ry e
  refine .inl ⟨h1,?_⟩
  rw [h2]
  exact af _ G h _ H (.bl _) hr Kp.refl
 ·obtain ⟨d,e,b,h1,h2,h3,h4,h5,h6⟩ := h
  exact .inr ⟨d,e,b,h1.dv hr rx,h2.dv hr ry,h3,h4,h5,af _ G h6 _ H (.bl _) hr Kp.refl⟩
theorem za {X : Cx} (hu : X.A.units + 64 < cLine) : OpR X (compareOp .Eq) (fun x y H Q => rEq x y H Q ∨ qdL X.K false x y H Q) := qhc.or (qeN hu)
theorem SA {X : Cx} (hu : X.A.units + 64 < cLine) : OpR X (compareOp .NotEq) (fun x y H Q => rNe x y H Q ∨ qdL X.K true x y H Q) := qhG.or (qfY hu)
end L3
namespace L3
open PySem PySem.Spec PyProof.Rows L2
section
variable {X : Cx} {pins : List (Addr × Obj)} {σ : L2.St} {H : Hp} {s : Shared}
mutual
theorem DV.reads (I : Inv X pins σ H s) : ∀ {v : V} {d : PyData} {x : Value},DV X.K H v d → jx v x → ∃ as,Reads s.heap x d as
 | _,_,x,.non,r => by cases (show x = Value.none from r);exact ⟨_,.none⟩
 | _,_,x,.bl b,r => by cases (show x = Value.bool b from r);exact ⟨_,.bool b⟩
 | _,_,x,.int i,r => by obtain ⟨t,rfl⟩ := (show ∃ t,x = Value.int i t from r);exact ⟨_,.int i t⟩
 | _,_,x,.str y,r => by obtain ⟨t,rfl⟩ := (show ∃ t,x = Value.str y t from r);exact ⟨_,.str y t⟩
 | _,_,x,.tup (a := a) h hs,r => by
  cases (show x = Value.ref a from r)
  obtain ⟨its,rv,⟨o,h1,h2,n,h3⟩,_⟩ := I.tuple h
  obtain ⟨as,ra⟩ := DVs.reads I hs rv
  exact ⟨as,.tuple h1 h2 h3 (by simpa using ra)⟩
 | _,_,x,.lst (a := a) h hs,r => by
  cases (show x = Value.ref a from r)
  obtain ⟨its,rv,p,_⟩ := I.list h
  obtain ⟨o,h1,h2,n,h3⟩ := p.isList
  obtain ⟨as,ra⟩ := DVs.reads I hs rv
  exact ⟨a :: as,.list h1 h2 h3 (by simpa using ra)⟩
theorem DVs.reads (I : Inv X pins σ H s) : ∀ {v : List V} {d : List PyData} {x : List Value},DVs X.K H v d → jh v x → ∃ as,ReadsAll s.heap x d as
 | _,_,_,.nil,.nil => ⟨_,.nil⟩
 | _,_,_,.cons a b,.cons c d => by
  obtain ⟨as,r1⟩ := DV.reads I a c
  obtain ⟨bs,r2⟩ := DVs.reads I b d
  exact ⟨_,.cons r1 r2⟩
end
structure ShOk (d : PyData) : Prop where
 sh : d.showable = true
 nd : d.hasDict = false
 dp : d.depth ≤ 40
 lv : d.leavesShort 13 = true
 bk : d.bulk ≤ 2 ^ 20
end
end L3
namespace L3
open PySem PySem.Spec PyProof.Rows L2
section
variable {X : Cx}
end
end L3
namespace L3
open PySem PySem.Spec PyProof.Rows L2
section
variable {prog : Program} {w : World} {A : Around} {R : Result → Shared → Prop} {s : Shared}
theorem CP (elt t1 i1 t2 i2 : Expr) (f1 f2 : List Expr) (scope : Scope) (pos : Pos) (it acc : Value) (env : Env) :
  compTurn (.ListComp elt [⟨t1,i1,f1,0⟩,⟨t2,i2,f2,0⟩] scope pos) 0 it acc env = (do
   standAt i1.pos
   match ← pyNext it with
   | none => pure (.done .next)
   | some v =>
    letOwnedTupleGo t1 it v
    assign t1 env v
    let mut ok := true
    for c in f1 do
     if ok then ok ← isTrue c env (eval c env)
    if ok then
     let x ← eval i2 env
     standAt i2.pos
     let x ← foldedSetIterable i2 env x
     let _ ← runOwn (.compStart (.ListComp elt [⟨t1,i1,f1,0⟩,⟨t2,i2,f2,0⟩] scope pos) 1 (← holding [x] (pyIter x)) acc env) env
    again (.compLoop (.ListComp elt [⟨t1,i1,f1,0⟩,⟨t2,i2,f2,0⟩] scope pos) 0 it acc env)) := by rfl
theorem CJ (elt t1 i1 t2 i2 : Expr) (f1 f2 : List Expr) (scope : Scope) (pos : Pos) (it acc : Value) (env : Env) :
  compTurn (.ListComp elt [⟨t1,i1,f1,0⟩,⟨t2,i2,f2,0⟩] scope pos) 1 it acc env = (do
   standAt i2.pos
   match ← pyNext it with
   | none => pure (.done .next)
   | some v =>
    letOwnedTupleGo t2 it v
    assign t2 env v
    let mut ok := true
    for c in f2 do
     if ok then ok ← isTrue c env (eval c env)
    if ok then
     (do let _ ← call (.builtin "list.append") [acc,← eval elt env])
    again (.compLoop (.ListComp elt [⟨t1,i1,f1,0⟩,⟨t2,i2,f2,0⟩] scope pos) 1 it acc env)) := by rfl
theorem JJ {elt t1 i1 t2 i2 : Expr} {f1 f2 : List Expr} {scope : Scope} {pos : Pos} {it acc : Value} {env : Env}
  (h0 : codeAny (model prog w) A (.compLoop (.ListComp elt [⟨t1,i1,f1,0⟩,⟨t2,i2,f2,0⟩] scope pos) 1 it acc env) R s)
  (h : wpAny (model prog w) A (pyIter it) (fun it' s' => codeAny (model prog w) A (.compLoop (.ListComp elt [⟨t1,i1,f1,0⟩,⟨t2,i2,f2,0⟩] scope pos) 1 it' acc env) R s')
   (notedBy (model prog w) A env fun x s' => R (.error x) s') s) :
  codeAny (model prog w) A (.compStart (.ListComp elt [⟨t1,i1,f1,0⟩,⟨t2,i2,f2,0⟩] scope pos) 1 it acc env) R s := by
 refine codeAny_of_tree ?_
 show wpAny _ _ ((compStart (.ListComp elt [⟨t1,i1,f1,0⟩,⟨t2,i2,f2,0⟩] scope pos) 1 it acc env).onRaise (fun x => do noteFrame x env;standAt theWindowsPlace)) _ _ s
 refine wpAny_notedAt ?_
 unfold compStart
 show wpAny _ _ (ask >>= _) _ _ s
 refine wpAny_bind (wpAny_askSetting (wpAny_ite ?_))
 split
 ·first
   | exact wpAny_bind (wpAny_pure (wpAny_pure (And.intro rfl h0)))
   | exact wpAny_pure (And.intro rfl h0)
 ·first
   | exact wpAny_bind (wpAny_rule (wpAny_bind (wpAny_standAt (wpAny_bind (wpAny_mono h (fun it' s' h' => wpAny_pure (And.intro rfl h')) fun _ _ x => x)))))
   | (refine wpAny_bind (wpAny_rule ?_);show wpAny _ _ (standAt i2.pos >>= _) _ _ s;exact wpAny_bind (wpAny_standAt (wpAny_bind (wpAny_mono h (fun it' s' h' => wpAny_pure (And.intro rfl h')) fun _ _ x => x))))
end
def tIn (wi : TI) (g : TG) (tif : TT) (te : TE) (D : Addr) (N : L2.St → Hp → Prop) (σ : L2.St) (H : Hp) : Prop := wi σ H fun J H1 =>
 ∃ W : Nat → Nat → L2.St → Hp → Prop,(∃ n,W 0 n σ H1)∧∀ i n σ H,W i n σ H →
  (J.stop i H∧N σ H) ∨ (J.go i H∧∀ x H',J.yld i H x H' → g x σ H' fun σ2 H2 => tif σ2 H2 fun k H3 =>
   if k = true then te σ2 H3 fun y H4 => ∃ zs,H4 D = some (.lst zs)∧zs.length < sizeLine∧∃ n',n' < n∧W (i + 1) n' σ2 (upd H4 D (.lst (zs ++ [y])))
   else ∃ n',n' < n∧W (i + 1) n' σ2 H3)
section
variable {X : Cx}
theorem qeP {elt t1 i1 t2 i2 : Expr} {f1 f2 : List Expr} {scope : Scope} {pos : Pos} {wi : TI} {g : TG} {tif : TT} {te : TE} {D : Addr} {N : L2.St → Hp → Prop} (hc : X.calm = true) (hx : ∀ v s,¬ X.xe v s) (hi : PI X t2 i2 wi) (hg : PG X t2 g) (hf : PF X f2 tif) (he : PE X elt te)
    (hs : ∀ x,foldedSetIterable i2 X.env x = pure x) {pins : List (Addr × Obj)} {s : Shared} {σ : L2.St} {H : Hp} {E : Value → Shared → Prop} {α : Type} {kk : Sem α} {Q : α → Shared → Prop} (I : Inv X pins σ H s) (h : tIn wi g tif te D N σ H) (hk : ∀ s' σ' H',Inv X pins σ' H' s' → N σ' H' → wpAny (model X.prog X.w) X.A kk Q E s') :
    wpAny (model X.prog X.w) X.A (do
            let x ← eval i2 X.env
            standAt i2.pos
            let x ← foldedSetIterable i2 X.env x
            let _ ← runOwn (.compStart (.ListComp elt [⟨t1,i1,f1,0⟩,⟨t2,i2,f2,0⟩] scope pos) 1 (← holding [x] (pyIter x)) (.ref D) X.env) X.env
            kk) Q E s := by
  refine wpAny_bind (wpAny_mono (hi pins s σ H _ I h) (fun v s1 h1 => ?_) fun _ _ z => (hx _ _ z).elim)
  refine wpAny_bind (wpAny_standAt (wpAny_bind (wpAny_of_eq (hs v) ?_)))
  refine wpAny_bind (wpAny_holding (wpAny_mono h1 (fun itv s2 h2 => ?_) fun _ _ z => (hx _ _ z).elim))
  obtain ⟨it,fp,tn,J,H2,rfl,I2,T,st2,f2',W,⟨n0,w0⟩,turn⟩ := h2
  have stat : ∀ {H' : Hp},(∀ b ∈ fp,H' b = none) → ∀ b ∈ fp,RN X pins H' b := fun hn b hb => ⟨hn b hb,(f2' b hb).2⟩
  refine wpAny_bind (wpAny_runOwn ?_)
  show codeAny (model X.prog X.w) X.A (.compStart (.ListComp elt [⟨t1,i1,f1,0⟩,⟨t2,i2,f2,0⟩] scope pos) 1 (.ref it) (.ref D) X.env) _ s2
  have loop : codeAny (model X.prog X.w) X.A (.compLoop (.ListComp elt [⟨t1,i1,f1,0⟩,⟨t2,i2,f2,0⟩] scope pos) 1 (.ref it) (.ref D) X.env) (fun r s' => match r with
      | .ok f => wpAny (model X.prog X.w) X.A kk Q E s'
      | .error e => cameBackBy (model X.prog X.w) X.A X.env E e s') s2 := by
    refine codeAny_loop rfl (fun n s' => ∃ i σ' H',Inv X pins σ' H' s'∧tn i s'.heap∧(∀ b ∈ fp,H' b = none)∧W i n σ' H') (fun n s' hI => ?_) n0 ⟨0,σ,H2,I2,st2,fun b hb => (f2' b hb).1,w0⟩
    show wpAny _ X.A ((compTurn (.ListComp elt [⟨t1,i1,f1,0⟩,⟨t2,i2,f2,0⟩] scope pos) 1 (.ref it) (.ref D) X.env).onRaise (fun x => do noteFrame x X.env;theTreesLotGoes x)) _ _ s'
    refine wpAny_noted ?_
    rw [CJ]
    refine wpAny_bind (wpAny_standAt (wpAny_bind ?_))
    obtain ⟨i,σ5,H5,I5,st5,fr5,w5⟩ := hI
    rcases turn i n σ5 H5 w5 with ⟨stop,q⟩ | ⟨go,step⟩
    · refine thn (T.done X rfl rfl rfl hc i pins s' σ5 H5 _ I5 (stat fr5) st5 stop) fun r s6 ⟨hr,I6⟩ => ?_
      subst hr
      exact wpAny_pure (hk _ σ5 H5 I6 q)
    · refine thn (T.item X rfl rfl rfl hc i pins s' σ5 H5 _ I5 (stat fr5) st5 go) fun r s6 ⟨u,hr,h6⟩ => ?_
      subst hr
      refine wpAny_bind (thn h6 fun _ s7 ⟨x,H7,I7,r7,y7,st7,fr7⟩ => ?_)
      have I7' := I7.pinned (stat fr7) (T.obj _ _ st7)
      have again : ∀ {σ8 : L2.St} {H8 : Hp} {s8 : Shared},Inv X (pins ++ EO fp s7.heap) σ8 H8 s8 → (∃ n',n' < n∧W (i + 1) n' σ8 H8) →
          ∃ m',m' < n∧∃ i σ' H',Inv X pins σ' H' s8∧tn i s8.heap∧(∀ b ∈ fp,H' b = none)∧W i m' σ' H' := fun {σ8 H8 s8} I8 ⟨n',hn,w8⟩ => by
        refine ⟨n',hn,i + 1,σ8,H8,I8.unpinned,T.keep _ _ _ st7 fun b hb o e => (I8.pin (b,o) (List.mem_append_right _ (List.mem_append_right _ (zS hb e)))).1,fun b hb => ?_,w8⟩
        obtain ⟨o,e,d⟩ := T.obj _ _ st7 b hb
        exact (I8.pin (b,o) (List.mem_append_right _ (List.mem_append_right _ (zS hb e)))).2.1
      refine wpAny_bind (wpAny_mono (hg _ s7 σ5 H7 x u _ I7' r7 (step x H7 y7)) (fun _ s8 ⟨σ8,H8,I8,q8⟩ => ?_) fun _ _ z => (hx _ _ z).elim)
      refine wpAny_bind (wpAny_mono (hf _ s8 σ8 H8 _ I8 q8) (fun k s9 ⟨H9,I9,q9⟩ => ?_) fun _ _ z => (hx _ _ z).elim)
      cases k with
      | false =>
        rw [if_neg Bool.false_ne_true] at q9
        exact wpAny_pure ⟨rfl,again I9 q9⟩
      | true =>
        rw [if_pos rfl] at q9
        refine wpAny_bind (wpAny_bind (wpAny_mono (he _ s9 σ8 H9 _ I9 q9) (fun w s10 ⟨y,H10,I10,r10,q10⟩ => ?_) fun _ _ z => (hx _ _ z).elim))
        obtain ⟨zs,hz,hl,q10⟩ := q10
        refine wpAny_bind (wpAny_mono (V7 (X := X) _ s10 σ8 H10 (.ref D) [y] (.ref D) [w] (fun _ H11 => H11 = upd H10 D (.lst (zs ++ [y]))) I10 rfl (.cons r10 .nil) ⟨D,zs,y,rfl,rfl,hz,hl,rfl⟩) (fun _ s11 ⟨_,H11,I11,_,e11⟩ => ?_) fun _ _ z => (hx _ _ z).elim)
        subst e11
        exact wpAny_pure (wpAny_pure ⟨rfl,again I11 q10⟩)
  exact JJ loop (T.self X.A 0 _ _ _ st2 loop)
def qi6 (wi : TI) (g : TG) (tif : TT) (wi2 : TI) (g2 : TG) (tif2 : TT) (te : TE) (m : List (Option Nat)) : TE := fun σ H Q => wi σ H fun J H1 => ∀ D,H1 D = none →
 ∃ W : Nat → Nat → L2.St → Hp → Prop,(∃ n,W 0 n (cap m σ) (upd H1 D (.lst [])))∧∀ i n σ H,W i n σ H →
  (J.stop i H∧Q (.ref D) H) ∨ (J.go i H∧∀ x H',J.yld i H x H' → g x σ H' fun σ2 H2 => tif σ2 H2 fun k H3 =>
   if k = true then tIn wi2 g2 tif2 te D (fun σ4 H4 => ∃ n',n' < n∧W (i + 1) n' σ4 H4) σ2 H3
   else ∃ n',n' < n∧W (i + 1) n' σ2 H3)
theorem qfR {elt tg iter t2 i2 : Expr} {ifs f2 : List Expr} {scope : Scope} {pos : Pos} {N' : List Str} {m : List (Option Nat)} {wi : TI} {g : TG} {tif : TT} {wi2 : TI} {g2 : TG} {tif2 : TT} {te : TE} (hc : X.calm = true) (hi : PI X tg iter wi)
  (hg : ∀ s H fp,PG (qq X N' scope s H fp) tg g) (hf : ∀ s H fp,PF (qq X N' scope s H fp) ifs tif) (hi2 : ∀ s H fp,PI (qq X N' scope s H fp) t2 i2 wi2) (hg2 : ∀ s H fp,PG (qq X N' scope s H fp) t2 g2) (hf2 : ∀ s H fp,PF (qq X N' scope s H fp) f2 tif2) (he : ∀ s H fp,PE (qq X N' scope s H fp) elt te)
  (hsc : MD X.env.scope scope = true) (hcap : Y9 X.N N' scope m = true) (hs : ∀ x,foldedSetIterable iter X.env x = pure x := by intro _;rfl) (hs2 : ∀ s H fp x,foldedSetIterable i2 (qq X N' scope s H fp).env x = pure x := by intro _ _ _ _;rfl) :
  PE X (.ListComp elt [⟨tg,iter,ifs,0⟩,⟨t2,i2,f2,0⟩] scope pos) (qi6 wi g tif wi2 g2 tif2 te m) := by
 intro pins s σ H Q I h
 have sc := EH hsc
 have hcl : ∀ y ∈ scope.names,y.2 = .free → ∃ c,X.env.cells.lookup y.1 = some c := fun y hy e => by
  rcases (sc.free y hy e).2 with z | z
  ·exact I.ok.has y.1 (.inl z)
  ·exact I.ok.has y.1 (.inr z)
 rw [eval_ListComp]
 refine wpAny_comprehension_free (use := none) (g := ⟨tg,iter,ifs,0⟩) (gs := [⟨t2,i2,f2,0⟩]) rfl hs (Z8 hcl) sc.kind sc.loc ?_
 show wpAny _ _ (eval iter X.env) _ _ s
 refine thn (hi pins s σ H _ I h) fun v s1 h1 => thn h1 fun itv s2 h2 => ?_
 obtain ⟨it,fp,tn,J,H2,rfl,I2,T,st2,fF2,hW⟩ := h2
 refine wpAny_newObj_type ?_
 have hD : H2 s2.heap.objs.size = none := I2.fresh
 obtain ⟨W,⟨n0,w0⟩,turn⟩ := hW _ hD
 generalize hDe : s2.heap.objs.size = D at *
 have I3 : Inv X pins σ (upd H2 D (.lst [])) { s2 with heap := s2.heap.push { cls := .type "list",dict := none,data := .seq ([] : List Value).toArray } } := by
  subst hDe
  exact I2.laid (t' := s2.toks) (fun b u e => Heap.get?_push_of_some _ e) (Nat.le_refl _) ⟨Nat.zero_le _,[],0,.nil,Heap.get?_push_size _ rfl⟩
 have ob2 := T.obj 0 _ st2
 have ob3 : ∀ b ∈ fp,∃ o,(s2.heap.push { cls := .type "list",dict := none,data := .seq ([] : List Value).toArray }).get? b = some o := fun b hb => let ⟨o,e,_⟩ := ob2 b hb;⟨o,Heap.get?_push_of_some _ e⟩
 have f3 : ∀ b ∈ fp,RN X pins (upd H2 D (.lst [])) b := fun b hb => by
  obtain ⟨o,e,_⟩ := ob2 b hb
  have : b ≠ D := by rw [← hDe];exact Nat.ne_of_lt (Heap.lt_size e)
  exact ⟨by rw [qV this];exact (fF2 b hb).1,(fF2 b hb).2⟩
 have k23 : ∀ b o,s2.heap.get? b = some o → (s2.heap.push { cls := .type "list",dict := none,data := .seq ([] : List Value).toArray }).get? b = some o := fun b o e => Heap.get?_push_of_some _ e
 generalize hH3 : upd H2 D (.lst []) = H3 at *
 generalize hs3 : ({ s2 with heap := s2.heap.push { cls := .type "list",dict := none,data := .seq ([] : List Value).toArray } } : Shared) = s3 at *
 have ob3 : ∀ b ∈ fp,∃ o,s3.heap.get? b = some o := by rw [← hs3];exact ob3
 have k23 : ∀ b o,s2.heap.get? b = some o → s3.heap.get? b = some o := by rw [← hs3];exact k23
 refine j0 fun h₁ hns hk hown => ?_
 have I4 : Inv (qq X N' scope s3 H3 fp) [] (cap m σ) H3 { s3 with heap := h₁ } := C2 hc I3 sc hcap f3 ob3 hns hk hown
 have tn4 : tn 0 h₁ := T.keep _ _ _ st2 fun b hb o e => hk b o (k23 b o e)
 have fr4 : ∀ b ∈ fp,H3 b = none := fun b hb => (f3 b hb).1
 have stat : ∀ {H' : Hp},(∀ b ∈ fp,H' b = none) → ∀ b ∈ fp,RN (qq X N' scope s3 H3 fp) [] H' b := fun hn b hb => by
  refine ⟨hn b hb,I4.ok.exf b hb |>.1,I4.ok.exfs b hb,.inl hb,fun x c e => (I4.ok.exf b hb).2 x c e,fun p hp => absurd (show p ∈ ([] : List (Addr × Obj)) from hp) (by simp)⟩
 show codeAny (model X.prog X.w) X.A (.compStart (.ListComp elt [⟨tg,iter,ifs,0⟩,⟨t2,i2,f2,0⟩] scope pos) 0 (.ref it) (.ref D) (qq X N' scope s3 H3 fp).env) (compPost (model X.prog X.w) X.A X.xe none (EP X pins σ Q) (.ref D) s3.heap.objs.size) { s3 with heap := h₁ }
 have loop : codeAny (model X.prog X.w) X.A (.compLoop (.ListComp elt [⟨tg,iter,ifs,0⟩,⟨t2,i2,f2,0⟩] scope pos) 0 (.ref it) (.ref D) (qq X N' scope s3 H3 fp).env) (compPost (model X.prog X.w) X.A X.xe none (EP X pins σ Q) (.ref D) s3.heap.objs.size) { s3 with heap := h₁ } := by
  refine codeAny_loop rfl (fun n s' => ∃ i σ' H',Inv (qq X N' scope s3 H3 fp) [] σ' H' s'∧tn i s'.heap∧(∀ b ∈ fp,H' b = none)∧W i n σ' H') (fun n s' hI => ?_) n0 ⟨0,cap m σ,H3,I4,tn4,fr4,w0⟩
  show wpAny _ X.A ((compTurn (.ListComp elt [⟨tg,iter,ifs,0⟩,⟨t2,i2,f2,0⟩] scope pos) 0 (.ref it) (.ref D) (qq X N' scope s3 H3 fp).env).onRaise (fun x => do noteFrame x (qq X N' scope s3 H3 fp).env;theTreesLotGoes x)) _ _ s'
  refine wpAny_noted ?_
  rw [CP]
  refine wpAny_bind (wpAny_standAt (wpAny_bind ?_))
  obtain ⟨i,σ5,H5,I5,st5,fr5,w5⟩ := hI
  rcases turn i n σ5 H5 w5 with ⟨stop,q⟩ | ⟨go,step⟩
  ·refine thn (T.done (qq X N' scope s3 H3 fp) rfl rfl rfl rfl i [] s' σ5 H5 _ I5 (stat fr5) st5 stop) fun r s6 ⟨hr,I6⟩ => ?_
   subst hr
   refine wpAny_pure ?_
   obtain ⟨mm,hn6,_⟩ := I6.loc
   exact ⟨mm,hn6,fun h' sb => ⟨.ref D,H5,ED I3 f3 I6 sb,rfl,q⟩⟩
  ·refine thn (T.item (qq X N' scope s3 H3 fp) rfl rfl rfl rfl i [] s' σ5 H5 _ I5 (stat fr5) st5 go) fun r s6 ⟨u,hr,h6⟩ => ?_
   subst hr
   refine wpAny_bind (thn h6 fun _ s7 ⟨x,H7,I7,r7,y7,st7,fr7⟩ => ?_)
   have I7' := I7.pinned (stat fr7) (T.obj _ _ st7)
   have again : ∀ {σ8 : L2.St} {H8 : Hp} {s8 : Shared},Inv (qq X N' scope s3 H3 fp) ([] ++ EO fp s7.heap) σ8 H8 s8 → (∃ n',n' < n∧W (i + 1) n' σ8 H8) →
     ∃ m',m' < n∧∃ i σ' H',Inv (qq X N' scope s3 H3 fp) [] σ' H' s8∧tn i s8.heap∧(∀ b ∈ fp,H' b = none)∧W i m' σ' H' := fun {σ8 H8 s8} I8 ⟨n',hn,w8⟩ => by
    refine ⟨n',hn,i + 1,σ8,H8,I8.unpinned,T.keep _ _ _ st7 fun b hb o e => (I8.pin (b,o) (List.mem_append_right _ (List.mem_append_right _ (zS hb e)))).1,fun b hb => ?_,w8⟩
    obtain ⟨o,e,d⟩ := T.obj _ _ st7 b hb
    exact (I8.pin (b,o) (List.mem_append_right _ (List.mem_append_right _ (zS hb e)))).2.1
   refine wpAny_bind (wpAny_mono (hg s3 H3 fp _ s7 σ5 H7 x u _ I7' r7 (step x H7 y7)) (fun _ s8 ⟨σ8,H8,I8,q8⟩ => ?_) fun _ _ z => z.elim)
   refine wpAny_bind (wpAny_mono (hf s3 H3 fp _ s8 σ8 H8 _ I8 q8) (fun k s9 ⟨H9,I9,q9⟩ => ?_) fun _ _ z => z.elim)
   cases k with
   | false =>
    rw [if_neg Bool.false_ne_true] at q9
    exact wpAny_pure ⟨rfl,again I9 q9⟩
   | true =>
    rw [if_pos rfl] at q9
    refine qeP (X := qq X N' scope s3 H3 fp) rfl (fun _ _ z => z) (hi2 s3 H3 fp) (hg2 s3 H3 fp) (hf2 s3 H3 fp) (he s3 H3 fp) (hs2 s3 H3 fp) I9 q9 fun s10 σ10 H10 I10 q10 => ?_
    exact wpAny_pure ⟨rfl,again I10 q10⟩
 exact codeAny_compStart_list loop (T.self X.A 0 _ _ _ tn4 loop)
end
end L3
namespace L3
open PySem PySem.Spec PyProof.Rows L2
def qbi (D : Addr) (stay : Gp → Prop) (g : TG3) (tif : TT3) (te : TE3) (N : St3 → Gp → Prop) : List T → St3 → Gp → Prop
 | [],τ,G => stay G∧N τ G
 | x :: r,τ,G => stay G∧g x τ G fun τ2 G2 => tif τ2 G2 fun k G3 =>
  if k = true then te τ2 G3 fun y G4 => (match G4 D with | some (.lst ys) => ys.length < sizeLine∧qbi D stay g tif te N r τ2 (gu G4 D (.lst (ys ++ [y]))) | _ => False) else qbi D stay g tif te N r τ2 G3
def SO (D : Addr) (stay : Gp → Prop) (g : TG3) (tif : TT3) (wi2 : TI3) (g2 : TG3) (tif2 : TT3) (te : TE3) (q : Q3) : List T → St3 → Gp → Prop
 | [],_,G => stay G∧q (.ref D) G
 | x :: r,τ,G => stay G∧g x τ G fun τ2 G2 => tif τ2 G2 fun k G3 =>
  if k = true then wi2 τ2 G3 fun items2 stay2 G4 => qbi D stay2 g2 tif2 te (fun τ' G' => SO D stay g tif wi2 g2 tif2 te q r τ' G') items2 τ2 G4 else SO D stay g tif wi2 g2 tif2 te q r τ2 G3
def qdK (wi : TI3) (g : TG3) (tif : TT3) (wi2 : TI3) (g2 : TG3) (tif2 : TT3) (te : TE3) (m : List (Option Nat)) : TE3 := fun τ G q => wi τ G fun items stay G1 => ∀ D,G1 D = none → SO D stay g tif wi2 g2 tif2 te q items (cap m τ) (gu G1 D (.lst []))
section
variable {K : PySem.W.Frag}
theorem qdr {wi2 : TI3} {g2 : TG3} {tif2 : TT3} {te : TE3} {D : Addr} {N3 : St3 → Gp → Prop} {N : L2.St → Hp → Prop} {τ : St3} {G : Gp} {σ : L2.St} {H : Hp} {Gb : Gp} {Hb : Hp} (rl : Rel K τ G σ H) (kb : Kp Gb Hb G H) (h : wi2 τ G fun items stay G1 => qbi D stay g2 tif2 te N3 items τ G1)
  (hN : ∀ τ' G' σ' H',Rel K τ' G' σ' H' → Kp Gb Hb G' H' → N3 τ' G' → N σ' H') : tIn (lI K wi2) (lG K g2) (lT K tif2) (lE K te) D N σ H := by
 refine ⟨τ,G,_,rl,h,fun items stay G1 h1 J H1 hr1 k1 ok => ?_⟩
 refine ⟨fun i n σ' H' => n = items.length - i∧i ≤ items.length∧∃ τ' G',Rel K τ' G' σ' H'∧Kp G1 H1 G' H'∧qbi D stay g2 tif2 te N3 (items.drop i) τ' G',⟨_,rfl,Nat.zero_le _,τ,G1,rl.next hr1 k1,Kp.refl,by simpa using h1⟩,?_⟩
 rintro i n σ' H' ⟨rfl,hi,τ',G',rl',k',h'⟩
 by_cases hlt : i < items.length
 ·rw [List.drop_eq_getElem_cons hlt] at h'
  obtain ⟨hst,h'⟩ := h'
  obtain ⟨go,yld,_⟩ := ok G' H' rl'.hp k' hst
  have hx : items[i]? = some items[i] := List.getElem?_eq_getElem hlt
  refine .inr ⟨go i _ hx,fun v H2 y => ?_⟩
  obtain ⟨rv,hr2,k2⟩ := yld i _ v H2 hx y
  refine ⟨_,τ',G',_,rv,rl'.next hr2 k2,h',fun τ3 G3 h3 σ3 H3 rl3 k3 => ⟨τ3,G3,_,rl3,h3,fun k G4 h4 H4 hr4 k4 => ?_⟩⟩
  have kk := (k2.trans k3).trans k4
  cases k with
  | false =>
   rw [if_neg Bool.false_ne_true] at h4
   refine qg4 ?_
   exact ⟨_,by omega,rfl,hlt,τ3,G4,rl3.next hr4 k4,k'.trans kk,h4⟩
  | true =>
   rw [if_pos rfl] at h4
   refine qgY ?_
   refine ⟨τ3,G4,_,rl3.next hr4 k4,h4,fun z G5 h5 w H5 rw5 hr5 k5 => ?_⟩
   split at h5
   ·rename_i ys e1
    obtain ⟨vs,g1,r1⟩ := hr5.lst e1
    exact ⟨vs,g1,by rw [← r1.length];exact h5.1,_,by omega,rfl,hlt,τ3,_,((rl3.next hr4 k4).next hr5 k5).next (hr5.wr e1 (r1.append (.cons rw5 .nil))) (Kp.wr e1),((k'.trans kk).trans k5).trans (Kp.wr e1),h5.2⟩
   ·exact h5.elim
 ·have e : i = items.length := by omega
  subst e
  rw [List.drop_length] at h'
  obtain ⟨_,_,stop⟩ := ok G' H' rl'.hp k' h'.1
  exact .inl ⟨stop,hN _ _ _ _ rl' ((kb.trans k1).trans k') h'.2⟩
end
section
variable {X : Cx}
theorem qhb {elt tg iter t2 i2 : Expr} {ifs f2 : List Expr} {scope : Scope} {pos : Pos} (N' : List Str) (m : List (Option Nat)) {wi : TI3} {g : TG3} {tif : TT3} {wi2 : TI3} {g2 : TG3} {tif2 : TT3} {te : TE3} (hc : X.calm = true) (hi : I3 X tg iter wi)
  (hg : ∀ s H fp,G3 (qq X N' scope s H fp) tg g) (hf : ∀ s H fp,F3 (qq X N' scope s H fp) ifs tif) (hi2 : ∀ s H fp,I3 (qq X N' scope s H fp) t2 i2 wi2) (hg2 : ∀ s H fp,G3 (qq X N' scope s H fp) t2 g2) (hf2 : ∀ s H fp,F3 (qq X N' scope s H fp) f2 tif2) (he : ∀ s H fp,E3 (qq X N' scope s H fp) elt te)
  (hsc : MD X.env.scope scope = true) (hcap : Y9 X.N N' scope m = true) (hs : ∀ x,foldedSetIterable iter X.env x = pure x := by intro _;rfl) (hs2 : ∀ s H fp x,foldedSetIterable i2 (qq X N' scope s H fp).env x = pure x := by intro _ _ _ _;rfl) :
  E3 X (.ListComp elt [⟨tg,iter,ifs,0⟩,⟨t2,i2,f2,0⟩] scope pos) (qdK wi g tif wi2 g2 tif2 te m) :=
 W4 (qfR (g := lG X.K g) (tif := lT X.K tif) (wi2 := lI X.K wi2) (g2 := lG X.K g2) (tif2 := lT X.K tif2) (te := lE X.K te) hc hi hg hf hi2 hg2 hf2 he hsc hcap hs hs2) fun σ H Q ⟨τ,G,q,rl,h,af⟩ => by
  refine ⟨τ,G,_,rl,h,fun items stay G1 h1 J H1 hr1 k1 ok D hD => ?_⟩
  have gD : G1 D = none := hr1.free hD
  have h1 := h1 D gD
  have hr1' : HR X.K (gu G1 D (.lst [])) (upd H1 D (.lst [])) := HR.newL hr1 hD .nil
  have k1' : Kp G1 H1 (gu G1 D (.lst [])) (upd H1 D (.lst [])) := Kp.newL hD
  refine ⟨fun i n σ' H' => n = items.length - i∧i ≤ items.length∧∃ τ' G',Rel X.K τ' G' σ' H'∧Kp G1 H1 G' H'∧SO D stay g tif wi2 g2 tif2 te q (items.drop i) τ' G',
   ⟨_,rfl,Nat.zero_le _,cap m τ,_,((rl.next hr1 k1).cap m).next hr1' k1',k1',by simpa using h1⟩,?_⟩
  rintro i n σ' H' ⟨rfl,hi,τ',G',rl',k',h'⟩
  by_cases hlt : i < items.length
  ·rw [List.drop_eq_getElem_cons hlt] at h'
   obtain ⟨hst,h'⟩ := h'
   obtain ⟨go,yld,_⟩ := ok G' H' rl'.hp k' hst
   have hx : items[i]? = some items[i] := List.getElem?_eq_getElem hlt
   refine .inr ⟨go i _ hx,fun v H2 y => ?_⟩
   obtain ⟨rv,hr2,k2⟩ := yld i _ v H2 hx y
   refine ⟨_,τ',G',_,rv,rl'.next hr2 k2,h',fun τ3 G3 h3 σ3 H3 rl3 k3 => ⟨τ3,G3,_,rl3,h3,fun k G4 h4 H4 hr4 k4 => ?_⟩⟩
   have kk := (k2.trans k3).trans k4
   cases k with
   | false =>
    rw [if_neg Bool.false_ne_true] at h4
    refine qg4 ?_
    exact ⟨_,by omega,rfl,hlt,τ3,G4,rl3.next hr4 k4,k'.trans kk,h4⟩
   | true =>
    rw [if_pos rfl] at h4
    refine qgY ?_
    exact qdr (rl3.next hr4 k4) (k'.trans kk) h4 fun τ5 G5 σ5 H5 rl5 k5 h5 => ⟨_,by omega,rfl,hlt,τ5,G5,rl5,k5,h5⟩
  ·have e : i = items.length := by omega
   subst e
   rw [List.drop_length] at h'
   obtain ⟨_,_,stop⟩ := ok G' H' rl'.hp k' h'.1
   exact .inl ⟨stop,af _ _ h'.2 _ H' (.ref D) rl'.hp (k1.trans k')⟩
theorem qbb {elt tg iter t2 i2 : Expr} {ifs f2 : List Expr} {scope : Scope} {pos : Pos} (N' : List Str) (m : List (Option Nat)) {wi : TI3} {g : TG3} {tif : TT3} {wi2 : TI3} {g2 : TG3} {tif2 : TT3} {te : TE3} (hc : X.calm = true) (hi : jI3 X tg iter wi)
  (hg : ∀ s H fp,jG3 (qq X N' scope s H fp) tg g) (hf : ∀ s H fp,jF3 (qq X N' scope s H fp) ifs tif) (hi2 : ∀ s H fp,jI3 (qq X N' scope s H fp) t2 i2 wi2) (hg2 : ∀ s H fp,jG3 (qq X N' scope s H fp) t2 g2) (hf2 : ∀ s H fp,jF3 (qq X N' scope s H fp) f2 tif2) (he : ∀ s H fp,jE3 (qq X N' scope s H fp) elt te)
  (hsc : MD X.env.scope scope = true) (hcap : Y9 X.N N' scope m = true) (hs : ∀ x,foldedSetIterable iter X.env x = pure x := by intro _;rfl) (hs2 : ∀ s H fp x,foldedSetIterable i2 (qq X N' scope s H fp).env x = pure x := by intro _ _ _ _;rfl) :
  jE3 X (.ListComp elt [⟨tg,iter,ifs,0⟩,⟨t2,i2,f2,0⟩] scope pos) (qdK wi g tif wi2 g2 tif2 te m) :=
 ⟨qhb N' m hc hi.h (fun s H fp => (hg s H fp).h) (fun s H fp => (hf s H fp).h) (fun s H fp => (hi2 s H fp).h) (fun s H fp => (hg2 s H fp).h) (fun s H fp => (hf2 s H fp).h) (fun s H fp => (he s H fp).h) hsc hcap hs hs2⟩
end
end L3
namespace L3
open PySem PySem.Spec PyProof.Rows L2
section
variable {X : Cx}
end
end L3
namespace L3
open PySem PySem.Spec PyProof.Rows L2
section
variable {X : Cx} {tg a b c : Expr} {pos : Pos}
end
end L3
namespace L3
open PySem PySem.Spec PyProof.Rows L2
section
variable {X : Cx}
end
end L3
namespace L3
open PySem PySem.Spec PyProof.Rows L2
theorem R9 {α : Type} {items : List α} {i : Nat} {x : α} {r : List α} (e : items.drop i = x :: r) : i < items.length∧items[i]? = some x∧items.drop (i + 1) = r := by
 have hl : i < items.length := by
  apply Classical.byContradiction
  intro z
  rw [List.drop_eq_nil_of_le (by omega)] at e
  cases e
 have e' := List.drop_eq_getElem_cons hl
 rw [e] at e'
 injection e' with e1 e2
 exact ⟨hl,by rw [List.getElem?_eq_getElem hl,e1],e2.symm⟩
theorem T8 {α : Type} {items : List α} {i : Nat} (e : items.drop i = []) (hi : i ≤ items.length) : i = items.length := by
 have := congrArg List.length e
 simp at this
 omega
theorem KN {D : Addr} {stay : Gp → Prop} {g : TG3} {tif : TT3} {te : TE3} {N : St3 → Gp → Prop} (items : List T) (Pv : Nat → St3 → Gp → Prop) {τ : St3} {G : Gp} (h0 : Pv 0 τ G) (hst : ∀ i τ G,i ≤ items.length → Pv i τ G → stay G)
  (hs : ∀ i x τ G (R : St3 → Gp → Prop),items[i]? = some x → Pv i τ G → (∀ τ' G',Pv (i + 1) τ' G' → R τ' G') →
   g x τ G fun τ2 G2 => tif τ2 G2 fun k G3 => if k = true then te τ2 G3 fun y G4 => (match G4 D with | some (.lst ys) => ys.length < sizeLine∧R τ2 (gu G4 D (.lst (ys ++ [y]))) | _ => False) else R τ2 G3)
  (hd : ∀ τ G,Pv items.length τ G → N τ G) : qbi D stay g tif te N items τ G := by
 have key : ∀ (r : List T) (i : Nat) τ G,items.drop i = r → i ≤ items.length → Pv i τ G → qbi D stay g tif te N r τ G := by
  intro r
  induction r with
  | nil =>
   intro i τ G e hi p
   have := T8 e hi
   subst this
   exact ⟨hst _ τ G hi p,hd τ G p⟩
  | cons x r ih =>
   intro i τ G e hi p
   obtain ⟨hl,hx,e2⟩ := R9 e
   exact ⟨hst i τ G hi p,hs i x τ G _ hx p fun τ2 G2 p2 => ih (i + 1) τ2 G2 e2 hl p2⟩
 exact key items 0 τ G (by simp) (Nat.zero_le _) h0
theorem RS {D : Addr} {stay : Gp → Prop} {g : TG3} {tif : TT3} {wi2 : TI3} {g2 : TG3} {tif2 : TT3} {te : TE3} {q : Q3} (items : List T) (Pv : Nat → St3 → Gp → Prop) {τ : St3} {G : Gp} (h0 : Pv 0 τ G) (hst : ∀ i τ G,i ≤ items.length → Pv i τ G → stay G)
  (hs : ∀ i x τ G (R : St3 → Gp → Prop),items[i]? = some x → Pv i τ G → (∀ τ' G',Pv (i + 1) τ' G' → R τ' G') →
   g x τ G fun τ2 G2 => tif τ2 G2 fun k G3 => if k = true then wi2 τ2 G3 fun items2 stay2 G4 => qbi D stay2 g2 tif2 te R items2 τ2 G4 else R τ2 G3)
  (hd : ∀ τ G,Pv items.length τ G → q (.ref D) G) : SO D stay g tif wi2 g2 tif2 te q items τ G := by
 have key : ∀ (r : List T) (i : Nat) τ G,items.drop i = r → i ≤ items.length → Pv i τ G → SO D stay g tif wi2 g2 tif2 te q r τ G := by
  intro r
  induction r with
  | nil =>
   intro i τ G e hi p
   have := T8 e hi
   subst this
   exact ⟨hst _ τ G hi p,hd τ G p⟩
  | cons x r ih =>
   intro i τ G e hi p
   obtain ⟨hl,hx,e2⟩ := R9 e
   exact ⟨hst i τ G hi p,hs i x τ G (fun τ2 G2 => SO D stay g tif wi2 g2 tif2 te q r τ2 G2) hx p fun τ2 G2 p2 => ih (i + 1) τ2 G2 e2 hl p2⟩
 exact key items 0 τ G (by simp) (Nat.zero_le _) h0
end L3
namespace L3
open PySem PySem.Spec PyProof.Rows L2
section
variable {X : Cx} {a b : Expr} {ta tb : TE3} {pos : Pos}
structure ShW (d : PyData) : Prop where
 sh : d.showable = true
 nd : d.hasDict = false
 dp : d.depth ≤ 40
 fit : d.shown.length ≤ sizeLine
theorem ShOk.w {d : PyData} (h : ShOk d) : ShW d := ⟨h.sh,h.nd,h.dp,PyData.shown_fits_bulk (by decide) (by decide) h.lv h.bk⟩
theorem NY (hg : X.A.guards = some []) (hu : X.A.units + 64 < cLine) : ZI X (.type "str") (fun xs H Q => ∃ a d,xs = [.ref a]∧DV X.K H (.ref a) d∧ShW d∧Q (.str d.shown) H) := by
 intro pins s σ H xs us Q I r h
 obtain ⟨a,d,rfl,dv,ok,q⟩ := h
 obtain ⟨u,rfl,rp⟩ := EJ r
 cases (show u = Value.ref a from rp)
 obtain ⟨as,rd⟩ := dv.reads I (show jx (.ref a) (.ref a) from rfl)
 refine str_of_reads rd ok.sh (PyData.noDict_hsm ok.nd) hg (by have := ok.dp;omega) (fun _ _ e => e) (fun h' u tk hk => ?_) ok.fit
 exact ⟨.str _,H,I.kept (h' := h') (t' := tk) hk,⟨_,rfl⟩,q⟩
def shV (st : Bool) : V → Hp → (Str → Prop) → Prop := fun v H q => match v with
 | .non => q (Str.ofString "None")
 | .bl b => q (if b = true then Str.ofString "True" else Str.ofString "False")
 | .int i => i.natAbs.log2 < 1920∧q (Str.ofString (toString i))
 | .str x => if st then q x else (reprText x).length ≤ sizeLine∧q (reprText x)
 | .ref a => ∃ d,DV X.K H (.ref a) d∧ShW d∧q d.shown
 | _ => False
theorem WO (hg : X.A.guards = some []) (hu : X.A.units + 64 < cLine) : ZI X (.type "str") (fun xs H Q => ∃ v,xs = [v]∧shV (X := X) true v H fun x => Q (.str x) H) := by
 intro pins s σ H xs us Q I r h
 obtain ⟨v,rfl,h⟩ := h
 obtain ⟨u,rfl,rp⟩ := EJ r
 cases v with
 | non => cases (show u = Value.none from rp);exact P.str_of_none ⟨.str _,H,I.tok _,⟨_,rfl⟩,h⟩
 | bl b => cases (show u = Value.bool b from rp);exact P.str_of_bool ⟨.str _,H,I.tok _,⟨_,rfl⟩,h⟩
 | int i => obtain ⟨t,rfl⟩ := (show ∃ t,u = Value.int i t from rp);exact P.str_of_int h.1 ⟨.str _,H,I.tok _,⟨_,rfl⟩,h.2⟩
 | str x => obtain ⟨t,rfl⟩ := (show ∃ t,u = Value.str x t from rp);exact P.str_of_str ⟨.str _,H,I,⟨_,rfl⟩,h⟩
 | ref a =>
  obtain ⟨d,dv,ok,q⟩ := h
  exact NY hg hu _ _ _ _ _ _ _ I r ⟨a,d,rfl,dv,ok,q⟩
 | _ => exact h.elim
def shT (st : Bool) : T → Gp → (Str → Prop) → Prop := fun x G q => match x with
 | .non => q (Str.ofString "None")
 | .bl b => q (if b = true then Str.ofString "True" else Str.ofString "False")
 | .int i => i.natAbs.log2 < 1920∧q (Str.ofString (toString i))
 | .str x => if st then q x else (reprText x).length ≤ sizeLine∧q (reprText x)
 | .tup _ => ∃ d,Dp G x d∧ShW d∧q d.shown
 | .ref _ => ∃ d,Dp G x d∧ShW d∧q d.shown
def LF (st : Bool) : List T → Gp → Q3 → Prop := fun xs G q => match xs with
 | [x] => shT st x G fun y => q (.str y) G
 | _ => False
theorem K1 {st : Bool} : SJ X.K (LF st) (fun xs H Q => ∃ v,xs = [v]∧shV (X := X) st v H fun x => Q (.str x) H) := fun xs vs G H q Q hr rs h af => by
 unfold LF at h
 split at h
 ·rename_i x
  obtain ⟨v,rfl,r⟩ := X9 rs
  refine ⟨v,rfl,?_⟩
  cases r with
  | non => exact af _ G h _ H (.str _) hr Kp.refl
  | bl b => exact af _ G h _ H (.str _) hr Kp.refl
  | int i => exact ⟨h.1,af _ G h.2 _ H (.str _) hr Kp.refl⟩
  | str x =>
   cases st with
   | true => exact af _ G h _ H (.str _) hr Kp.refl
   | false => exact ⟨h.1,af _ G h.2 _ H (.str _) hr Kp.refl⟩
  | tup hs r2 =>
   obtain ⟨d,h1,h2,h3⟩ := h
   exact ⟨d,h1.dv hr (.tup hs r2),h2,af _ G h3 _ H (.str _) hr Kp.refl⟩
  | ref a =>
   obtain ⟨d,h1,h2,h3⟩ := h
   exact ⟨d,h1.dv hr (.ref a),h2,af _ G h3 _ H (.str _) hr Kp.refl⟩
 ·exact h.elim
end
end L3
namespace HT
open PySem PySem.Spec PyProof.Rows
section
variable {prog : Program} {w : World} {A : Around} {E : Value → Shared → Prop} {s : Shared}
end
end HT
namespace L3
open PySem PySem.Spec PyProof.Rows L2
section
variable {X : Cx} {e ek : Expr} {p2 pos : Pos}
end
end L3
namespace L3
open PySem PySem.Spec PyProof.Rows L2
section
variable {X : Cx} {a b : Expr} {ta tb : TE3} {pos : Pos}
end
end L3
namespace L3
open PySem PySem.Spec PyProof.Rows L2
abbrev Rd (sp : Sp3) (n : Nat) (t : TS3) (N : List Str) : Prop := ∀ ts G q,sp ts G q → ts.length = n∧t { nx := fun _ G' => q .non G',rt := q } (qi N ts) G
theorem jgn {pos : Pos} {X : Cx} {x : Str} (i : Nat) (hN : decide X.N.Nodup = true := by kernel_rfl) (hi : X.N[i]? = some x := by rfl) (hx : Loc X.env.scope x := by first | exact Or.inl rfl | exact Or.inr rfl) (hf : X.fn x = true ∨ X.env.scope.names.lookup x = some .local := by first | exact .inl rfl | exact .inr rfl) : jG3 X (.Name x pos) (gn3 i) :=
 qt (of_decide_eq_true hN) hi hx hf
end L3
namespace L2
open PySem PySem.Spec PyProof.Rows
section
variable {X : Cx} {pos : Pos}
end
end L2
namespace L3
open PySem PySem.Spec PyProof.Rows L2
section
variable {X : Cx} {pos : Pos}
end
end L3
namespace L3
open PySem PySem.Spec PyProof.Rows L2
section
variable {X : Cx} {K : PySem.W.Frag} {w : World} {mg : Str → Option Value}
inductive Ents (K : PySem.W.Frag) (w : World) : List DictEntry → List (Str × T) → Prop
 | nil : Ents K w [] []
 | cons {x : Str} {tk : Tok} {u : Value} {v : V} {t : T} {es : List DictEntry} {tab : List (Str × T)} : jx v u → (∀ H,Rp K H t v) → Ents K w es tab → Ents K w (⟨PyData.keyHash w.params x,.str x tk,u⟩ :: es) ((x,t) :: tab)
def j5 : List (Str × T) → Str → Option T
 | [],_ => none
 | (y,t) :: r,x => if y = x then some t else j5 r x
structure Tb (K : PySem.W.Frag) (mg : Str → Option Value) (w : World) (x : Str) (tab : List (Str × T)) : Prop where
 at_ : ∃ (d : Addr) (es : Array DictEntry) (ep : Nat),mg x = some (.ref d)∧K.lookup d = some ⟨.type "dict",none,.dict es ep,#[]⟩∧(d == sysModules) = false∧Ents K w es.toList tab
theorem Ents.keys {P : Program} : ∀ {es : List DictEntry} {tab : List (Str × T)},Ents K w es tab → ∀ e ∈ es,∃ k,(PySem.strKind P w).is k e.key = true∧e.hash = (PySem.strKind P w).hash k
 | _,_,.nil,e,h => by cases h
 | _,_,.cons (x := x) a b t,e,h => by
  rcases List.mem_cons.mp h with rfl | h
  ·exact ⟨x,by show (x == x) = true;simp,rfl⟩
  ·exact Ents.keys t e h
theorem Ents.find : ∀ {es : List DictEntry} {tab : List (Str × T)} (x : Str),Ents K w es tab →
    (match j5 tab x with
     | some t => ∃ (u : Value) (v : V),(es.find? fun e => Value.isStrOf x e.key).map (·.val) = some u∧jx v u∧∀ H,Rp K H t v
     | none => (es.find? fun e => Value.isStrOf x e.key).map (·.val) = none)
  | _,_,x,.nil => by simp [j5]
  | _,_,x,.cons (x := y) (tk := tk) (u := u) (v := v) (t := t) (es := es) (tab := tab) a b r => by
    by_cases e : y = x
    · have : Value.isStrOf x (Value.str y tk) = true := by show (y == x) = true;simp [e]
      simp only [j5,e,if_true,List.find?_cons,this]
      subst e
      simp only [this]
      exact ⟨u,v,rfl,a,b⟩
    · have : Value.isStrOf x (Value.str y tk) = false := by show (y == x) = false;simp [e]
      have ih := Ents.find x r
      simp only [j5,e,if_false,List.find?_cons,this]
      exact ih
theorem Ents.map {P : Program} {h : Heap} {d : Addr} {es : Array DictEntry} {ep : Nat} {tab : List (Str × T)} (hd : h.get? d = some ⟨.type "dict",none,.dict es ep,#[]⟩) (en : Ents K w es.toList tab) :
  Heap.MapOf (PySem.strKind P w) h d (fun x => findBy Value.isStrOf es x) :=
 ⟨_,es,ep,hd,⟨rfl,rfl,rfl⟩,rfl,fun e he => en.keys e (by simpa using he),fun _ => rfl⟩
def qjr (K : PySem.W.Frag) (d : Addr) (tab : List (Str × T)) : R2 := fun x y H Q => x = .ref d∧∃ s t,y = .str s∧j5 tab s = some t∧∀ v,Rp K H t v → Q v H
theorem qeK {d : Addr} {es : Array DictEntry} {ep : Nat} {tab : List (Str × T)} (hk : X.K.lookup d = some ⟨.type "dict",none,.dict es ep,#[]⟩) (en : Ents X.K X.w es.toList tab) : IxR X (qjr X.K d tab) := by
 intro value slice pins s σ H x y v u Q I rx ry h hs
 obtain ⟨rfl,z,t,rfl,ht,q⟩ := h
 cases rx
 obtain ⟨tk,rfl⟩ := ry
 have hd := I.kIn _ _ hk
 have f := en.find z
 rw [ht] at f
 obtain ⟨u,v,hf,rv,rp⟩ := f
 have hf' : findBy Value.isStrOf es z = some u := by
  unfold findBy
  rw [← Array.find?_toList]
  exact hf
 refine subscriptTail_builtinR (x := u) ⟨_,hd,rfl⟩ PySem.F.slot_dict_getitem.lookup (wpAny_getItem_of (knd := PySem.strKind X.prog X.w) (Q := fun r s' => r = u∧EP X pins σ Q r s') (k := z) (by show (z == z) = true;simp) (en.map hd) hf' ⟨rfl,v,H,I.tok _,rv,q v (rp H)⟩) hs
def qa6 (tab : List (Str × T)) (te : TE3) : TE3 := fun τ G q => te τ G fun x G1 => match x with | .str s => (match j5 tab s with | some t => q t G1 | none => False) | _ => False
theorem qcu {x : Str} {e : Expr} {te : TE3} {tab : List (Str × T)} {p1 pos : Pos} (tb : Tb X.K X.mg X.w x tab) (hg : Gl X x) (he : jE3 X e te) (hs : EF e) (hd : (x == ("__debug__" : Str)) = false := by decide) : jE3 X (.Subscript (.Name x p1) e pos) (qa6 tab te) := by
 obtain ⟨d,es,ep,hm,hk,hn,en⟩ := tb.at_
 exact ⟨W4 (qfb (qeK hk en) (qdv hg hm (v := .ref d) rfl hd) he.h hs) fun _ _ _ ⟨τ,G,q,rl,h,af⟩ => zQ rl h fun y G1 h1 v H1 rx hr1 k1 rl1 => by
  cases y <;> try exact h1.elim
  case str z =>
   cases rx
   unfold qa6 at h
   simp only at h1
   split at h1
   ·rename_i t ht
    exact ⟨rfl,z,t,rfl,ht,fun v rv => af.back k1 _ _ h1 _ _ rv hr1 Kp.refl⟩
   ·exact h1.elim⟩
theorem UA (hc : X.calm = true) : ZI X (.builtin "min") (fun xs H Q => ∃ (p : Addr) (ns : List Int),xs = [.ref p]∧SqL X.K H p (ns.map V.int)∧ns ≠ []∧∀ m ∈ ns,(∀ a ∈ ns,m ≤ a) → Q (.int m) H) := by
 intro pins s σ H xs us Q I r h
 obtain ⟨p,ns,rfl,hq,hne,q⟩ := h
 obtain ⟨u,rfl,rp⟩ := EJ r
 cases (show u = Value.ref p from rp)
 obtain ⟨its,rv,pl,hz⟩ := I.list hq
 have hlen : its.length = ns.length := by have := rv.length;simp at this;omega
 have hpos : 0 < ns.length := List.length_pos_iff.mpr hne
 have hp : p < s.heap.objs.size := by obtain ⟨o,n,e,_⟩ := pl;exact Heap.lt_size e
 have vals : ∀ (i : Nat) (v : Value),its.toArray[i]? = some v → ∃ t,v = Value.int (ns.getD i 0) t := fun i v hv => by
  have hv' : its[i]? = some v := by simpa using hv
  obtain ⟨hi,_⟩ := List.getElem?_eq_some_iff.mp hv'
  have hi' : i < ns.length := by omega
  obtain ⟨u,hu,ru⟩ := rv.get (i := i) (show (ns.map V.int)[i]? = some (V.int (ns[i])) by simp [hi'])
  rw [hv'] at hu;cases hu
  obtain ⟨t,rfl⟩ := ru
  exact ⟨t,by show Value.int ns[i] t = Value.int (ns.getD i 0) t;rw [List.getD_eq_getElem?_getD,List.getElem?_eq_getElem hi'];rfl⟩
 refine call_min_walk (wpAny_pyIter_list pl.isList ⟨s.heap.objs.size,_,_,_,_,_,_,rfl,Walks.list (A := X.A.in1) (show X.A.in1.handled = none from I.ok.hd hc) s.heap.objs.size p (Nat.ne_of_lt hp) its.toArray,⟨⟨_,Heap.get?_push_size _ rfl,rfl,rfl⟩,?_⟩,fun b hb => ?_,by rw [List.size_toArray];omega,CmpOf.ints_lt (fun i => ns.getD i 0) vals,fun v h' tk hP hk => ?_⟩)
 ·obtain ⟨o,n,e,c,_,d⟩ := pl
  exact ⟨o,Heap.get?_push_of_some _ e,c,n,d⟩
 ·have lt1 : ∀ n c : Nat,c < n → c < n + 1 := fun n c h => by omega
  rw [show (({ s with heap := s.heap.push _ } : Shared).heap.objs.size) = s.heap.objs.size + 1 from Heap.size_push ..]
  simp only [List.mem_cons,List.not_mem_nil,or_false] at hb
  rcases hb with rfl | rfl
  ·exact Nat.lt_succ_self _
  ·exact lt1 _ _ hp
 ·obtain ⟨b1,b2⟩ := argBest_lt (fun i => ns.getD i 0) (its.toArray.size - 1)
  obtain ⟨t,rfl⟩ := vals _ _ hP
  rw [List.size_toArray] at b1 b2 ⊢
  have gd : ∀ j,j < ns.length → ns.getD j 0 ∈ ns := fun j hj => by rw [List.getD_eq_getElem?_getD,List.getElem?_eq_getElem hj];exact List.getElem_mem hj
  refine ⟨.int _,H,I.kept (h' := h') (t' := tk) fun b o e => hk b o (by simp;exact Nat.ne_of_lt (Heap.lt_size e)) (Heap.get?_push_of_some _ e),⟨_,rfl⟩,q _ (gd _ (by omega)) fun a ha => ?_⟩
  obtain ⟨j,hj,rfl⟩ := List.mem_iff_getElem.mp ha
  have := b2 j (by omega)
  have e : ns.getD j 0 = ns[j] := by rw [List.getD_eq_getElem?_getD,List.getElem?_eq_getElem hj];rfl
  rw [e] at this
  exact this
def RB : List T → Gp → Q3 → Prop := fun xs G q => match xs with
 | [.ref p] => (match getL G p with | some ys => (match X3 ys with | some ns => ns ≠ []∧∀ m ∈ ns,(∀ a ∈ ns,m ≤ a) → q (.int m) G | none => False) | none => False)
 | _ => False
theorem DK {K : PySem.W.Frag} : SJ K RB (fun xs H Q => ∃ (p : Addr) (ns : List Int),xs = [.ref p]∧SqL K H p (ns.map V.int)∧ns ≠ []∧∀ m ∈ ns,(∀ a ∈ ns,m ≤ a) → Q (.int m) H) := fun xs vs G H q Q hr rs h af => by
 unfold RB at h
 split at h
 ·rename_i p
  obtain ⟨v,rfl,r⟩ := X9 rs
  cases r
  split at h
  ·rename_i ys e0
   split at h
   ·rename_i ns e1
    obtain ⟨us,hs,r2⟩ := zW hr e0
    have := DQ e1
    subst this
    have := DM r2
    subst this
    exact ⟨p,ns,rfl,hs,h.1,fun m hm ha => af _ _ (h.2 m hm ha) _ _ (.int _) hr Kp.refl⟩
   ·exact h.elim
  ·exact h.elim
 ·exact h.elim
theorem V8 (hc : X.calm = true) : ZI X (.builtin "max") (fun xs H Q => ∃ (p : Addr) (ns : List Int),xs = [.ref p]∧SqL X.K H p (ns.map V.int)∧ns ≠ []∧∀ m ∈ ns,(∀ a ∈ ns,a ≤ m) → Q (.int m) H) := by
 intro pins s σ H xs us Q I r h
 obtain ⟨p,ns,rfl,hq,hne,q⟩ := h
 obtain ⟨u,rfl,rp⟩ := EJ r
 cases (show u = Value.ref p from rp)
 obtain ⟨its,rv,pl,hz⟩ := I.list hq
 have hlen : its.length = ns.length := by have := rv.length;simp at this;omega
 have hpos : 0 < ns.length := List.length_pos_iff.mpr hne
 have hp : p < s.heap.objs.size := by obtain ⟨o,n,e,_⟩ := pl;exact Heap.lt_size e
 have vals : ∀ (i : Nat) (v : Value),its.toArray[i]? = some v → ∃ t,v = Value.int (ns.getD i 0) t := fun i v hv => by
  have hv' : its[i]? = some v := by simpa using hv
  obtain ⟨hi,_⟩ := List.getElem?_eq_some_iff.mp hv'
  have hi' : i < ns.length := by omega
  obtain ⟨u,hu,ru⟩ := rv.get (i := i) (show (ns.map V.int)[i]? = some (V.int (ns[i])) by simp [hi'])
  rw [hv'] at hu;cases hu
  obtain ⟨t,rfl⟩ := ru
  exact ⟨t,by show Value.int ns[i] t = Value.int (ns.getD i 0) t;rw [List.getD_eq_getElem?_getD,List.getElem?_eq_getElem hi'];rfl⟩
 refine call_max_walk (wpAny_pyIter_list pl.isList ⟨s.heap.objs.size,_,_,_,_,_,_,rfl,Walks.list (A := X.A.in1) (show X.A.in1.handled = none from I.ok.hd hc) s.heap.objs.size p (Nat.ne_of_lt hp) its.toArray,⟨⟨_,Heap.get?_push_size _ rfl,rfl,rfl⟩,?_⟩,fun b hb => ?_,by rw [List.size_toArray];omega,CmpOf.ints_gt (fun i => ns.getD i 0) vals,fun v h' tk hP hk => ?_⟩)
 ·obtain ⟨o,n,e,c,_,d⟩ := pl
  exact ⟨o,Heap.get?_push_of_some _ e,c,n,d⟩
 ·have lt1 : ∀ n c : Nat,c < n → c < n + 1 := fun n c h => by omega
  rw [show (({ s with heap := s.heap.push _ } : Shared).heap.objs.size) = s.heap.objs.size + 1 from Heap.size_push ..]
  simp only [List.mem_cons,List.not_mem_nil,or_false] at hb
  rcases hb with rfl | rfl
  ·exact Nat.lt_succ_self _
  ·exact lt1 _ _ hp
 ·obtain ⟨b1,b2⟩ := argBest_gt (fun i => ns.getD i 0) (its.toArray.size - 1)
  obtain ⟨t,rfl⟩ := vals _ _ hP
  rw [List.size_toArray] at b1 b2 ⊢
  have gd : ∀ j,j < ns.length → ns.getD j 0 ∈ ns := fun j hj => by rw [List.getD_eq_getElem?_getD,List.getElem?_eq_getElem hj];exact List.getElem_mem hj
  refine ⟨.int _,H,I.kept (h' := h') (t' := tk) fun b o e => hk b o (by simp;exact Nat.ne_of_lt (Heap.lt_size e)) (Heap.get?_push_of_some _ e),⟨_,rfl⟩,q _ (gd _ (by omega)) fun a ha => ?_⟩
  obtain ⟨j,hj,rfl⟩ := List.mem_iff_getElem.mp ha
  have := b2 j (by omega)
  have e : ns.getD j 0 = ns[j] := by rw [List.getD_eq_getElem?_getD,List.getElem?_eq_getElem hj];rfl
  rw [e] at this
  exact this
def RY : List T → Gp → Q3 → Prop := fun xs G q => match xs with
 | [.ref p] => (match getL G p with | some ys => (match X3 ys with | some ns => ns ≠ []∧∀ m ∈ ns,(∀ a ∈ ns,a ≤ m) → q (.int m) G | none => False) | none => False)
 | _ => False
theorem DF {K : PySem.W.Frag} : SJ K RY (fun xs H Q => ∃ (p : Addr) (ns : List Int),xs = [.ref p]∧SqL K H p (ns.map V.int)∧ns ≠ []∧∀ m ∈ ns,(∀ a ∈ ns,a ≤ m) → Q (.int m) H) := fun xs vs G H q Q hr rs h af => by
 unfold RY at h
 split at h
 ·rename_i p
  obtain ⟨v,rfl,r⟩ := X9 rs
  cases r
  split at h
  ·rename_i ys e0
   split at h
   ·rename_i ns e1
    obtain ⟨us,hs,r2⟩ := zW hr e0
    have := DQ e1
    subst this
    have := DM r2
    subst this
    exact ⟨p,ns,rfl,hs,h.1,fun m hm ha => af _ _ (h.2 m hm ha) _ _ (.int _) hr Kp.refl⟩
   ·exact h.elim
  ·exact h.elim
 ·exact h.elim
end
end L3
namespace L3
open PySem PySem.Spec PyProof.Rows L2
inductive Cv : List Str → List V → List (Value × Value) → Prop
 | nil : Cv [] [] []
 | cons {k : Str} {tk : Tok} {v : V} {u : Value} {ks : List Str} {xs : List V} {vs : List (Value × Value)} : jx v u → Cv ks xs vs → Cv (k :: ks) (v :: xs) ((.str k tk,u) :: vs)
structure jD3 (X : Cx) (keys : List (Option Expr)) (values : List Expr) (ks : List Str) (t : TA3) : Prop where
 h : ∀ (pos : Pos) (pins : List (Addr × Obj)) (s : Shared) (σ : L2.St) (H : Hp) (Q : List V → Hp → Prop),Inv X pins σ H s → lA X.K t σ H Q →
  wpAny (model X.prog X.w) X.A (evalPairs (pairTrees keys values X.env pos)) (fun vs s' => ∃ xs H',Inv X pins σ H' s'∧Cv ks xs vs∧Q xs H') X.xe s
 len : keys.length = values.length
 all : (keys.all fun x => x.isSome) = true
section
variable {X : Cx}
theorem qfp : jD3 X [] [] [] qg :=
 ⟨fun pos pins s σ H Q I ⟨τ,G,q,rl,h,af⟩ => by
  show wpAny _ _ (evalPairs []) _ _ _
  exact wpAny_pure ⟨[],H,I,.nil,af _ _ h _ _ .nil rl.hp Kp.refl⟩,rfl,rfl⟩
theorem WZ {k : Str} {j : Nat} {kp : Pos} {v : Expr} {tv : TE3} {keys : List (Option Expr)} {values : List Expr} {ks : List Str} {t : TA3} (hv : jE3 X v tv) (r : jD3 X keys values ks t) :
  jD3 X (some (.Constant (.str k) j kp) :: keys) (v :: values) (k :: ks) (qb tv t) :=
 ⟨fun pos pins s σ H Q I ⟨τ,G,q,rl,h,af⟩ => by
  show wpAny _ _ (evalPairs ((eval (.Constant (.str k) j kp) X.env,do let x ← eval v X.env;standAt pos;pure x) :: pairTrees keys values X.env pos)) _ _ _
  refine evalPairs_cons (thn (qbx (X := X) (x := k) (j := j) (pos := kp) pins s σ H (fun y H' => y = .str k∧H' = H) I ⟨rfl,rfl⟩) fun kv s1 ⟨y,H1,I1,ry,ey,eH⟩ => ?_)
  subst ey;subst eH
  obtain ⟨tk,rfl⟩ := ry
  refine wpAny_bind (thn (hv.h pins s1 σ H1 (fun x H2 => lA X.K t σ H2 fun xs H3 => Q (x :: xs) H3) I1 (zQ rl h fun x G1 h1 v H2 rx hr1 k1 rl1 => ⟨τ,G1,_,rl1,h1,fun xs G2 h2 vs H3 rs hr2 k2 => af _ _ h2 _ _ (.cons (rx.keep hr1 k2) rs) hr2 (k1.trans k2)⟩)) fun u s2 ⟨x,H2,I2,rx,q2⟩ => ?_)
  refine wpAny_bind (wpAny_standAt (wpAny_pure ?_))
  exact thn (r.h pos pins s2 σ H2 _ I2 q2) fun vs s3 ⟨xs,H3,I3,cv,q3⟩ => ⟨x :: xs,H3,I3,.cons rx cv,q3⟩,by simp [r.len],by simpa using r.all⟩
theorem Cv.carries {P : Program} {w : World} : ∀ {ks : List Str} {xs : List V} {vs : List (Value × Value)},Cv ks xs vs → Carries (PySem.strKind P w) vs (ks.zip (vs.map (·.2)))
 | _,_,_,.nil => True.intro
 | _,_,_,.cons (k := k) r t => ⟨by show (k == k) = true;simp,rfl,t.carries⟩
theorem Cv.len : ∀ {ks : List Str} {xs : List V} {vs : List (Value × Value)},Cv ks xs vs → ks.length = vs.length
 | _,_,_,.nil => rfl
 | _,_,_,.cons _ t => by simp [t.len]
def qaO : List Str → List V → Str → Option V
 | k :: ks,v :: vs,x => if k = x then some v else qaO ks vs x
 | _,_,_ => none
theorem Cv.get : ∀ {ks : List Str} {xs : List V} {vs : List (Value × Value)} {x : Str} {v : V},Cv ks xs vs → qaO ks xs x = some v → ∃ u,valueAt (ks.zip (vs.map (·.2))) x = some u∧jx v u
 | _,_,_,x,v,.nil,h => by simp [qaO] at h
 | _,_,_,x,v,.cons (k := k) (u := u) r t,h => by
  by_cases e : k = x
  ·simp [qaO,e] at h
   subst h
   exact ⟨u,by simp [valueAt,e],r⟩
  ·simp [qaO,e] at h
   obtain ⟨u',h1,h2⟩ := Cv.get t h
   exact ⟨u',by simpa [valueAt,e] using h1,h2⟩
def qg8 (ks : List Str) (tv : TA) (te : TE) : TE := fun σ H Q => tv σ H fun xs H1 => te σ H1 fun y H2 => ∃ k v,y = .str k∧qaO ks xs k = some v∧Q v H2
theorem qcw {keys : List (Option Expr)} {values : List Expr} {ks : List Str} {t : TA3} {e : Expr} {te : TE} {p1 pos : Pos} (hd : jD3 X keys values ks t) (he : PE X e te) (hs : EF e) (nd : ks.Nodup) (ne : keys ≠ []) (h15 : keys.length ≤ 15) :
  PE X (.Subscript (.Dict keys values p1) e pos) (qg8 ks (lA X.K t) te) := by
 intro pins s σ H Q I hl
 refine Subscript_ ?_
 refine wpAny_Dict_walk (knd := PySem.strKind X.prog X.w) hd.all hd.len ne h15 ?_
 have hsz := I.sz
 have hlt := I.lt
 have I0 : Inv X pins σ H { s with heap := s.heap.push { cls := .type "dict",data := .dict #[] } } := I.kept (t' := s.toks) fun b o e => Heap.get?_push_of_some _ e
 have ok0 : H s.heap.objs.size = none∧s.heap.objs.size ≠ X.env.locals∧s.heap.objs.size ∉ X.fs := ⟨I.fresh,fun z => Nat.lt_irrefl _ (z ▸ hlt),I.nofs (Nat.le_refl _)⟩
 have hcell : ∀ x c,X.env.cells.lookup x = some c → c ≠ s.heap.objs.size := fun x c e z => by
  obtain ⟨v,o,ho,_⟩ := I.cell x c e
  have := Heap.lt_size ho
  rw [z] at this
  exact Nat.lt_irrefl _ this
 have hpin : ∀ p ∈ X.pn ++ pins,p.1 ≠ s.heap.objs.size := fun p hp z => by
  have := Heap.lt_size (I.pin p hp).1
  rw [z] at this
  exact Nat.lt_irrefl _ this
 have Ip : Inv X (pins ++ [(s.heap.objs.size,{ cls := .type "dict",data := .dict #[] })]) σ H { s with heap := s.heap.push { cls := .type "dict",data := .dict #[] } } := I0.pins_of fun p hp => by
  rcases List.mem_append.mp hp with z | z
  ·exact I0.pin p (List.mem_append_right _ z)
  ·simp only [List.mem_singleton] at z
   subst z
   exact ⟨Heap.get?_push_size _ rfl,ok0.1,ok0.2.1,ok0.2.2,fun v => by simp⟩
 refine thn (hd.h p1 _ _ σ H _ Ip hl) fun vs s1 ⟨xs,H1,I1,cv,q1⟩ => ?_
 have p1' := I1.pin (s.heap.objs.size,{ cls := .type "dict",data := .dict #[] }) (by simp)
 have hkeys : (List.map (fun x => x.fst) (ks.zip (vs.map (·.2)))) = ks := by
  have := cv.len
  rw [List.map_fst_zip (by simp;omega)]
 refine ⟨ks.zip (vs.map (·.2)),cv.carries,⟨_,#[],0,p1'.1,⟨rfl,rfl,rfl⟩,rfl,fun e he => by simp at he,by first | exact True.intro | constructor,by simp⟩,fun h' hd' hsame => ?_⟩
 rw [merged_nil_of_nodup _ (by rw [hkeys];exact nd)] at hd'
 have I1u : Inv X pins σ H1 s1 := I1.unpinned
 have I2 : Inv X pins σ H1 { heap := h',gens := s1.gens,drawn := s1.drawn,toks := s1.toks + vs.length,os := s1.os } :=
  I1u.turned (it := s.heap.objs.size) (fun b o hb e => by rw [hsame.2 b hb];exact e) p1'.2.1 ok0.2.1 (.inr hsz) hcell hpin
 obtain ⟨o,es,ep,ho,hx,hdata,hk,hp,hn⟩ := hd'
 have I3 : Inv X (pins ++ [(s.heap.objs.size,o)]) σ H1 { heap := h',gens := s1.gens,drawn := s1.drawn,toks := s1.toks + vs.length,os := s1.os } := I2.pins_of fun p hp => by
  rcases List.mem_append.mp hp with z | z
  ·exact I2.pin p (List.mem_append_right _ z)
  ·simp only [List.mem_singleton] at z
   subst z
   exact ⟨ho,p1'.2.1,ok0.2.1,ok0.2.2,fun v => by rw [hdata];simp⟩
 refine thn (he _ _ σ H1 _ I3 q1) fun u s2 ⟨y,H2,I4,ry,k,v,ey,hg,q2⟩ => ?_
 subst ey
 obtain ⟨tk,rfl⟩ := ry
 have po := I4.pin (s.heap.objs.size,o) (by simp)
 have dd : s2.heap.DictOf (PySem.strKind X.prog X.w) s.heap.objs.size (ks.zip (vs.map (·.2))) := ⟨o,es,ep,po.1,hx,hdata,hk,hp,hn⟩
 obtain ⟨u,hu,ru⟩ := cv.get hg
 exact subscriptTail_builtinR (x := u) ⟨_,po.1,hx.1⟩ PySem.F.slot_dict_getitem.lookup (wpAny_getItem_of (knd := PySem.strKind X.prog X.w) (Q := fun r s' => r = u∧EP X pins σ Q r s') (k := k) (by show (k == k) = true;simp) dd.mapOf hu ⟨rfl,v,H2,I4.unpinned.tok _,ru,q2⟩) (hs _ _)
def qaS (ks : List Str) (t : TA3) (te : TE3) : TE3 := fun τ G q => t τ G fun xs G1 => te τ G1 fun y G2 => match y with | .str k => (match j5 (ks.zip xs) k with | some x => q x G2 | none => False) | _ => False
theorem N2 {K : PySem.W.Frag} {H : Hp} : ∀ {ks : List Str} {xs : List T} {vs : List V} {k : Str} {x : T},Rps K H xs vs → j5 (ks.zip xs) k = some x → ∃ v,qaO ks vs k = some v∧Rp K H x v
 | [],_,_,k,x,_,h => by simp [j5] at h
 | _ :: _,_,_,k,x,.nil,h => by simp [j5] at h
 | y :: ks,_,_,k,x,.cons (v := v) r t,h => by
  by_cases e : y = k
  ·simp [j5,e] at h
   subst h
   exact ⟨v,by simp [qaO,e],r⟩
  ·simp [j5,e] at h
   obtain ⟨v,h1,h2⟩ := N2 t h
   exact ⟨v,by simpa [qaO,e] using h1,h2⟩
theorem qdz {keys : List (Option Expr)} {values : List Expr} {ks : List Str} {t : TA3} {e : Expr} {te : TE3} {p1 pos : Pos} (hd : jD3 X keys values ks t) (he : jE3 X e te) (hs : EF e := by intro _ _;rfl) (nd : ks.Nodup := by decide) (ne : keys ≠ [] := by simp) (h15 : keys.length ≤ 15 := by decide) :
  jE3 X (.Subscript (.Dict keys values p1) e pos) (qaS ks t te) :=
 ⟨W4 (qcw hd he.h hs nd ne h15) fun σ H Q ⟨τ,G,q,rl,h,af⟩ =>
  ⟨τ,G,_,rl,h,fun xs G1 h1 vs H1 rs hr1 k1 => zQ (rl.next hr1 k1) h1 fun y G2 h2 v H2 ry hr2 k2 rl2 => by
   cases y <;> try exact h2.elim
   case str k =>
    cases ry
    simp only at h2
    split at h2
    ·rename_i x hx
     obtain ⟨v,hv,rv⟩ := N2 (rs.keep hr1 k2) hx
     exact ⟨k,v,rfl,hv,af _ _ h2 _ _ rv hr2 (k1.trans k2)⟩
    ·exact h2.elim⟩⟩
end
theorem K2 {K : PySem.W.Frag} {p : Addr} {od : Option Addr} {n : Nat} {sl : Array (Option Value)} {i j : Int} {ti tj : Tok} (h : K.lookup p = some ⟨.type "tuple",od,.seq #[.int i ti,.int j tj] n,sl⟩) : ∀ H,Rp K H (.tup [.int i,.int j]) (.ref p) := fun H =>
 .tup (vs := [.int i,.int j]) (.inr ⟨_,_,_,h,rfl,rfl,by show 2 ≤ sizeLine;decide,.cons ⟨_,rfl⟩ (.cons ⟨_,rfl⟩ .nil)⟩) (.cons (.int _) (.cons (.int _) .nil))
def DL : List (Str × T) := [("row",.tup [.int 0,.int 1]),("column",.tup [.int 1,.int 0]),("slant",.tup [.int 1,.int 1]),("back",.tup [.int 1,.int (-1)])]
end L3
namespace L3
open PySem PySem.Spec PyProof.Rows L2
open PySem.SeqAt
def qai (dx : PyData) : List PyData → Option Bool
 | [] => some false
 | d :: ds => (match ZF d dx,qai dx ds with | some b,some c => some (b || c) | _,_ => none)
theorem KG {dx : PyData} : ∀ {ds : List PyData} {b : Bool},qai dx ds = some b → ∃ bs : List Bool,bs.length = ds.length∧(∀ (j : Nat) d,ds[j]? = some d → ∃ c,bs[j]? = some c∧ZF d dx = some c)∧b = bs.any id
 | [],b,h => by simp [qai] at h;subst h;exact ⟨[],rfl,fun j d hd => by simp at hd,rfl⟩
 | d :: ds,b,h => by
  unfold qai at h
  split at h
  ·rename_i b1 c1 e1 e2
   cases h
   obtain ⟨bs,hl,ha,hb⟩ := KG e2
   refine ⟨b1 :: bs,by simp [hl],fun j d' hd => ?_,by simp [hb]⟩
   cases j with
   | zero => simp at hd;subst hd;exact ⟨b1,rfl,e1⟩
   | succ j => simpa using ha j d' (by simpa using hd)
  ·cases h
section
variable {X : Cx} {pins : List (Addr × Obj)} {σ : L2.St} {H : Hp} {s : Shared}
theorem M7 (I : Inv X pins σ H s) {x : V} {dx : PyData} {v : Value} {xs : List V} {ds : List PyData} {its : List Value} {b : Bool} (hu : X.A.units + 64 < cLine) (hx : DV X.K H x dx) (rx : jx x v) (hs : DVs X.K H xs ds) (rs : jh xs its) (hb : qai dx ds = some b) (hd : ∀ d ∈ ds,dpt d ≤ 40) :
  ∃ e : Value → Bool,(∀ y ∈ its,EqAt X.A.in1 s y v (e y))∧its.any e = b := by
 obtain ⟨bs,hl,ha,rfl⟩ := KG hb
 have un : X.A.in1.units + 40 < cLine := by
  have : X.A.in1.units ≤ X.A.units + 8 := by first | (show X.A.units + 1 ≤ _;omega) | (show X.A.units ≤ _;omega) | (simp [Around.in1];omega)
  omega
 have at_ : ∀ (j : Nat) y,its[j]? = some y → ∃ c,bs[j]? = some c∧EqAt X.A.in1 s y v c := fun j y hj => by
  obtain ⟨hj1,_⟩ := List.getElem?_eq_some_iff.mp hj
  have hxl : j < xs.length := by rw [rs.length];exact hj1
  obtain ⟨u,hu',ru⟩ := rs.get (List.getElem?_eq_getElem hxl)
  rw [hj] at hu';cases hu'
  obtain ⟨d,hd1,hd2⟩ := hs.get (List.getElem?_eq_getElem hxl)
  obtain ⟨c,hc1,hc2⟩ := ha j d hd1
  exact ⟨c,hc1,(CS I 40 hd2 hx hc2 (hd d (List.mem_of_getElem? hd1)) un ru rx).2⟩
 classical
 refine ⟨fun y => decide (∃ j : Nat,its[j]? = some y∧bs[j]? = some true),fun y hy => ?_,?_⟩
 ·by_cases he : ∃ j : Nat,its[j]? = some y∧bs[j]? = some true
  ·obtain ⟨j,h1,h2⟩ := id he
   obtain ⟨c,hc,eq⟩ := at_ j y h1
   rw [h2] at hc;cases hc
   simpa [he] using eq
  ·obtain ⟨j,hj,e⟩ := List.mem_iff_getElem.mp hy
   have hj' : its[j]? = some y := by rw [List.getElem?_eq_getElem hj,e]
   obtain ⟨c,hc,eq⟩ := at_ j y hj'
   cases c with
   | true => exact absurd ⟨j,hj',hc⟩ he
   | false => simpa [he] using eq
 ·rw [Bool.eq_iff_iff,List.any_eq_true,List.any_eq_true]
  constructor
  ·rintro ⟨y,_,hy⟩
   obtain ⟨j,_,h2⟩ := of_decide_eq_true hy
   exact ⟨true,List.mem_of_getElem? h2,rfl⟩
  ·rintro ⟨c,hc,e⟩
   have : c = true := e
   subst this
   obtain ⟨j,hj,ej⟩ := List.mem_iff_getElem.mp hc
   have hl2 : its.length = bs.length := by rw [← rs.length,hs.length,hl]
   have hj2 : j < its.length := by omega
   exact ⟨its[j],List.getElem_mem hj2,decide_eq_true ⟨j,List.getElem?_eq_getElem hj2,by rw [List.getElem?_eq_getElem hj,ej]⟩⟩
def qiO (K : PySem.W.Frag) (neg : Bool) : R2 := fun x y H Q => ∃ p xs dx ds b,y = .ref p∧(SqL K H p xs ∨ SqT K H p xs)∧DV K H x dx∧DVs K H xs ds∧qai dx ds = some b∧(∀ d ∈ ds,dpt d ≤ 40)∧Q (.bl (if neg then !b else b)) H
theorem MI (hu : X.A.units + 64 < cLine) : OpR X (compareOp .NotIn) (qiO X.K true) := by
 intro pins s σ H x y v u Q I rx ry h
 obtain ⟨p,xs,dx,ds,b,rfl,hq,hx,hs,hb,hd,q⟩ := h
 cases ry
 rcases hq with hq | hq
 ·obtain ⟨its,r,pl,hz⟩ := I.list hq
  obtain ⟨e,he,ha⟩ := M7 I hu hx rx hs r hb hd
  refine SeqAt.notIn_listAt e pl.isList (fun w hw => he w (by simpa using hw)) ⟨.bl _,H,I,rfl,?_⟩
  rw [show its.toArray.any e = its.any e by simp,ha]
  exact q
 ·obtain ⟨its,r,pl,hz⟩ := I.tuple hq
  obtain ⟨e,he,ha⟩ := M7 I hu hx rx hs r hb hd
  refine SeqAt.notIn_tupleAt e pl (fun w hw => he w (by simpa using hw)) ⟨.bl _,H,I,rfl,?_⟩
  rw [show its.toArray.any e = its.any e by simp,ha]
  exact q
end
def qiD (neg : Bool) : R3 := fun x y G q => ∃ ys dx ds b,zC G y = some ys∧Dp G x dx∧Dps G ys ds∧qai dx ds = some b∧(∀ d ∈ ds,dpt d ≤ 40)∧q (.bl (if neg then !b else b)) G
theorem qda {K : PySem.W.Frag} {neg : Bool} : WN K (qiD neg) (qiO K neg) := fun x y v u G H q Q hr rx ry h af => by
 obtain ⟨ys,dx,ds,b,h1,h2,h3,h4,h5,h6⟩ := h
 cases y with
 | tup zs =>
  simp [zC] at h1
  subst h1
  cases ry with
  | tup hs rs => exact ⟨_,_,dx,ds,b,rfl,.inr hs,h2.dv hr rx,h3.dv hr rs,h4,h5,af _ G h6 _ H (.bl _) hr Kp.refl⟩
 | ref p =>
  simp [zC] at h1
  cases ry
  obtain ⟨us,hs,rs⟩ := zW hr h1
  exact ⟨_,_,dx,ds,b,rfl,.inl hs,h2.dv hr rx,h3.dv hr rs,h4,h5,af _ G h6 _ H (.bl _) hr Kp.refl⟩
 | _ => simp [zC] at h1
end L3
namespace HT
open PySem PySem.Spec PyProof.Rows L2
section
open PySem.SeqAt
open PySem.MeetsSeq PySem.MeetsSeq2 PySem.MeetsSeq3
end
section
variable {prog : Program} {w : World} {A : Around} {E : Value → Shared → Prop} {s : Shared}
end
end HT
namespace L3
open PySem PySem.Spec PyProof.Rows L2
end L3
namespace L3
open PySem PySem.Spec PyProof.Rows L2
section
variable {X : Cx}
end
end L3
namespace L3
open PySem PySem.Spec PyProof.Rows L2
def U3 : Sp3 := fun _ _ _ => False
theorem UB {P : Program} {w : World} {K : PySem.W.Frag} {mg : Str → Option Value} {base : Heap} {x qual : Str} {st : Stmt} {f : Addr} {fd : FuncData} {ps : List Str} (F : Fun K x qual st f fd) (bd : zl K fd ps []) (hm : mg x = some (.ref f)) : Fn3 P w K mg base 0 x U3 :=
 ⟨f,fd,ps,⟨fun vs H Q E ⟨_,_,_,_,_,h,_⟩ => h.elim,fun A outer s H args us vs Q E _ _ _ _ ⟨_,_,_,_,_,h,_⟩ => h.elim⟩,bd,F.kp,hm⟩
theorem ixT (xs : List T) (i : Int) (G : Gp) (q : Q3) : ix3 (.tup xs) (.int i) G q = (match L2.atI xs i with | some z => q z G | none => False) := rfl
theorem ixR (p : Addr) (i : Int) (G : Gp) (q : Q3) : ix3 (.ref p) (.int i) G q = (match getL G p with | some xs => (match L2.atI xs i with | some z => q z G | none => False) | none => False) := rfl
theorem zp {α : Type} {xs : List α} {i : Int} (h0 : 0 ≤ i) (h1 : i < (xs.length : Int)) : L2.atI xs i = xs[i.toNat]? := by
 unfold L2.atI ixN
 have e1 : i.toNat < xs.length := by omega
 simp [h0,e1,h1]
theorem cm {i j : Int} (h1 : -1000000 < j) (h2 : j < 1000000) : ZB i j := .inr ⟨by omega,by omega⟩
theorem cm' {i j : Int} (h1 : -1000000 < i) (h2 : i < 1000000) : ZB i j := .inl ⟨by omega,by omega⟩
theorem jN {stay : Gp → Prop} {g : TG3} {tif : TT3} {te : TE3} {q : Q3} (items : List T) (Pv : Nat → List T → St3 → Gp → Prop) {τ : St3} {G : Gp} (h0 : Pv 0 [] τ G) (hst : ∀ i ys τ G,i ≤ items.length → Pv i ys τ G → stay G)
  (hs : ∀ i x ys τ G (R : List T → St3 → Gp → Prop),items[i]? = some x → Pv i ys τ G → (∀ ys' τ' G',Pv (i + 1) ys' τ' G' → R ys' τ' G') →
   g x τ G fun τ2 G2 => tif τ2 G2 fun k G3 => if k = true then te τ2 G3 fun y G4 => ys.length < sizeLine∧R (ys ++ [y]) τ2 G4 else R ys τ2 G3)
  (hd : ∀ ys τ G,Pv items.length ys τ G → ∀ p,G p = none → q (.ref p) (gu G p (.lst ys))) : VP stay g tif te q items [] τ G := by
 have key : ∀ (r : List T) (i : Nat) ys τ G,items.drop i = r → i ≤ items.length → Pv i ys τ G → VP stay g tif te q r ys τ G := by
  intro r
  induction r with
  | nil =>
   intro i ys τ G e hi p
   have : i = items.length := by have := congrArg List.length e;simp at this;omega
   subst this
   exact ⟨hst _ ys τ G hi p,hd ys τ G p⟩
  | cons x r ih =>
   intro i ys τ G e hi p
   have hl : i < items.length := by
    apply Classical.byContradiction
    intro z
    rw [List.drop_eq_nil_of_le (by omega)] at e
    cases e
   have e' := List.drop_eq_getElem_cons hl
   rw [e] at e'
   injection e' with e1 e2
   exact ⟨hst i ys τ G hi p,hs i x ys τ G _ (by rw [List.getElem?_eq_getElem hl,e1]) p fun ys2 τ2 G2 p2 => ih (i + 1) ys2 τ2 G2 e2.symm hl p2⟩
 exact key items 0 [] τ G (by simp) (Nat.zero_le _) h0
theorem j8 {stay : Gp → Prop} {g : TG3} {te : TE3} {q : Q3} {G : Gp} (f : T → T) (Ok : St3 → Prop) (hst : stay G) : ∀ (items ys : List T) (τ : St3),Ok τ →
  (∀ x ∈ items,∀ τ,Ok τ → ∀ R : St3 → T → Gp → Prop,(∀ τ',Ok τ' → R τ' (f x) G) → g x τ G fun τ2 G2 => te τ2 G2 fun y G4 => R τ2 y G4) →
  ys.length + items.length < sizeLine → (∀ p,G p = none → q (.ref p) (gu G p (.lst (ys ++ items.map f)))) → VP stay g tt3 te q items ys τ G
 | [],ys,τ,_,_,_,h => ⟨hst,by simpa using h⟩
 | x :: r,ys,τ,ok,step,len,h => by
  refine ⟨hst,?_⟩
  have e : (fun τ2 G2 => tt3 τ2 G2 fun k G3 => if k = true then te τ2 G3 fun y G4 => ys.length < sizeLine∧VP stay g tt3 te q r (ys ++ [y]) τ2 G4 else VP stay g tt3 te q r ys τ2 G3) = (fun τ2 G2 => te τ2 G2 fun y G4 => ys.length < sizeLine∧VP stay g tt3 te q r (ys ++ [y]) τ2 G4) := by
   funext τ2 G2;simp [tt3]
  rw [e]
  rw [List.length_cons] at len
  refine step x List.mem_cons_self τ ok _ fun τ' ok' => ⟨by omega,j8 f Ok hst r (ys ++ [f x]) τ' ok' (fun z hz => step z (List.mem_cons_of_mem _ hz)) (by rw [List.length_append,List.length_singleton];omega) fun p hp => ?_⟩
  simpa using h p hp
theorem jt {lo : Int} {n i : Nat} {x : T} (h : (DI lo n)[i]? = some x) : i < n∧x = T.int (lo + (i : Int)) := by
 unfold DI at h
 rw [List.getElem?_map] at h
 cases e : (List.range n)[i]? with
 | none => rw [e] at h;cases h
 | some k =>
  rw [e] at h
  obtain ⟨hi,hk⟩ := List.getElem?_eq_some_iff.mp e
  simp at hi hk
  subst hk
  exact ⟨hi,by simpa using h.symm⟩
theorem zr (lo : Int) (n : Nat) : (DI lo n).length = n := by simp [DI]
end L3
namespace Bk
open PySem L2 L3
def JF : TS3 := (qz (qH (zL (fun t => zq t "int") (v3 0)) (qZ (zL (fun t => zq t "bool") (v3 0)))))
def VW (S_is_number : Sp3) : TS3 := (qz (qH (zL (fun t => zq t "tuple") (v3 0)) (qH (o3 (qP false) (cb3 zF (qb (v3 0) qg)) (c3 (.int 2))) (qH (cb3 S_is_number (qb (o3 ix3 (v3 0) (c3 (.int 0))) qg)) (cb3 S_is_number (qb (o3 ix3 (v3 0) (c3 (.int 1))) qg))))))
def UC (S_size_of : Sp3) : TS3 := (qv (qD (o3 ix3 (v3 0) (c3 (.int 0))) (gn3 1)) (qv (qN (tb3 (o3 (qP false) (v3 1) (c3 (.str "bits")))) (qz (qK (qb (o3 (iC LS (fun i j => i * 2 ^ j.toNat)) (c3 (.int 1)) (o3 ix3 (v3 0) (c3 (.int 1)))) (qb (o3 (iC LS (fun i j => i * 2 ^ j.toNat)) (c3 (.int 1)) (o3 ix3 (v3 0) (c3 (.int 2)))) (qb (o3 (iC LS (fun i j => i * 2 ^ j.toNat)) (c3 (.int 1)) (cb3 zF (qb (o3 ix3 (v3 0) (c3 (.int 3))) qg))) qg))))) qm) (qv (qN (tb3 (o3 (qP false) (v3 1) (c3 (.str "table")))) (qz (qK (qb (cb3 zF (qb (o3 ix3 (v3 0) (c3 (.int 2))) qg)) (qb (cb3 zF (qb (o3 ix3 (o3 ix3 (v3 0) (c3 (.int 2))) (c3 (.int 0))) qg)) (qb (o3 ix3 (v3 0) (c3 (.int 1))) qg))))) qm) (qv (qN (tb3 (o3 (qP false) (v3 1) (c3 (.str "joined")))) (qv (qD (cb3 S_size_of (qb (o3 ix3 (v3 0) (c3 (.int 1))) qg)) (qx 3 (qj (gn3 2) (qj (gn3 3) (qj (gn3 4) qw))))) (qv (qD (cb3 S_size_of (qb (o3 ix3 (v3 0) (c3 (.int 2))) qg)) (qx 3 (qj (gn3 5) (qj (gn3 6) (qj (gn3 7) qw))))) (qz (qK (qb (o3 (iC ZB (· * ·)) (v3 2) (v3 5)) (qb (o3 (iC ZB (· * ·)) (v3 3) (v3 6)) (qb (o3 (iC ZB (· * ·)) (v3 4) (v3 7)) qg))))))) qm) (qz (qK (qb (o3 ix3 (v3 0) (c3 (.int 1))) (qb (o3 ix3 (v3 0) (c3 (.int 2))) (qb (o3 ix3 (v3 0) (c3 (.int 3))) qg)))))))))
def Z3 (S_size_of : Sp3) : TS3 := (qv (qD (cb3 S_size_of (qb (v3 0) qg)) (qx 3 (qj (gn3 2) (qj (gn3 3) (qj (gn3 4) qw))))) (qz (o3 qU (o3 (iC ZB (· * ·)) (o3 ix3 (v3 1) (c3 (.int 0))) (v3 3)) (o3 ix3 (v3 1) (c3 (.int 1))))))
def VL (S_is_pair : Sp3) (S_size_of : Sp3) : TS3 := (qv (qN (jg (tb3 (cb3 S_is_pair (qb (v3 1) qg)))) (qz (c3 (.bl false))) qm) (qv (qD (cb3 S_size_of (qb (v3 0) qg)) (qx 3 (qj (gn3 2) (qj (gn3 3) (qj (gn3 4) qw))))) (qz (qH (ch3 (iB fun i j => decide (i ≤ j)) (iB fun i j => decide (i < j)) (c3 (.int 0)) (o3 ix3 (v3 1) (c3 (.int 0))) (v3 2)) (ch3 (iB fun i j => decide (i ≤ j)) (iB fun i j => decide (i < j)) (c3 (.int 0)) (o3 ix3 (v3 1) (c3 (.int 1))) (v3 3))))))
def jF : TS3 := (qv (qD (o3 (iI Builtin.bitAnd) (v3 0) (v3 1)) (gn3 2)) (qv (qD (c3 (.int 0)) (gn3 3)) (qv (XU (tb3 (o3 (iB fun i j => decide (j < i)) (v3 2) (c3 (.int 0)))) (qv (jn 3 (iI (· + ·)) (o3 (iI Builtin.bitAnd) (v3 2) (c3 (.int 1)))) (qD (o3 (iC (fun _ j => 0 ≤ j) (fun i j => i / 2 ^ j.toNat)) (v3 2) (c3 (.int 1))) (gn3 2)))) (qz (o3 (qP false) (o3 (iI Builtin.bitAnd) (v3 3) (c3 (.int 1))) (c3 (.int 1)))))))
def Z9 (S_odd_in_common : Sp3) : TS3 := (qz (cb3 qdM (qb (lc3 (XV (qb (v3 0) qg)) (qx 2 (qj (gn3 0) (qj (gn3 1) qw))) (tb3 (cb3 S_odd_in_common (qb (v3 2) (qb (v3 1) qg)))) (o3 (iC LS (fun i j => i * 2 ^ j.toNat)) (c3 (.int 1)) (v3 0)) [none,none,some 1]) qg)))
def DO : TS3 := (qv (qD (v3 0) (qx 2 (qj (gn3 3) (qj (gn3 4) qw)))) (qz (qK (qb (qK (qb (o3 (iC L9 (· / ·)) (v3 3) (v3 1)) (qb (o3 (iC L9 (· / ·)) (v3 4) (v3 2)) qg))) (qb (qK (qb (o3 (iC (fun _ j => 0 < j) (· % ·)) (v3 3) (v3 1)) (qb (o3 (iC (fun _ j => 0 < j) (· % ·)) (v3 4) (v3 2)) qg))) qg)))))
def j6 (S_size_of : Sp3) (S_parted : Sp3) (S_bank_in : Sp3) : TS3 := (qv (qD (cb3 S_size_of (qb (v3 1) qg)) (qx 3 (qj (gn3 3) (qj (gn3 4) (qj (gn3 5) qw))))) (qv (qD (cb3 S_parted (qb (v3 2) (qb (v3 3) (qb (v3 4) qg)))) (qx 2 (qj (gn3 6) (qj (gn3 7) qw)))) (qz (o3 qU (o3 (iC ZB (· * ·)) (cb3 S_bank_in (qb (v3 0) (qb (v3 6) qg))) (v3 5)) (cb3 S_bank_in (qb (v3 1) (qb (v3 7) qg)))))))
def UF (S_number_of : Sp3) (S_bits_bank : Sp3) (S_joined_bank : Sp3) : TS3 := (qv (qD (o3 ix3 (v3 0) (c3 (.int 0))) (gn3 2)) (qv (qN (tb3 (o3 (qP false) (v3 2) (c3 (.str "skew")))) (qz (o3 (iC (fun _ j => 0 < j) (· % ·)) (o3 qU (o3 (iC ZB (· * ·)) (o3 ix3 (v3 0) (c3 (.int 4))) (o3 ix3 (v3 1) (c3 (.int 0)))) (o3 (iC ZB (· * ·)) (o3 ix3 (v3 0) (c3 (.int 5))) (o3 ix3 (v3 1) (c3 (.int 1))))) (o3 ix3 (v3 0) (c3 (.int 3))))) qm) (qv (qN (tb3 (o3 (qP false) (v3 2) (c3 (.str "rests")))) (qz (o3 (iC (fun _ j => 0 < j) (· % ·)) (cb3 S_number_of (qb (v3 0) (qb (v3 1) qg))) (o3 ix3 (v3 0) (c3 (.int 3))))) qm) (qv (qN (tb3 (o3 (qP false) (v3 2) (c3 (.str "bits")))) (qz (cb3 S_bits_bank (qb (o3 ix3 (v3 0) (c3 (.int 3))) (qb (cb3 S_number_of (qb (v3 0) (qb (v3 1) qg))) qg)))) qm) (qv (qN (tb3 (o3 (qP false) (v3 2) (c3 (.str "table")))) (qz (o3 ix3 (o3 ix3 (o3 ix3 (v3 0) (c3 (.int 2))) (o3 ix3 (v3 1) (c3 (.int 0)))) (o3 ix3 (v3 1) (c3 (.int 1))))) qm) (qz (cb3 S_joined_bank (qb (o3 ix3 (v3 0) (c3 (.int 1))) (qb (o3 ix3 (v3 0) (c3 (.int 2))) (qb (v3 1) qg))))))))))
def VM : TS3 := (qv (qD (o3 (iC (fun _ j => 0 < j) (· % ·)) (o3 (iC ZB (· * ·)) (o3 qU (o3 qU (o3 (iC (fun _ j => 0 < j) (· % ·)) (v3 0) (c3 (.int 2147483629))) (o3 (iC ZB (· * ·)) (o3 (iC ZB (· * ·)) (v3 1) (v3 1)) (c3 (.int 7919)))) (c3 (.int 11))) (c3 (.int 48271))) (c3 (.int 2147483647))) (gn3 2)) (qz (o3 (iC (fun _ j => 0 < j) (· % ·)) (o3 (iC ZB (· * ·)) (v3 2) (v3 2)) (c3 (.int 1999999973)))))
def J6 : TS3 := (qv (qD (if3 (tb3 (o3 (iB fun i j => decide (i < j)) (v3 1) (cb3 zF (qb (v3 0) qg)))) (o3 ix3 (v3 0) (v3 1)) (c3 (.int 0))) (gn3 2)) (qv (qD (if3 (tb3 (o3 (iB fun i j => decide (j ≤ i)) (cb3 jj (qb (v3 2) qg)) (o3 (iC LS (fun i j => i ^ j.toNat)) (c3 (.int 10)) (c3 (.int 18))))) (cb3 jj (qb (v3 2) qg)) (c3 (.int 0))) (gn3 3)) (qz (zk (qb (v3 3) (qb (o3 qU (v3 2) (o3 (iC ZB (· * ·)) (c3 (.int 1000003)) (v3 1))) (qb (c3 (.int 0)) qg)))))))
def YG (S_law_mix : Sp3) : TS3 := (qv (qD (o3 qU (o3 ix3 (v3 0) (c3 (.int 2))) (c3 (.int 1))) (qT (v3 0) (c3 (.int 2)))) (qv (qN (tb3 (o3 (iB fun i j => decide (j < i)) (o3 ix3 (v3 0) (c3 (.int 0))) (c3 (.int 0)))) (qv (qD (o3 (iC (fun _ j => 0 < j) (· % ·)) (o3 ix3 (v3 0) (c3 (.int 0))) (v3 1)) (gn3 2)) (qv (qD (o3 (iC L9 (· / ·)) (o3 ix3 (v3 0) (c3 (.int 0))) (v3 1)) (qT (v3 0) (c3 (.int 0)))) (qz (v3 2)))) qm) (qz (o3 (iC (fun _ j => 0 < j) (· % ·)) (o3 (iC L9 (· / ·)) (cb3 S_law_mix (qb (cb3 S_law_mix (qb (o3 ix3 (v3 0) (c3 (.int 1))) (qb (o3 ix3 (v3 0) (c3 (.int 2))) qg))) (qb (o3 qU (o3 ix3 (v3 0) (c3 (.int 2))) (c3 (.int 64))) qg))) (c3 (.int 64))) (v3 1)))))
def ZT (S_law_pick : Sp3) : TS3 := (qv (qD (o3 ix3 (zk (qb (c3 (.int 6)) (qb (c3 (.int 6)) (qb (c3 (.int 6)) (qb (c3 (.int 16)) qg))))) (cb3 S_law_pick (qb (v3 0) (qb (c3 (.int 4)) qg)))) (gn3 1)) (qv (zE 2 3 (qb (o3 qU (c3 (.int 1)) (cb3 S_law_pick (qb (v3 0) (qb (v3 1) qg)))) (qb (o3 qU (c3 (.int 1)) (cb3 S_law_pick (qb (v3 0) (qb (v3 1) qg)))) qg))) (qz (o3 ix3 (zk (qb (qK (qb (v3 2) (qb (v3 3) qg))) (qb (qK (qb (v3 2) (qb (v3 3) qg))) (qb (qK (qb (v3 2) (qb (v3 3) qg))) (qb (qK (qb (v3 2) (qb (v3 2) qg))) qg))))) (cb3 S_law_pick (qb (v3 0) (qb (c3 (.int 4)) qg)))))))
def V5 : TS3 := (qv (XU (tb3 (o3 (iB fun i j => decide (j < i)) (v3 1) (c3 (.int 0)))) (zE 0 1 (qb (v3 1) (qb (o3 (iC (fun _ j => 0 < j) (· % ·)) (v3 0) (v3 1)) qg)))) (qz (v3 0)))
def J1 (S_law_sides : Sp3) (S_law_pick : Sp3) : TS3 := (qv (qD (cb3 S_law_sides (qb (v3 0) qg)) (qx 2 (qj (gn3 1) (qj (gn3 2) qw)))) (qv (qD (o3 qU (c3 (.int 1)) (cb3 S_law_pick (qb (v3 0) (qb (o3 ix3 (zk (qb (c3 (.int 8)) (qb (c3 (.int 8)) (qb (c3 (.int 17)) (qb (c3 (.int 32)) qg))))) (cb3 S_law_pick (qb (v3 0) (qb (c3 (.int 4)) qg)))) qg)))) (gn3 3)) (qv (qD (o3 ix3 (zk (qb (v3 3) (qb (c3 (.int 10)) (qb (c3 (.int 100)) qg)))) (cb3 S_law_pick (qb (v3 0) (qb (c3 (.int 3)) qg)))) (gn3 4)) (qz (qK (qb (c3 (.str "skew")) (qb (v3 1) (qb (v3 2) (qb (v3 3) (qb (cb3 S_law_pick (qb (v3 0) (qb (v3 4) qg))) (qb (cb3 S_law_pick (qb (v3 0) (qb (v3 4) qg))) qg)))))))))))
def ZU (S_law_sides : Sp3) (S_law_pick : Sp3) (S_law_gcd : Sp3) : TS3 := (qv (qD (cb3 S_law_sides (qb (v3 0) qg)) (qx 2 (qj (gn3 1) (qj (gn3 2) qw)))) (qv (qD (o3 qU (c3 (.int 1)) (cb3 S_law_pick (qb (v3 0) (qb (o3 ix3 (zk (qb (c3 (.int 8)) (qb (c3 (.int 17)) (qb (c3 (.int 32)) qg)))) (cb3 S_law_pick (qb (v3 0) (qb (c3 (.int 3)) qg)))) qg)))) (gn3 3)) (qv (qD (o3 qU (u3 zD (o3 (iC L9 (· / ·)) (o3 (iC ZB (· * ·)) (u3 zD (v3 1)) (v3 2)) (v3 3))) (cb3 S_law_pick (qb (v3 0) (qb (c3 (.int 4)) qg)))) (gn3 4)) (qv (UH (zh (qb (c3 (.int 32)) qg)) (gn3 5) (qN (tb3 (o3 (iB fun i j => decide (j < i)) (cb3 S_law_gcd (qb (v3 3) (qb (v3 4) qg))) (c3 (.int 1)))) (qD (o3 qU (v3 4) (c3 (.int 1))) (gn3 4)) qm)) (qz (qK (qb (c3 (.str "rests")) (qb (v3 1) (qb (v3 2) (qb (v3 3) (qb (v3 4) qg)))))))))))
def YD (S_law_pick : Sp3) : TS3 := (qv (zE 2 3 (qb (cb3 S_law_pick (qb (v3 0) (qb (o3 qU (v3 1) (c3 (.int 1))) qg))) (qb (cb3 S_law_pick (qb (v3 0) (qb (o3 qU (v3 1) (c3 (.int 1))) qg))) qg))) (qv (qD (lc3 (zh (qb (cb3 S_law_pick (qb (v3 0) (qb (c3 (.int 6)) qg))) qg)) (gn3 0) tt3 (cb3 S_law_pick (qb (v3 1) (qb (c3 (.int 256)) qg))) [none,some 0]) (gn3 4)) (qv (qD (o3 ix3 (zk (qb (c3 (.int 1)) (qb (c3 (.int 2)) (qb (c3 (.int 4)) (qb (c3 (.int 8)) (qb (c3 (.int 16)) (qb (c3 (.int 32)) (qb (c3 (.int 64)) (qb (c3 (.int 128)) (qb (c3 (.int 256)) qg)))))))))) (o3 qU (v3 2) (v3 3))) (gn3 5)) (qz (qK (qb (c3 (.str "bits")) (qb (v3 2) (qb (v3 3) (qb (cb3 qs (qb (lc3 (jI (v3 4)) (gn3 0) tt3 (o3 (iC (fun _ j => 0 < j) (· % ·)) (v3 0) (v3 1)) [none,some 5]) qg)) qg)))))))))
def ZS (S_law_sides : Sp3) (S_law_pick : Sp3) : TS3 := (qv (qD (cb3 S_law_sides (qb (v3 0) qg)) (qx 2 (qj (gn3 1) (qj (gn3 2) qw)))) (qv (qD (o3 qU (c3 (.int 1)) (cb3 S_law_pick (qb (v3 0) (qb (o3 ix3 (zk (qb (c3 (.int 4)) (qb (c3 (.int 9)) (qb (c3 (.int 32)) qg)))) (cb3 S_law_pick (qb (v3 0) (qb (c3 (.int 3)) qg)))) qg)))) (gn3 3)) (qv (qD (lc3 (zh (qb (v3 1) qg)) (gn3 0) tt3 (cb3 qs (qb (lc3 (zh (qb (v3 3) qg)) (gn3 0) tt3 (cb3 S_law_pick (qb (v3 1) (qb (v3 2) qg))) [none,some 1,some 2]) qg)) [none,some 0,some 3,some 2]) (gn3 4)) (qz (qK (qb (c3 (.str "table")) (qb (v3 3) (qb (cb3 qs (qb (v3 4) qg)) qg))))))))
def JG (S_law_pick : Sp3) (S_law_gcd : Sp3) : TS3 := (qv (qD (qK (qb (o3 qU (c3 (.int 1)) (cb3 S_law_pick (qb (v3 0) (qb (c3 (.int 4)) qg)))) (qb (o3 qU (c3 (.int 1)) (cb3 S_law_pick (qb (v3 0) (qb (c3 (.int 4)) qg)))) (qb (o3 qU (c3 (.int 1)) (cb3 S_law_pick (qb (v3 0) (qb (c3 (.int 5)) qg)))) qg)))) (qx 3 (qj (gn3 1) (qj (gn3 2) (qj (gn3 3) qw))))) (qv (qD (cb3 S_law_pick (qb (v3 0) (qb (c3 (.int 4)) qg))) (gn3 4)) (qv (qN (tb3 (o3 (qP false) (v3 4) (c3 (.int 0)))) (qz (qK (qb (c3 (.str "skew")) (qb (v3 1) (qb (v3 2) (qb (v3 3) (qb (cb3 S_law_pick (qb (v3 0) (qb (v3 3) qg))) (qb (cb3 S_law_pick (qb (v3 0) (qb (c3 (.int 9)) qg))) qg)))))))) qm) (qv (qN (tb3 (o3 (qP false) (v3 4) (c3 (.int 1)))) (qv (zE 5 6 (qb (cb3 S_law_pick (qb (v3 0) (qb (c3 (.int 3)) qg))) (qb (cb3 S_law_pick (qb (v3 0) (qb (c3 (.int 3)) qg))) qg))) (qv (qD (lc3 (zh (qb (cb3 S_law_pick (qb (v3 0) (qb (c3 (.int 3)) qg))) qg)) (gn3 0) tt3 (cb3 S_law_pick (qb (v3 1) (qb (c3 (.int 16)) qg))) [none,some 0]) (gn3 7)) (qv (qD (o3 ix3 (zk (qb (c3 (.int 1)) (qb (c3 (.int 2)) (qb (c3 (.int 4)) (qb (c3 (.int 8)) (qb (c3 (.int 16)) qg)))))) (o3 qU (v3 5) (v3 6))) (gn3 8)) (qz (qK (qb (c3 (.str "bits")) (qb (v3 5) (qb (v3 6) (qb (cb3 qs (qb (lc3 (jI (v3 7)) (gn3 0) tt3 (o3 (iC (fun _ j => 0 < j) (· % ·)) (v3 0) (v3 1)) [none,some 8]) qg)) qg))))))))) qm) (qv (qN (tb3 (o3 (qP false) (v3 4) (c3 (.int 2)))) (qv (qD (o3 qU (u3 zD (o3 (iC L9 (· / ·)) (o3 (iC ZB (· * ·)) (u3 zD (v3 1)) (v3 2)) (v3 3))) (cb3 S_law_pick (qb (v3 0) (qb (c3 (.int 3)) qg)))) (gn3 9)) (qv (UH (zh (qb (c3 (.int 9)) qg)) (gn3 10) (qN (tb3 (o3 (iB fun i j => decide (j < i)) (cb3 S_law_gcd (qb (v3 3) (qb (v3 9) qg))) (c3 (.int 1)))) (qD (o3 qU (v3 9) (c3 (.int 1))) (gn3 9)) qm)) (qz (qK (qb (c3 (.str "rests")) (qb (v3 1) (qb (v3 2) (qb (v3 3) (qb (v3 9) qg))))))))) qm) (qv (qD (lc3 (zh (qb (v3 1) qg)) (gn3 0) tt3 (cb3 qs (qb (lc3 (zh (qb (v3 3) qg)) (gn3 0) tt3 (cb3 S_law_pick (qb (v3 1) (qb (v3 2) qg))) [none,some 1,some 2]) qg)) [none,some 0,some 3,some 2]) (gn3 11)) (qz (qK (qb (c3 (.str "table")) (qb (v3 3) (qb (cb3 qs (qb (v3 11) qg)) qg)))))))))))
def j9 (S_law_pick : Sp3) (S_law_skew : Sp3) (S_law_rests : Sp3) (S_law_bits : Sp3) (S_law_table : Sp3) (S_law_small : Sp3) : TS3 := (qv (qD (cb3 S_law_pick (qb (v3 0) (qb (c3 (.int 8)) qg))) (gn3 1)) (qv (qN (tb3 (o3 (iB fun i j => decide (i < j)) (v3 1) (c3 (.int 2)))) (qz (cb3 S_law_skew (qb (v3 0) qg))) qm) (qv (qN (tb3 (o3 (qP false) (v3 1) (c3 (.int 2)))) (qz (cb3 S_law_rests (qb (v3 0) qg))) qm) (qv (qN (tb3 (o3 (qP false) (v3 1) (c3 (.int 3)))) (qz (cb3 S_law_bits (qb (v3 0) (qb (c3 (.int 4)) qg)))) qm) (qv (qN (tb3 (o3 (qP false) (v3 1) (c3 (.int 4)))) (qz (cb3 S_law_table (qb (v3 0) qg))) qm) (qv (qN (tb3 (o3 (qP false) (v3 1) (c3 (.int 5)))) (qv (qD (qK (qb (c3 (.str "joined")) (qb (qK (qb (c3 (.str "skew")) (qb (o3 qU (c3 (.int 1)) (cb3 S_law_pick (qb (v3 0) (qb (c3 (.int 2)) qg)))) (qb (c3 (.int 1)) (qb (c3 (.int 2)) (qb (c3 (.int 1)) (qb (c3 (.int 1)) qg))))))) (qb (qK (qb (c3 (.str "table")) (qb (c3 (.int 2)) (qb (qK (qb (qK (qb (c3 (.int 1)) (qb (c3 (.int 0)) qg))) qg)) qg)))) qg)))) (gn3 2)) (qv (qD (zk (qb (qK (qb (c3 (.str "joined")) (qb (v3 2) (qb (cb3 S_law_small (qb (v3 0) qg)) qg)))) (qb (qK (qb (c3 (.str "joined")) (qb (cb3 S_law_small (qb (v3 0) qg)) (qb (v3 2) qg)))) qg))) (gn3 3)) (qv (qQ (bm3 z9 (v3 3) (qb (qK (qb (c3 (.str "joined")) (qb (qK (qb (c3 (.str "skew")) (qb (c3 (.int 8)) (qb (c3 (.int 1)) (qb (c3 (.int 3)) (qb (c3 (.int 1)) (qb (c3 (.int 1)) qg))))))) (qb (qK (qb (c3 (.str "rests")) (qb (c3 (.int 2)) (qb (c3 (.int 16)) (qb (c3 (.int 5)) (qb (c3 (.int 7)) qg)))))) qg)))) qg))) (qv (qQ (bm3 z9 (v3 3) (qb (qK (qb (c3 (.str "joined")) (qb (qK (qb (c3 (.str "rests")) (qb (c3 (.int 1)) (qb (c3 (.int 8)) (qb (c3 (.int 3)) (qb (c3 (.int 4)) qg)))))) (qb (qK (qb (c3 (.str "skew")) (qb (c3 (.int 16)) (qb (c3 (.int 2)) (qb (c3 (.int 5)) (qb (c3 (.int 2)) (qb (c3 (.int 1)) qg))))))) qg)))) qg))) (qz (o3 ix3 (v3 3) (cb3 S_law_pick (qb (v3 0) (qb (c3 (.int 4)) qg))))))))) qm) (qz (qK (qb (c3 (.str "joined")) (qb (cb3 S_law_small (qb (v3 0) qg)) (qb (cb3 S_law_small (qb (v3 0) qg)) qg)))))))))))
def V6 : TS3 := (qv (qD (c3 (.bl false)) (gn3 1)) (qv (UH (zh (qb (c3 (.int 9)) qg)) (gn3 2) (qD (o3 (qP true) (v3 1) (o3 (qP false) (o3 (iC (fun _ j => 0 < j) (· % ·)) (o3 (iC L9 (· / ·)) (v3 0) (o3 ix3 (zk (qb (c3 (.int 1)) (qb (c3 (.int 2)) (qb (c3 (.int 4)) (qb (c3 (.int 8)) (qb (c3 (.int 16)) (qb (c3 (.int 32)) (qb (c3 (.int 64)) (qb (c3 (.int 128)) (qb (c3 (.int 256)) qg)))))))))) (v3 2))) (c3 (.int 2))) (c3 (.int 1)))) (gn3 1))) (qz (v3 1))))
def J9 (S_law_size : Sp3) (S_law_odd : Sp3) (S_law_bank : Sp3) : TS3 := (qv (qD (cb3 S_law_size (qb (v3 0) qg)) (qx 3 (qj (gn3 3) (qj (gn3 4) (qj (gn3 5) qw))))) (qv (qN (tb3 (o3 (qP false) (o3 ix3 (v3 0) (c3 (.int 0))) (c3 (.str "skew")))) (qz (o3 (iC (fun _ j => 0 < j) (· % ·)) (o3 qU (o3 (iC ZB (· * ·)) (o3 ix3 (v3 0) (c3 (.int 4))) (v3 1)) (o3 (iC ZB (· * ·)) (o3 ix3 (v3 0) (c3 (.int 5))) (v3 2))) (v3 5))) qm) (qv (qN (tb3 (o3 (qP false) (o3 ix3 (v3 0) (c3 (.int 0))) (c3 (.str "rests")))) (qz (o3 (iC (fun _ j => 0 < j) (· % ·)) (o3 qU (o3 (iC ZB (· * ·)) (v3 1) (v3 4)) (v3 2)) (v3 5))) qm) (qv (qN (tb3 (o3 (qP false) (o3 ix3 (v3 0) (c3 (.int 0))) (c3 (.str "bits")))) (qv (qD (lc3 (XV (qb (o3 ix3 (v3 0) (c3 (.int 3))) qg)) (qx 2 (qj (gn3 0) (qj (gn3 1) qw))) (tb3 (cb3 S_law_odd (qb (o3 (iI Builtin.bitAnd) (o3 qU (o3 (iC ZB (· * ·)) (v3 3) (v3 4)) (v3 2)) (v3 1)) qg))) (o3 ix3 (zk (qb (c3 (.int 1)) (qb (c3 (.int 2)) (qb (c3 (.int 4)) (qb (c3 (.int 8)) (qb (c3 (.int 16)) qg)))))) (v3 0)) [none,none,some 2,some 1,some 4]) (gn3 6)) (qz (cb3 qdM (qb (v3 6) qg)))) qm) (qv (qN (tb3 (o3 (qP false) (o3 ix3 (v3 0) (c3 (.int 0))) (c3 (.str "table")))) (qz (o3 ix3 (o3 ix3 (o3 ix3 (v3 0) (c3 (.int 2))) (v3 1)) (v3 2))) qm) (qv (qD (cb3 S_law_size (qb (o3 ix3 (v3 0) (c3 (.int 2))) qg)) (qx 3 (qj (gn3 7) (qj (gn3 8) (qj (gn3 9) qw))))) (qz (o3 qU (o3 (iC ZB (· * ·)) (cb3 S_law_bank (qb (o3 ix3 (v3 0) (c3 (.int 1))) (qb (o3 (iC L9 (· / ·)) (v3 1) (v3 7)) (qb (o3 (iC L9 (· / ·)) (v3 2) (v3 8)) qg)))) (v3 9)) (cb3 S_law_bank (qb (o3 ix3 (v3 0) (c3 (.int 2))) (qb (o3 (iC (fun _ j => 0 < j) (· % ·)) (v3 1) (v3 7)) (qb (o3 (iC (fun _ j => 0 < j) (· % ·)) (v3 2) (v3 8)) qg))))))))))))
def UK (S_law_same : Sp3) : TS3 := (qv (qN (tb3 (zL (fun t => zq t "list" || zq t "tuple") (v3 1))) (qv (qN (or3 (tb3 (o3 (qP true) (zL (fun t => zq t "list") (v3 0)) (zL (fun t => zq t "list") (v3 1)))) (tb3 (o3 (qP true) (zL (fun t => zq t "tuple") (v3 0)) (zL (fun t => zq t "tuple") (v3 1))))) (qz (c3 (.bl false))) qm) (qz (qH (o3 (qP false) (cb3 zF (qb (v3 0) qg)) (cb3 zF (qb (v3 1) qg))) (cb3 jb (qb (lc3 (K8 (qb (v3 0) (qb (v3 1) qg))) (qx 2 (qj (gn3 0) (qj (gn3 1) qw))) tt3 (cb3 S_law_same (qb (v3 0) (qb (v3 1) qg))) [none,none]) qg))))) qm) (qv (qN (or3 (tb3 (o3 (ji false) (v3 1) (c3 .non))) (tb3 (zL (fun t => zq t "str" || zq t "bool") (v3 1)))) (qz (qH (o3 (qP false) (v3 0) (v3 1)) (qH (o3 (qP false) (zL (fun t => zq t "bool") (v3 0)) (zL (fun t => zq t "bool") (v3 1))) (o3 (qP false) (o3 (ji false) (v3 0) (c3 .non)) (o3 (ji false) (v3 1) (c3 .non)))))) qm) (qz (qH (zL (fun t => zq t "int") (v3 0)) (qH (qZ (zL (fun t => zq t "bool") (v3 0))) (o3 (qP false) (v3 0) (v3 1)))))))
end Bk
namespace Bk
open PySem L2 L3
inductive Dl where
 | skew (r c b x y : Int)
 | rests (r c b p : Int)
 | bits (h l : Nat) (ms : List Int)
 | table (b : Int) (cells : List (List Int))
 | joined (d e : Dl)
def LW (r : List Int) : T := .tup (r.map T.int)
def Dl.t : Dl → T
 | .skew r c b x y => .tup [.str "skew",.int r,.int c,.int b,.int x,.int y]
 | .rests r c b p => .tup [.str "rests",.int r,.int c,.int b,.int p]
 | .bits h l ms => .tup [.str "bits",.int h,.int l,.tup (ms.map T.int)]
 | .table b cells => .tup [.str "table",.int b,.tup (cells.map LW)]
 | .joined d e => .tup [.str "joined",d.t,e.t]
def Dl.R : Dl → Int
 | .skew r _ _ _ _ => r
 | .rests r _ _ _ => r
 | .bits h _ _ => 2 ^ h
 | .table _ cells => cells.length
 | .joined d e => d.R * e.R
def Dl.C : Dl → Int
 | .skew _ c _ _ _ => c
 | .rests _ c _ _ => c
 | .bits _ l _ => 2 ^ l
 | .table _ cells => ((cells[0]?).getD []).length
 | .joined d e => d.C * e.C
def Dl.B : Dl → Int
 | .skew _ _ b _ _ => b
 | .rests _ _ b _ => b
 | .bits _ _ ms => 2 ^ ms.length
 | .table b _ => b
 | .joined d e => d.B * e.B
def pop : Nat → Nat → Nat
 | 0,_ => 0
 | k + 1,n => n % 2 + pop k (n / 2)
def LN (n m : Int) : Bool := pop 64 (Builtin.bitAnd n m).toNat % 2 == 1
def ZX (n : Int) : Nat → List Int → Int
 | _,[] => 0
 | t,m :: ms => (if LN n m then 2 ^ t else 0) + ZX n (t + 1) ms
def VV (ms : List Int) (n : Int) : Int := ZX n 0 ms
def Dl.bank : Dl → Int → Int → Int
 | .skew _ _ b x y,i,j => (x * i + y * j) % b
 | .rests _ c b _,i,j => (i * c + j) % b
 | .bits _ l ms,i,j => VV ms (i * 2 ^ l + j)
 | .table _ cells,i,j => (((cells[i.toNat]?).getD [])[j.toNat]?).getD 0
 | .joined d e,i,j => d.bank (i / e.R) (j / e.C) * e.B + e.bank (i % e.R) (j % e.C)
def Dl.Ok : Dl → Prop
 | .skew r c b x y => 1 ≤ r∧r ≤ 60∧1 ≤ c∧c ≤ 60∧1 ≤ b∧b ≤ 1000∧0 ≤ x∧x ≤ 1000∧0 ≤ y∧y ≤ 1000
 | .rests r c b p => 1 ≤ r∧r ≤ 60∧1 ≤ c∧c ≤ 60∧1 ≤ b∧b ≤ 1000∧1 ≤ p∧p ≤ 100000∧Int.gcd b p = 1∧r * c ≤ b * p
 | .bits h l ms => h ≤ 4∧l ≤ 4∧ms.length ≤ 5∧∀ m ∈ ms,0 ≤ m∧m < 2 ^ (h + l)
 | .table b cells => 1 ≤ b∧b ≤ 1000∧1 ≤ cells.length∧cells.length ≤ 60∧∃ c,1 ≤ c∧c ≤ 60∧∀ row ∈ cells,row.length = c∧∀ x ∈ row,0 ≤ x∧x < b
 | .joined d e => d.Ok∧e.Ok∧d.R * e.R ≤ 4096∧d.C * e.C ≤ 4096∧d.B * e.B ≤ 4096
def Dl.dep : Dl → Nat
 | .joined d e => max d.dep e.dep + 1
 | _ => 0
theorem p2 (n : Nat) : ((2 : Int) ^ n) = ((2 ^ n : Nat) : Int) := by simp
theorem VX (n : Nat) : (1 : Int) ≤ 2 ^ n := by
 rw [p2];have := Nat.one_le_two_pow (n := n);omega
theorem VS {n k : Nat} (h : n ≤ k) : (2 : Int) ^ n ≤ 2 ^ k := by
 rw [p2,p2];have := Nat.pow_le_pow_right (n := 2) (by omega) h;omega
structure Lims (d : Dl) : Prop where
 r1 : 1 ≤ d.R
 r2 : d.R ≤ 4096
 c1 : 1 ≤ d.C
 c2 : d.C ≤ 4096
 b1 : 1 ≤ d.B
 b2 : d.B ≤ 4096
theorem YI {a b : Int} (h1 : 1 ≤ a) (h2 : 1 ≤ b) : 1 ≤ a * b := by
 have := Int.mul_le_mul (a := 1) (b := 1) (c := a) (d := b) h1 h2 (by omega) (by omega)
 omega
theorem Dl.lims : ∀ {d : Dl},d.Ok → Lims d
 | .skew r c b x y,⟨h1,h2,h3,h4,h5,h6,_⟩ => ⟨h1,by simp [Dl.R];omega,h3,by simp [Dl.C];omega,h5,by simp [Dl.B];omega⟩
 | .rests r c b x,⟨h1,h2,h3,h4,h5,h6,_⟩ => ⟨h1,by simp [Dl.R];omega,h3,by simp [Dl.C];omega,h5,by simp [Dl.B];omega⟩
 | .bits h l ms,⟨h1,h2,h3,_⟩ => by
  have e1 := VS h1;have e2 := VS h2;have e3 := VS h3
  refine ⟨VX _,?_,VX _,?_,VX _,?_⟩ <;> simp [Dl.R,Dl.C,Dl.B] <;> omega
 | .table b cells,⟨h1,h2,h3,h4,c,h5,h6,h7⟩ => by
  have e0 : cells[0]? = some cells[0] := List.getElem?_eq_getElem (by omega)
  have e1 := (h7 cells[0] (List.getElem_mem _)).1
  have e2 : (Dl.table b cells).C = c := by simp [Dl.C,e0,e1]
  exact ⟨by simp [Dl.R];omega,by simp [Dl.R];omega,by rw [e2];omega,by rw [e2];omega,h1,by simp [Dl.B];omega⟩
 | .joined d e,⟨h1,h2,h3,h4,h5⟩ => by
  have a := Dl.lims h1;have b := Dl.lims h2
  exact ⟨YI a.r1 b.r1,h3,YI a.c1 b.c1,h4,YI a.b1 b.b1,h5⟩
structure Inn (d : Dl) (i j : Int) : Prop where
 i1 : 0 ≤ i
 i2 : i < d.R
 j1 : 0 ≤ j
 j2 : j < d.C
def VI (d : Dl) : T := .tup [.int d.R,.int d.C,.int d.B]
def wdT (i j : Int) : T := .tup [.int i,.int j]
def JR : Sp3 := fun ts G q => ∃ i,ts = [.int i]∧q (.bl true) G
def U5 : Sp3 := fun ts G q => ∃ i j,ts = [wdT i j]∧q (.bl true) G
def QC : Nat → Sp3
 | 0 => U3
 | n + 1 => fun ts G q => ∃ d : Dl,ts = [d.t]∧d.dep ≤ n∧d.Ok∧q (VI d) G
def EU (n : Nat) : Sp3 := fun ts G q => ∃ (d : Dl) (i j : Int),ts = [d.t,wdT i j]∧d.dep ≤ n∧d.Ok∧q (.int (i * d.C + j)) G
def XR (n : Nat) : Sp3 := fun ts G q => ∃ (d : Dl) (i j : Int),ts = [d.t,wdT i j]∧d.dep ≤ n∧d.Ok∧Inn d i j∧q (.bl true) G
def JH : Sp3 := fun ts G q => ∃ (n m : Int),ts = [.int n,.int m]∧0 ≤ n∧0 ≤ m∧m < 2 ^ 64∧q (.bl (LN n m)) G
def EX : Sp3 := fun ts G q => ∃ (ms : List Int) (n : Int),ts = [.tup (ms.map T.int),.int n]∧ms.length ≤ 30∧(∀ m ∈ ms,0 ≤ m∧m < 2 ^ 64)∧0 ≤ n∧∀ G',Ex G G' → q (.int (VV ms n)) G'
def EG : Nat → Sp3
 | 0 => U3
 | n + 1 => fun ts G q => ∃ (d : Dl) (i j : Int),ts = [d.t,wdT i j]∧d.dep ≤ n∧d.Ok∧Inn d i j∧∀ G',Ex G G' → q (.int (d.bank i j)) G'
def RE : Sp3 := fun ts G q => ∃ (i j r c : Int),ts = [wdT i j,.int r,.int c]∧(0 < r∧r < 1000000)∧(0 < c∧c < 1000000)∧q (.tup [wdT (i / r) (j / c),wdT (i % r) (j % c)]) G
def YR (n : Nat) : Sp3 := fun ts G q => ∃ (d e : Dl) (i j : Int),ts = [d.t,e.t,wdT i j]∧(Dl.joined d e).dep ≤ n∧(Dl.joined d e).Ok∧Inn (.joined d e) i j∧∀ G',Ex G G' → q (.int ((Dl.joined d e).bank i j)) G'
abbrev ZN (q : Q3) : Ends3 := { nx := fun _ G' => q .non G',rt := q }
theorem R4 : ∀ ts G q,JR ts G q → ts.length = 1∧JF (ZN q) (qi ["thing"] ts) G := by
 rintro ts G q ⟨i,rfl,h⟩
 refine ⟨rfl,?_⟩
 simp [JF,qv,qD,gn3,qz,zd,qN,qQ,jr,qm,v3,c3,o3,u3,zD,L3.ixT,L3.ixR,qU,iI,iC,iB,qP,qy,ji,tb3,jz,or3,jg,qH,jw,qZ,if3,ch3,cb3,qb,qg,zL,tyT,zq,qK,zk,ja,np3,sp3,qx,qj,qw,qT,je,zE,qi,bm3,z9,jc,zF,jj,jq,jy,zU,qs,qY,jb,jv,jn,L2.atI,ixN,jd,HT.sIx,getL,in3,qO,eqF,gu,sizeLine_eq,List.getElem?_cons_zero,List.getElem?_cons_succ,h]
theorem LG : ∀ ts G q,U5 ts G q → ts.length = 1∧VW JR (ZN q) (qi ["thing"] ts) G := by
 rintro ts G q ⟨i,j,rfl,h⟩
 refine ⟨rfl,?_⟩
 simp [VW,wdT,JR,qv,qD,gn3,qz,zd,qN,qQ,jr,qm,v3,c3,o3,u3,zD,L3.ixT,L3.ixR,qU,iI,iC,iB,qP,qy,ji,tb3,jz,or3,jg,qH,jw,qZ,if3,ch3,cb3,qb,qg,zL,tyT,zq,qK,zk,ja,np3,sp3,qx,qj,qw,qT,je,zE,qi,bm3,z9,jc,zF,jj,jq,jy,zU,qs,qY,jb,jv,jn,L2.atI,ixN,jd,HT.sIx,getL,in3,qO,eqF,gu,sizeLine_eq,List.getElem?_cons_zero,List.getElem?_cons_succ,h]
theorem qg0 {j : Nat} (h : j ≤ 1000) : LS 1 (j : Int) := ⟨by omega,by omega,by decide⟩
theorem qR {A B : TS3} {d : Ends3} {τ : St3} {G : Gp} (h : ∀ nx,nx = B d → A { d with nx := nx } τ G) : qv A B d τ G := h _ rfl
theorem zj {s l : Str} {i : Nat} {R S : TS3} {d : Ends3} {τ : St3} {G : Gp} (hτ : τ[i]? = some (some (T.str s))) : qv (qN (tb3 (o3 (qP false) (v3 i) (c3 (.str l)))) R qm) S d τ G = (if s = l then R { d with nx := S d } τ G else S d τ G) := by
 simp only [qv,qN,tb3,o3,v3,hτ,c3,qP,qy,qm]
 by_cases e : s = l <;> simp [e]
theorem EB (n : Nat) : ∀ ts G q,QC (n + 1) ts G q → ts.length = 1∧UC (QC n) (ZN q) (qi ["dealing","kind","rows","columns","banks","other_rows","other_columns","other_banks"] ts) G := by
 rintro ts G q ⟨d,rfl,hd,ok,h⟩
 refine ⟨rfl,?_⟩
 unfold UC
 refine qR fun nx q1 => ?_
 cases d with
 | skew r c b x y =>
  show nx [some (Dl.skew r c b x y).t,some (.str "skew"),none,none,none,none,none,none] G
  rw [q1,zj rfl,if_neg (by decide),zj rfl,if_neg (by decide),zj rfl,if_neg (by decide)]
  simp [Dl.t,qv,qD,gn3,qz,zd,qN,qQ,jr,qm,v3,c3,o3,u3,zD,L3.ixT,L3.ixR,qU,iI,iC,iB,qP,qy,ji,tb3,jz,or3,jg,qH,jw,qZ,if3,ch3,cb3,qb,qg,zL,tyT,zq,qK,zk,ja,np3,sp3,qx,qj,qw,qT,je,zE,qi,bm3,z9,jc,zF,jj,jq,jy,zU,qs,qY,jb,jv,jn,L2.atI,ixN,jd,HT.sIx,getL,in3,qO,eqF,gu,sizeLine_eq,List.getElem?_cons_zero,List.getElem?_cons_succ];exact h
 | rests r c b x =>
  show nx [some (Dl.rests r c b x).t,some (.str "rests"),none,none,none,none,none,none] G
  rw [q1,zj rfl,if_neg (by decide),zj rfl,if_neg (by decide),zj rfl,if_neg (by decide)]
  simp [Dl.t,qv,qD,gn3,qz,zd,qN,qQ,jr,qm,v3,c3,o3,u3,zD,L3.ixT,L3.ixR,qU,iI,iC,iB,qP,qy,ji,tb3,jz,or3,jg,qH,jw,qZ,if3,ch3,cb3,qb,qg,zL,tyT,zq,qK,zk,ja,np3,sp3,qx,qj,qw,qT,je,zE,qi,bm3,z9,jc,zF,jj,jq,jy,zU,qs,qY,jb,jv,jn,L2.atI,ixN,jd,HT.sIx,getL,in3,qO,eqF,gu,sizeLine_eq,List.getElem?_cons_zero,List.getElem?_cons_succ];exact h
 | bits hh l ms =>
  obtain ⟨k1,k2,k3,_⟩ := ok
  show nx [some (Dl.bits hh l ms).t,some (.str "bits"),none,none,none,none,none,none] G
  rw [q1,zj rfl,if_pos rfl]
  simp [Dl.t,qv,qD,gn3,qz,zd,qN,qQ,jr,qm,v3,c3,o3,u3,zD,L3.ixT,L3.ixR,qU,iI,iC,iB,qP,qy,ji,tb3,jz,or3,jg,qH,jw,qZ,if3,ch3,cb3,qb,qg,zL,tyT,zq,qK,zk,ja,np3,sp3,qx,qj,qw,qT,je,zE,qi,bm3,z9,jc,zF,jj,jq,jy,zU,qs,qY,jb,jv,jn,L2.atI,ixN,jd,HT.sIx,getL,in3,qO,eqF,gu,sizeLine_eq,List.getElem?_cons_zero,List.getElem?_cons_succ]
  exact ⟨qg0 (by omega),qg0 (by omega),qg0 (by omega),h⟩
 | table b cells =>
  have L := Dl.lims ok
  obtain ⟨k1,k2,k3,k4,c,k5,k6,k7⟩ := ok
  cases cells with
  | nil => simp at k3
  | cons row cells =>
   show nx [some (Dl.table b (row :: cells)).t,some (.str "table"),none,none,none,none,none,none] G
   rw [q1,zj rfl,if_neg (by decide),zj rfl,if_pos rfl]
   simp [Dl.t,LW,qv,qD,gn3,qz,zd,qN,qQ,jr,qm,v3,c3,o3,u3,zD,L3.ixT,L3.ixR,qU,iI,iC,iB,qP,qy,ji,tb3,jz,or3,jg,qH,jw,qZ,if3,ch3,cb3,qb,qg,zL,tyT,zq,qK,zk,ja,np3,sp3,qx,qj,qw,qT,je,zE,qi,bm3,z9,jc,zF,jj,jq,jy,zU,qs,qY,jb,jv,jn,L2.atI,ixN,jd,HT.sIx,getL,in3,qO,eqF,gu,sizeLine_eq,List.getElem?_cons_zero,List.getElem?_cons_succ];simpa [VI,Dl.R,Dl.C,Dl.B] using h
 | joined d e =>
  have Ld := Dl.lims ok.1
  have Le := Dl.lims ok.2.1
  have : 1 ≤ n := by simp [Dl.dep] at hd;omega
  obtain ⟨m,rfl⟩ : ∃ m,n = m + 1 := ⟨n - 1,by omega⟩
  show nx [some (Dl.joined d e).t,some (.str "joined"),none,none,none,none,none,none] G
  rw [q1,zj rfl,if_neg (by decide),zj rfl,if_neg (by decide),zj rfl,if_pos rfl]
  simp [Dl.t,qv,qD,gn3,qz,zd,qN,qQ,jr,qm,v3,c3,o3,u3,zD,L3.ixT,L3.ixR,qU,iI,iC,iB,qP,qy,ji,tb3,jz,or3,jg,qH,jw,qZ,if3,ch3,cb3,qb,qg,zL,tyT,zq,qK,zk,ja,np3,sp3,qx,qj,qw,qT,je,zE,qi,bm3,z9,jc,zF,jj,jq,jy,zU,qs,qY,jb,jv,jn,L2.atI,ixN,jd,HT.sIx,getL,in3,qO,eqF,gu,sizeLine_eq,List.getElem?_cons_zero,List.getElem?_cons_succ]
  refine ⟨d,rfl,by simp [Dl.dep] at hd;omega,ok.1,?_⟩
  simp [VI]
  refine ⟨e,rfl,by simp [Dl.dep] at hd;omega,ok.2.1,?_⟩
  have e1 := Le.r1;have e2 := Le.r2;have e3 := Le.c1;have e4 := Le.c2;have e5 := Le.b1;have e6 := Le.b2
  simp [VI]
  exact ⟨cm (by omega) (by omega),cm (by omega) (by omega),cm (by omega) (by omega),h⟩
end Bk
namespace Bk
open PySem L2 L3
theorem DG : ∀ k,pop k 0 = 0
 | 0 => rfl
 | k + 1 => by simp [pop,DG k]
theorem DH : ∀ (k n : Nat),n < 2 ^ k → pop (k + 1) n = pop k n
 | 0,n,h => by simp at h;subst h;simp [pop]
 | k + 1,n,h => by
  rw [pop,DH k (n / 2) (by rw [Nat.pow_succ] at h;omega)]
  rfl
theorem JP (n : Nat) : ∀ ts G q,EU n ts G q → ts.length = 2∧Z3 (QC (n + 1)) (ZN q) (qi ["dealing","word","rows","columns","banks"] ts) G := by
 rintro ts G q ⟨d,i,j,rfl,hd,ok,h⟩
 refine ⟨rfl,?_⟩
 have L := Dl.lims ok
 simp [Z3,qv,qD,gn3,qz,zd,qN,qQ,jr,qm,v3,c3,o3,u3,zD,L3.ixT,L3.ixR,qU,iI,iC,iB,qP,qy,ji,tb3,jz,or3,jg,qH,jw,qZ,if3,ch3,cb3,qb,qg,zL,tyT,zq,qK,zk,ja,np3,sp3,qx,qj,qw,qT,je,zE,qi,bm3,z9,jc,zF,jj,jq,jy,zU,qs,qY,jb,jv,jn,L2.atI,ixN,jd,HT.sIx,getL,in3,qO,eqF,gu,sizeLine_eq,List.getElem?_cons_zero,List.getElem?_cons_succ]
 refine ⟨d,rfl,hd,ok,?_⟩
 simp [VI,wdT,qv,qD,gn3,qz,zd,qN,qQ,jr,qm,v3,c3,o3,u3,zD,L3.ixT,L3.ixR,qU,iI,iC,iB,qP,qy,ji,tb3,jz,or3,jg,qH,jw,qZ,if3,ch3,cb3,qb,qg,zL,tyT,zq,qK,zk,ja,np3,sp3,qx,qj,qw,qT,je,zE,qi,bm3,z9,jc,zF,jj,jq,jy,zU,qs,qY,jb,jv,jn,L2.atI,ixN,jd,HT.sIx,getL,in3,qO,eqF,gu,sizeLine_eq,List.getElem?_cons_zero,List.getElem?_cons_succ]
 exact ⟨cm (by have := L.c1;omega) (by have := L.c2;omega),h⟩
theorem LU (n : Nat) : ∀ ts G q,XR n ts G q → ts.length = 2∧VL U5 (QC (n + 1)) (ZN q) (qi ["dealing","thing","rows","columns","banks"] ts) G := by
 rintro ts G q ⟨d,i,j,rfl,hd,ok,I,h⟩
 refine ⟨rfl,?_⟩
 simp [VL,qv,qD,gn3,qz,zd,qN,qQ,jr,qm,v3,c3,o3,u3,zD,L3.ixT,L3.ixR,qU,iI,iC,iB,qP,qy,ji,tb3,jz,or3,jg,qH,jw,qZ,if3,ch3,cb3,qb,qg,zL,tyT,zq,qK,zk,ja,np3,sp3,qx,qj,qw,qT,je,zE,qi,bm3,z9,jc,zF,jj,jq,jy,zU,qs,qY,jb,jv,jn,L2.atI,ixN,jd,HT.sIx,getL,in3,qO,eqF,gu,sizeLine_eq,List.getElem?_cons_zero,List.getElem?_cons_succ]
 refine ⟨i,j,rfl,?_⟩
 simp
 refine ⟨d,rfl,hd,ok,?_⟩
 simp [VI,wdT,qv,qD,gn3,qz,zd,qN,qQ,jr,qm,v3,c3,o3,u3,zD,L3.ixT,L3.ixR,qU,iI,iC,iB,qP,qy,ji,tb3,jz,or3,jg,qH,jw,qZ,if3,ch3,cb3,qb,qg,zL,tyT,zq,qK,zk,ja,np3,sp3,qx,qj,qw,qT,je,zE,qi,bm3,z9,jc,zF,jj,jq,jy,zU,qs,qY,jb,jv,jn,L2.atI,ixN,jd,HT.sIx,getL,in3,qO,eqF,gu,sizeLine_eq,List.getElem?_cons_zero,List.getElem?_cons_succ,I.i1,I.i2,I.j1,I.j2,h]
theorem DA : ∀ ts G q,JH ts G q → ts.length = 2∧jF (ZN q) (qi ["number","mask","common","many"] ts) G := by
 rintro ts G q ⟨n,m,rfl,hn,hm,hm2,h⟩
 refine ⟨rfl,?_⟩
 have hr := PyProof.Rows.bitAnd_range n hm
 simp [jF,qv,qD,gn3,qz,zd,qN,qQ,jr,qm,v3,c3,o3,u3,zD,L3.ixT,L3.ixR,qU,iI,iC,iB,qP,qy,ji,tb3,jz,or3,jg,qH,jw,qZ,if3,ch3,cb3,qb,qg,zL,tyT,zq,qK,zk,ja,np3,sp3,qx,qj,qw,qT,je,zE,qi,bm3,z9,jc,zF,jj,jq,jy,zU,qs,qY,jb,jv,jn,L2.atI,ixN,jd,HT.sIx,getL,in3,qO,eqF,gu,sizeLine_eq,List.getElem?_cons_zero,List.getElem?_cons_succ,XU]
 refine ⟨fun k τ G' => G' = G∧∃ c y : Nat,τ = [some (.int n),some (.int m),some (.int (c : Int)),some (.int (y : Int))]∧c < 2 ^ k∧y + pop k c = pop 64 (Builtin.bitAnd n m).toNat,
  ⟨64,rfl,(Builtin.bitAnd n m).toNat,0,by simp;omega,by omega,by simp⟩,?_⟩
 rintro k τ G' ⟨rfl,c,y,rfl,hc,e⟩
 simp [PyProof.Rows.bitAnd_m1]
 by_cases h0 : 0 < c
 ·have hk : 1 ≤ k := by
   rcases Nat.eq_zero_or_pos k with z | z
   ·subst z;simp at hc;omega
   ·exact z
  obtain ⟨k',rfl⟩ : ∃ k',k = k' + 1 := ⟨k - 1,by omega⟩
  simp [h0]
  refine ⟨fun τ' G'' => G'' = G'∧∃ c y : Nat,τ' = [some (.int n),some (.int m),some (.int (c : Int)),some (.int (y : Int))]∧c < 2 ^ k'∧y + pop k' c = pop 64 (Builtin.bitAnd n m).toNat,?_,rfl,c / 2,y + c % 2,?_,?_,?_⟩
  ·rintro τ' G'' ⟨e1,c',y',e2,e3,e4⟩
   exact ⟨k',by omega,e1,c',y',e2,e3,e4⟩
  ·simp
  ·rw [Nat.pow_succ] at hc;omega
  ·rw [pop] at e;omega
 ·have hc0 : c = 0 := by omega
  subst hc0
  simp
  rw [DG] at e
  have e' : (LN n m) = decide ((y : Int) % 2 = 1) := by
   unfold LN
   rw [← e,Nat.add_zero]
   by_cases hy : y % 2 = 1
   ·have : (y : Int) % 2 = 1 := by omega
    simp [hy,this]
   ·have : ¬ (y : Int) % 2 = 1 := by omega
    simp [hy,this]
  rw [← e']
  exact h
def zK (n : Int) : Nat → List Int → List Int
 | _,[] => []
 | t,m :: ms => (if LN n m then [2 ^ t] else []) ++ zK n (t + 1) ms
theorem Z7 (n : Int) : ∀ (t : Nat) (xs ys : List Int),zK n t (xs ++ ys) = zK n t xs ++ zK n (t + xs.length) ys
 | _,[],_ => by simp [zK]
 | t,x :: xs,ys => by simp [zK,Z7 n (t + 1) xs ys,Nat.add_assoc,Nat.add_comm 1]
theorem YB (n : Int) : ∀ (t : Nat) (ms : List Int),(zK n t ms).sum = ZX n t ms
 | _,[] => rfl
 | t,m :: ms => by
  simp only [zK,ZX,List.sum_append,YB n (t + 1) ms]
  split <;> simp
theorem QE (n : Int) : ∀ (t : Nat) (ms : List Int),(zK n t ms).length ≤ ms.length
 | _,[] => by simp [zK]
 | t,m :: ms => by
  have := QE n (t + 1) ms
  simp only [zK,List.length_append,List.length_cons]
  split <;> simp <;> omega
theorem J3 (n : Int) : ∀ (t : Nat) (ms : List Int) (x : Int),x ∈ zK n t ms → ∃ k,k < t + ms.length∧x = 2 ^ k
 | _,[],_,h => by simp [zK] at h
 | t,m :: ms,x,h => by
  simp only [zK,List.mem_append] at h
  rcases h with h | h
  ·split at h
   ·simp at h;exact ⟨t,by simp,h⟩
   ·simp at h
  ·obtain ⟨k,h1,h2⟩ := J3 n (t + 1) ms x h
   exact ⟨k,by simp;omega,h2⟩
theorem R5 : ∀ ts G q,EX ts G q → ts.length = 2∧Z9 JH (ZN q) (qi ["masks","number"] ts) G := by
 rintro ts G q ⟨ms,n,rfl,hl,hm,hn,h⟩
 refine ⟨rfl,?_⟩
 simp [Z9,lc3,XV,zC,cap,qv,qD,gn3,qz,zd,qN,qQ,jr,qm,v3,c3,o3,u3,zD,L3.ixT,L3.ixR,qU,iI,iC,iB,qP,qy,ji,tb3,jz,or3,jg,qH,jw,qZ,if3,ch3,cb3,qb,qg,zL,tyT,zq,qK,zk,ja,np3,sp3,qx,qj,qw,qT,je,zE,qi,bm3,z9,jc,zF,jj,jq,jy,zU,qs,qY,jb,jv,jn,L2.atI,ixN,jd,HT.sIx,getL,in3,qO,eqF,gu,sizeLine_eq,List.getElem?_cons_zero,List.getElem?_cons_succ]
 refine jN _ (fun i ys τ G' => G' = G∧ys = (zK n 0 (ms.take i)).map T.int∧∃ x0 x1,τ = [x0,x1,some (.int n)]) ⟨rfl,by simp [zK],none,none,rfl⟩ (fun i ys τ G' _ hp => by simp [zC]) ?_ ?_
 ·rintro i z ys τ G' R hz ⟨rfl,rfl,x0,x1,rfl⟩ hR
  obtain ⟨a,ha,rfl⟩ := UD hz
  rw [List.getElem?_map] at ha
  cases e : ms[i]? with
  | none => rw [e] at ha;cases ha
  | some m =>
   rw [e] at ha
   have : a = T.int m := by simpa using ha.symm
   subst this
   obtain ⟨hi,hm'⟩ := List.getElem?_eq_some_iff.mp e
   have mm : m ∈ ms := by rw [← hm'];exact List.getElem_mem hi
   simp [qv,qD,gn3,qz,zd,qN,qQ,jr,qm,v3,c3,o3,u3,zD,L3.ixT,L3.ixR,qU,iI,iC,iB,qP,qy,ji,tb3,jz,or3,jg,qH,jw,qZ,if3,ch3,cb3,qb,qg,zL,tyT,zq,qK,zk,ja,np3,sp3,qx,qj,qw,qT,je,zE,qi,bm3,z9,jc,zF,jj,jq,jy,zU,qs,qY,jb,jv,jn,L2.atI,ixN,jd,HT.sIx,getL,in3,qO,eqF,gu,sizeLine_eq,List.getElem?_cons_zero,List.getElem?_cons_succ]
   refine ⟨n,m,rfl,hn,(hm m mm).1,(hm m mm).2,?_⟩
   have tk : ms.take (i + 1) = ms.take i ++ [m] := by rw [List.take_succ_eq_append_getElem hi,hm']
   have lt : (ms.take i).length = i := by rw [List.length_take];omega
   have st : zK n 0 (ms.take (i + 1)) = zK n 0 (ms.take i) ++ (if LN n m then [2 ^ i] else []) := by
    rw [tk,Z7,lt];simp [zK]
   have cl := QE n 0 (ms.take i)
   cases ho : LN n m with
   | true =>
    simp
    refine ⟨qg0 (by omega),by omega,hR _ _ _ ⟨rfl,?_,_,_,rfl⟩⟩
    rw [st,ho];simp
   | false =>
    simp
    refine hR _ _ _ ⟨rfl,?_,_,_,rfl⟩
    rw [st,ho];simp
 ·rintro ys τ G' ⟨rfl,rfl,x0,x1,rfl⟩ p hp
  rw [DY,List.length_map,List.take_length]
  simp [qdM,getL,qo,VT]
  refine ⟨⟨by have := QE n 0 ms;omega,fun x hx => ?_⟩,?_⟩
  ·obtain ⟨k,h1,rfl⟩ := J3 n 0 ms x hx
   have := VX k
   have := VS (n := k) (k := 30) (by omega)
   omega
  ·rw [YB]
   exact h _ (ze hp)
theorem KC {h l : Nat} {i j : Int} (i1 : 0 ≤ i) (j1 : 0 ≤ j) : 0 ≤ i * 2 ^ l + j := by
 have := Int.mul_nonneg i1 (show (0 : Int) ≤ 2 ^ l by have := VX l;omega)
 omega
theorem UZ (n : Nat) : ∀ ts G q,EG (n + 1) ts G q → ts.length = 2∧UF (EU n) EX (YR n) (ZN q) (qi ["dealing","word","kind"] ts) G := by
 rintro ts G q ⟨d,i,j,rfl,hd,ok,I,h⟩
 refine ⟨rfl,?_⟩
 unfold UF
 refine qR fun nx q1 => ?_
 have h := h
 have i1 := I.i1;have i2 := I.i2;have j1 := I.j1;have j2 := I.j2
 have L := Dl.lims ok
 have r2 := L.r2;have c2 := L.c2
 cases d with
 | skew r c b x y =>
  have k := ok
  obtain ⟨k1,k2,k3,k4,k5,k6,k7,k8,k9,k10⟩ := ok
  show nx [some (Dl.skew r c b x y).t,some (wdT i j),some (.str "skew")] G
  rw [q1,zj rfl,if_pos rfl]
  simp [Dl.t,wdT,qv,qD,gn3,qz,zd,qN,qQ,jr,qm,v3,c3,o3,u3,zD,L3.ixT,L3.ixR,qU,iI,iC,iB,qP,qy,ji,tb3,jz,or3,jg,qH,jw,qZ,if3,ch3,cb3,qb,qg,zL,tyT,zq,qK,zk,ja,np3,sp3,qx,qj,qw,qT,je,zE,qi,bm3,z9,jc,zF,jj,jq,jy,zU,qs,qY,jb,jv,jn,L2.atI,ixN,jd,HT.sIx,getL,in3,qO,eqF,gu,sizeLine_eq,List.getElem?_cons_zero,List.getElem?_cons_succ]
  exact ⟨cm' (by omega) (by omega),cm' (by omega) (by omega),by omega,h _ Ex.refl⟩
 | rests r c b x =>
  have k := ok
  obtain ⟨k1,k2,k3,k4,k5,k6,k7,k8,k9⟩ := ok
  show nx [some (Dl.rests r c b x).t,some (wdT i j),some (.str "rests")] G
  rw [q1,zj rfl,if_neg (by decide),zj rfl,if_pos rfl]
  simp [Dl.t,wdT,qv,qD,gn3,qz,zd,qN,qQ,jr,qm,v3,c3,o3,u3,zD,L3.ixT,L3.ixR,qU,iI,iC,iB,qP,qy,ji,tb3,jz,or3,jg,qH,jw,qZ,if3,ch3,cb3,qb,qg,zL,tyT,zq,qK,zk,ja,np3,sp3,qx,qj,qw,qT,je,zE,qi,bm3,z9,jc,zF,jj,jq,jy,zU,qs,qY,jb,jv,jn,L2.atI,ixN,jd,HT.sIx,getL,in3,qO,eqF,gu,sizeLine_eq,List.getElem?_cons_zero,List.getElem?_cons_succ]
  refine ⟨.rests r c b x,i,j,rfl,hd,k,?_⟩
  simp
  exact ⟨by omega,h _ Ex.refl⟩
 | bits hh l ms =>
  have k := ok
  obtain ⟨k1,k2,k3,k4⟩ := ok
  show nx [some (Dl.bits hh l ms).t,some (wdT i j),some (.str "bits")] G
  rw [q1,zj rfl,if_neg (by decide),zj rfl,if_neg (by decide),zj rfl,if_pos rfl]
  simp [Dl.t,wdT,qv,qD,gn3,qz,zd,qN,qQ,jr,qm,v3,c3,o3,u3,zD,L3.ixT,L3.ixR,qU,iI,iC,iB,qP,qy,ji,tb3,jz,or3,jg,qH,jw,qZ,if3,ch3,cb3,qb,qg,zL,tyT,zq,qK,zk,ja,np3,sp3,qx,qj,qw,qT,je,zE,qi,bm3,z9,jc,zF,jj,jq,jy,zU,qs,qY,jb,jv,jn,L2.atI,ixN,jd,HT.sIx,getL,in3,qO,eqF,gu,sizeLine_eq,List.getElem?_cons_zero,List.getElem?_cons_succ]
  refine ⟨.bits hh l ms,i,j,rfl,hd,k,?_⟩
  refine ⟨ms,_,rfl,by omega,fun m hm => ⟨(k4 m hm).1,?_⟩,KC (h := hh) i1 j1,fun G' E => h G' E⟩
  have := (k4 m hm).2
  have := VS (n := hh + l) (k := 10) (by omega)
  omega
 | table b cells =>
  obtain ⟨k1,k2,k3,k4,c,k5,k6,k7⟩ := ok
  have e0 : cells[0]? = some cells[0] := List.getElem?_eq_getElem (by omega)
  have eC : (Dl.table b cells).C = c := by simp [Dl.C,e0,(k7 cells[0] (List.getElem_mem _)).1]
  have eR : (Dl.table b cells).R = cells.length := rfl
  rw [eR] at i2
  rw [eC] at j2
  have hi : i.toNat < cells.length := by omega
  have hrow := k7 cells[i.toNat] (List.getElem_mem hi)
  have hj : j.toNat < cells[i.toNat].length := by rw [hrow.1];omega
  show nx [some (Dl.table b cells).t,some (wdT i j),some (.str "table")] G
  rw [q1,zj rfl,if_neg (by decide),zj rfl,if_neg (by decide),zj rfl,if_neg (by decide),zj rfl,if_pos rfl]
  simp [Dl.t,wdT,qv,qD,gn3,qz,zd,qN,qQ,jr,qm,v3,c3,o3,u3,zD,L3.ixT,L3.ixR,qU,iI,iC,iB,qP,qy,ji,tb3,jz,or3,jg,qH,jw,qZ,if3,ch3,cb3,qb,qg,zL,tyT,zq,qK,zk,ja,np3,sp3,qx,qj,qw,qT,je,zE,qi,bm3,z9,jc,zF,jj,jq,jy,zU,qs,qY,jb,jv,jn,jd,HT.sIx,getL,in3,qO,eqF,gu,sizeLine_eq,List.getElem?_cons_zero,List.getElem?_cons_succ,zp (xs := [T.str (Str.ofString "table"),.int b,.tup (cells.map LW)]) (i := 2) (by omega) (by simp),zp (xs := [T.str (Str.ofString "table"),.int b,.tup (cells.map LW)]) (i := 0) (by omega) (by simp),zp (xs := [T.int i,.int j]) (i := 0) (by omega) (by simp),zp (xs := [T.int i,.int j]) (i := 1) (by omega) (by simp)]
  rw [zp i1 (by simpa using i2)]
  simp [hi,LW,L3.ixT]
  rw [zp j1 (by simp;omega)]
  simp [hj]
  have := h G Ex.refl
  simpa [Dl.bank,hi,hj] using this
 | joined d e =>
  show nx [some (Dl.joined d e).t,some (wdT i j),some (.str "joined")] G
  rw [q1,zj rfl,if_neg (by decide),zj rfl,if_neg (by decide),zj rfl,if_neg (by decide),zj rfl,if_neg (by decide)]
  simp [Dl.t,wdT,qv,qD,gn3,qz,zd,qN,qQ,jr,qm,v3,c3,o3,u3,zD,L3.ixT,L3.ixR,qU,iI,iC,iB,qP,qy,ji,tb3,jz,or3,jg,qH,jw,qZ,if3,ch3,cb3,qb,qg,zL,tyT,zq,qK,zk,ja,np3,sp3,qx,qj,qw,qT,je,zE,qi,bm3,z9,jc,zF,jj,jq,jy,zU,qs,qY,jb,jv,jn,L2.atI,ixN,jd,HT.sIx,getL,in3,qO,eqF,gu,sizeLine_eq,List.getElem?_cons_zero,List.getElem?_cons_succ]
  exact ⟨d,e,i,j,rfl,hd,ok,I,h⟩
theorem qbE {i a b : Int} (h0 : 0 ≤ i) (h1 : i < a * b) (hb : 1 ≤ b) : 0 ≤ i / b∧i / b < a∧0 ≤ i % b∧i % b < b :=
 ⟨Int.ediv_nonneg h0 (by omega),Int.ediv_lt_of_lt_mul (by omega) h1,Int.emod_nonneg _ (by omega),Int.emod_lt_of_pos _ (by omega)⟩
theorem Inn.up {d e : Dl} {i j : Int} (I : Inn (.joined d e) i j) (Le : Lims e) : Inn d (i / e.R) (j / e.C)∧Inn e (i % e.R) (j % e.C) := by
 obtain ⟨i1,i2,j1,j2⟩ := I
 obtain ⟨a1,a2,a3,a4⟩ := qbE i1 i2 Le.r1
 obtain ⟨b1,b2,b3,b4⟩ := qbE j1 j2 Le.c1
 exact ⟨⟨a1,a2,b1,b2⟩,⟨a3,a4,b3,b4⟩⟩
theorem MY : ∀ ts G q,RE ts G q → ts.length = 3∧DO (ZN q) (qi ["word","rows","columns","i","j"] ts) G := by
 rintro ts G q ⟨i,j,r,c,rfl,hr,hc,h⟩
 refine ⟨rfl,?_⟩
 simp [DO,wdT,qv,qD,gn3,qz,zd,qN,qQ,jr,qm,v3,c3,o3,u3,zD,L3.ixT,L3.ixR,qU,iI,iC,iB,qP,qy,ji,tb3,jz,or3,jg,qH,jw,qZ,if3,ch3,cb3,qb,qg,zL,tyT,zq,qK,zk,ja,np3,sp3,qx,qj,qw,qT,je,zE,qi,bm3,z9,jc,zF,jj,jq,jy,zU,qs,qY,jb,jv,jn,L2.atI,ixN,jd,HT.sIx,getL,in3,qO,eqF,gu,sizeLine_eq,List.getElem?_cons_zero,List.getElem?_cons_succ]
 exact ⟨⟨by omega,by omega⟩,⟨by omega,by omega⟩,by omega,by omega,h⟩
theorem Q9 (n : Nat) : ∀ ts G q,YR n ts G q → ts.length = 3∧j6 (QC (n + 1)) RE (EG n) (ZN q) (qi ["one","other","word","rows","columns","banks","upper","lower"] ts) G := by
 rintro ts G q ⟨d,e,i,j,rfl,hd,ok,I,h⟩
 refine ⟨rfl,?_⟩
 obtain ⟨kd,ke,kr,kc,kb⟩ := ok
 have Le := Dl.lims ke
 obtain ⟨I1,I2⟩ := I.up Le
 have : 1 ≤ n := by simp [Dl.dep] at hd;omega
 obtain ⟨m,rfl⟩ : ∃ m,n = m + 1 := ⟨n - 1,by omega⟩
 have r1 := Le.r1;have r2 := Le.r2;have c1 := Le.c1;have c2 := Le.c2;have b1 := Le.b1;have b2 := Le.b2
 simp [j6,qv,qD,gn3,qz,zd,qN,qQ,jr,qm,v3,c3,o3,u3,zD,L3.ixT,L3.ixR,qU,iI,iC,iB,qP,qy,ji,tb3,jz,or3,jg,qH,jw,qZ,if3,ch3,cb3,qb,qg,zL,tyT,zq,qK,zk,ja,np3,sp3,qx,qj,qw,qT,je,zE,qi,bm3,z9,jc,zF,jj,jq,jy,zU,qs,qY,jb,jv,jn,L2.atI,ixN,jd,HT.sIx,getL,in3,qO,eqF,gu,sizeLine_eq,List.getElem?_cons_zero,List.getElem?_cons_succ]
 refine ⟨e,rfl,by simp [Dl.dep] at hd;omega,ke,?_⟩
 simp [VI]
 refine ⟨i,j,_,_,rfl,⟨by omega,by omega⟩,⟨by omega,by omega⟩,?_⟩
 simp
 refine ⟨d,_,_,rfl,by simp [Dl.dep] at hd;omega,kd,I1,fun G1 E1 => ?_⟩
 simp
 refine ⟨cm (by omega) (by omega),e,_,_,rfl,by simp [Dl.dep] at hd;omega,ke,I2,fun G2 E2 => ?_⟩
 simp
 exact h _ (E1.trans E2)
end Bk
namespace Bk
open PySem L2 L3
def Lf (G : Gp) (a : Addr) (n : Int) : Prop := ∃ o c m,G a = some (.lst [.int o,.int c,.int m])∧0 ≤ o∧0 ≤ m∧m ≤ n
def Ext (a : Addr) (G G' : Gp) : Prop := ∀ b o,b ≠ a → G b = some o → G' b = some o
theorem Lf.ne {G : Gp} {a p : Addr} {n : Int} (h : Lf G a n) (hp : G p = none) : p ≠ a := by
 rintro rfl
 obtain ⟨o,c,m,e,_⟩ := h
 rw [hp] at e;cases e
theorem Lf.new {G : Gp} {a p : Addr} {n : Int} {ob : O} (h : Lf G a n) (hp : p ≠ a) : Lf (gu G p ob) a n := by
 obtain ⟨o,c,m,e,r⟩ := h
 exact ⟨o,c,m,by rw [jK (Ne.symm hp)];exact e,r⟩
theorem Lf.mono {G : Gp} {a : Addr} {n k : Int} (h : Lf G a n) (hk : n ≤ k) : Lf G a k := by
 obtain ⟨o,c,m,e,h1,h2,h3⟩ := h
 exact ⟨o,c,m,e,h1,h2,by omega⟩
theorem Lf.ex {G G' : Gp} {a : Addr} {n : Int} (h : Lf G a n) (e : Ex G G') : Lf G' a n := by
 obtain ⟨o,c,m,e1,h1⟩ := h
 exact ⟨o,c,m,e _ _ e1,h1⟩
theorem Ext.refl {a : Addr} {G : Gp} : Ext a G G := fun _ _ _ e => e
theorem Ext.trans {a : Addr} {G G1 G2 : Gp} (x : Ext a G G1) (y : Ext a G1 G2) : Ext a G G2 := fun b o hb e => y b o hb (x b o hb e)
theorem zz {a p : Addr} {G : Gp} {ob : O} (hp : G p = none) : Ext a G (gu G p ob) := fun b o _ e => by
 rw [jK (by rintro rfl;rw [hp] at e;cases e)];exact e
def XX : Sp3 := fun ts G q => ∃ c k,ts = [.int c,.int k]∧0 ≤ k∧k < 4294967296∧∀ m,0 ≤ m → m < 1999999973 → q (.int m) G
def DR : Sp3 := fun ts G q => ∃ (a : Addr) (k : Int) (ns : List Int),ts = [.ref a,.int k]∧G a = some (.frz (ns.map T.int))∧ns.length ≤ 63∧0 ≤ k∧k ≤ 63∧∀ p o c,G p = none → 0 ≤ o → q (.ref p) (gu G p (.lst [.int o,.int c,.int 0]))
def zf : Sp3 := fun ts G q => ∃ a n many,ts = [.ref a,.int many]∧1 ≤ many∧many < 1073741824∧Lf G a n∧n < 1073741824∧∀ d G',0 ≤ d → d < many → Lf G' a (n + 1) → Ext a G G' → q (.int d) G'
def Q4 : Sp3 := fun ts G q => ∃ a n,ts = [.ref a]∧Lf G a n∧n < 100000000∧∀ r c G',1 ≤ r → r ≤ 16 → 1 ≤ c → c ≤ 16 → Lf G' a (n + 4) → Ext a G G' → q (.tup [.int r,.int c]) G'
def UT : Sp3 := fun ts G q => ∃ x y : Int,ts = [.int x,.int y]∧0 ≤ x∧0 ≤ y∧q (.int (Int.gcd x y : Nat)) G
structure Dr (d : Dl) (r c b : Int) : Prop where
 ok : d.Ok
 r2 : d.R ≤ r
 c2 : d.C ≤ c
 b2 : d.B ≤ b
def WR : Sp3 := fun ts G q => ∃ a n,ts = [.ref a]∧Lf G a n∧n < 10000000∧∀ r c b x y G',Dr (.skew r c b x y) 16 16 32 → Lf G' a (n + 10) → Ext a G G' → q (Dl.skew r c b x y).t G'
def EV : Sp3 := fun ts G q => ∃ a n,ts = [.ref a]∧Lf G a n∧n < 10000000∧∀ r c b p G',Dr (.rests r c b p) 16 16 32 → Lf G' a (n + 10) → Ext a G G' → q (Dl.rests r c b p).t G'
theorem qW {a : Addr} {n many : Int} {G : Gp} {q : Q3} (hL : Lf G a n) (h1 : 1 ≤ many) (h2 : many < 1073741824) (hn : n < 1073741824) (h : ∀ d G',0 ≤ d → d < many → Lf G' a (n + 1) → Ext a G G' → q (.int d) G') : zf [.ref a,.int many] G q := ⟨a,n,many,rfl,h1,h2,hL,hn,h⟩
theorem LE : ∀ ts G q,XX ts G q → ts.length = 2∧VM (ZN q) (qi ["_law_cell","_law_k","_law_m"] ts) G := by
 rintro ts G q ⟨c,k,rfl,h1,h2,h⟩
 refine ⟨rfl,?_⟩
 simp only [VM,qv,qD,o3,v3,qi,List.map_cons,List.map_nil,List.length_cons,List.length_nil,Nat.zero_add,Nat.reduceAdd,Nat.reduceSub,List.replicate_one,List.cons_append,List.nil_append,Nat.zero_lt_succ,getElem?_pos,List.getElem_cons_zero,c3,iC,Int.reduceLT,Nat.reduceLT,List.getElem_cons_succ,qU,gn3,qz,List.set_cons_succ,List.set_cons_zero,Nat.lt_add_one,true_and]
 exact ⟨.inl ⟨by omega,by omega⟩,cm (by omega) (by omega),cm (by omega) (by omega),.inl ⟨by omega,by omega⟩,h _ (Int.emod_nonneg _ (by omega)) (Int.emod_lt_of_pos _ (by omega))⟩
theorem cp : LS 10 18 := ⟨by decide,by decide,by decide⟩
theorem SK : ∀ ts G q,DR ts G q → ts.length = 2∧J6 (ZN q) (qi ["_law_script","_law_k","_law_cell","_law_own"] ts) G := by
 rintro ts G q ⟨a,k,ns,rfl,hG,hl,h1,h2,h⟩
 refine ⟨rfl,?_⟩
 simp only [J6,qv,qD,if3,tb3,o3,v3,qi,List.map_cons,List.map_nil,List.length_cons,List.length_nil,Nat.zero_add,Nat.reduceAdd,Nat.reduceSub,List.reduceReplicate,List.cons_append,List.nil_append,Nat.reduceLT,getElem?_pos,List.getElem_cons_succ,List.getElem_cons_zero,cb3,qb,Nat.zero_lt_succ,qg,zF,getL,hG,iB,List.length_map,decide_eq_true_eq,gn3,List.set_cons_succ,List.set_cons_zero,jj,c3,iC,Int.reduceToNat,Int.reducePow,qz,zk,Nat.lt_add_one,qU,ne_eq,sizeLine_eq,Nat.reduceLeDiff,true_and,gu,ixR,atI,ixN,List.getElem?_map,Int.lt_irrefl,↓reduceIte,Int.reduceLE,decide_false,Bool.false_eq_true,Int.zero_add]
 have ck : ZB 1000003 k := cm (by omega) (by omega)
 by_cases hk : k < ns.length
 ·have hk' : k.toNat < ns.length := by omega
  simp [hk,h1,hk',cp,ck]
  split
  ·split
   ·exact fun p hp => h p (-ns[k.toNat]) _ hp (by omega)
   ·exact fun p hp => h p 0 _ hp (by omega)
  ·split
   ·exact fun p hp => h p ns[k.toNat] _ hp (by omega)
   ·exact fun p hp => h p 0 _ hp (by omega)
 ·simp [hk,cp,ck]
  exact fun p hp => h p 0 _ hp (by omega)
theorem TL : ∀ ts G q,zf ts G q → ts.length = 2∧YG XX (ZN q) (qi ["_law_left_here","_law_many","_law_digit"] ts) G := by
 rintro ts G q ⟨a,n,many,rfl,m1,m2,⟨o,c,m,hG,ho,hm,hn⟩,h3,h⟩
 refine ⟨rfl,?_⟩
 unfold YG
 refine qR fun nx1 q1 => ?_
 simp only [qD,o3,v3,qi,List.map_cons,List.map_nil,List.length_cons,List.length_nil,Nat.zero_add,Nat.reduceAdd,Nat.reduceSub,List.replicate_one,List.cons_append,List.nil_append,Nat.zero_lt_succ,getElem?_pos,List.getElem_cons_zero,c3,qU,ne_eq,sizeLine_eq,qT,je,ixN,Int.zero_le_ofNat,↓reduceIte,Int.reduceToNat,tb3,iB,decide_eq_true_eq,Nat.reduceLT,List.getElem_cons_succ,iC,gn3,List.set_cons_succ,List.set_cons_zero,Std.le_refl,Int.natCast_pos,Int.toNat_zero,qz,Nat.lt_add_one,ixR,getL,atI,qm,cb3,qb,qg,Int.toNat_one,List.length_set,hG,Int.cast_ofNat_Int,Int.reduceLT,Option.bind_some,qo]
 rw [q1]
 clear q1
 refine qR fun nx2 q2 => ?_
 simp only [qN,qD,o3,v3,qi,List.map_cons,List.map_nil,List.length_cons,List.length_nil,Nat.zero_add,Nat.reduceAdd,Nat.reduceSub,List.replicate_one,List.cons_append,List.nil_append,Nat.zero_lt_succ,getElem?_pos,List.getElem_cons_zero,c3,qU,ne_eq,sizeLine_eq,qT,je,ixN,Int.zero_le_ofNat,↓reduceIte,Int.reduceToNat,tb3,iB,decide_eq_true_eq,Nat.reduceLT,List.getElem_cons_succ,iC,gn3,List.set_cons_succ,List.set_cons_zero,Std.le_refl,Int.natCast_pos,Int.toNat_zero,qz,Nat.lt_add_one,ixR,getL,atI,qm,cb3,qb,qg,Int.toNat_one,List.length_set,hG,Int.cast_ofNat_Int,Int.reduceLT,Option.bind_some,qo]
 split
 ·simp only [qv,qD,o3,v3,List.length_cons,List.length_nil,Nat.zero_add,Nat.reduceAdd,Nat.zero_lt_succ,getElem?_pos,List.getElem_cons_zero,c3,Nat.reduceLT,List.getElem_cons_succ,iC,gn3,List.set_cons_succ,List.set_cons_zero,qT,je,ixN,Std.le_refl,↓reduceIte,Int.natCast_pos,Int.toNat_zero,qz,Nat.lt_add_one,ixR,getL,atI,qo,Int.cast_ofNat_Int,Int.reduceLT,Option.bind_some]
  refine ⟨by omega,⟨by omega,m2⟩,h _ _ (Int.emod_nonneg _ (by omega)) (Int.emod_lt_of_pos _ (by omega)) ⟨o / many,c,m + 1,qo,Int.ediv_nonneg ho (by omega),by omega,by omega⟩ fun b ob hb e => ?_⟩
  rw [jK hb,jK hb];exact e
 ·rw [q2]
  clear q2
  simp only [qD,o3,v3,qi,List.map_cons,List.map_nil,List.length_cons,List.length_nil,Nat.zero_add,Nat.reduceAdd,Nat.reduceSub,List.replicate_one,List.cons_append,List.nil_append,Nat.zero_lt_succ,getElem?_pos,List.getElem_cons_zero,c3,qU,ne_eq,sizeLine_eq,qT,je,ixN,Int.zero_le_ofNat,↓reduceIte,Int.reduceToNat,tb3,iB,decide_eq_true_eq,Nat.reduceLT,List.getElem_cons_succ,iC,gn3,List.set_cons_succ,List.set_cons_zero,Std.le_refl,Int.natCast_pos,Int.toNat_zero,qz,Nat.lt_add_one,ixR,getL,atI,qm,cb3,qb,qg,Int.toNat_one,List.length_set,hG,Int.cast_ofNat_Int,Int.reduceLT,Option.bind_some,qo]
  refine ⟨c,m + 1,rfl,by omega,by omega,fun u u1 u2 => ?_⟩
  simp only [qD,o3,v3,qi,List.map_cons,List.map_nil,List.length_cons,List.length_nil,Nat.zero_add,Nat.reduceAdd,Nat.reduceSub,List.replicate_one,List.cons_append,List.nil_append,Nat.zero_lt_succ,getElem?_pos,List.getElem_cons_zero,c3,qU,ne_eq,sizeLine_eq,qT,je,ixN,Int.zero_le_ofNat,↓reduceIte,Int.reduceToNat,tb3,iB,decide_eq_true_eq,Nat.reduceLT,List.getElem_cons_succ,iC,gn3,List.set_cons_succ,List.set_cons_zero,Std.le_refl,Int.natCast_pos,Int.toNat_zero,qz,Nat.lt_add_one,ixR,getL,atI,qm,cb3,qb,qg,Int.toNat_one,List.length_set,hG,Int.cast_ofNat_Int,Int.reduceLT,Option.bind_some,qo]
  refine ⟨u,m + 1 + 64,rfl,by omega,by omega,fun v v1 v2 => ?_⟩
  refine ⟨⟨by omega,by omega⟩,by omega,h _ _ (Int.emod_nonneg _ (by omega)) (Int.emod_lt_of_pos _ (by omega)) ⟨o,c,m + 1,qo,ho,by omega,by omega⟩ fun b ob hb e => ?_⟩
  rw [jK hb];exact e
theorem qaA {x y : Int} (hy : 0 < y) : Int.gcd y (x % y) = Int.gcd x y := by
 rw [Int.emod_def,Int.gcd_comm x y]
 simp
theorem LI : ∀ ts G q,UT ts G q → ts.length = 2∧V5 (ZN q) (qi ["_law_one","_law_other"] ts) G := by
 rintro ts G q ⟨x,y,rfl,hx,hy,h⟩
 refine ⟨rfl,?_⟩
 simp only [V5,qv,XU,qi,List.map_cons,List.map_nil,List.length_cons,List.length_nil,Nat.zero_add,Nat.reduceAdd,Nat.sub_self,List.replicate_zero,List.append_nil,tb3,o3,v3,c3,iB,decide_eq_true_eq,zE,qb,iC,qg,qz]
 refine ⟨fun n τ G' => G' = G∧∃ u v : Int,τ = [some (.int u),some (.int v)]∧n = v.toNat∧0 ≤ u∧0 ≤ v∧Int.gcd u v = Int.gcd x y,⟨_,rfl,x,y,rfl,rfl,hx,hy,rfl⟩,?_⟩
 rintro n τ G' ⟨eG,u,v,rfl,rfl,hu,hv,e⟩
 simp
 by_cases h0 : 0 < v
 ·simp [h0]
  refine ⟨fun τ' G' => G' = G∧∃ x' y' : Int,τ' = [some (.int x'),some (.int y')]∧y'.toNat < v.toNat∧0 ≤ x'∧0 ≤ y'∧Int.gcd x' y' = Int.gcd x y,fun τ' G' ⟨e1,x',y',e2,e3,e4,e5,e6⟩ => ⟨y'.toNat,by omega,e1,x',y',e2,rfl,e4,e5,e6⟩,eG,v,u % v,rfl,?_,hv,Int.emod_nonneg _ (by omega),by rw [qaA h0,e]⟩
  have := Int.emod_lt_of_pos u h0
  omega
 ·have : v = 0 := by omega
  subst this
  simp at e
  simp [eG]
  have : u = (Int.gcd x y : Nat) := by omega
  rw [this]
  exact h
theorem qgZ {d : Int} (h1 : 0 ≤ d) (h2 : d < 4) {x0 x1 x2 x3 : T} {P : T → Prop} (p0 : P x0) (p1 : P x1) (p2 : P x2) (p3 : P x3) : ∃ x,L2.atI [x0,x1,x2,x3] d = some x∧P x := by
 have : d = 0 ∨ d = 1 ∨ d = 2 ∨ d = 3 := by omega
 rcases this with rfl | rfl | rfl | rfl
 ·exact ⟨x0,rfl,p0⟩
 ·exact ⟨x1,rfl,p1⟩
 ·exact ⟨x2,rfl,p2⟩
 ·exact ⟨x3,rfl,p3⟩
theorem qim {d : Int} (h1 : 0 ≤ d) (h2 : d < 3) {x0 x1 x2 : T} {P : T → Prop} (p0 : P x0) (p1 : P x1) (p2 : P x2) : ∃ x,L2.atI [x0,x1,x2] d = some x∧P x := by
 have : d = 0 ∨ d = 1 ∨ d = 2 := by omega
 rcases this with rfl | rfl | rfl
 ·exact ⟨x0,rfl,p0⟩
 ·exact ⟨x1,rfl,p1⟩
 ·exact ⟨x2,rfl,p2⟩
theorem RD : ∀ ts G q,Q4 ts G q → ts.length = 1∧ZT zf (ZN q) (qi ["_law_left_here","_law_wide","_law_rows","_law_columns"] ts) G := by
 rintro ts G q ⟨a,n,rfl,hL,hn,h⟩
 refine ⟨rfl,?_⟩
 unfold ZT
 refine qR fun nx1 q1 => ?_
 simp only [qD,o3,zk,qb,c3,qg,List.length_cons,List.length_nil,Nat.zero_add,Nat.reduceAdd,sizeLine_eq,Nat.reduceLeDiff,cb3,v3,qi,List.map_cons,List.map_nil,Nat.add_one_sub_one,List.reduceReplicate,List.cons_append,List.nil_append,Nat.zero_lt_succ,getElem?_pos,List.getElem_cons_zero,gn3,List.set_cons_succ,List.set_cons_zero,true_and]
 intro p hp
 have hpa := hL.ne hp
 refine qW (hL.new hpa) (by decide) (by decide) (by omega) fun d G1 d1 d2 L1 E1 => ?_
 have g1 := E1 p _ hpa qo
 obtain ⟨w,hw,w',rfl,w1,w2⟩ := qgZ d1 d2 (P := fun t => ∃ w,t = T.int w∧1 ≤ w∧w ≤ 16) ⟨6,rfl,by decide⟩ ⟨6,rfl,by decide⟩ ⟨6,rfl,by decide⟩ ⟨16,rfl,by decide⟩
 simp only [ixR,getL,g1,hw]
 rw [q1]
 clear q1
 refine qR fun nx2 q2 => ?_
 simp only [zE,qb,o3,c3,cb3,v3,List.length_cons,List.length_nil,Nat.zero_add,Nat.reduceAdd,Nat.zero_lt_succ,getElem?_pos,List.getElem_cons_zero,Nat.reduceLT,List.getElem_cons_succ,qg,qU,ne_eq,sizeLine_eq,List.set_cons_succ,List.set_cons_zero]
 refine qW L1 w1 (by omega) (by omega) fun r G2 r1 r2 L2' E2 => ?_
 simp only [iI,qv,qD,o3,zk,qb,c3,qg,List.length_cons,List.length_nil,Nat.zero_add,Nat.reduceAdd,sizeLine_eq,Nat.reduceLeDiff,cb3,v3,qi,List.map_cons,List.map_nil,Nat.add_one_sub_one,List.reduceReplicate,List.cons_append,List.nil_append,Nat.zero_lt_succ,getElem?_pos,List.getElem_cons_zero,gn3,zE,List.set_cons_succ,List.set_cons_zero,Nat.reduceLT,List.getElem_cons_succ,qU,ne_eq,qz,qK,Nat.lt_add_one,true_and,gu]
 refine qW L2' w1 (by omega) (by omega) fun c G3 c1 c2 L3' E3 => ?_
 simp only [iI,qv,qD,o3,zk,qb,c3,qg,List.length_cons,List.length_nil,Nat.zero_add,Nat.reduceAdd,sizeLine_eq,Nat.reduceLeDiff,cb3,v3,qi,List.map_cons,List.map_nil,Nat.add_one_sub_one,List.reduceReplicate,List.cons_append,List.nil_append,Nat.zero_lt_succ,getElem?_pos,List.getElem_cons_zero,gn3,zE,List.set_cons_succ,List.set_cons_zero,Nat.reduceLT,List.getElem_cons_succ,qU,ne_eq,qz,qK,Nat.lt_add_one,true_and,gu]
 rw [q2]
 clear q2
 simp only [qz,o3,zk,qb,qK,v3,List.length_cons,List.length_nil,Nat.zero_add,Nat.reduceAdd,Nat.reduceLT,getElem?_pos,List.getElem_cons_succ,List.getElem_cons_zero,Nat.lt_add_one,qg,sizeLine_eq,Nat.reduceLeDiff,cb3,Nat.zero_lt_succ,c3,true_and]
 intro p2 hp2
 have hpa2 := L3'.ne hp2
 refine qW (L3'.new hpa2) (by decide) (by decide) (by omega) fun e G4 e1 e2 L4 E4 => ?_
 have g4 := E4 p2 _ hpa2 qo
 have x1 : 1 ≤ 1 + r := by omega
 have x2 : 1 + r ≤ 16 := by omega
 have x3 : 1 ≤ 1 + c := by omega
 have x4 : 1 + c ≤ 16 := by omega
 obtain ⟨t,ht,r',c',rfl,z1,z2,z3,z4⟩ := qgZ e1 e2 (P := fun t => ∃ r' c',t = T.tup [.int r',.int c']∧1 ≤ r'∧r' ≤ 16∧1 ≤ c'∧c' ≤ 16) ⟨1 + r,1 + c,rfl,x1,x2,x3,x4⟩ ⟨1 + r,1 + c,rfl,x1,x2,x3,x4⟩ ⟨1 + r,1 + c,rfl,x1,x2,x3,x4⟩ ⟨1 + r,1 + r,rfl,x1,x2,x1,x2⟩
 simp only [ixR,getL,g4,ht]
 exact h r' c' G4 z1 z2 z3 z4 (L4.mono (by omega)) ((((zz hp).trans E1).trans (E2.trans E3)).trans ((zz hp2).trans E4))
theorem SR : ∀ ts G q,WR ts G q → ts.length = 1∧J1 Q4 zf (ZN q) (qi ["_law_left_here","_law_rows","_law_columns","_law_banks","_law_wide"] ts) G := by
 rintro ts G q ⟨a,n,rfl,hL,hn,h⟩
 refine ⟨rfl,?_⟩
 unfold J1
 refine qR fun nx1 q1 => ?_
 simp only [qD,cb3,qb,v3,qi,List.map_cons,List.map_nil,List.length_cons,List.length_nil,Nat.zero_add,Nat.reduceAdd,Nat.add_one_sub_one,List.reduceReplicate,List.cons_append,List.nil_append,Nat.zero_lt_succ,getElem?_pos,List.getElem_cons_zero,qg,qx,qj,gn3,qw,List.set_cons_succ,List.set_cons_zero]
 refine ⟨a,n,rfl,hL,by omega,fun r c G1 r1 r2 c1 c2 L1 E1 => ?_⟩
 simp only [List.length_cons,List.length_nil,Nat.zero_add,Nat.reduceAdd,true_and]
 rw [q1]
 clear q1
 refine qR fun nx2 q2 => ?_
 simp only [qD,o3,c3,cb3,qb,v3,List.length_cons,List.length_nil,Nat.zero_add,Nat.reduceAdd,Nat.zero_lt_succ,getElem?_pos,List.getElem_cons_zero,zk,qg,sizeLine_eq,Nat.reduceLeDiff,qU,ne_eq,gn3,List.set_cons_succ,List.set_cons_zero,true_and]
 intro p hp
 have hpa := L1.ne hp
 refine qW (L1.new hpa) (by decide) (by decide) (by omega) fun d G2 d1 d2 L2' E2 => ?_
 have g2 := E2 p _ hpa qo
 obtain ⟨w,hw,w',rfl,w1,w2⟩ := qgZ d1 d2 (P := fun t => ∃ w,t = T.int w∧1 ≤ w∧w ≤ 32) ⟨8,rfl,by decide⟩ ⟨8,rfl,by decide⟩ ⟨17,rfl,by decide⟩ ⟨32,rfl,by decide⟩
 simp only [ixR,getL,g2,hw]
 refine qW L2' w1 (by omega) (by omega) fun b G3 b1 b2 L3' E3 => ?_
 simp [qv,qD,gn3,qz,zd,qN,qQ,jr,qm,v3,c3,o3,u3,zD,L3.ixT,L3.ixR,qU,iI,iC,iB,qP,qy,ji,tb3,jz,or3,jg,qH,jw,qZ,if3,ch3,cb3,qb,qg,zL,tyT,zq,qK,zk,ja,np3,sp3,qx,qj,qw,qT,je,zE,qi,bm3,z9,jc,zF,jj,jq,jy,zU,qs,qY,jb,jv,jn,jd,HT.sIx,getL,in3,qO,eqF,gu,sizeLine_eq,List.getElem?_cons_zero,List.getElem?_cons_succ]
 rw [q2]
 clear q2
 refine qR fun nx3 q3 => ?_
 simp only [qD,o3,zk,qb,v3,List.length_cons,List.length_nil,Nat.zero_add,Nat.reduceAdd,Nat.reduceLT,getElem?_pos,List.getElem_cons_succ,List.getElem_cons_zero,c3,qg,sizeLine_eq,Nat.reduceLeDiff,cb3,Nat.zero_lt_succ,gn3,List.set_cons_succ,List.set_cons_zero,true_and]
 intro p2 hp2
 have hpa2 := L3'.ne hp2
 refine qW (L3'.new hpa2) (by decide) (by decide) (by omega) fun e G4 e1 e2 L4 E4 => ?_
 have g4 := E4 p2 _ hpa2 qo
 obtain ⟨u,hu,u',rfl,u1,u2⟩ := qim e1 e2 (P := fun t => ∃ w,t = T.int w∧1 ≤ w∧w ≤ 100) ⟨1 + b,rfl,by omega,by omega⟩ ⟨10,rfl,by decide⟩ ⟨100,rfl,by decide⟩
 simp only [ixR,getL,g4,hu]
 rw [q3]
 clear q3
 simp only [qz,qK,qb,c3,v3,List.length_cons,List.length_nil,Nat.zero_add,Nat.reduceAdd,Nat.reduceLT,getElem?_pos,List.getElem_cons_succ,List.getElem_cons_zero,cb3,Nat.zero_lt_succ,Nat.lt_add_one,qg,sizeLine_eq,Nat.reduceLeDiff,true_and]
 refine qW L4 u1 (by omega) (by omega) fun x G5 x1 x2 L5 E5 => ?_
 try simp [qv,qD,gn3,qz,zd,qN,qQ,jr,qm,v3,c3,o3,u3,zD,L3.ixT,L3.ixR,qU,iI,iC,iB,qP,qy,ji,tb3,jz,or3,jg,qH,jw,qZ,if3,ch3,cb3,qb,qg,zL,tyT,zq,qK,zk,ja,np3,sp3,qx,qj,qw,qT,je,zE,qi,bm3,z9,jc,zF,jj,jq,jy,zU,qs,qY,jb,jv,jn,jd,HT.sIx,getL,in3,qO,eqF,gu,sizeLine_eq,List.getElem?_cons_zero,List.getElem?_cons_succ]
 refine qW L5 u1 (by omega) (by omega) fun y G6 y1 y2 L6 E6 => ?_
 try simp [qv,qD,gn3,qz,zd,qN,qQ,jr,qm,v3,c3,o3,u3,zD,L3.ixT,L3.ixR,qU,iI,iC,iB,qP,qy,ji,tb3,jz,or3,jg,qH,jw,qZ,if3,ch3,cb3,qb,qg,zL,tyT,zq,qK,zk,ja,np3,sp3,qx,qj,qw,qT,je,zE,qi,bm3,z9,jc,zF,jj,jq,jy,zU,qs,qY,jb,jv,jn,jd,HT.sIx,getL,in3,qO,eqF,gu,sizeLine_eq,List.getElem?_cons_zero,List.getElem?_cons_succ]
 exact h r c (1 + b) x y G6 ⟨⟨r1,by omega,c1,by omega,by omega,by omega,x1,by omega,y1,by omega⟩,r2,c2,by show 1 + b ≤ 32;omega⟩ (L6.mono (by omega)) (E1.trans (((zz hp).trans E2).trans (E3.trans (((zz hp2).trans E4).trans (E5.trans E6)))))
theorem cop {b p : Int} (hb : 1 ≤ b) : ∃ k : Nat,(k : Int) < b∧Int.gcd b (p + k) = 1 := by
 refine ⟨((1 - p) % b).toNat,?_,?_⟩
 ·have := Int.emod_nonneg (1 - p) (show b ≠ 0 by omega)
  have := Int.emod_lt_of_pos (1 - p) (show 0 < b by omega)
  omega
 ·have h1 := Int.emod_nonneg (1 - p) (show b ≠ 0 by omega)
  have h2 := Int.emod_add_mul_ediv (1 - p) b
  have e : p + (((1 - p) % b).toNat : Int) = 1 + b * (-((1 - p) / b)) := by
   rw [Int.toNat_of_nonneg h1,Int.mul_neg];omega
  rw [e];simp
structure Plc (b p0 pl : Int) (i : Nat) : Prop where
 lo : p0 ≤ pl
 hi : pl ≤ p0 + i
 at_ : Int.gcd b pl = 1 ∨ (pl = p0 + i∧∀ k : Nat,k < i → Int.gcd b (p0 + k) ≠ 1)
theorem Plc.done {b p0 pl : Int} {n : Nat} (h : Plc b p0 pl n) (hb : 1 ≤ b) (hn : b ≤ n) : Int.gcd b pl = 1 := by
 rcases h.at_ with h | ⟨_,h⟩
 ·exact h
 ·obtain ⟨k,h1,h2⟩ := cop (p := p0) hb
  exact absurd h2 (h k (by omega))
theorem Plc.next {b p0 pl : Int} {i : Nat} (h : Plc b p0 pl i) (hb : 1 ≤ b) (hp : 1 ≤ p0) (hg : (1 : Int) < (Int.gcd b pl : Nat)) : Plc b p0 (pl + 1) (i + 1) := by
 rcases h.at_ with z | ⟨z1,z2⟩
 ·rw [z] at hg;simp at hg
 ·refine ⟨by have := h.lo;omega,by omega,.inr ⟨by omega,fun k hk => ?_⟩⟩
  rcases Nat.lt_or_ge k i with q | q
  ·exact z2 k q
  ·have : k = i := by omega
   subst this
   rw [← z1]
   omega
theorem Plc.stay {b p0 pl : Int} {i : Nat} (h : Plc b p0 pl i) (hb : 1 ≤ b) (hp : 1 ≤ p0) (hg : ¬ (1 : Int) < (Int.gcd b pl : Nat)) : Plc b p0 pl (i + 1) := by
 have g0 : 0 < Int.gcd b pl := Int.gcd_pos_of_ne_zero_left _ (by omega)
 exact ⟨h.lo,by have := h.hi;omega,.inl (by omega)⟩
theorem qb7 {r c b : Int} (hr : 1 ≤ r) (hc : 1 ≤ c) (hb : 1 ≤ b) : 1 ≤ -(-r * c / b)∧r * c ≤ b * -(-r * c / b)∧-(-r * c / b) ≤ r * c := by
 have h1 := YI hr hc
 have e : -r * c = -(r * c) := Int.neg_mul ..
 rw [e]
 have h2 := Int.ediv_neg_of_neg_of_pos (a := -(r * c)) (b := b) (by omega) (by omega)
 have h3 := Int.mul_ediv_self_le (x := -(r * c)) (k := b) (by omega)
 have h4 : -(r * c) ≤ -(r * c) / b := by
  have := Int.le_ediv_of_mul_le (a := -(r * c)) (b := -(r * c)) (c := b) (by omega) (by
   have := Int.mul_le_mul_of_nonneg_left hb (show (0 : Int) ≤ r * c by omega)
   rw [Int.neg_mul];omega)
  exact this
 rw [Int.mul_neg]
 omega
theorem SC : ∀ ts G q,EV ts G q → ts.length = 1∧ZU Q4 zf UT (ZN q) (qi ["_law_left_here","_law_rows","_law_columns","_law_banks","_law_places","_law_turn"] ts) G := by
 rintro ts G q ⟨a,n,rfl,hL,hn,h⟩
 refine ⟨rfl,?_⟩
 unfold ZU
 refine qR fun nx1 q1 => ?_
 simp only [qD,cb3,qb,v3,qi,List.map_cons,List.map_nil,List.length_cons,List.length_nil,Nat.zero_add,Nat.reduceAdd,Nat.add_one_sub_one,List.reduceReplicate,List.cons_append,List.nil_append,Nat.zero_lt_succ,getElem?_pos,List.getElem_cons_zero,qg,qx,qj,gn3,qw,List.set_cons_succ,List.set_cons_zero]
 refine ⟨a,n,rfl,hL,by omega,fun r c G1 r1 r2 c1 c2 L1 E1 => ?_⟩
 simp only [List.length_cons,List.length_nil,Nat.zero_add,Nat.reduceAdd,true_and]
 rw [q1]
 clear q1
 refine qR fun nx2 q2 => ?_
 simp only [qD,o3,c3,cb3,qb,v3,List.length_cons,List.length_nil,Nat.zero_add,Nat.reduceAdd,Nat.zero_lt_succ,getElem?_pos,List.getElem_cons_zero,zk,qg,sizeLine_eq,Nat.reduceLeDiff,qU,ne_eq,gn3,List.set_cons_succ,List.set_cons_zero,true_and]
 intro p hp
 have hpa := L1.ne hp
 refine qW (L1.new hpa) (by decide) (by decide) (by omega) fun d G2 d1 d2 L2' E2 => ?_
 have g2 := E2 p _ hpa qo
 obtain ⟨w,hw,w',rfl,w1,w2⟩ := qim d1 d2 (P := fun t => ∃ w,t = T.int w∧1 ≤ w∧w ≤ 32) ⟨8,rfl,by decide⟩ ⟨17,rfl,by decide⟩ ⟨32,rfl,by decide⟩
 simp only [ixR,getL,g2,hw]
 refine qW L2' w1 (by omega) (by omega) fun b G3 b1 b2 L3' E3 => ?_
 simp [qv,qD,gn3,qz,zd,qN,qQ,jr,qm,v3,c3,o3,u3,zD,L3.ixT,L3.ixR,qU,iI,iC,iB,qP,qy,ji,tb3,jz,or3,jg,qH,jw,qZ,if3,ch3,cb3,qb,qg,zL,tyT,zq,qK,zk,ja,np3,sp3,qx,qj,qw,qT,je,zE,qi,bm3,z9,jc,zF,jj,jq,jy,zU,qs,qY,jb,jv,jn,jd,HT.sIx,getL,in3,qO,eqF,gu,sizeLine_eq,List.getElem?_cons_zero,List.getElem?_cons_succ]
 rw [q2]
 clear q2
 refine qR fun nx3 q3 => ?_
 simp only [qD,o3,u3,v3,List.length_cons,List.length_nil,Nat.zero_add,Nat.reduceAdd,Nat.reduceLT,getElem?_pos,List.getElem_cons_succ,List.getElem_cons_zero,zD,iC,cb3,qb,Nat.zero_lt_succ,c3,qg,qU,ne_eq,sizeLine_eq,gn3,List.set_cons_succ,List.set_cons_zero]
 refine ⟨cm (by omega) (by omega),⟨by omega,by omega⟩,qW L3' (by omega) (by omega) (by omega) fun e G4 e1 e2 L4 E4 => ?_⟩
 obtain ⟨u1,u2,u3⟩ := qb7 r1 c1 (show 1 ≤ 1 + b by omega)
 have rc : r * c ≤ 16 * 16 := Int.mul_le_mul r2 c2 (by omega) (by omega)
 simp [qv,qD,gn3,qz,zd,qN,qQ,jr,qm,v3,c3,o3,u3,zD,L3.ixT,L3.ixR,qU,iI,iC,iB,qP,qy,ji,tb3,jz,or3,jg,qH,jw,qZ,if3,ch3,cb3,qb,qg,zL,tyT,zq,qK,zk,ja,np3,sp3,qx,qj,qw,qT,je,zE,qi,bm3,z9,jc,zF,jj,jq,jy,zU,qs,qY,jb,jv,jn,jd,HT.sIx,getL,in3,qO,eqF,gu,sizeLine_eq,List.getElem?_cons_zero,List.getElem?_cons_succ]
 rw [q3]
 clear q3
 simp only [qv,UH,zh,qb,c3,qg,Int.reducePow,Int.reduceNeg,Int.neg_ofNat_le_ofNat,Int.reduceLT,and_self,Int.reduceToNat,true_and]
 obtain ⟨p0,hp0⟩ : ∃ p0,p0 = -(-r * c / (1 + b)) + e := ⟨_,rfl⟩
 refine zH _ (fun i τ G' => G' = G4∧∃ (pl : Int) (x : Option T),τ = [some (.ref a),some (.int r),some (.int c),some (.int (1 + b)),some (.int pl),x]∧Plc (1 + b) p0 pl i) ⟨rfl,_,none,by rw [← hp0],⟨by omega,by omega,.inr ⟨by omega,by omega⟩⟩⟩ (fun _ _ _ _ _ => True.intro) ?_ ?_
 ·rintro i x τ G' nx hx ⟨rfl,pl,y,rfl,P⟩ hn
  simp only [gn3,qN,tb3,o3,cb3,qb,v3,List.set_cons_succ,List.set_cons_zero,List.length_cons,List.length_nil,Nat.zero_add,Nat.reduceAdd,Nat.reduceLT,getElem?_pos,List.getElem_cons_succ,List.getElem_cons_zero,qg,c3,iB,decide_eq_true_eq,qD,qU,qm]
  refine ⟨1 + b,pl,rfl,by omega,by have := P.lo;omega,?_⟩
  simp
  split
  ·rename_i hg
   exact hn _ _ ⟨rfl,_,_,rfl,P.next (by omega) (by omega) (by omega)⟩
  ·rename_i hg
   exact hn _ _ ⟨rfl,_,_,rfl,P.stay (by omega) (by omega) (by omega)⟩
 ·rintro τ G' ⟨rfl,pl,x,rfl,P⟩
  simp only [qz,qK,qb,c3,v3,List.length_cons,List.length_nil,Nat.zero_add,Nat.reduceAdd,Nat.reduceLT,getElem?_pos,List.getElem_cons_succ,List.getElem_cons_zero,qg,sizeLine_eq,Nat.reduceLeDiff,true_and]
  rw [zr] at P
  have lo := P.lo;have hi := P.hi
  have m1 : (1 + b) * -(-r * c / (1 + b)) ≤ (1 + b) * pl := Int.mul_le_mul_of_nonneg_left (by omega) (by omega)
  exact h r c (1 + b) pl G' ⟨⟨r1,by omega,c1,by omega,by omega,by omega,by omega,by omega,P.done (by omega) (by omega),by omega⟩,r2,c2,by show 1 + b ≤ 32;omega⟩ (L4.mono (by omega)) (E1.trans (((zz hp).trans E2).trans (E3.trans E4)))
end Bk
namespace Bk
open PySem L2 L3
def WQ : Nat → PyData → Prop
 | _,.none => True
 | _,.bool _ => True
 | _,.int _ => True
 | _,.str _ => True
 | n + 1,.list ds => ds.length ≤ 1000000∧∀ d ∈ ds,WQ n d
 | n + 1,.tuple ds => ds.length ≤ 1000000∧∀ d ∈ ds,WQ n d
 | _,_ => False
def Z5 : Nat → Sp3
 | 0 => U3
 | n + 1 => fun ts G q => ∃ (x y : T) (d : PyData),ts = [x,y]∧Dp G x d∧Dp G y d∧WQ n d∧∀ G',Ex G G' → q (.bl true) G'
theorem KL {G G' : Gp} (e : Ex G G') {x : T} {us : List T} (h : zC G x = some us) : zC G' x = some us := by
 cases x <;> simp [zC] at h ⊢
 ·exact h
 ·exact e.getL h
theorem T5 (n : Nat) : qcX (List.replicate n (.bl true)) = some true := by
 induction n with
 | zero => rfl
 | succ n ih => rw [List.replicate_succ];simp [qcX,ih]
theorem KD {G : Gp} {n : Nat} {x y : T} {us vs : List T} {ds : List PyData} {q : Q3} (hx : zC G x = some us) (hy : zC G y = some vs) (du : Dps G us ds) (dv : Dps G vs ds) (hl : us.length ≤ 1000000) (hd : ∀ d ∈ ds,∃ m,n = m + 1∧WQ m d) (h : ∀ G',Ex G G' → q (.bl true) G') :
  VP (fun G => zC G x = some us∧zC G y = some vs) (qx 2 (qj (gn3 0) (qj (gn3 1) qw))) tt3 (cb3 (Z5 n) (qb (v3 0) (qb (v3 1) qg))) (fun x G1 => jb [x] G1 q) (qbj us vs) [] [none,none] G := by
 have e1 := du.length
 have e2 := dv.length
 refine jN _ (fun i ys τ G' => Ex G G'∧ys = List.replicate i (.bl true)∧∃ x0 x1,τ = [x0,x1]) ⟨Ex.refl,rfl,none,none,rfl⟩ (fun i ys τ G' _ hp => ⟨KL hp.1 hx,KL hp.1 hy⟩) ?_ ?_
 ·rintro i z ys τ G' R hz ⟨E,rfl,x0,x1,rfl⟩ hR
  obtain ⟨a,b,ha,hb,rfl⟩ := C6 hz
  obtain ⟨d,hd1,da⟩ := du.get ha
  obtain ⟨d',hd2,db⟩ := dv.get hb
  rw [hd1] at hd2;cases hd2
  obtain ⟨m,rfl,dl⟩ := hd d (List.mem_of_getElem? hd1)
  have hi := (List.getElem?_eq_some_iff.mp ha).1
  simp only [qx,List.length_cons,List.length_nil,Nat.zero_add,Nat.reduceAdd,qj,gn3,qw,tt3,↓reduceIte,cb3,qb,v3,List.set_cons_zero,List.set_cons_succ,Nat.zero_lt_succ,getElem?_pos,List.getElem_cons_zero,Nat.lt_add_one,List.getElem_cons_succ,qg,List.length_replicate,sizeLine_eq,true_and]
  refine ⟨a,b,d,rfl,da.up E,db.up E,dl,fun G2 E2 => ⟨by omega,hR _ _ _ ⟨E.trans E2,?_,_,_,rfl⟩⟩⟩
  rw [List.replicate_succ']
 ·rintro ys τ G' ⟨E,rfl,x0,x1,rfl⟩ p hp
  simp [jb,getL,qo,T5]
  exact h _ (E.trans (ze hp))
theorem qaN {n : Nat} {ds : List PyData} (h : WQ n (.list ds)) : ds.length ≤ 1000000∧∀ d ∈ ds,∃ m,n = m + 1∧WQ m d := by
 cases n with
 | zero => exact h.elim
 | succ n => exact ⟨h.1,fun d hd => ⟨n,rfl,h.2 d hd⟩⟩
theorem N8 {n : Nat} {ds : List PyData} (h : WQ n (.tuple ds)) : ds.length ≤ 1000000∧∀ d ∈ ds,∃ m,n = m + 1∧WQ m d := by
 cases n with
 | zero => exact h.elim
 | succ n => exact ⟨h.1,fun d hd => ⟨n,rfl,h.2 d hd⟩⟩
theorem qgl {x : T} {G : Gp} {q : Q3} (h : qy x x = some true) (k : q (.bl true) G) : qP false x x G q := by
 unfold qP;rw [h];exact k
theorem MP {ta tb : TE3} {e : Ends3} {τ : St3} {G : Gp} {x : T} (h : ∀ q',q' x G → ta τ G q') (k : x = .bl true) (h2 : tb τ G e.rt) : qz (qH ta tb) e τ G := h _ (by subst k;exact h2)
theorem qiE {ta tb : TE3} {τ : St3} {G : Gp} {x : T} (ha : ∀ q',q' x G → ta τ G q') (hb : ∀ q',q' x G → tb τ G q') (h : qy x x = some true) : ∀ q',q' (.bl true) G → o3 (qP false) ta tb τ G q' := fun q' k => ha _ (hb _ (qgl h k))
theorem LY {c : TT3} {a b : TS3} {e : Ends3} {τ : St3} {G : Gp} (h : ∀ A,A = a → qN c A b e τ G) : qN c a b e τ G := h _ rfl
theorem ZZ (n : Nat) : ∀ ts G q,Z5 (n + 1) ts G q → ts.length = 2∧UK (Z5 n) (ZN q) (qi ["_law_found","_law_due"] ts) G := by
 rintro ts G q ⟨x,y,d,rfl,hx,hy,hd,h⟩
 refine ⟨rfl,?_⟩
 have h0 := h G Ex.refl
 cases hx with
 | non => cases hy;exact h0
 | bl b => cases hy;cases b <;> exact h0
 | int i => cases hy;exact qgl (x := .int i) (by simp [qy]) h0
 | str s =>
  cases hy
  refine qR fun nx1 q1 => ?_
  refine LY fun A1 hA => ?_
  clear hA
  show nx1 _ _
  rw [q1];clear q1
  refine qR fun nx2 q2 => ?_
  refine LY fun A2 hA => ?_
  show A2 _ _ _
  rw [hA]
  exact MP (qiE (x := .str s) (fun _ k => k) (fun _ k => k) (by simp [qy])) rfl h0
 | tup dx =>
  cases hy with
  | tup dy =>
   rename_i xs ds ys
   have e1 := dx.length
   have e2 := dy.length
   obtain ⟨l1,l2⟩ := N8 hd
   have key := KD (n := n) (x := .tup xs) (y := .tup ys) (us := xs) (vs := ys) (q := q) rfl rfl dx dy (by omega) l2 h
   have e3 : xs.length = ys.length := by omega
   refine qR fun nx1 q1 => ?_
   clear q1
   refine LY fun A1 hA => ?_
   show A1 _ _ _
   rw [hA];clear hA
   refine qR fun nx2 q2 => ?_
   refine LY fun A2 hA => ?_
   show nx2 _ _
   rw [q2];clear q2
   exact MP (qiE (x := .int ys.length) (fun _ k => by rw [← e3] at k;exact k) (fun _ k => k) (by simp [qy])) rfl key
 | lst gx dx =>
  cases hy with
  | lst gy dy =>
   rename_i p1 xs ds p2 ys
   have e1 := dx.length
   have e2 := dy.length
   obtain ⟨l1,l2⟩ := qaN hd
   have key := KD (n := n) (x := .ref p1) (y := .ref p2) (us := xs) (vs := ys) (q := q) gx gy dx dy (by omega) l2 h
   have e3 : xs.length = ys.length := by omega
   refine qR fun nx1 q1 => ?_
   clear q1
   refine LY fun A1 hA => ?_
   simp only [qN,tb3,zL,v3,qi,List.map_cons,List.map_nil,List.length_cons,List.length_nil,Nat.zero_add,Nat.reduceAdd,Nat.sub_self,List.replicate_zero,List.append_nil,Nat.lt_add_one,getElem?_pos,List.getElem_cons_succ,List.getElem_cons_zero,tyT,gx,gy,Option.isSome_some,↓reduceIte,zq,BEq.rfl,String.reduceBEq,Bool.and_self,Bool.or_false,Bool.or_self,or3,o3,Nat.zero_lt_succ,qP,qy,decide_true,Bool.not_true,Bool.false_eq_true,qm]
   rw [hA];clear hA
   refine qR fun nx2 q2 => ?_
   refine LY fun A2 hA => ?_
   clear hA
   simp only [qN,tb3,zL,v3,qi,List.map_cons,List.map_nil,List.length_cons,List.length_nil,Nat.zero_add,Nat.reduceAdd,Nat.sub_self,List.replicate_zero,List.append_nil,Nat.lt_add_one,getElem?_pos,List.getElem_cons_succ,List.getElem_cons_zero,tyT,gx,gy,Option.isSome_some,↓reduceIte,zq,BEq.rfl,String.reduceBEq,Bool.and_self,Bool.or_false,Bool.or_self,or3,o3,Nat.zero_lt_succ,qP,qy,decide_true,Bool.not_true,Bool.false_eq_true,qm]
   rw [q2];clear q2
   simp only [zC,jb,qi,List.map_cons,List.map_nil,List.length_cons,List.length_nil,Nat.zero_add,Nat.reduceAdd,Nat.sub_self,List.replicate_zero,List.append_nil,Nat.lt_add_one,getElem?_pos,List.getElem_cons_succ,List.getElem_cons_zero,gy,↓reduceIte,o3,v3,Nat.zero_lt_succ,gx,qP,qy,decide_true,Bool.false_eq_true,qz,qH,cb3,qb,qg,zF,e3,lc3,K8,cap] at key ⊢
   exact key
end Bk
namespace Bk
open PySem L2 L3
def ZW : Nat → Sp3
 | 0 => U3
 | n + 1 => fun ts G q => ∃ d : Dl,ts = [d.t]∧d.dep ≤ n∧d.Ok∧∀ G',Ex G G' → q (VI d) G'
theorem KR : ∀ {d : Nat},d ≤ 8 → L2.atI [T.int 1,.int 2,.int 4,.int 8,.int 16,.int 32,.int 64,.int 128,.int 256] (d : Int) = some (.int (2 ^ d))
 | 0,_ => rfl
 | 1,_ => rfl
 | 2,_ => rfl
 | 3,_ => rfl
 | 4,_ => rfl
 | 5,_ => rfl
 | 6,_ => rfl
 | 7,_ => rfl
 | 8,_ => rfl
 | k + 9,h => absurd h (Nat.not_le.mpr (Nat.lt_of_lt_of_le (Nat.lt_succ_self _) (Nat.le_add_left _ _)))
theorem K0 : ∀ {d : Nat},d ≤ 4 → L2.atI [T.int 1,.int 2,.int 4,.int 8,.int 16] (d : Int) = some (.int (2 ^ d))
 | 0,_ => rfl
 | 1,_ => rfl
 | 2,_ => rfl
 | 3,_ => rfl
 | 4,_ => rfl
 | k + 5,h => absurd h (Nat.not_le.mpr (Nat.lt_of_lt_of_le (Nat.lt_succ_self _) (Nat.le_add_left _ _)))
theorem DE {α : Type} {x : α} {xs : List α} : L2.atI (x :: xs) 0 = some x := by simp [L2.atI,ixN]
theorem W2 {α : Type} {x y : α} {xs : List α} : L2.atI (x :: y :: xs) 1 = some y := by
 rw [zp (by omega) (by simp;omega)];rfl
theorem TZ {α : Type} {x y z : α} {xs : List α} : L2.atI (x :: y :: z :: xs) 2 = some z := by
 rw [zp (by omega) (by simp;omega)];rfl
theorem qgJ {α : Type} {x y z w : α} {xs : List α} : L2.atI (x :: y :: z :: w :: xs) 3 = some w := by
 rw [zp (by omega) (by simp;omega)];rfl
theorem zi {s l : Str} {xs : List T} {R S : TS3} {d : Ends3} {τ : St3} {G : Gp} (hτ : τ[0]? = some (some (T.tup (.str s :: xs)))) : qv (qN (tb3 (o3 (qP false) (o3 ix3 (v3 0) (c3 (.int 0))) (c3 (.str l)))) R qm) S d τ G = (if s = l then R { d with nx := S d } τ G else S d τ G) := by
 simp only [qv,qN,tb3,o3,v3,hτ,c3,L3.ixT,DE,qP,qy,qm]
 by_cases e : s = l <;> simp [e]
theorem C4 {te : TE3} {q : Q3} {a : Addr} {n many : Int} {VJ : St3} {items : List T} {x0 : Option T} {G : Gp} (hte : ∀ x0 G3 (Q : T → Gp → Prop),zf [.ref a,.int many] G3 Q → te (x0 :: VJ) G3 Q) (hL : Lf G a n) (m1 : 1 ≤ many) (m2 : many < 1073741824) (hl : items.length ≤ 1000) (hn : n < 1000000000)
  (h : ∀ (ds : List Int) G' p,ds.length = items.length → (∀ d ∈ ds,0 ≤ d∧d < many) → Lf G' a (n + items.length) → Ext a G G' → G' p = none → q (.ref p) (gu G' p (.lst (ds.map T.int)))) :
  VP (fun _ => True) (gn3 0) tt3 te q items [] (x0 :: VJ) G := by
 refine jN _ (fun i ys τ G' => ∃ (ds : List Int) (x0 : Option T),τ = x0 :: VJ∧ys = ds.map T.int∧ds.length = i∧(∀ d ∈ ds,0 ≤ d∧d < many)∧Lf G' a (n + i)∧Ext a G G') ⟨[],x0,rfl,rfl,rfl,by simp,by simpa using hL,Ext.refl⟩ (fun _ _ _ _ _ _ => True.intro) ?_ ?_
 ·rintro i z ys τ G' R hz ⟨ds,x0,rfl,rfl,e,hd,hL',E⟩ hR
  have hi := (List.getElem?_eq_some_iff.mp hz).1
  simp only [gn3,tt3,List.set_cons_zero,if_true]
  refine hte _ _ _ (qW hL' m1 m2 (by omega) fun d G2 d1 d2 L2 E2 => ⟨by simp [sizeLine_eq];omega,hR _ _ _ ⟨ds ++ [d],_,rfl,by simp,by simp [e],fun x hx => ?_,L2.mono (by omega),E.trans E2⟩⟩)
  rcases List.mem_append.mp hx with hx | hx
  ·exact hd x hx
  ·simp at hx;subst hx;exact ⟨d1,d2⟩
 ·rintro ys τ G' ⟨ds,x0,rfl,rfl,e,hd,hL',E⟩ p hp
  exact h ds G' p e hd hL' E hp
def DT : Sp3 := fun ts G q => ∃ a n most,ts = [.ref a,.int most]∧Lf G a n∧n < 10000000∧0 ≤ most∧most ≤ 4∧∀ (h l : Nat) (ms : List Int) G',(h : Int) ≤ most → (l : Int) ≤ most → (Dl.bits h l ms).Ok → Lf G' a (n + 10) → Ext a G G' → q (Dl.bits h l ms).t G'
theorem KS {wide : Int} {p : Addr} {ds : List Int} {x0 : Option T} {G : Gp} {q : Q3} (hw : 0 < wide) (hl : ds.length ≤ 1000) (hG : getL G p = some (ds.map T.int)) (h : ∀ p2,G p2 = none → q (.ref p2) (gu G p2 (.lst ((ds.map (· % wide)).map T.int)))) :
  VP (fun G => getL G p = some (ds.map T.int)) (gn3 0) tt3 (o3 (iC (fun _ j => 0 < j) (· % ·)) (v3 0) (v3 1)) q (ds.map T.int) [] [x0,some (.int wide)] G := by
 refine j8 (fun t => match t with | .int m => T.int (m % wide) | t => t) (fun τ => ∃ x0,τ = [x0,some (.int wide)]) hG _ _ _ ⟨_,rfl⟩ ?_ (by simp [sizeLine_eq];omega) fun p2 hp2 => ?_
 ·rintro z hz τ ⟨x0,rfl⟩ R hR
  rw [List.mem_map] at hz
  obtain ⟨m,_,rfl⟩ := hz
  simp [gn3,o3,v3,iC]
  exact ⟨hw,hR _ ⟨_,rfl⟩⟩
 ·have := h p2 hp2
  simpa [List.map_map,Function.comp_def] using this
theorem SQ : ∀ ts G q,DT ts G q → ts.length = 2∧YD zf (ZN q) (qi ["_law_left_here","_law_most","_law_high","_law_low","_law_masks","_law_wide"] ts) G := by
 rintro ts G q ⟨a,n,most,rfl,hL,hn,m1,m2,h⟩
 refine ⟨rfl,?_⟩
 simp only [YD,qv,zE,qb,cb3,v3,qi,List.map_cons,List.map_nil,List.length_cons,List.length_nil,Nat.zero_add,Nat.reduceAdd,Nat.reduceSub,List.reduceReplicate,List.cons_append,List.nil_append,Nat.zero_lt_succ,getElem?_pos,List.getElem_cons_zero,o3,Nat.reduceLT,List.getElem_cons_succ,c3,qU,qg,qD,List.set_cons_succ,List.set_cons_zero,gn3,zk,sizeLine_eq,Nat.reduceLeDiff,ne_eq,qz,qK,qs,true_and,getL,gu,ixR,↓reduceIte]
 refine qW hL (by omega) (by omega) (by omega) fun hi G1 h1 h2 L1 E1 => ?_
 try simp
 refine qW L1 (by omega) (by omega) (by omega) fun lo G2 l1 l2 L2' E2 => ?_
 simp only [lc3,zh,qb,cb3,v3,List.length_cons,List.length_nil,Nat.zero_add,Nat.reduceAdd,Nat.zero_lt_succ,getElem?_pos,List.getElem_cons_zero,c3,qg,Int.reducePow,Int.reduceNeg,cap,List.map_cons,Nat.lt_add_one,List.getElem_cons_succ,Option.join_some,List.map_nil]
 refine qW L2' (by omega) (by omega) (by omega) fun k G3 k1 k2 L3' E3 => ?_
 refine ⟨⟨by omega,by omega⟩,C4 (many := 256) (fun x0 G3 Q hq => by simpa [cb3,qb,v3,c3,qg] using hq) L3' (by omega) (by omega) (by rw [zr];omega) (by omega) fun ds G4 p e1 e2 L4 E4 hp => ?_⟩
 rw [zr] at e1 L4
 obtain ⟨H,rfl⟩ := Int.eq_ofNat_of_zero_le h1
 obtain ⟨W,rfl⟩ := Int.eq_ofNat_of_zero_le l1
 have hpa := L4.ne hp
 try simp
 intro p2 hp2
 have pp : p ≠ p2 := by rintro rfl;rw [qo] at hp2;cases hp2
 have e3 : ((H : Int) + (W : Int)) = ((H + W : Nat) : Int) := by omega
 have w1 := VX (H + W)
 have hG : ∀ B,getL (gu (gu G4 p (.lst (ds.map T.int))) p2 B) p = some (ds.map T.int) := fun B => by simp only [getL,jK pp,qo]
 rw [e3,KR (d := H + W) (by omega)]
 simp only [jI,v3,List.getElem?_cons_zero,List.getElem?_cons_succ,hG]
 refine KS (by omega) (by omega) (hG _) fun p3 hp3 => ?_
 simp only [qo]
 refine h H W _ _ (by omega) (by omega) ⟨by omega,by omega,by simp;omega,fun m hm => ?_⟩ ((((L4.new hpa).new ((L4.new hpa).ne hp2)).new (((L4.new hpa).new ((L4.new hpa).ne hp2)).ne hp3)).mono (by omega)) (((E1.trans E2).trans (E3.trans E4)).trans (((zz hp).trans (zz hp2)).trans (zz hp3)))
 rw [List.mem_map] at hm
 obtain ⟨x,_,rfl⟩ := hm
 exact ⟨Int.emod_nonneg _ (by omega),Int.emod_lt_of_pos _ (by omega)⟩
end Bk
namespace Bk
open PySem L2 L3
structure Cells (cells : List (List Int)) (r c b : Int) : Prop where
 r : (cells.length : Int) = r
 c : ∀ row ∈ cells,(row.length : Int) = c∧∀ x ∈ row,0 ≤ x∧x < b
theorem KM {q : Q3} {a : Addr} {n r c b : Int} {x0 : Option T} {G : Gp} (hL : Lf G a n) (hn : n < 100000000) (r1 : 1 ≤ r) (r2 : r ≤ 16) (c1 : 1 ≤ c) (c2 : c ≤ 16) (b1 : 1 ≤ b) (b2 : b ≤ 1000)
  (h : ∀ cells G' p,Cells cells r c b → Lf G' a (n + 256) → Ext a G G' → G' p = none → q (.ref p) (gu G' p (.lst (cells.map LW)))) :
  VP (fun _ => True) (gn3 0) tt3 (cb3 qs (qb (lc3 (zh (qb (v3 3) qg)) (gn3 0) tt3 (cb3 zf (qb (v3 1) (qb (v3 2) qg))) [none,some 1,some 2]) qg)) q (DI 0 r.toNat) [] [x0,some (.ref a),some (.int b),some (.int c)] G := by
 refine jN _ (fun i ys τ G' => ∃ (cells : List (List Int)) (x0 : Option T),τ = [x0,some (.ref a),some (.int b),some (.int c)]∧ys = cells.map LW∧Cells cells i c b∧Lf G' a (n + 16 * i)∧Ext a G G') ⟨[],x0,rfl,rfl,⟨rfl,by simp⟩,by simpa using hL,Ext.refl⟩ (fun _ _ _ _ _ _ => True.intro) ?_ ?_
 ·rintro i z ys τ G' R hz ⟨cells,x0,rfl,rfl,C,hL',E⟩ hR
  obtain ⟨hi,rfl⟩ := jt hz
  have hc := C.r
  simp only [gn3,tt3,↓reduceIte,cb3,qb,lc3,zh,v3,Int.zero_add,List.set_cons_zero,List.length_cons,List.length_nil,Nat.zero_add,Nat.reduceAdd,Nat.lt_add_one,getElem?_pos,List.getElem_cons_succ,List.getElem_cons_zero,qg,Int.reducePow,Int.reduceNeg,qs,List.length_map,sizeLine_eq,getL,cap,List.map_cons,Nat.reduceLT,Option.join_some,List.map_nil]
  refine ⟨⟨by omega,by omega⟩,C4 (many := b) (fun x0 G3 Q hq => by simpa [cb3,qb,v3,c3,qg] using hq) hL' (by omega) (by omega) (by rw [zr];omega) (by omega) fun ds G4 p e1 e2 L4 E4 hp => ?_⟩
  rw [zr] at e1 L4
  simp only [qo]
  refine ⟨by omega,hR _ _ _ ⟨cells ++ [ds],_,rfl,by simp [LW],⟨by simp;omega,fun row hrow => ?_⟩,((L4.new (L4.ne hp)).mono (by omega)),(E.trans E4).trans (zz hp)⟩⟩
  rcases List.mem_append.mp hrow with hr | hr
  ·exact C.c row hr
  ·simp at hr;subst hr;exact ⟨by omega,e2⟩
 ·rintro ys τ G' ⟨cells,x0,rfl,rfl,C,hL',E⟩ p hp
  rw [zr] at C hL'
  exact h cells G' p ⟨by have := C.r;omega,C.c⟩ (hL'.mono (by omega)) E hp
theorem Cells.ok {cells : List (List Int)} {r c b : Int} (C : Cells cells r c b) (r1 : 1 ≤ r) (r2 : r ≤ 60) (c1 : 1 ≤ c) (c2 : c ≤ 60) (b1 : 1 ≤ b) (b2 : b ≤ 1000) : (Dl.table b cells).Ok∧(Dl.table b cells).R = r∧(Dl.table b cells).C = c := by
 have hl := C.r
 have ok : (Dl.table b cells).Ok := ⟨b1,b2,by omega,by omega,c.toNat,by omega,by omega,fun row hr => ⟨by have := (C.c row hr).1;omega,(C.c row hr).2⟩⟩
 have e0 : cells[0]? = some cells[0] := List.getElem?_eq_getElem (by omega)
 exact ⟨ok,hl,by simp [Dl.C,e0];exact (C.c cells[0] (List.getElem_mem _)).1⟩
def EW : Sp3 := fun ts G q => ∃ a n,ts = [.ref a]∧Lf G a n∧n < 10000000∧∀ (d : Dl) G',Dr d 4 4 5 → d.dep = 0 → Lf G' a (n + 300) → Ext a G G' → q d.t G'
theorem RP : ∀ ts G q,EW ts G q → ts.length = 1∧JG zf UT (ZN q) (qi ["_law_left_here","_law_rows","_law_columns","_law_banks","_law_way","_law_high","_law_low","_law_masks","_law_wide","_law_places","_law_turn","_law_cells"] ts) G := by
 rintro ts G q ⟨a,n,rfl,hL,hn,h⟩
 refine ⟨rfl,?_⟩
 unfold JG
 refine qR fun nx1 q1 => ?_
 simp only [qD,qK,qb,o3,c3,cb3,v3,qi,List.map_cons,List.map_nil,List.length_cons,List.length_nil,Nat.zero_add,Nat.reduceAdd,Nat.add_one_sub_one,List.reduceReplicate,List.cons_append,List.nil_append,Nat.zero_lt_succ,getElem?_pos,List.getElem_cons_zero,qg,qU,ne_eq,sizeLine_eq,Nat.reduceLeDiff,qx,qj,gn3,qw,List.set_cons_succ,List.set_cons_zero,true_and]
 refine qW hL (by omega) (by omega) (by omega) fun r G1 r1 r2 L1 E1 => ?_
 try simp
 refine qW L1 (by omega) (by omega) (by omega) fun c G2 c1 c2 L2' E2 => ?_
 try simp
 refine qW L2' (by omega) (by omega) (by omega) fun b G3 b1 b2 L3' E3 => ?_
 try simp
 rw [q1]
 refine qR fun nx2 q2 => ?_
 simp only [qD,cb3,qb,v3,List.length_cons,List.length_nil,Nat.zero_add,Nat.reduceAdd,Nat.zero_lt_succ,getElem?_pos,List.getElem_cons_zero,c3,qg,gn3,List.set_cons_succ,List.set_cons_zero]
 refine qW L3' (by omega) (by omega) (by omega) fun way G4 w1 w2 L4 E4 => ?_
 have EE := (E1.trans E2).trans (E3.trans E4)
 rw [q2]
 refine qR fun nx3 q3 => ?_
 by_cases k0 : way = 0
 ·subst k0
  simp only [qN,tb3,o3,v3,List.length_cons,List.length_nil,Nat.zero_add,Nat.reduceAdd,Nat.reduceLT,getElem?_pos,List.getElem_cons_succ,List.getElem_cons_zero,c3,qP,qy,decide_true,Bool.false_eq_true,↓reduceIte,qz,qK,qb,cb3,Nat.zero_lt_succ,qg,sizeLine_eq,Nat.reduceLeDiff,true_and]
  refine qW L4 (by omega) (by omega) (by omega) fun x G5 x1 x2 L5 E5 => ?_
  try simp
  refine qW L5 (by omega) (by omega) (by omega) fun y G6 y1 y2 L6 E6 => ?_
  try simp
  exact h (.skew (1 + r) (1 + c) (1 + b) x y) G6 ⟨⟨by omega,by omega,by omega,by omega,by omega,by omega,by omega,by omega,by omega,by omega⟩,by show 1 + r ≤ 4;omega,by show 1 + c ≤ 4;omega,by show 1 + b ≤ 5;omega⟩ rfl (L6.mono (by omega)) (EE.trans (E5.trans E6))
 simp only [qN,tb3,o3,v3,c3,qP,qy,List.getElem?_cons_zero,List.getElem?_cons_succ,k0,decide_false,Bool.false_eq_true,if_false,qm]
 rw [q3]
 refine qR fun nx4 q4 => ?_
 by_cases k1 : way = 1
 ·subst k1
  simp only [qN,tb3,o3,v3,List.length_cons,List.length_nil,Nat.zero_add,Nat.reduceAdd,Nat.reduceLT,getElem?_pos,List.getElem_cons_succ,List.getElem_cons_zero,c3,qP,qy,decide_true,Bool.false_eq_true,↓reduceIte,qv,zE,qb,cb3,Nat.zero_lt_succ,qg,qD,List.set_cons_succ,List.set_cons_zero,gn3,zk,sizeLine_eq,Nat.reduceLeDiff,qU,ne_eq,qz,qK,qs,true_and,getL,gu,ixR]
  refine qW L4 (by omega) (by omega) (by omega) fun hi G5 h1 h2 L5 E5 => ?_
  try simp
  refine qW L5 (by omega) (by omega) (by omega) fun lo G6 l1 l2 L6 E6 => ?_
  simp only [lc3,zh,qb,cb3,v3,List.length_cons,List.length_nil,Nat.zero_add,Nat.reduceAdd,Nat.zero_lt_succ,getElem?_pos,List.getElem_cons_zero,c3,qg,Int.reducePow,Int.reduceNeg,cap,List.map_cons,Nat.reduceLT,List.getElem_cons_succ,Option.join_some,List.map_nil]
  refine qW L6 (by omega) (by omega) (by omega) fun k G7 k1 k2 L7 E7 => ?_
  refine ⟨⟨by omega,by omega⟩,C4 (many := 16) (fun x0 G3 Q hq => by simpa [cb3,qb,v3,c3,qg] using hq) L7 (by omega) (by omega) (by rw [zr];omega) (by omega) fun ds G8 p e1 e2 L8 E8 hp => ?_⟩
  rw [zr] at e1 L8
  obtain ⟨H,rfl⟩ := Int.eq_ofNat_of_zero_le h1
  obtain ⟨W,rfl⟩ := Int.eq_ofNat_of_zero_le l1
  have hpa := L8.ne hp
  try simp
  intro p2 hp2
  have pp : p ≠ p2 := by rintro rfl;rw [qo] at hp2;cases hp2
  have e3 : ((H : Int) + (W : Int)) = ((H + W : Nat) : Int) := by omega
  have w1 := VX (H + W)
  have hG : ∀ B,getL (gu (gu G8 p (.lst (ds.map T.int))) p2 B) p = some (ds.map T.int) := fun B => by simp only [getL,jK pp,qo]
  rw [e3,K0 (d := H + W) (by omega)]
  simp only [jI,v3,List.getElem?_cons_zero,List.getElem?_cons_succ,hG]
  refine KS (by omega) (by omega) (hG _) fun p3 hp3 => ?_
  simp only [qo]
  have bl : (Dl.bits H W (ds.map (· % 2 ^ (H + W)))).Ok := ⟨by omega,by omega,by simp;omega,fun m hm => by
   rw [List.mem_map] at hm
   obtain ⟨x,_,rfl⟩ := hm
   exact ⟨Int.emod_nonneg _ (by omega),Int.emod_lt_of_pos _ (by omega)⟩⟩
  have q1 := VS (n := H) (k := 2) (by omega)
  have q2 := VS (n := W) (k := 2) (by omega)
  have q3 := VS (n := ds.length) (k := 2) (by omega)
  exact h (.bits H W _) _ ⟨bl,by show (2 : Int) ^ H ≤ 4;omega,by show (2 : Int) ^ W ≤ 4;omega,by simp [Dl.B];omega⟩ rfl ((((L8.new hpa).new ((L8.new hpa).ne hp2)).new (((L8.new hpa).new ((L8.new hpa).ne hp2)).ne hp3)).mono (by omega)) (EE.trans (((E5.trans E6).trans (E7.trans E8)).trans (((zz hp).trans (zz hp2)).trans (zz hp3))))
 simp only [qN,tb3,o3,v3,c3,qP,qy,List.getElem?_cons_zero,List.getElem?_cons_succ,k1,decide_false,Bool.false_eq_true,if_false,qm]
 rw [q4]
 refine qR fun nx5 q5 => ?_
 by_cases k2 : way = 2
 ·subst k2
  simp only [qN,tb3,o3,v3,List.length_cons,List.length_nil,Nat.zero_add,Nat.reduceAdd,Nat.reduceLT,getElem?_pos,List.getElem_cons_succ,List.getElem_cons_zero,c3,qP,qy,decide_true,Bool.false_eq_true,↓reduceIte,qv,qD,u3,zD,iC,cb3,qb,Nat.zero_lt_succ,qg,qU,ne_eq,sizeLine_eq,gn3,List.set_cons_succ,List.set_cons_zero]
  refine ⟨cm (by omega) (by omega),⟨by omega,by omega⟩,qW L4 (by omega) (by omega) (by omega) fun e G5 e1 e2 L5 E5 => ?_⟩
  obtain ⟨u1,u2,u3⟩ := qb7 (show 1 ≤ 1 + r by omega) (show 1 ≤ 1 + c by omega) (show 1 ≤ 1 + b by omega)
  have rc : (1 + r) * (1 + c) ≤ 4 * 4 := Int.mul_le_mul (by omega) (by omega) (by omega) (by omega)
  simp only [UH,zh,qb,c3,qg,Int.reducePow,Int.reduceNeg,Int.neg_ofNat_le_ofNat,Int.reduceLT,and_self,Int.reduceToNat,true_and]
  obtain ⟨p0,hp0⟩ : ∃ p0,p0 = -(-(1 + r) * (1 + c) / (1 + b)) + e := ⟨_,rfl⟩
  refine zH _ (fun i τ G' => G' = G5∧∃ (pl : Int) (x : Option T),τ = [some (.ref a),some (.int (1 + r)),some (.int (1 + c)),some (.int (1 + b)),some (.int 2),none,none,none,none,some (.int pl),x,none]∧Plc (1 + b) p0 pl i) ⟨rfl,_,none,by rw [← hp0],⟨by omega,by omega,.inr ⟨by omega,by omega⟩⟩⟩ (fun _ _ _ _ _ => True.intro) ?_ ?_
  ·rintro i x τ G' nx hx ⟨rfl,pl,y,rfl,P⟩ hn
   simp only [gn3,qN,tb3,o3,cb3,qb,v3,List.set_cons_succ,List.set_cons_zero,List.length_cons,List.length_nil,Nat.zero_add,Nat.reduceAdd,Nat.reduceLT,getElem?_pos,List.getElem_cons_succ,List.getElem_cons_zero,qg,c3,iB,decide_eq_true_eq,qD,qU,qm]
   refine ⟨1 + b,pl,rfl,by omega,by have := P.lo;omega,?_⟩
   simp
   split
   ·exact hn _ _ ⟨rfl,_,_,rfl,P.next (by omega) (by omega) (by omega)⟩
   ·exact hn _ _ ⟨rfl,_,_,rfl,P.stay (by omega) (by omega) (by omega)⟩
  ·rintro τ G' ⟨rfl,pl,x,rfl,P⟩
   simp only [qz,qK,qb,c3,v3,List.length_cons,List.length_nil,Nat.zero_add,Nat.reduceAdd,Nat.reduceLT,getElem?_pos,List.getElem_cons_succ,List.getElem_cons_zero,qg,sizeLine_eq,Nat.reduceLeDiff,true_and]
   rw [zr] at P
   have lo := P.lo;have hi := P.hi
   have m1 : (1 + b) * -(-(1 + r) * (1 + c) / (1 + b)) ≤ (1 + b) * pl := Int.mul_le_mul_of_nonneg_left (by omega) (by omega)
   exact h (.rests (1 + r) (1 + c) (1 + b) pl) G' ⟨⟨by omega,by omega,by omega,by omega,by omega,by omega,by omega,by omega,P.done (by omega) (by omega),by omega⟩,by show 1 + r ≤ 4;omega,by show 1 + c ≤ 4;omega,by show 1 + b ≤ 5;omega⟩ rfl (L5.mono (by omega)) (EE.trans E5)
 ·simp only [qN,tb3,o3,v3,c3,qP,qy,List.getElem?_cons_zero,List.getElem?_cons_succ,k2,decide_false,Bool.false_eq_true,if_false,qm]
  rw [q5]
  simp only [qv,qD,lc3,zh,qb,v3,List.length_cons,List.length_nil,Nat.zero_add,Nat.reduceAdd,Nat.reduceLT,getElem?_pos,List.getElem_cons_succ,List.getElem_cons_zero,qg,Int.reducePow,Int.reduceNeg,gn3,qz,qK,c3,List.set_cons_succ,List.set_cons_zero,cb3,Nat.lt_add_one,qs,sizeLine_eq,Nat.reduceLeDiff,true_and,getL,cap,List.map_cons,Nat.zero_lt_succ,Option.join_some,List.map_nil]
  refine ⟨⟨by omega,by omega⟩,KM L4 (by omega) (by omega) (by omega) (by omega) (by omega) (by omega) (by omega) fun cells G5 p C L5 E5 hp => ?_⟩
  obtain ⟨ok,eR,eC⟩ := C.ok (by omega) (by omega) (by omega) (by omega) (by omega) (by omega)
  simp only [qo]
  exact h (.table (1 + b) cells) _ ⟨ok,by omega,by omega,by show 1 + b ≤ 5;omega⟩ rfl ((L5.new (L5.ne hp)).mono (by omega)) (EE.trans (E5.trans (zz hp)))
end Bk
namespace Bk
open PySem L2 L3
def EN : Sp3 := fun ts G q => ∃ a n,ts = [.ref a]∧Lf G a n∧n < 10000000∧∀ (b : Int) cells r c G',Cells cells r c b → Dr (.table b cells) 16 16 32 → (Dl.table b cells).R = r → (Dl.table b cells).C = c → Lf G' a (n + 300) → Ext a G G' → q (Dl.table b cells).t G'
theorem RG : ∀ ts G q,EN ts G q → ts.length = 1∧ZS Q4 zf (ZN q) (qi ["_law_left_here","_law_rows","_law_columns","_law_banks","_law_cells"] ts) G := by
 rintro ts G q ⟨a,n,rfl,hL,hn,h⟩
 refine ⟨rfl,?_⟩
 simp only [ZS,qv,qD,cb3,qb,v3,qi,List.map_cons,List.map_nil,List.length_cons,List.length_nil,Nat.zero_add,Nat.reduceAdd,Nat.add_one_sub_one,List.reduceReplicate,List.cons_append,List.nil_append,Nat.zero_lt_succ,getElem?_pos,List.getElem_cons_zero,qg,qx,qj,gn3,qw,o3,c3,List.set_cons_succ,List.set_cons_zero,zk,sizeLine_eq,Nat.reduceLeDiff,qU,ne_eq,qz,qK,Nat.reduceLT,List.getElem_cons_succ,Nat.lt_add_one,qs,true_and,getL]
 refine ⟨a,n,rfl,hL,by omega,fun r c G1 r1 r2 c1 c2 L1 E1 => ?_⟩
 simp
 intro p hp
 have hpa := L1.ne hp
 refine qW (L1.new hpa) (by omega) (by omega) (by omega) fun d G2 d1 d2 L2' E2 => ?_
 have g2 := E2 p _ hpa qo
 obtain ⟨w,hw,w',rfl,w1,w2⟩ := qim d1 d2 (P := fun t => ∃ w,t = T.int w∧1 ≤ w∧w ≤ 32) ⟨4,rfl,by omega,by omega⟩ ⟨9,rfl,by omega,by omega⟩ ⟨32,rfl,by omega,by omega⟩
 simp only [ixR,getL,g2,hw]
 refine qW L2' w1 (by omega) (by omega) fun b G3 b1 b2 L3' E3 => ?_
 simp only [lc3,zh,qb,v3,List.length_cons,List.length_nil,Nat.zero_add,Nat.reduceAdd,Nat.reduceLT,getElem?_pos,List.getElem_cons_succ,List.getElem_cons_zero,qg,Int.reducePow,Int.reduceNeg,cap,List.map_cons,Nat.zero_lt_succ,Option.join_some,List.map_nil]
 refine ⟨⟨by omega,by omega⟩,KM L3' (by omega) (by omega) (by omega) (by omega) (by omega) (by omega) (by omega) fun cells G5 p C L5 E5 hp5 => ?_⟩
 obtain ⟨ok,eR,eC⟩ := C.ok (by omega) (by omega) (by omega) (by omega) (by omega) (by omega)
 simp only [qo]
 exact h (1 + b) cells r c _ C ⟨ok,by omega,by omega,by show 1 + b ≤ 32;omega⟩ eR eC ((L5.new (L5.ne hp5)).mono (by omega)) (E1.trans (((zz hp).trans E2).trans (E3.trans (E5.trans (zz hp5)))))
theorem TV {a b x y : Int} (h0 : 1 ≤ a) (h1 : a ≤ x) (h2 : 1 ≤ b) (h3 : b ≤ y) : a * b ≤ x * y := Int.mul_le_mul h1 h3 (by omega) (by omega)
theorem Dr.join {d e : Dl} {r c b r' c' b' : Int} (D : Dr d r c b) (E : Dr e r' c' b') (h1 : r * r' ≤ 4096) (h2 : c * c' ≤ 4096) (h3 : b * b' ≤ 4096) : Dr (.joined d e) (r * r') (c * c') (b * b') := by
 have Ld := Dl.lims D.ok
 have Le := Dl.lims E.ok
 have a1 := TV Ld.r1 D.r2 Le.r1 E.r2
 have a2 := TV Ld.c1 D.c2 Le.c1 E.c2
 have a3 := TV Ld.b1 D.b2 Le.b1 E.b2
 exact ⟨⟨D.ok,E.ok,by omega,by omega,by omega⟩,a1,a2,a3⟩
theorem Dr.mono {d : Dl} {r c b r' c' b' : Int} (D : Dr d r c b) (h1 : r ≤ r') (h2 : c ≤ c') (h3 : b ≤ b') : Dr d r' c' b' := ⟨D.ok,by have := D.r2;omega,by have := D.c2;omega,by have := D.b2;omega⟩
def YL : Sp3 := fun ts G q => ∃ a n,ts = [.ref a]∧Lf G a n∧n < 1000000∧∀ (d : Dl) G',Dr d 16 16 32 → d.dep ≤ 2 → Lf G' a (n + 1000) → Ext a G G' → q d.t G'
theorem qa1 {x : Int} (h0 : 0 ≤ x) (h1 : x < 2) : Dr (.joined (.skew (1 + x) 1 2 1 1) (.table 2 [[1,0]])) 2 2 4 := by
 have a : Dr (.skew (1 + x) 1 2 1 1) 2 1 2 := ⟨⟨by omega,by omega,by omega,by omega,by omega,by omega,by omega,by omega,by omega,by omega⟩,by show 1 + x ≤ 2;omega,Int.le_refl 1,Int.le_refl 2⟩
 have b : Dr (.table 2 [[1,0]]) 1 2 2 := ⟨⟨by decide,by decide,by decide,by decide,2,by decide,by decide,by simp⟩,by decide,by decide,by decide⟩
 exact (a.join b (by decide) (by decide) (by decide)).mono (by decide) (by decide) (by decide)
theorem qji : Dr (.joined (.skew 8 1 3 1 1) (.rests 2 16 5 7)) 16 16 15 := by
 have a : Dr (.skew 8 1 3 1 1) 8 1 3 := ⟨⟨by decide,by decide,by decide,by decide,by decide,by decide,by decide,by decide,by decide,by decide⟩,by decide,by decide,by decide⟩
 have b : Dr (.rests 2 16 5 7) 2 16 5 := ⟨⟨by decide,by decide,by decide,by decide,by decide,by decide,by decide,by decide,by decide,by decide⟩,by decide,by decide,by decide⟩
 exact (a.join b (by decide) (by decide) (by decide)).mono (by decide) (by decide) (by decide)
theorem qiZ : Dr (.joined (.rests 1 8 3 4) (.skew 16 2 5 2 1)) 16 16 15 := by
 have a : Dr (.rests 1 8 3 4) 1 8 3 := ⟨⟨by decide,by decide,by decide,by decide,by decide,by decide,by decide,by decide,by decide,by decide⟩,by decide,by decide,by decide⟩
 have b : Dr (.skew 16 2 5 2 1) 16 2 5 := ⟨⟨by decide,by decide,by decide,by decide,by decide,by decide,by decide,by decide,by decide,by decide⟩,by decide,by decide,by decide⟩
 exact (a.join b (by decide) (by decide) (by decide)).mono (by decide) (by decide) (by decide)
theorem W9 : ∀ ts G q,YL ts G q → ts.length = 1∧j9 zf WR EV DT EN EW (ZN q) (qi ["_law_left_here","_law_way","_law_inner","_law_some"] ts) G := by
 rintro ts G q ⟨a,n,rfl,hL,hn,h⟩
 refine ⟨rfl,?_⟩
 unfold j9
 refine qR fun nx1 q1 => ?_
 simp only [qD,cb3,qb,v3,qi,List.map_cons,List.map_nil,List.length_cons,List.length_nil,Nat.zero_add,Nat.reduceAdd,Nat.add_one_sub_one,List.reduceReplicate,List.cons_append,List.nil_append,Nat.zero_lt_succ,getElem?_pos,List.getElem_cons_zero,c3,qg,gn3,List.set_cons_succ,List.set_cons_zero]
 refine qW hL (by omega) (by omega) (by omega) fun w G1 w1 w2 L1 E1 => ?_
 try simp
 rw [q1]
 clear q1
 refine qR fun nx2 q2 => ?_
 by_cases k0 : w < 2
 ·simp only [qN,tb3,o3,v3,List.length_cons,List.length_nil,Nat.zero_add,Nat.reduceAdd,Nat.reduceLT,getElem?_pos,List.getElem_cons_succ,List.getElem_cons_zero,c3,iB,k0,decide_true,↓reduceIte,qz,cb3,qb,Nat.zero_lt_succ,qg]
  exact ⟨a,n + 1,rfl,L1,by omega,fun r c b x y G2 D L2' E2 => h _ G2 D (Nat.zero_le _) (L2'.mono (by omega)) (E1.trans E2)⟩
 simp only [qN,tb3,o3,v3,c3,iB,List.getElem?_cons_zero,List.getElem?_cons_succ,k0,decide_false,Bool.false_eq_true,if_false,qm]
 rw [q2]
 clear q2
 refine qR fun nx3 q3 => ?_
 by_cases k1 : w = 2
 ·subst k1
  simp only [qN,tb3,o3,v3,List.length_cons,List.length_nil,Nat.zero_add,Nat.reduceAdd,Nat.reduceLT,getElem?_pos,List.getElem_cons_succ,List.getElem_cons_zero,c3,qP,qy,decide_true,Bool.false_eq_true,↓reduceIte,qz,cb3,qb,Nat.zero_lt_succ,qg]
  exact ⟨a,n + 1,rfl,L1,by omega,fun r c b p G2 D L2' E2 => h _ G2 D (Nat.zero_le _) (L2'.mono (by omega)) (E1.trans E2)⟩
 simp only [qN,tb3,o3,v3,c3,qP,qy,List.getElem?_cons_zero,List.getElem?_cons_succ,k1,decide_false,Bool.false_eq_true,if_false,qm]
 rw [q3]
 clear q3
 refine qR fun nx4 q4 => ?_
 by_cases k2 : w = 3
 ·subst k2
  simp only [qN,tb3,o3,v3,List.length_cons,List.length_nil,Nat.zero_add,Nat.reduceAdd,Nat.reduceLT,getElem?_pos,List.getElem_cons_succ,List.getElem_cons_zero,c3,qP,qy,decide_true,Bool.false_eq_true,↓reduceIte,qz,cb3,qb,Nat.zero_lt_succ,qg]
  refine ⟨a,n + 1,4,rfl,L1,by omega,by omega,by omega,fun hh l ms G2 h1 h2 ok L2' E2 => h _ G2 ⟨ok,?_,?_,?_⟩ (Nat.zero_le _) (L2'.mono (by omega)) (E1.trans E2)⟩
  ·have := VS (n := hh) (k := 4) (by omega);show (2 : Int) ^ hh ≤ 16;omega
  ·have := VS (n := l) (k := 4) (by omega);show (2 : Int) ^ l ≤ 16;omega
  ·have := VS ok.2.2.1;show (2 : Int) ^ ms.length ≤ 32;omega
 simp only [qN,tb3,o3,v3,c3,qP,qy,List.getElem?_cons_zero,List.getElem?_cons_succ,k2,decide_false,Bool.false_eq_true,if_false,qm]
 rw [q4]
 clear q4
 refine qR fun nx5 q5 => ?_
 by_cases k3 : w = 4
 ·subst k3
  simp only [qN,tb3,o3,v3,List.length_cons,List.length_nil,Nat.zero_add,Nat.reduceAdd,Nat.reduceLT,getElem?_pos,List.getElem_cons_succ,List.getElem_cons_zero,c3,qP,qy,decide_true,Bool.false_eq_true,↓reduceIte,qz,cb3,qb,Nat.zero_lt_succ,qg]
  exact ⟨a,n + 1,rfl,L1,by omega,fun b cells r c G2 C D eR eC L2' E2 => h _ G2 D (Nat.zero_le _) (L2'.mono (by omega)) (E1.trans E2)⟩
 simp only [qN,tb3,o3,v3,c3,qP,qy,List.getElem?_cons_zero,List.getElem?_cons_succ,k3,decide_false,Bool.false_eq_true,if_false,qm]
 rw [q5]
 clear q5
 refine qR fun nx6 q6 => ?_
 by_cases k4 : w = 5
 ·subst k4
  simp only [qN,tb3,o3,v3,List.length_cons,List.length_nil,Nat.zero_add,Nat.reduceAdd,Nat.reduceLT,getElem?_pos,List.getElem_cons_succ,List.getElem_cons_zero,c3,qP,qy,decide_true,Bool.false_eq_true,↓reduceIte,qv,qD,qK,qb,cb3,Nat.zero_lt_succ,qg,qU,ne_eq,sizeLine_eq,Nat.reduceLeDiff,gn3,zk,List.set_cons_succ,List.set_cons_zero,qQ,bm3,Nat.lt_add_one,getL,gu,Option.isSome_some,z9,List.cons_append,List.nil_append,qz,true_and]
  refine qW L1 (by omega) (by omega) (by omega) fun x G2 x1 x2 L2' E2 => ?_
  have I := qa1 x1 x2
  try simp
  refine ⟨a,n + 1 + 1,rfl,L2',by omega,fun d G3 Dd dd L3' E3 => ?_⟩
  try simp
  refine ⟨a,n + 1 + 1 + 300,rfl,L3',by omega,fun e G4 De de L4 E4 => ?_⟩
  try simp
  intro p hp
  have hpa := L4.ne hp
  refine qW (((L4.new hpa).new hpa).new hpa) (by omega) (by omega) (by omega) fun k G5 k1 k2 L5 E5 => ?_
  have g5 := E5 p _ hpa qo
  have EE : Ext a G G5 := (E1.trans E2).trans ((E3.trans E4).trans (Ext.trans (fun b o hb e => by
   have hbp : b ≠ p := by rintro rfl;rw [hp] at e;cases e
   rw [jK hbp,jK hbp,jK hbp];exact e) E5))
  have P1 : ∃ d' : Dl,(Dl.joined (.joined (.skew (1 + x) 1 2 1 1) (.table 2 [[1,0]])) d).t = d'.t∧Dr d' 16 16 32∧d'.dep ≤ 2 := ⟨_,rfl,(I.join Dd (by decide) (by decide) (by decide)).mono (by decide) (by decide) (by decide),by simp [Dl.dep,dd]⟩
  have P2 : ∃ d' : Dl,(Dl.joined e (.joined (.skew (1 + x) 1 2 1 1) (.table 2 [[1,0]]))).t = d'.t∧Dr d' 16 16 32∧d'.dep ≤ 2 := ⟨_,rfl,(De.join I (by decide) (by decide) (by decide)).mono (by decide) (by decide) (by decide),by simp [Dl.dep,de]⟩
  have P3 : ∃ d' : Dl,(Dl.joined (.skew 8 1 3 1 1) (.rests 2 16 5 7)).t = d'.t∧Dr d' 16 16 32∧d'.dep ≤ 2 := ⟨_,rfl,qji.mono (by decide) (by decide) (by decide),by simp [Dl.dep]⟩
  have P4 : ∃ d' : Dl,(Dl.joined (.rests 1 8 3 4) (.skew 16 2 5 2 1)).t = d'.t∧Dr d' 16 16 32∧d'.dep ≤ 2 := ⟨_,rfl,qiZ.mono (by decide) (by decide) (by decide),by simp [Dl.dep]⟩
  obtain ⟨t,ht,d',rfl,D',dl⟩ := qgZ k1 k2 (P := fun t => ∃ d' : Dl,t = d'.t∧Dr d' 16 16 32∧d'.dep ≤ 2) P1 P2 P3 P4
  have hg : getL G5 p = some [(Dl.joined (.joined (.skew (1 + x) 1 2 1 1) (.table 2 [[1,0]])) d).t,(Dl.joined e (.joined (.skew (1 + x) 1 2 1 1) (.table 2 [[1,0]]))).t,(Dl.joined (.skew 8 1 3 1 1) (.rests 2 16 5 7)).t,(Dl.joined (.rests 1 8 3 4) (.skew 16 2 5 2 1)).t] := by
   unfold getL;rw [g5];rfl
  rw [L3.ixR,hg]
  simp only [ht]
  exact h d' G5 D' dl (L5.mono (by omega)) EE
 ·simp only [qN,tb3,o3,v3,c3,qP,qy,List.getElem?_cons_zero,List.getElem?_cons_succ,k4,decide_false,Bool.false_eq_true,if_false,qm]
  rw [q6]
  simp only [qz,qK,qb,c3,cb3,v3,List.length_cons,List.length_nil,Nat.zero_add,Nat.reduceAdd,Nat.zero_lt_succ,getElem?_pos,List.getElem_cons_zero,qg,sizeLine_eq,Nat.reduceLeDiff,true_and]
  refine ⟨a,n + 1,rfl,L1,by omega,fun d G3 Dd dd L3' E3 => ?_⟩
  refine ⟨a,n + 1 + 300,rfl,L3',by omega,fun e G4 De de L4 E4 => ?_⟩
  try simp
  exact h (.joined d e) G4 ((Dd.join De (by decide) (by decide) (by decide)).mono (by decide) (by decide) (by decide)) (by simp [Dl.dep];omega) (L4.mono (by omega)) (E1.trans (E3.trans E4))
theorem NO : ∀ (k n : Nat),pop (k + 1) n = pop k n + n / 2 ^ k % 2
 | 0,n => by simp [pop]
 | k + 1,n => by
  have e1 : pop (k + 2) n = n % 2 + pop (k + 1) (n / 2) := rfl
  have e2 : pop (k + 1) n = n % 2 + pop k (n / 2) := rfl
  rw [e1,e2,NO k (n / 2),Nat.div_div_eq_div_mul,show 2 * 2 ^ k = 2 ^ (k + 1) by rw [Nat.pow_succ,Nat.mul_comm]]
  omega
theorem qez {k k' n : Nat} (h : n < 2 ^ k) (hk : k ≤ k') : pop k' n = pop k n := by
 induction hk with
 | refl => rfl
 | step hk ih => rw [DH _ n (Nat.lt_of_lt_of_le h (Nat.pow_le_pow_right (by omega) hk)),ih]
def EM : Sp3 := fun ts G q => ∃ n : Int,ts = [.int n]∧0 ≤ n∧n < 512∧∀ G',Ex G G' → q (.bl (pop 64 n.toNat % 2 == 1)) G'
theorem K9 : ∀ ts G q,EM ts G q → ts.length = 1∧V6 (ZN q) (qi ["_law_number","_law_found","_law_t"] ts) G := by
 rintro ts G q ⟨n,rfl,n0,n1,h⟩
 refine ⟨rfl,?_⟩
 obtain ⟨m,rfl⟩ := Int.eq_ofNat_of_zero_le n0
 simp only [V6,qv,qD,c3,gn3,UH,zh,qb,qg,Int.reducePow,Int.reduceNeg,Int.neg_ofNat_le_ofNat,Int.reduceLT,and_self,Int.reduceToNat,qi,List.map_cons,List.map_nil,List.length_cons,List.length_nil,Nat.zero_add,Nat.reduceAdd,Nat.add_one_sub_one,List.reduceReplicate,List.cons_append,List.nil_append,List.set_cons_succ,List.set_cons_zero,true_and]
 refine zH _ (fun i τ G' => Ex G G'∧∃ x2,τ = [some (.int m),some (.bl (pop i m % 2 == 1)),x2]) ⟨Ex.refl,none,rfl⟩ (fun _ _ _ _ _ => True.intro) ?_ ?_
 ·rintro i z τ G' nx hz ⟨E,x2,rfl⟩ hn
  obtain ⟨hi,rfl⟩ := jt hz
  have hi9 : i ≤ 8 := Nat.le_of_lt_succ hi
  simp only [gn3,qD,o3,v3,Int.zero_add,List.set_cons_succ,List.set_cons_zero,List.length_cons,List.length_nil,Nat.zero_add,Nat.reduceAdd,Nat.reduceLT,getElem?_pos,List.getElem_cons_succ,List.getElem_cons_zero,Nat.zero_lt_succ,zk,qb,c3,qg,sizeLine_eq,Nat.reduceLeDiff,Nat.lt_add_one,iC,Int.reduceLT,qP,qy,Bool.false_eq_true,↓reduceIte,true_and,ixR,getL,gu]
  intro p hp
  rw [KR hi9]
  have hp2 := VX i
  have hp3 := VS (n := i) (k := 8) hi9
  simp only
  refine ⟨⟨by omega,by omega⟩,hn _ _ ⟨E.trans (ze hp),some (.int i),?_⟩⟩
  have e1 : ((m : Int) / 2 ^ i) = ((m / 2 ^ i : Nat) : Int) := by rw [p2];exact (Int.natCast_ediv _ _).symm
  have e2 : decide ((m : Int) / 2 ^ i % 2 = 1) = (m / 2 ^ i % 2 == 1) := by
   rw [e1]
   by_cases hb : m / 2 ^ i % 2 = 1
   ·have z : ((m / 2 ^ i : Nat) : Int) % 2 = 1 := by omega
    rw [decide_eq_true z,hb];rfl
   ·have z : ¬ ((m / 2 ^ i : Nat) : Int) % 2 = 1 := by omega
    rw [decide_eq_false z];exact (beq_eq_false_iff_ne.mpr hb).symm
  have e3 : (pop (i + 1) m % 2 == 1) = !(decide ((pop i m % 2 == 1) = decide ((m : Int) / 2 ^ i % 2 = 1))) := by
   rw [e2,NO]
   have h1 : pop i m % 2 = 0 ∨ pop i m % 2 = 1 := by omega
   have h2 : m / 2 ^ i % 2 = 0 ∨ m / 2 ^ i % 2 = 1 := by omega
   rcases h1 with h1 | h1 <;> rcases h2 with h2 | h2 <;> simp [Nat.add_mod,h1,h2]
  rw [e3]
  all_goals try simp
 ·rintro τ G' ⟨E,x2,rfl⟩
  rw [zr]
  simp only [qz,v3,List.length_cons,List.length_nil,Nat.zero_add,Nat.reduceAdd,Nat.reduceLT,getElem?_pos,List.getElem_cons_succ,List.getElem_cons_zero]
  have := h G' E
  rw [show (m : Int).toNat = m from rfl,qez (k := 9) (k' := 64) (by omega) (by omega)] at this
  simpa using this
end Bk
namespace Bk
open PySem L2 L3
def VD : Nat → Sp3
 | 0 => U3
 | n + 1 => fun ts G q => ∃ (d : Dl) (i j : Int),ts = [d.t,.int i,.int j]∧d.dep ≤ n∧d.Ok∧Inn d i j∧∀ G',Ex G G' → q (.int (d.bank i j)) G'
theorem qcm {ms : List Int} {i j c : Int} {n : Int} {G : Gp} {q : Q3} (hn : n = i * c + j) (hc : ZB i c) (h0 : 0 ≤ n) (hl : ms.length ≤ 5) (hm : ∀ m ∈ ms,0 ≤ m∧m < 512) (h : ∀ p G',Ex G G' → G' p = none → q (.ref p) (gu G' p (.lst ((zK n 0 ms).map T.int)))) :
  VP (fun G => zC G (.tup (ms.map T.int)) = some (ms.map T.int)) (qx 2 (qj (gn3 0) (qj (gn3 1) qw))) (tb3 (cb3 EM (qb (o3 (iI Builtin.bitAnd) (o3 qU (o3 (iC ZB (· * ·)) (v3 3) (v3 4)) (v3 2)) (v3 1)) qg))) (o3 ix3 (zk (qb (c3 (.int 1)) (qb (c3 (.int 2)) (qb (c3 (.int 4)) (qb (c3 (.int 8)) (qb (c3 (.int 16)) qg)))))) (v3 0)) q (M4 (ms.map T.int)) [] [none,none,some (.int j),some (.int i),some (.int c)] G := by
 refine jN _ (fun k ys τ G' => Ex G G'∧ys = (zK n 0 (ms.take k)).map T.int∧∃ x0 x1,τ = [x0,x1,some (.int j),some (.int i),some (.int c)]) ⟨Ex.refl,by simp [zK],none,none,rfl⟩ (fun _ ys τ G' _ hp => rfl) ?_ ?_
 ·rintro k z ys τ G' R hz ⟨E,rfl,x0,x1,rfl⟩ hR
  obtain ⟨a,ha,rfl⟩ := UD hz
  rw [List.getElem?_map] at ha
  cases e : ms[k]? with
  | none => rw [e] at ha;cases ha
  | some m =>
   rw [e] at ha
   have : a = T.int m := by simpa using ha.symm
   subst this
   obtain ⟨hi,hm'⟩ := List.getElem?_eq_some_iff.mp e
   have mm := hm m (by rw [← hm'];exact List.getElem_mem hi)
   have hr := PyProof.Rows.bitAnd_range n mm.1
   simp [qv,qD,gn3,qz,zd,qN,qQ,jr,qm,v3,c3,o3,u3,zD,L3.ixT,L3.ixR,qU,iI,iC,iB,qP,qy,ji,tb3,jz,or3,jg,qH,jw,qZ,if3,ch3,cb3,qb,qg,zL,tyT,zq,qK,zk,ja,np3,sp3,qx,qj,qw,qT,je,zE,qi,bm3,z9,jc,zF,jj,jq,jy,zU,qs,qY,jb,jv,jn,jd,HT.sIx,getL,in3,qO,eqF,gu,sizeLine_eq,List.getElem?_cons_zero,List.getElem?_cons_succ,hc,← hn]
   refine ⟨_,rfl,hr.1,by omega,fun G2 E2 => ?_⟩
   have tk : ms.take (k + 1) = ms.take k ++ [m] := by rw [List.take_succ_eq_append_getElem hi,hm']
   have lt : (ms.take k).length = k := by rw [List.length_take];omega
   have st : zK n 0 (ms.take (k + 1)) = zK n 0 (ms.take k) ++ (if LN n m then [2 ^ k] else []) := by
    rw [tk,Z7,lt];simp [zK]
   have cl := QE n 0 (ms.take k)
   have eo : (pop 64 (Builtin.bitAnd n m).toNat % 2 == 1) = LN n m := rfl
   rw [eo]
   cases ho : LN n m with
   | true =>
    simp
    intro p hp
    have e5 := K0 (d := k) (by omega)
    simp [L3.ixR,getL,qo,e5]
    refine ⟨by omega,hR _ _ _ ⟨E.trans (E2.trans (ze hp)),?_,_,_,rfl⟩⟩
    rw [st,ho];simp
   | false =>
    simp
    refine hR _ _ _ ⟨E.trans E2,?_,_,_,rfl⟩
    rw [st,ho];simp
 ·rintro ys τ G' ⟨E,rfl,x0,x1,rfl⟩ p hp
  rw [DY,List.length_map,List.take_length]
  exact h p G' E hp
theorem Y7 (n : Nat) : ∀ ts G q,VD (n + 1) ts G q → ts.length = 3∧J9 (ZW (n + 1)) EM (VD n) (ZN q) (qi ["_law_dealing_here","_law_i","_law_j","_law_rows","_law_columns","_law_banks","_law_some","_law_high","_law_wide","_law_more"] ts) G := by
 rintro ts G q ⟨d,i,j,rfl,hd,ok,I,h⟩
 refine ⟨rfl,?_⟩
 have i1 := I.i1;have i2 := I.i2;have j1 := I.j1;have j2 := I.j2
 have L := Dl.lims ok
 have r2 := L.r2;have c1 := L.c1;have c2 := L.c2;have b1 := L.b1;have b2 := L.b2
 unfold J9
 refine qR fun nx1 q1 => ?_
 simp only [qD,cb3,qb,qg,v3,qi,List.map,List.length,List.cons_append,List.getElem?_cons_zero]
 refine ⟨d,rfl,hd,ok,fun G1 E1 => ?_⟩
 simp [VI,qx,qj,qw,gn3]
 cases d with
 | skew r c b x y =>
  obtain ⟨k1,k2,k3,k4,k5,k6,k7,k8,k9,k10⟩ := ok
  simp only [Dl.t]
  rw [q1,zi rfl,if_pos rfl]
  simp [L2.atI,ixN,qv,qD,gn3,qz,zd,qN,qQ,jr,qm,v3,c3,o3,u3,zD,L3.ixT,L3.ixR,qU,iI,iC,iB,qP,qy,ji,tb3,jz,or3,jg,qH,jw,qZ,if3,ch3,cb3,qb,qg,zL,tyT,zq,qK,zk,ja,np3,sp3,qx,qj,qw,qT,je,zE,qi,bm3,z9,jc,zF,jj,jq,jy,zU,qs,qY,jb,jv,jn,jd,HT.sIx,getL,in3,qO,eqF,gu,sizeLine_eq,List.getElem?_cons_zero,List.getElem?_cons_succ]
  exact ⟨cm' (by omega) (by omega),cm' (by omega) (by omega),by simp only [Dl.B];omega,h _ E1⟩
 | rests r c b x =>
  simp only [Dl.t]
  rw [q1,zi rfl,if_neg (by decide),zi rfl,if_pos rfl]
  simp [qv,qD,gn3,qz,zd,qN,qQ,jr,qm,v3,c3,o3,u3,zD,L3.ixT,L3.ixR,qU,iI,iC,iB,qP,qy,ji,tb3,jz,or3,jg,qH,jw,qZ,if3,ch3,cb3,qb,qg,zL,tyT,zq,qK,zk,ja,np3,sp3,qx,qj,qw,qT,je,zE,qi,bm3,z9,jc,zF,jj,jq,jy,zU,qs,qY,jb,jv,jn,jd,HT.sIx,getL,in3,qO,eqF,gu,sizeLine_eq,List.getElem?_cons_zero,List.getElem?_cons_succ]
  exact ⟨cm (by omega) (by omega),by omega,h _ E1⟩
 | bits hh l ms =>
  obtain ⟨k1,k2,k3,k4⟩ := ok
  simp only [Dl.t]
  rw [q1,zi rfl,if_neg (by decide),zi rfl,if_neg (by decide),zi rfl,if_pos rfl]
  refine qR fun nx2 q2 => ?_
  simp [DE,qgJ,lc3,XV,cap,qv,qD,gn3,qz,zd,qN,qQ,jr,qm,v3,c3,o3,u3,zD,L3.ixT,L3.ixR,qU,iI,iC,iB,qP,qy,ji,tb3,jz,or3,jg,qH,jw,qZ,if3,ch3,cb3,qb,qg,zL,tyT,zq,qK,zk,ja,np3,sp3,qx,qj,qw,qT,je,zE,qi,bm3,z9,jc,zF,jj,jq,jy,zU,qs,qY,jb,jv,jn,jd,HT.sIx,getL,in3,qO,eqF,gu,sizeLine_eq,List.getElem?_cons_zero,List.getElem?_cons_succ]
  refine qcm (n := i * 2 ^ l + j) rfl (cm (by omega) (by omega)) (KC (h := hh) i1 j1) k3 (fun m hm => ⟨(k4 m hm).1,?_⟩) fun p G2 E2 hp => ?_
  ·have := (k4 m hm).2
   have := VS (n := hh + l) (k := 8) (by omega)
   omega
  ·try rw [q2]
   simp [qdM,getL,qo,VT,qv,qD,gn3,qz,zd,qN,qQ,jr,qm,v3,c3,o3,u3,zD,L3.ixT,L3.ixR,qU,iI,iC,iB,qP,qy,ji,tb3,jz,or3,jg,qH,jw,qZ,if3,ch3,cb3,qb,qg,zL,tyT,zq,qK,zk,ja,np3,sp3,qx,qj,qw,qT,je,zE,qi,bm3,z9,jc,zF,jj,jq,jy,zU,qs,qY,jb,jv,jn,jd,HT.sIx,getL,in3,qO,eqF,gu,sizeLine_eq,List.getElem?_cons_zero,List.getElem?_cons_succ]
   refine ⟨⟨by have := QE (i * 2 ^ l + j) 0 ms;omega,fun x hx => ?_⟩,?_⟩
   ·obtain ⟨k,h1,rfl⟩ := J3 _ 0 ms x hx
    have := VX k
    have := VS (n := k) (k := 30) (by omega)
    omega
   ·rw [YB]
    exact h _ (E1.trans (E2.trans (ze hp)))
 | table b cells =>
  obtain ⟨k1,k2,k3,k4,c,k5,k6,k7⟩ := ok
  have e0 : cells[0]? = some cells[0] := List.getElem?_eq_getElem (by omega)
  have eC : (Dl.table b cells).C = c := by simp [Dl.C,e0,(k7 cells[0] (List.getElem_mem _)).1]
  have eR : (Dl.table b cells).R = cells.length := rfl
  rw [eR] at i2
  rw [eC] at j2
  have hi : i.toNat < cells.length := by omega
  have hrow := k7 cells[i.toNat] (List.getElem_mem hi)
  have hj : j.toNat < cells[i.toNat].length := by rw [hrow.1];omega
  simp only [Dl.t]
  rw [q1,zi rfl,if_neg (by decide),zi rfl,if_neg (by decide),zi rfl,if_neg (by decide),zi rfl,if_pos rfl]
  simp [TZ,qv,qD,gn3,qz,zd,qN,qQ,jr,qm,v3,c3,o3,u3,zD,L3.ixT,L3.ixR,qU,iI,iC,iB,qP,qy,ji,tb3,jz,or3,jg,qH,jw,qZ,if3,ch3,cb3,qb,qg,zL,tyT,zq,qK,zk,ja,np3,sp3,qx,qj,qw,qT,je,zE,qi,bm3,z9,jc,zF,jj,jq,jy,zU,qs,qY,jb,jv,jn,jd,HT.sIx,getL,in3,qO,eqF,gu,sizeLine_eq,List.getElem?_cons_zero,List.getElem?_cons_succ]
  rw [zp i1 (by simpa using i2)]
  simp [hi,LW,L3.ixT]
  rw [zp j1 (by simp;omega)]
  simp [hj]
  have := h G1 E1
  simpa [Dl.bank,hi,hj] using this
 | joined d e =>
  obtain ⟨kd,ke,kr,kc,kb⟩ := ok
  have Le := Dl.lims ke
  obtain ⟨I1,I2⟩ := I.up Le
  have : 1 ≤ n := by simp [Dl.dep] at hd;omega
  obtain ⟨m,rfl⟩ : ∃ m,n = m + 1 := ⟨n - 1,by omega⟩
  have r1 := Le.r1;have r2 := Le.r2;have c1 := Le.c1;have c2 := Le.c2;have b1 := Le.b1;have b2 := Le.b2
  simp only [Dl.t]
  rw [q1,zi rfl,if_neg (by decide),zi rfl,if_neg (by decide),zi rfl,if_neg (by decide),zi rfl,if_neg (by decide)]
  simp [W2,TZ,qv,qD,gn3,qz,zd,qN,qQ,jr,qm,v3,c3,o3,u3,zD,L3.ixT,L3.ixR,qU,iI,iC,iB,qP,qy,ji,tb3,jz,or3,jg,qH,jw,qZ,if3,ch3,cb3,qb,qg,zL,tyT,zq,qK,zk,ja,np3,sp3,qx,qj,qw,qT,je,zE,qi,bm3,z9,jc,zF,jj,jq,jy,zU,qs,qY,jb,jv,jn,jd,HT.sIx,getL,in3,qO,eqF,gu,sizeLine_eq,List.getElem?_cons_zero,List.getElem?_cons_succ]
  refine ⟨e,rfl,by simp [Dl.dep] at hd;omega,ke,fun G2 E2 => ?_⟩
  simp [VI]
  refine ⟨⟨by omega,by omega⟩,⟨by omega,by omega⟩,d,_,_,rfl,by simp [Dl.dep] at hd;omega,kd,I1,fun G3 E3 => ?_⟩
  simp
  refine ⟨cm (by omega) (by omega),by omega,by omega,e,_,_,rfl,by simp [Dl.dep] at hd;omega,ke,I2,fun G4 E4 => ?_⟩
  simp
  exact h _ (E1.trans (E2.trans (E3.trans E4)))
end Bk
namespace Bk
open PySem L2 L3
structure SD (k n : Nat) (d : PyData) : Prop where
 sh : d.showable = true
 nd : d.hasDict = false
 dp : d.depth ≤ k
 lv : d.leavesShort 13 = true
 bk : d.bulk ≤ n
theorem SD.ok {k n : Nat} {d : PyData} (h : SD k n d) (hk : k ≤ 40) (hn : n ≤ 2 ^ 20) : ShOk d := ⟨h.sh,h.nd,Nat.le_trans h.dp hk,h.lv,Nat.le_trans h.bk hn⟩
theorem SD.w {k n : Nat} {d : PyData} (h : SD k n d) (hk : k ≤ 40) (hn : n ≤ 2 ^ 20) : ShW d := (h.ok hk hn).w
theorem SD.mono {k n k' n' : Nat} {d : PyData} (h : SD k n d) (hk : k ≤ k') (hn : n ≤ n') : SD k' n' d := ⟨h.sh,h.nd,Nat.le_trans h.dp hk,h.lv,Nat.le_trans h.bk hn⟩
theorem NK (k n : Nat) {i : Int} (h : -1000000 ≤ i∧i ≤ 1000000) : SD k n (.int i) := by
 refine ⟨?_,rfl,Nat.zero_le _,?_,Nat.zero_le _⟩
 ·simp only [PyData.showable]
  have : i.natAbs < 2 ^ 20 := by omega
  have h2 : i.natAbs.log2 < 20 ∨ i.natAbs = 0 := by
   rcases Nat.eq_zero_or_pos i.natAbs with z | z
   ·exact .inr z
   ·exact .inl ((Nat.log2_lt (by omega)).mpr this)
  rcases h2 with h2 | h2
  ·simp;omega
  ·simp [h2]
 ·have := PyProof.Rows.intsShortAll_ints2 [i] (by intro n hn;simp at hn;subst hn;omega)
  simpa [PyData.intsShortAll,PyData.intsShort,PyData.leavesShort] using this
theorem qb3 (k n : Nat) {x : Str} (h : x.cps.size ≤ n) (hc : (x.cps.toList.all fun c => decide (c < 16 ^ 8)) = true) : SD k n (.str x) := ⟨rfl,rfl,Nat.zero_le _,hc,h⟩
structure SDs (k n : Nat) (ds : List PyData) : Prop where
 sh : PyData.showableAll ds = true
 nd : PyData.hasDictAll ds = false
 dp : PyData.depthAll ds ≤ k
 lv : PyData.leavesShortAll 13 ds = true
 bk : PyData.bulkAll ds ≤ n
theorem C5 (k n : Nat) : SDs k n [] := ⟨rfl,rfl,Nat.zero_le _,rfl,Nat.zero_le _⟩
theorem V4 {k n m s : Nat} {d : PyData} {ds : List PyData} (h : SD k n d) (t : SDs k m ds) (hs : n + 1 + m ≤ s) : SDs k s (d :: ds) := by
 refine ⟨?_,?_,?_,?_,?_⟩
 ·simp [PyData.showableAll,h.sh,t.sh]
 ·simp [PyData.hasDictAll,h.nd,t.nd]
 ·simp only [PyData.depthAll];exact Nat.max_le.mpr ⟨h.dp,t.dp⟩
 ·simp [PyData.leavesShortAll,h.lv,t.lv]
 ·simp only [PyData.bulkAll];have := h.bk;have := t.bk;omega
theorem K3 {k n : Nat} {ds : List PyData} (t : SDs k n ds) : SD (k + 1) n (.tuple ds) := by
 refine ⟨?_,?_,?_,?_,?_⟩
 ·simpa [PyData.showable] using t.sh
 ·simpa [PyData.hasDict] using t.nd
 ·simp only [PyData.depth];have := t.dp;omega
 ·simpa [PyData.leavesShort] using t.lv
 ·simp only [PyData.bulk];exact t.bk
theorem S8 {k n : Nat} {ds : List PyData} (t : SDs k n ds) : SD (k + 1) n (.list ds) := by
 refine ⟨?_,?_,?_,?_,?_⟩
 ·simpa [PyData.showable] using t.sh
 ·simpa [PyData.hasDict] using t.nd
 ·simp only [PyData.depth];have := t.dp;omega
 ·simpa [PyData.leavesShort] using t.lv
 ·simp only [PyData.bulk];exact t.bk
theorem T2 {k n : Nat} : ∀ {ds : List PyData},(∀ d ∈ ds,SD k n d) → SDs k (ds.length * (n + 1)) ds
 | [],_ => C5 _ _
 | d :: ds,h => V4 (h d (by simp)) (T2 fun x hx => h x (by simp [hx])) (by rw [List.length_cons,Nat.succ_mul];omega)
theorem KK {k : Nat} {ns : List Int} (h : ∀ n ∈ ns,-1000000 ≤ n∧n ≤ 1000000) : SDs k ns.length (ns.map PyData.int) := by
 have := T2 (k := k) (n := 0) (ds := ns.map PyData.int) (by intro d hd;obtain ⟨i,hi,rfl⟩ := List.mem_map.mp hd;exact NK _ _ (h i hi))
 simpa using this
def DS (G : Gp) (k n : Nat) (t : T) : Prop := ∃ d,Dp G t d∧SD k n d
def DSs (G : Gp) (k n : Nat) (ts : List T) : Prop := ∃ ds,Dps G ts ds∧SDs k n ds
theorem DS.mono {G : Gp} {k n k' n' : Nat} {t : T} (h : DS G k n t) (hk : k ≤ k') (hn : n ≤ n') : DS G k' n' t := let ⟨d,a,b⟩ := h;⟨d,a,b.mono hk hn⟩
theorem SDs.mono {k n k' n' : Nat} {ds : List PyData} (h : SDs k n ds) (hk : k ≤ k') (hn : n ≤ n') : SDs k' n' ds := ⟨h.sh,h.nd,Nat.le_trans h.dp hk,h.lv,Nat.le_trans h.bk hn⟩
theorem DSs.mono {G : Gp} {k n k' n' : Nat} {ts : List T} (h : DSs G k n ts) (hk : k ≤ k') (hn : n ≤ n') : DSs G k' n' ts := let ⟨d,a,b⟩ := h;⟨d,a,b.mono hk hn⟩
theorem _root_.L3.Dps.append {G : Gp} : ∀ {xs ys : List T} {ds es : List PyData},Dps G xs ds → Dps G ys es → Dps G (xs ++ ys) (ds ++ es)
 | _,_,_,_,.nil,b => b
 | _,_,_,_,.cons a t,b => .cons a (L3.Dps.append t b)
theorem _root_.L3.Dps.take {G : Gp} : ∀ {xs : List T} {ds : List PyData} (i : Nat),Dps G xs ds → Dps G (xs.take i) (ds.take i)
 | _,_,0,_ => .nil
 | _,_,_ + 1,.nil => .nil
 | _,_,i + 1,.cons a t => .cons a (L3.Dps.take i t)
theorem _root_.L3.Dps.drop {G : Gp} : ∀ {xs : List T} {ds : List PyData} (i : Nat),Dps G xs ds → Dps G (xs.drop i) (ds.drop i)
 | _,_,0,h => h
 | _,_,_ + 1,.nil => .nil
 | _,_,i + 1,.cons a t => L3.Dps.drop i t
theorem jL (G : Gp) (k n : Nat) : DSs G k n [] := ⟨[],.nil,C5 _ _⟩
theorem qA {G : Gp} {k n m s : Nat} {t : T} {ts : List T} (h : DS G k n t) (r : DSs G k m ts) (hs : n + 1 + m ≤ s) : DSs G k s (t :: ts) := let ⟨d,a1,a2⟩ := h;let ⟨e,b1,b2⟩ := r;⟨d :: e,.cons a1 b1,V4 a2 b2 hs⟩
theorem Q0 {G : Gp} {k n : Nat} {ts : List T} (h : DSs G k n ts) : DS G (k + 1) n (.tup ts) := let ⟨d,a1,a2⟩ := h;⟨_,.tup a1,K3 a2⟩
theorem WW (G : Gp) (k n : Nat) {i : Int} (h : -1000000 ≤ i∧i ≤ 1000000) : DS G k n (.int i) := ⟨_,.int i,NK _ _ h⟩
theorem VO (G : Gp) (k n : Nat) {x : Str} (h : x.cps.size ≤ n) (hc : (x.cps.toList.all fun c => decide (c < 16 ^ 8)) = true) : DS G k n (.str x) := ⟨_,.str x,qb3 _ _ h hc⟩
theorem T7 (G : Gp) (k : Nat) {ns : List Int} (h : ∀ n ∈ ns,-1000000 ≤ n∧n ≤ 1000000) : DSs G k ns.length (ns.map T.int) := ⟨_,Dps.ints ns,KK h⟩
end Bk
namespace Bk
open PySem L2 L3
def Dl.sz : Dl → Nat
 | .joined d e => d.sz + e.sz + 20
 | _ => 5000
theorem KJ (G : Gp) (k c : Nat) : ∀ {cells : List (List Int)},(∀ row ∈ cells,row.length ≤ c∧∀ x ∈ row,0 ≤ x∧x < 1000) → DSs G (k + 1) (cells.length * (c + 1)) (cells.map LW)
 | [],_ => jL _ _ _
 | row :: cells,h => by
  have h1 := h row (by simp)
  have a := Q0 ((T7 G k (ns := row) fun n hn => by have := h1.2 n hn;omega).mono (Nat.le_refl _) h1.1)
  refine qA (n := c) a (KJ G k c fun r hr => h r (by simp [hr])) ?_
  rw [List.length_cons,Nat.succ_mul];omega
theorem Dl.ds (G : Gp) : ∀ {d : Dl},d.Ok → DS G (d.dep + 3) d.sz d.t
 | .skew r c b x y,ok => by
  obtain ⟨k1,k2,k3,k4,k5,k6,k7,k8,k9,k10⟩ := ok
  have z : ∀ {i : Int},-1000000 ≤ i∧i ≤ 1000000 → DS G 2 0 (.int i) := fun h => WW _ _ _ h
  exact Q0 ((qA (VO G 2 10 (by decide) (by decide)) (qA (z (by omega)) (qA (z (by omega)) (qA (z (by omega)) (qA (z (by omega)) (qA (z (by omega)) (jL _ _ 0) (Nat.le_refl _)) (Nat.le_refl _)) (Nat.le_refl _)) (Nat.le_refl _)) (Nat.le_refl _)) (Nat.le_refl _)).mono (by simp [Dl.dep]) (by simp [Dl.sz]))
 | .rests r c b p,ok => by
  obtain ⟨k1,k2,k3,k4,k5,k6,k7,k8,k9,k10⟩ := ok
  have z : ∀ {i : Int},-1000000 ≤ i∧i ≤ 1000000 → DS G 2 0 (.int i) := fun h => WW _ _ _ h
  exact Q0 ((qA (VO G 2 10 (by decide) (by decide)) (qA (z (by omega)) (qA (z (by omega)) (qA (z (by omega)) (qA (z (by omega)) (jL _ _ 0) (Nat.le_refl _)) (Nat.le_refl _)) (Nat.le_refl _)) (Nat.le_refl _)) (Nat.le_refl _)).mono (by simp [Dl.dep]) (by simp [Dl.sz]))
 | .bits h l ms,ok => by
  obtain ⟨k1,k2,k3,k4⟩ := ok
  have z : ∀ {i : Int},-1000000 ≤ i∧i ≤ 1000000 → DS G 2 0 (.int i) := fun h => WW _ _ _ h
  have p8 : (2 : Int) ^ (h + l) ≤ 256 := by
   have : 2 ^ (h + l) ≤ 2 ^ 8 := Nat.pow_le_pow_right (by decide) (by omega)
   have e : ((2 ^ (h + l) : Nat) : Int) = (2 : Int) ^ (h + l) := by simp
   omega
  have m : DS G 2 5 (.tup (ms.map T.int)) := Q0 ((T7 G 1 (ns := ms) fun n hn => by have := k4 n hn;omega).mono (Nat.le_refl _) k3)
  exact Q0 ((qA (VO G 2 10 (by decide) (by decide)) (qA (z (by omega)) (qA (z (by omega)) (qA m (jL _ _ 0) (Nat.le_refl _)) (Nat.le_refl _)) (Nat.le_refl _)) (Nat.le_refl _)).mono (by simp [Dl.dep]) (by simp [Dl.sz]))
 | .table b cells,ok => by
  obtain ⟨k1,k2,k3,k4,c,k5,k6,k7⟩ := ok
  have z : ∀ {i : Int},-1000000 ≤ i∧i ≤ 1000000 → DS G 2 0 (.int i) := fun h => WW _ _ _ h
  have cs := KJ G 0 60 (cells := cells) fun row hr => ⟨by have := (k7 row hr).1;omega,fun x hx => by have := (k7 row hr).2 x hx;omega⟩
  have hm : cells.length * (60 + 1) ≤ 3660 := by
   calc cells.length * (60 + 1) ≤ 60 * 61 := Nat.mul_le_mul k4 (Nat.le_refl _)
    _ = 3660 := rfl
  exact Q0 ((qA (VO G 2 10 (by decide) (by decide)) (qA (z (by omega)) (qA (Q0 (cs.mono (Nat.le_refl _) hm)) (jL _ _ 0) (Nat.le_refl _)) (Nat.le_refl _)) (Nat.le_refl _)).mono (by simp [Dl.dep]) (by simp [Dl.sz]))
 | .joined d e,ok => by
  have a := (Dl.ds G ok.1)
  have b := (Dl.ds G ok.2.1)
  have e1 : (Dl.joined d e).dep = max d.dep e.dep + 1 := rfl
  have m1 : d.dep ≤ max d.dep e.dep := Nat.le_max_left _ _
  have m2 : e.dep ≤ max d.dep e.dep := Nat.le_max_right _ _
  have t := Q0 (k := (Dl.joined d e).dep + 2) (qA (VO G _ 10 (x := Str.ofString "joined") (by decide) (by decide)) (qA (a.mono (by omega) (Nat.le_refl _)) (qA (b.mono (by omega) (Nat.le_refl _)) (jL _ _ 0) (Nat.le_refl _)) (Nat.le_refl _)) (Nat.le_refl _))
  exact DS.mono t (by omega) (by simp only [Dl.sz];omega)
end Bk
namespace Bk
open PySem L2 L3
def DP : TS3 := (qz (lc3 (zh (qb (v3 2) qg)) (gn3 0) tt3 (qK (qb (o3 (iC ZB (· * ·)) (v3 0) (v3 1)) (qb (o3 (iC ZB (· * ·)) (v3 0) (v3 2)) qg))) [none,some 0,some 1]))
def YJ (S_strung : Sp3) : TS3 := (qv (qD (o3 ix3 (v3 0) (c3 (.int 0))) (gn3 1)) (qv (qN (tb3 (o3 (qP false) (v3 1) (c3 (.str "cells")))) (qz (cb3 qY (qb (o3 ix3 (v3 0) (c3 (.int 1))) qg))) qm) (qv (qN (tb3 (o3 (qP false) (v3 1) (c3 (.str "block")))) (qz (qdK (zh (qb (o3 ix3 (v3 0) (c3 (.int 1))) qg)) (gn3 0) tt3 (zh (qb (o3 ix3 (v3 2) (c3 (.int 2))) qg)) (gn3 1) tt3 (qK (qb (v3 0) (qb (v3 1) qg))) [none,none,some 0])) qm) (qv (qN (tb3 (o3 (qP false) (v3 1) (c3 (.str "step")))) (qz (cb3 S_strung (qb (o3 ix3 (v3 0) (c3 (.int 1))) (qb (o3 ix3 (v3 0) (c3 (.int 2))) (qb (o3 ix3 (v3 0) (c3 (.int 3))) qg))))) qm) (qv (qD (qa6 DL (v3 1)) (qx 2 (qj (gn3 2) (qj (gn3 3) qw)))) (qz (cb3 S_strung (qb (v3 2) (qb (v3 3) (qb (o3 ix3 (v3 0) (c3 (.int 1))) qg))))))))))
def DN (S_size_of : Sp3) (S_cells_of : Sp3) : TS3 := (qv (qD (cb3 S_size_of (qb (v3 0) qg)) (qx 3 (qj (gn3 2) (qj (gn3 3) (qj (gn3 4) qw))))) (qv (qD (cb3 S_cells_of (qb (v3 1) qg)) (gn3 5)) (qv (qD (lc3 (jI (v3 5)) (qx 2 (qj (gn3 0) (qj (gn3 1) qw))) tt3 (v3 0) [none,none]) (gn3 6)) (qv (qD (lc3 (jI (v3 5)) (qx 2 (qj (gn3 0) (qj (gn3 1) qw))) tt3 (v3 1) [none,none]) (gn3 7)) (qz (qdK (zh (qb (u3 zD (cb3 RB (qb (v3 6) qg))) (qb (o3 (iI (· - ·)) (v3 2) (cb3 RY (qb (v3 6) qg))) qg))) (gn3 0) tt3 (zh (qb (u3 zD (cb3 RB (qb (v3 3) qg))) (qb (o3 (iI (· - ·)) (v3 2) (cb3 RY (qb (v3 3) qg))) qg))) (gn3 1) tt3 (qK (qb (v3 0) (qb (v3 1) qg))) [none,none,some 3,some 7]))))))
def YC (S_law_pick : Sp3) : TS3 := (qz (o3 qU (c3 (.int 1)) (cb3 S_law_pick (qb (v3 0) (qb (o3 ix3 (zk (qb (c3 (.int 5)) (qb (c3 (.int 5)) (qb (c3 (.int 5)) (qb (c3 (.int 5)) (qb (c3 (.int 5)) (qb (c3 (.int 5)) (qb (c3 (.int 8)) (qb (c3 (.int 16)) qg))))))))) (cb3 S_law_pick (qb (v3 0) (qb (c3 (.int 8)) qg)))) qg)))))
def J2 (S_law_pick : Sp3) (S_law_many : Sp3) : TS3 := (qv (qD (cb3 S_law_pick (qb (v3 0) (qb (c3 (.int 9)) qg))) (gn3 1)) (qv (qN (tb3 (o3 (iB fun i j => decide (i < j)) (v3 1) (c3 (.int 4)))) (qz (qK (qb (o3 ix3 (zk (qb (c3 (.str "row")) (qb (c3 (.str "column")) (qb (c3 (.str "slant")) (qb (c3 (.str "back")) qg))))) (v3 1)) (qb (cb3 S_law_many (qb (v3 0) qg)) qg)))) qm) (qv (qN (tb3 (o3 (iB fun i j => decide (i < j)) (v3 1) (c3 (.int 6)))) (qv (zE 2 3 (qb (cb3 S_law_pick (qb (v3 0) (qb (c3 (.int 2)) qg))) (qb (o3 qU (c3 (.int 1)) (cb3 S_law_pick (qb (v3 0) (qb (c3 (.int 4)) qg)))) qg))) (qv (qD (o3 qU (c3 (.int 1)) (cb3 S_law_pick (qb (v3 0) (qb (o3 (iC L9 (· / ·)) (c3 (.int 16)) (v3 3)) qg)))) (gn3 4)) (qz (o3 ix3 (zk (qb (qK (qb (c3 (.str "block")) (qb (v3 3) (qb (v3 4) qg)))) (qb (qK (qb (c3 (.str "block")) (qb (v3 4) (qb (v3 3) qg)))) qg))) (v3 2))))) qm) (qv (qN (tb3 (o3 (iB fun i j => decide (i < j)) (v3 1) (c3 (.int 8)))) (qv (zE 5 6 (qb (o3 (iI (· - ·)) (cb3 S_law_pick (qb (v3 0) (qb (c3 (.int 7)) qg))) (c3 (.int 3))) (qb (o3 (iI (· - ·)) (cb3 S_law_pick (qb (v3 0) (qb (c3 (.int 9)) qg))) (c3 (.int 4))) qg))) (qv (qN (tb3 (o3 (qP false) (cb3 S_law_pick (qb (v3 0) (qb (c3 (.int 6)) qg))) (c3 (.int 0)))) (qz (qK (qb (c3 (.str "step")) (qb (o3 (iC ZB (· * ·)) (c3 (.int 5)) (v3 5)) (qb (o3 qU (o3 (iC ZB (· * ·)) (c3 (.int 3)) (v3 6)) (cb3 zU (qb (qH (o3 (qP false) (v3 5) (c3 (.int 0))) (o3 (qP false) (v3 6) (c3 (.int 0)))) qg))) (qb (o3 qU (c3 (.int 1)) (cb3 S_law_pick (qb (v3 0) (qb (c3 (.int 4)) qg)))) qg)))))) qm) (qz (qK (qb (c3 (.str "step")) (qb (v3 5) (qb (o3 qU (v3 6) (cb3 zU (qb (qH (o3 (qP false) (v3 5) (c3 (.int 0))) (o3 (qP false) (v3 6) (c3 (.int 0)))) qg))) (qb (cb3 S_law_many (qb (v3 0) qg)) qg)))))))) qm) (qv (zE 7 8 (qb (zk qg) (qb (o3 qU (c3 (.int 1)) (o3 (iC ZB (· * ·)) (c3 (.int 4)) (cb3 zU (qb (o3 (qP false) (cb3 S_law_pick (qb (v3 0) (qb (c3 (.int 5)) qg))) (c3 (.int 0))) qg)))) qg))) (qv (UH (zh (qb (cb3 S_law_many (qb (v3 0) qg)) qg)) (gn3 9) (qv (qD (qK (qb (o3 (iC ZB (· * ·)) (v3 8) (o3 (iI (· - ·)) (cb3 S_law_pick (qb (v3 0) (qb (c3 (.int 6)) qg))) (c3 (.int 2)))) (qb (o3 (iC ZB (· * ·)) (v3 8) (o3 (iI (· - ·)) (cb3 S_law_pick (qb (v3 0) (qb (c3 (.int 6)) qg))) (c3 (.int 2)))) qg))) (gn3 10)) (qN (tb3 (o3 (qiD true) (v3 10) (v3 7))) (qQ (bm3 z9 (v3 7) (qb (v3 10) qg))) qm))) (qz (qK (qb (c3 (.str "cells")) (qb (cb3 qs (qb (v3 7) qg)) qg))))))))))
def Z0 : TS3 := (qv (qN (tb3 (o3 (qP false) (o3 ix3 (v3 0) (c3 (.int 0))) (c3 (.str "cells")))) (qz (cb3 qY (qb (o3 ix3 (v3 0) (c3 (.int 1))) qg))) qm) (qv (qN (tb3 (o3 (qP false) (o3 ix3 (v3 0) (c3 (.int 0))) (c3 (.str "block")))) (qv (qD (zk qg) (gn3 1)) (qv (UH (zh (qb (o3 ix3 (v3 0) (c3 (.int 1))) qg)) (gn3 2) (qQ (bm3 jc (v3 1) (qb (lc3 (zh (qb (o3 ix3 (v3 0) (c3 (.int 2))) qg)) (gn3 0) tt3 (qK (qb (v3 1) (qb (v3 0) qg))) [none,some 2]) qg)))) (qz (v3 1)))) qm) (qv (qD (qaS ["row","column","slant","back","step"] (qb (qK (qb (c3 (.int 0)) (qb (c3 (.int 1)) qg))) (qb (qK (qb (c3 (.int 1)) (qb (c3 (.int 0)) qg))) (qb (qK (qb (c3 (.int 1)) (qb (c3 (.int 1)) qg))) (qb (qK (qb (c3 (.int 1)) (qb (u3 zD (c3 (.int 1))) qg))) (qb (ja (v3 0) (sp3 (c3 (.int 1))) (sp3 (c3 (.int 3)))) qg))))) (o3 ix3 (v3 0) (c3 (.int 0)))) (qx 2 (qj (gn3 3) (qj (gn3 4) qw)))) (qz (lc3 (zh (qb (o3 ix3 (v3 0) (u3 zD (c3 (.int 1)))) qg)) (gn3 0) tt3 (qK (qb (o3 (iC ZB (· * ·)) (v3 0) (v3 1)) (qb (o3 (iC ZB (· * ·)) (v3 0) (v3 2)) qg))) [none,some 3,some 4])))))
def j7 : TS3 := (qv (UH (zh (qb (cb3 zF (qb (v3 0) qg)) qg)) (gn3 1) (UH (zh (qb (o3 qU (v3 1) (c3 (.int 1))) (qb (cb3 zF (qb (v3 0) qg)) qg))) (gn3 2) (qN (tb3 (o3 (qP false) (o3 ix3 (v3 0) (v3 1)) (o3 ix3 (v3 0) (v3 2)))) (qz (qK (qb (v3 1) (qb (v3 2) qg)))) qm))) (qz (c3 .non)))
def VZ (S_cells_of : Sp3) : TS3 := (qz (lc3 (jI (cb3 S_cells_of (qb (v3 0) qg))) (qx 2 (qj (gn3 0) (qj (gn3 1) qw))) tt3 (qK (qb (o3 qU (o3 ix3 (v3 2) (c3 (.int 0))) (v3 0)) (qb (o3 qU (o3 ix3 (v3 2) (c3 (.int 1))) (v3 1)) qg))) [none,none,some 1]))
def J4 (S_shifted : Sp3) (S_is_word : Sp3) (S_is_pair : Sp3) : TS3 := (qz (qH (cb3 S_is_pair (qb (v3 2) qg)) (cb3 jb (qb (lc3 (jI (cb3 S_shifted (qb (v3 1) (qb (v3 2) qg)))) (gn3 0) tt3 (cb3 S_is_word (qb (v3 1) (qb (v3 0) qg))) [none,some 0]) qg))))
def YE (S_is_start : Sp3) (S_shifted : Sp3) : TS3 := (qv (qN (jg (tb3 (cb3 S_is_start (qb (v3 0) (qb (v3 1) (qb (v3 2) qg)))))) jr qm) (qz (cb3 S_shifted (qb (v3 1) (qb (v3 2) qg)))))
def Q1 (S_words_of : Sp3) (S_bank_in : Sp3) : TS3 := (qz (lc3 (jI (cb3 S_words_of (qb (v3 0) (qb (v3 1) (qb (v3 2) qg))))) (gn3 0) tt3 (cb3 S_bank_in (qb (v3 1) (qb (v3 0) qg))) [none,some 0]))
def CC (S_starts : Sp3) (S_banks_from : Sp3) (S_first_alike : Sp3) : TS3 := (qv (UH (jI (cb3 S_starts (qb (v3 0) (qb (v3 1) qg)))) (gn3 2) (qv (qD (cb3 S_first_alike (qb (cb3 S_banks_from (qb (v3 0) (qb (v3 1) (qb (v3 2) qg)))) qg)) (gn3 3)) (qN (tb3 (o3 (ji true) (v3 3) (c3 .non))) (qz (qK (qb (v3 2) (qb (o3 ix3 (v3 3) (c3 (.int 0))) (qb (o3 ix3 (v3 3) (c3 (.int 1))) qg))))) qm))) (qz (c3 .non)))
def QZ (S_law_size : Sp3) (S_law_cells : Sp3) : TS3 := (qv (qD (cb3 S_law_size (qb (v3 0) qg)) (qx 3 (qj (gn3 2) (qj (gn3 3) (qj (gn3 4) qw))))) (qv (qD (cb3 S_law_cells (qb (v3 1) qg)) (gn3 5)) (qv (zE 6 7 (qb (lc3 (jI (v3 5)) (qx 2 (qj (gn3 0) (qj (gn3 1) qw))) tt3 (v3 0) [none,none]) (qb (lc3 (jI (v3 5)) (qx 2 (qj (gn3 0) (qj (gn3 1) qw))) tt3 (v3 1) [none,none]) qg))) (qv (qD (zk qg) (gn3 8)) (qv (UH (zh (qb (u3 zD (cb3 RB (qb (v3 6) qg))) (qb (o3 (iI (· - ·)) (v3 2) (cb3 RY (qb (v3 6) qg))) qg))) (gn3 9) (qQ (bm3 jc (v3 8) (qb (lc3 (zh (qb (u3 zD (cb3 RB (qb (v3 7) qg))) (qb (o3 (iI (· - ·)) (v3 3) (cb3 RY (qb (v3 7) qg))) qg))) (gn3 0) tt3 (qK (qb (v3 1) (qb (v3 0) qg))) [none,some 9]) qg)))) (qz (v3 8)))))))
def J8 (S_law_cells : Sp3) (S_law_bank : Sp3) : TS3 := (qz (lc3 (jI (cb3 S_law_cells (qb (v3 1) qg))) (qx 2 (qj (gn3 0) (qj (gn3 1) qw))) tt3 (cb3 S_law_bank (qb (v3 2) (qb (o3 qU (o3 ix3 (v3 3) (c3 (.int 0))) (v3 0)) (qb (o3 qU (o3 ix3 (v3 3) (c3 (.int 1))) (v3 1)) qg)))) [none,none,some 0,some 2]))
theorem qC {G : Gp} {p : Addr} {xs : List T} (h : G p = some (.lst xs)) : getL G p = some xs := by unfold getL;rw [h]
theorem qcY {xs : List T} {d : Int} (h0 : 0 ≤ d) (h1 : d < (xs.length : Int)) : ∃ z,L2.atI xs d = some z∧z ∈ xs := by
 rw [zp h0 h1]
 have : d.toNat < xs.length := by omega
 exact ⟨xs[d.toNat],List.getElem?_eq_getElem this,List.getElem_mem this⟩
inductive Wk where
 | line (k m : Nat)
 | block (h w : Nat)
 | step (d a : Int) (m : Nat)
 | cells (ps : List (Int × Int))
def jo : Nat → Str
 | 0 => "row" | 1 => "column" | 2 => "slant" | _ => "back"
def lnD : Nat → Int
 | 0 => 0 | _ => 1
def lnA : Nat → Int
 | 0 => 1 | 1 => 0 | 2 => 1 | _ => -1
def pT (p : Int × Int) : T := .tup [.int p.1,.int p.2]
def Wk.t : Wk → T
 | .line k m => .tup [.str (jo k),.int m]
 | .block h w => .tup [.str "block",.int h,.int w]
 | .step d a m => .tup [.str "step",.int d,.int a,.int m]
 | .cells ps => .tup [.str "cells",.tup (ps.map pT)]
def VY (d a : Int) (m : Nat) : List (Int × Int) := (List.range m).map fun (t : Nat) => ((t : Int) * d,(t : Int) * a)
def j4 (h w : Nat) : List (Int × Int) := (List.range h).flatMap fun (p : Nat) => (List.range w).map fun (q : Nat) => ((p : Int),(q : Int))
def Wk.pc : Wk → List (Int × Int)
 | .line k m => VY (lnD k) (lnA k) m
 | .block h w => j4 h w
 | .step d a m => VY d a m
 | .cells ps => ps
def Wk.cT (w : Wk) : List T := w.pc.map pT
def Wk.Ok : Wk → Prop
 | .line k m => k < 4∧1 ≤ m∧m ≤ 16
 | .block h w => 1 ≤ h∧1 ≤ w∧h ≤ 16∧w ≤ 16∧h * w ≤ 16
 | .step d a m => (-16 ≤ d∧d ≤ 16)∧(-16 ≤ a∧a ≤ 16)∧1 ≤ m∧m ≤ 16
 | .cells ps => 1 ≤ ps.length∧ps.length ≤ 16∧ps.Nodup∧∀ p ∈ ps,(-16 ≤ p.1∧p.1 ≤ 16)∧(-16 ≤ p.2∧p.2 ≤ 16)
theorem UU (h w : Nat) : j4 (h + 1) w = j4 h w ++ (List.range w).map fun (q : Nat) => ((h : Int),(q : Int)) := by
 simp [j4,List.range_succ]
theorem DZ (h w : Nat) : (j4 h w).length = h * w := by
 induction h with
 | zero => simp [j4]
 | succ h ih => rw [UU,List.length_append,ih,List.length_map,List.length_range,Nat.succ_mul]
theorem qef {w : Wk} (ok : w.Ok) : 1 ≤ w.pc.length∧w.pc.length ≤ 16 := by
 cases w with
 | line k m => simp only [Wk.pc,VY,List.length_map,List.length_range];exact ok.2
 | block h v =>
  obtain ⟨h1,h2,h3,h4,h5⟩ := ok
  simp only [Wk.pc,DZ]
  exact ⟨Nat.mul_le_mul h1 h2,h5⟩
 | step d a m => simp only [Wk.pc,VY,List.length_map,List.length_range];exact ok.2.2
 | cells ps => exact ⟨ok.1,ok.2.1⟩
def VQ : Sp3 := fun ts G q => ∃ (d a : Int) (m : Nat),ts = [.int d,.int a,.int m]∧(-1000 ≤ d∧d ≤ 1000)∧(-1000 ≤ a∧a ≤ 1000)∧m ≤ 1000∧∀ p,G p = none → q (.ref p) (gu G p (.lst ((VY d a m).map pT)))
theorem CU {d a : Int} {m : Nat} {G : Gp} {q : Q3} (hd : -1000 ≤ d∧d ≤ 1000) (ha : -1000 ≤ a∧a ≤ 1000) (hm : m ≤ 1000) (h : ∀ p,G p = none → q (.ref p) (gu G p (.lst ((VY d a m).map pT)))) :
  VP (fun _ => True) (gn3 0) tt3 (qK (qb (o3 (iC ZB (· * ·)) (v3 0) (v3 1)) (qb (o3 (iC ZB (· * ·)) (v3 0) (v3 2)) qg))) q (DI 0 m) [] [none,some (.int d),some (.int a)] G := by
 refine j8 (fun t => match t with | .int i => T.tup [.int (i * d),.int (i * a)] | t => t) (fun τ => ∃ x0,τ = [x0,some (.int d),some (.int a)]) True.intro _ _ _ ⟨none,rfl⟩ ?_ (by simp [DI,sizeLine_eq];omega) ?_
 ·rintro z hz τ ⟨x0,rfl⟩ K hK
  unfold DI at hz
  obtain ⟨i,_,rfl⟩ := List.mem_map.mp hz
  simp [qv,qD,gn3,qz,zd,qN,qQ,jr,qm,v3,c3,o3,u3,zD,L3.ixT,L3.ixR,qU,iI,iC,iB,qP,qy,ji,tb3,jz,or3,jg,qH,jw,qZ,if3,ch3,cb3,qb,qg,zL,tyT,zq,qK,zk,ja,np3,sp3,qx,qj,qw,qT,je,zE,qi,bm3,z9,jc,zF,jj,jq,jy,zU,qs,qY,jb,jv,jn,jd,HT.sIx,in3,qO,eqF,sizeLine_eq,List.getElem?_cons_zero,List.getElem?_cons_succ]
  exact ⟨cm (by omega) (by omega),cm (by omega) (by omega),by simpa using hK _ ⟨_,rfl⟩⟩
 ·intro p hp
  have := h p hp
  simpa [VY,pT,DI,List.map_map,Function.comp_def] using this
theorem MK : ∀ ts G q,VQ ts G q → ts.length = 3∧DP (ZN q) (qi ["down","along","many"] ts) G := by
 rintro ts G q ⟨d,a,m,rfl,hd,ha,hm,h⟩
 refine ⟨rfl,?_⟩
 simp [DP,lc3,zh,cap,qv,qD,gn3,qz,zd,qN,qQ,jr,qm,v3,c3,o3,u3,zD,L3.ixT,L3.ixR,qU,iI,iC,iB,qP,qy,ji,tb3,jz,or3,jg,qH,jw,qZ,if3,ch3,cb3,qb,qg,zL,tyT,zq,qK,zk,ja,np3,sp3,qx,qj,qw,qT,je,zE,qi,bm3,z9,jc,zF,jj,jq,jy,zU,qs,qY,jb,jv,jn,jd,HT.sIx,in3,qO,eqF,sizeLine_eq,List.getElem?_cons_zero,List.getElem?_cons_succ]
 refine ⟨by omega,?_⟩
 exact CU hd ha hm h
theorem qeF {G : Gp} {p : Addr} {x y : O} : gu (gu G p x) p y = gu G p y := by
 funext b;unfold gu;split <;> rfl
def Y6 : Sp3 := fun ts G q => ∃ w : Wk,ts = [w.t]∧w.Ok∧∀ p,G p = none → q (.ref p) (gu G p (.lst w.cT))
theorem qaB (i j : Nat) : ((List.range (j + 1)).map fun (q : Nat) => ((i : Int),(q : Int))) = ((List.range j).map fun (q : Nat) => ((i : Int),(q : Int))) ++ [((i : Int),(j : Int))] := by simp [List.range_succ]
theorem SU : ∀ ts G q,Y6 ts G q → ts.length = 1∧YJ VQ (ZN q) (qi ["walk","kind","down","along"] ts) G := by
 rintro ts G q ⟨w,rfl,ok,h⟩
 refine ⟨rfl,?_⟩
 unfold YJ
 refine qR fun nx q1 => ?_
 cases w with
 | cells ps =>
  show nx [some (Wk.cells ps).t,some (.str "cells"),none,none] G
  rw [q1,zj rfl,if_pos rfl]
  exact h
 | block v w =>
  obtain ⟨h1,h2,h3,h4,h5⟩ := ok
  show nx [some (Wk.block v w).t,some (.str "block"),none,none] G
  rw [q1,zj rfl,if_neg (by decide),zj rfl,if_pos rfl]
  simp only [qz,qdK,zh,qb,qg,o3,v3,c3,Wk.t,L3.ixT,W2,cap,List.getElem?_cons_zero]
  refine ⟨⟨by omega,by omega⟩,fun D hD => ?_⟩
  rw [Int.toNat_natCast]
  refine RS _ (fun i τ G' => G' = gu G D (.lst ((j4 i w).map pT))∧∃ x0 x1,τ = [x0,x1,some (.tup [.str "block",.int v,.int w])]) ⟨by simp [j4],none,none,rfl⟩ (fun _ _ _ _ _ => True.intro) ?_ ?_
  ·rintro i x τ G' R hx ⟨rfl,x0,x1,rfl⟩ hR
   obtain ⟨hi,rfl⟩ := jt hx
   simp [tt3,zh,TZ,qv,qD,gn3,qz,zd,qN,qQ,jr,qm,v3,c3,o3,u3,zD,L3.ixT,L3.ixR,qU,iI,iC,iB,qP,qy,ji,tb3,jz,or3,jg,qH,jw,qZ,if3,ch3,cb3,qb,qg,zL,tyT,zq,qK,zk,ja,np3,sp3,qx,qj,qw,qT,je,zE,qi,bm3,z9,jc,zF,jj,jq,jy,zU,qs,qY,jb,jv,jn,jd,HT.sIx,getL,in3,qO,eqF,gu,sizeLine_eq,List.getElem?_cons_zero,List.getElem?_cons_succ]
   refine ⟨by omega,?_⟩
   refine KN _ (fun j τ G' => G' = gu G D (.lst ((j4 i w ++ (List.range j).map fun (q : Nat) => ((i : Int),(q : Int))).map pT))∧∃ x1,τ = [some (.int i),x1,some (.tup [.str "block",.int v,.int w])]) ⟨by simp,x1,rfl⟩ (fun _ _ _ _ _ => True.intro) ?_ ?_
   ·rintro j x τ G' R2 hx ⟨rfl,x1,rfl⟩ hR2
    obtain ⟨hj,rfl⟩ := jt hx
    have hb : i * w ≤ 16 * 16 := Nat.mul_le_mul (by omega) h4
    simp only [gn3,tt3,qK,qb,qg,v3,List.set_cons_succ,List.set_cons_zero,List.getElem?_cons_zero,List.getElem?_cons_succ,if_true,qo]
    refine ⟨by simp [sizeLine_eq],by simp [DZ,sizeLine_eq];omega,hR2 _ _ ⟨?_,_,rfl⟩⟩
    rw [qeF,qaB,← List.append_assoc,List.map_append]
    simp [pT]
   ·rintro τ G' ⟨rfl,x1,rfl⟩
    rw [zr]
    exact hR _ _ ⟨by rw [UU],_,_,rfl⟩
  ·rintro τ G' ⟨rfl,x0,x1,rfl⟩
   rw [zr]
   exact h D hD
 | step d a m =>
  show nx [some (Wk.step d a m).t,some (.str "step"),none,none] G
  rw [q1,zj rfl,if_neg (by decide),zj rfl,if_neg (by decide),zj rfl,if_pos rfl]
  show VQ [.int d,.int a,.int m] G q
  obtain ⟨k1,k2,k3,k4⟩ := ok
  exact ⟨d,a,m,rfl,by omega,by omega,by omega,h⟩
 | line k m =>
  have hk := ok.1
  have hn : jo k ≠ Str.ofString "cells"∧jo k ≠ Str.ofString "block"∧jo k ≠ Str.ofString "step" := by
   rcases k with _ | _ | _ | _ | k
   ·decide
   ·decide
   ·decide
   ·decide
   ·omega
  have tg : j5 DL (jo k) = some (.tup [.int (lnD k),.int (lnA k)]) := by
   rcases k with _ | _ | _ | _ | k
   ·rfl
   ·rfl
   ·rfl
   ·rfl
   ·omega
  have bd : (-1000 ≤ lnD k∧lnD k ≤ 1000)∧(-1000 ≤ lnA k∧lnA k ≤ 1000) := by
   rcases k with _ | _ | _ | _ | k
   ·decide
   ·decide
   ·decide
   ·decide
   ·omega
  show nx [some (Wk.line k m).t,some (.str (jo k)),none,none] G
  rw [q1,zj rfl,if_neg hn.1,zj rfl,if_neg hn.2.1,zj rfl,if_neg hn.2.2]
  refine qR fun nx2 q2 => ?_
  simp only [qD,qa6,v3,List.getElem?_cons_zero,List.getElem?_cons_succ,tg]
  simp [qx,qj,qw,gn3]
  show nx2 [some (Wk.line k m).t,some (.str (jo k)),some (.int (lnD k)),some (.int (lnA k))] G
  rw [q2]
  show VQ [.int (lnD k),.int (lnA k),.int m] G q
  exact ⟨_,_,m,rfl,bd.1,bd.2,by have := ok.2.2;omega,h⟩
end Bk
namespace Bk
open PySem L2 L3
def YT : Sp3 := fun ts G q => ∃ a n,ts = [.ref a]∧Lf G a n∧n < 10000000∧∀ (m : Nat) G',1 ≤ m → m ≤ 16 → Lf G' a (n + 2) → Ext a G G' → q (.int m) G'
theorem TB : ∀ ts G q,YT ts G q → ts.length = 1∧YC zf (ZN q) (qi ["_law_left_here"] ts) G := by
 rintro ts G q ⟨a,n,rfl,hL,hn,h⟩
 refine ⟨rfl,?_⟩
 simp only [YC,qz,o3,c3,cb3,qb,v3,qi,List.map_cons,List.map_nil,List.length_cons,List.length_nil,Nat.zero_add,Nat.sub_self,List.replicate_zero,List.append_nil,Nat.lt_add_one,getElem?_pos,List.getElem_cons_zero,zk,qg,Nat.reduceAdd,sizeLine_eq,Nat.reduceLeDiff,qU,ne_eq,true_and]
 intro p hp
 have np := hL.ne hp
 refine qW (hL.new np) (by omega) (by omega) (by omega) fun d G1 d0 d1 L1 E1 => ?_
 have g := qC (E1 _ _ np qo)
 obtain ⟨z,hz,hm⟩ := qcY (xs := [T.int 5,.int 5,.int 5,.int 5,.int 5,.int 5,.int 8,.int 16]) d0 (by simpa using d1)
 simp only [L3.ixR,g,hz]
 have : ∃ k : Int,z = .int k∧1 ≤ k∧k ≤ 16 := by
  simp only [List.mem_cons,List.not_mem_nil,or_false] at hm
  rcases hm with rfl | rfl | rfl | rfl | rfl | rfl | rfl | rfl <;> exact ⟨_,rfl,by omega,by omega⟩
 obtain ⟨k,rfl,k1,k2⟩ := this
 refine qW L1 (by omega) (by omega) (by omega) fun e G2 e0 e1 L2' E2 => ?_
 simp
 obtain ⟨e',rfl⟩ := Int.eq_ofNat_of_zero_le e0
 have := h (e' + 1) G2 (by omega) (by omega) (L2'.mono (by omega)) ((zz hp).trans (E1.trans E2))
 rw [show (1 : Int) + (e' : Int) = ((e' + 1 : Nat) : Int) by omega]
 exact this
def pD (p : Int × Int) : PyData := .tuple [.int p.1,.int p.2]
theorem qcH (G : Gp) (p : Int × Int) : Dp G (pT p) (pD p) := .tup (.cons (.int _) (.cons (.int _) .nil))
theorem qbX (G : Gp) : ∀ ps : List (Int × Int),Dps G (ps.map pT) (ps.map pD)
 | [] => .nil
 | p :: ps => .cons (qcH G p) (qbX G ps)
theorem qif (p r : Int × Int) : ZF (pD p) (pD r) = some (decide (p = r)) := by
 obtain ⟨a,b⟩ := p
 obtain ⟨c,d⟩ := r
 simp only [pD,ZF,YK]
 by_cases h : a = c <;> by_cases h' : b = d <;> simp [h,h']
theorem pIn (r : Int × Int) : ∀ ps : List (Int × Int),qai (pD r) (ps.map pD) = some (decide (r ∈ ps))
 | [] => by simp [qai]
 | p :: ps => by
  simp only [List.map_cons,qai,qif,pIn r ps]
  by_cases h : p = r
  ·subst h;simp
  ·have h' : ¬ r = p := fun z => h z.symm
   simp [h,h']
theorem qe7 (p : Int × Int) : dpt (pD p) ≤ 40 := by simp [pD,dpt,qav]
def VE : Sp3 := fun ts G q => ∃ a n,ts = [.ref a]∧Lf G a n∧n < 1000000∧∀ (w : Wk) G',w.Ok → Lf G' a (n + 60) → Ext a G G' → q w.t G'
theorem SW : ∀ ts G q,VE ts G q → ts.length = 1∧J2 zf YT (ZN q) (qi ["_law_left_here","_law_way","_law_lying","_law_high","_law_wide","_law_down","_law_along","_law_pairs","_law_far","_law_turn","_law_pair"] ts) G := by
 rintro ts G q ⟨a,n,rfl,hL,hn,h⟩
 refine ⟨rfl,?_⟩
 unfold J2
 refine qR fun nx1 q1 => ?_
 simp only [qD,cb3,qb,v3,qi,List.map_cons,List.map_nil,List.length_cons,List.length_nil,Nat.zero_add,Nat.reduceAdd,Nat.add_one_sub_one,List.reduceReplicate,List.cons_append,List.nil_append,Nat.zero_lt_succ,getElem?_pos,List.getElem_cons_zero,c3,qg,gn3,List.set_cons_succ,List.set_cons_zero]
 refine qW hL (by omega) (by omega) (by omega) fun way G1 w0 w1 L1 E1 => ?_
 try simp
 rw [q1]
 clear q1
 refine qR fun nx2 q2 => ?_
 by_cases lt : way < 4
 ·simp only [qN,tb3,o3,v3,List.length_cons,List.length_nil,Nat.zero_add,Nat.reduceAdd,Nat.reduceLT,getElem?_pos,List.getElem_cons_succ,List.getElem_cons_zero,c3,iB,lt,decide_true,↓reduceIte,qz,qK,qb,zk,qg,sizeLine_eq,Nat.reduceLeDiff,cb3,Nat.zero_lt_succ,true_and,ixR]
  intro p hp
  have np := L1.ne hp
  have L3' := L1.new np (ob := .lst [.str "row",.str "column",.str "slant",.str "back"])
  obtain ⟨k,rfl⟩ := Int.eq_ofNat_of_zero_le w0
  have hk : k < 4 := by omega
  have e1 : L2.atI [T.str (Str.ofString "row"),.str (Str.ofString "column"),.str (Str.ofString "slant"),.str (Str.ofString "back")] (k : Int) = some (.str (jo k)) := by
   rcases k with _ | _ | _ | _ | k
   ·rfl
   ·rfl
   ·rfl
   ·rfl
   ·omega
  simp only [L3.ixR,qC qo,e1]
  refine ⟨a,_,rfl,L3',by omega,fun m G2 m1 m2 L4 E4 => ?_⟩
  exact h (.line k m) _ ⟨hk,m1,m2⟩ (L4.mono (by omega)) (E1.trans ((zz hp).trans E4))
 simp only [qN,tb3,o3,v3,c3,iB,List.getElem?_cons_zero,List.getElem?_cons_succ,lt,decide_false,Bool.false_eq_true,if_false,qm]
 rw [q2]
 clear q2
 refine qR fun nx3 q3 => ?_
 by_cases lt6 : way < 6
 ·simp only [qN,tb3,o3,v3,c3,iB,List.getElem?_cons_zero,List.getElem?_cons_succ,lt6,decide_true,if_true]
  refine qR fun nx4 q4 => ?_
  simp only [zE,qb,cb3,v3,List.length_cons,List.length_nil,Nat.zero_add,Nat.reduceAdd,Nat.zero_lt_succ,getElem?_pos,List.getElem_cons_zero,c3,qg,o3,qU,ne_eq,sizeLine_eq,List.set_cons_succ,List.set_cons_zero]
  refine qW L1 (by omega) (by omega) (by omega) fun ly G2 y0 y1 L2' E2 => ?_
  try simp
  refine qW L2' (by omega) (by omega) (by omega) fun hi G3 h0 h1 L3' E3 => ?_
  try simp
  rw [q4]
  clear q4
  obtain ⟨hh,rfl⟩ := Int.eq_ofNat_of_zero_le h0
  refine qR fun nx5 q5 => ?_
  simp only [qD,o3,c3,cb3,qb,v3,List.length_cons,List.length_nil,Nat.zero_add,Nat.reduceAdd,Nat.zero_lt_succ,getElem?_pos,List.getElem_cons_zero,Nat.reduceLT,List.getElem_cons_succ,iC,qg,qU,ne_eq,sizeLine_eq,gn3,List.set_cons_succ,List.set_cons_zero]
  have dv : 1 ≤ (16 : Int) / (1 + (hh : Int))∧(16 : Int) / (1 + (hh : Int)) ≤ 16 := by
   have : hh = 0 ∨ hh = 1 ∨ hh = 2 ∨ hh = 3 := by omega
   rcases this with rfl | rfl | rfl | rfl <;> decide
  refine ⟨⟨by omega,by omega⟩,qW L3' (by omega) (by omega) (by omega) fun wi G4 u0 u1 L4 E4 => ?_⟩
  try simp
  rw [q5]
  clear q5
  obtain ⟨ww,rfl⟩ := Int.eq_ofNat_of_zero_le u0
  have pr : (hh + 1) * (ww + 1) ≤ 16 := by
   have : hh = 0 ∨ hh = 1 ∨ hh = 2 ∨ hh = 3 := by omega
   rcases this with rfl | rfl | rfl | rfl <;> simp at u1 <;> omega
  simp only [qz,o3,zk,qb,qK,c3,v3,List.length_cons,List.length_nil,Nat.zero_add,Nat.reduceAdd,Nat.reduceLT,getElem?_pos,List.getElem_cons_succ,List.getElem_cons_zero,qg,sizeLine_eq,Nat.reduceLeDiff,ixR,true_and]
  intro p hp
  have np := L4.ne hp
  have X4 := E1.trans (E2.trans (E3.trans E4))
  have z1 : (1 : Int) + (hh : Int) = ((hh + 1 : Nat) : Int) := by omega
  have z2 : (1 : Int) + (ww : Int) = ((ww + 1 : Nat) : Int) := by omega
  rw [z1,z2]
  have hl : ly = 0 ∨ ly = 1 := by omega
  rcases hl with rfl | rfl
  ·simp only [L3.ixR,qC qo,DE]
   exact h (.block (hh + 1) (ww + 1)) _ ⟨by omega,by omega,by omega,by omega,pr⟩ ((L4.new np).mono (by omega)) (X4.trans (zz hp))
  ·simp only [L3.ixR,qC qo,W2]
   exact h (.block (ww + 1) (hh + 1)) _ ⟨by omega,by omega,by omega,by omega,by rw [Nat.mul_comm];exact pr⟩ ((L4.new np).mono (by omega)) (X4.trans (zz hp))
 simp only [qN,tb3,o3,v3,c3,iB,List.getElem?_cons_zero,List.getElem?_cons_succ,lt6,decide_false,Bool.false_eq_true,if_false,qm]
 rw [q3]
 clear q3
 refine qR fun nx4 q4 => ?_
 by_cases lt8 : way < 8
 ·simp only [qN,tb3,o3,v3,c3,iB,List.getElem?_cons_zero,List.getElem?_cons_succ,lt8,decide_true,if_true]
  refine qR fun nx5 q5 => ?_
  simp only [zE,qb,o3,cb3,v3,List.length_cons,List.length_nil,Nat.zero_add,Nat.reduceAdd,Nat.zero_lt_succ,getElem?_pos,List.getElem_cons_zero,c3,qg,iI,List.set_cons_succ,List.set_cons_zero]
  refine qW L1 (by omega) (by omega) (by omega) fun d G2 d0 d1 L2' E2 => ?_
  try simp
  refine qW L2' (by omega) (by omega) (by omega) fun al G3 a0 a1 L3' E3 => ?_
  try simp
  rw [q5]
  clear q5
  obtain ⟨D,hD⟩ : ∃ D,D = d - 3 := ⟨_,rfl⟩
  obtain ⟨A,hA⟩ : ∃ A,A = al - 4 := ⟨_,rfl⟩
  rw [← hD,← hA]
  refine qR fun nx6 q6 => ?_
  simp only [qN,tb3,o3,cb3,qb,v3,List.length_cons,List.length_nil,Nat.zero_add,Nat.reduceAdd,Nat.zero_lt_succ,getElem?_pos,List.getElem_cons_zero,c3,qg,qP,qy,Bool.false_eq_true,↓reduceIte,qz,qK,Nat.reduceLT,List.getElem_cons_succ,iC,qH,decide_eq_true_eq,zU,qU,ne_eq,sizeLine_eq,Nat.reduceLeDiff,true_and,Int.add_zero,qm,exists_and_left,Bool.exists_bool]
  refine qW L3' (by omega) (by omega) (by omega) fun six G4 s0 s1 L4 E4 => ?_
  have X4 := E1.trans (E2.trans (E3.trans E4))
  by_cases k0 : six = 0
  ·subst k0
   simp only [decide_true,↓reduceIte]
   refine ⟨cm (by omega) (by omega),cm (by omega) (by omega),?_⟩
   have fin : ∀ e : Int,0 ≤ e → e ≤ 1 → zf [.ref a,.int 4] G4 fun x G' => (match T.int 1,x with | .int i,.int j => q (.tup [.str (Str.ofString "step"),.int (5 * D),.int (3 * A + e),.int (i + j)]) G' | _,_ => False) := by
    intro e e0 e1
    refine qW L4 (by omega) (by omega) (by omega) fun m G5 m0 m1 L5 E5 => ?_
    obtain ⟨m',rfl⟩ := Int.eq_ofNat_of_zero_le m0
    have := h (.step (5 * D) (3 * A + e) (m' + 1)) G5 ⟨⟨by omega,by omega⟩,⟨by omega,by omega⟩,by omega,by omega⟩ (L5.mono (by omega)) (X4.trans E5)
    simp only [Wk.t] at this
    rw [show ((m' + 1 : Nat) : Int) = 1 + (m' : Int) by omega] at this
    exact this
   by_cases hD0 : D = 0
   ·by_cases hA0 : A = 0
    ·have := fin 1 (by omega) (by omega)
     simp only [hD0,Int.mul_zero,hA0,Int.zero_add,↓reduceIte] at this ⊢
     exact this
    ·have := fin 0 (by omega) (by omega)
     simp only [hD0,Int.mul_zero,Int.add_zero,↓reduceIte,hA0] at this ⊢
     exact this
   ·have := fin 0 (by omega) (by omega)
    simp only [Int.add_zero,hD0,↓reduceIte] at this ⊢
    exact this
  ·simp [k0]
   rw [q6]
   clear q6
   have fin : ∀ e : Int,0 ≤ e → e ≤ 1 → YT [.ref a] G4 fun x G' => q (.tup [.str (Str.ofString "step"),.int D,.int (A + e),x]) G' := by
    intro e e0 e1
    refine ⟨a,_,rfl,L4,by omega,fun m G5 m0 m1 L5 E5 => ?_⟩
    exact h (.step D (A + e) m) G5 ⟨⟨by omega,by omega⟩,⟨by omega,by omega⟩,by omega,by omega⟩ (L5.mono (by omega)) (X4.trans E5)
   by_cases hD0 : D = 0
   ·by_cases hA0 : A = 0
    ·have := fin 1 (by omega) (by omega)
     simp only [hD0,hA0,Int.zero_add,qz,qK,qb,c3,v3,List.length_cons,List.length_nil,Nat.zero_add,Nat.reduceAdd,Nat.reduceLT,getElem?_pos,List.getElem_cons_succ,List.getElem_cons_zero,o3,cb3,qH,qP,qy,decide_true,Bool.false_eq_true,↓reduceIte,qg,zU,qU,Nat.zero_lt_succ,sizeLine_eq,Nat.reduceLeDiff,true_and] at this ⊢
     exact this
    ·have := fin 0 (by omega) (by omega)
     simp only [hD0,Int.add_zero,qz,qK,qb,c3,v3,List.length_cons,List.length_nil,Nat.zero_add,Nat.reduceAdd,Nat.reduceLT,getElem?_pos,List.getElem_cons_succ,List.getElem_cons_zero,o3,cb3,qH,qP,qy,decide_true,Bool.false_eq_true,↓reduceIte,hA0,decide_false,qg,zU,qU,Nat.zero_lt_succ,sizeLine_eq,Nat.reduceLeDiff,true_and] at this ⊢
     exact this
   ·have := fin 0 (by omega) (by omega)
    simp only [Int.add_zero,qz,qK,qb,c3,v3,List.length_cons,List.length_nil,Nat.zero_add,Nat.reduceAdd,Nat.reduceLT,getElem?_pos,List.getElem_cons_succ,List.getElem_cons_zero,o3,cb3,qH,qP,qy,hD0,decide_false,Bool.false_eq_true,↓reduceIte,qg,zU,qU,Nat.zero_lt_succ,sizeLine_eq,Nat.reduceLeDiff,true_and] at this ⊢
    exact this
 simp only [qN,tb3,o3,v3,c3,iB,List.getElem?_cons_zero,List.getElem?_cons_succ,lt8,decide_false,Bool.false_eq_true,if_false,qm]
 rw [q4]
 clear q4
 refine qR fun nx5 q5 => ?_
 simp only [zE,qb,zk,qg,List.length_nil,sizeLine_eq,Nat.zero_le,o3,c3,cb3,v3,List.length_cons,Nat.zero_add,Nat.reduceAdd,Nat.zero_lt_succ,getElem?_pos,List.getElem_cons_zero,qP,qy,zU,iC,Bool.false_eq_true,↓reduceIte,qU,List.set_cons_succ,List.set_cons_zero,ne_eq,exists_and_left,Bool.exists_bool,Int.mul_zero,Int.add_zero,Int.mul_one,Int.reduceAdd,true_and]
 intro pp hpp
 have npp := L1.ne hpp
 have Lp := L1.new npp (ob := .lst [])
 refine qW Lp (by omega) (by omega) (by omega) fun fv G2 f0 f1 L2' E2 => ?_
 have gp2 := E2 _ _ npp qo
 have X2 : Ext a G G2 := E1.trans ((zz hpp).trans E2)
 have hf : ∃ far : Int,(far = 1 ∨ far = 5)∧nx5 = nx5 := ⟨1,.inl rfl,rfl⟩
 clear hf
 have fin : ∀ far : Int,far = 1 ∨ far = 5 → nx5 [some (.ref a),some (.int way),none,none,none,none,none,some (.ref pp),some (.int far),none,none] G2 := by
  intro far hfar
  rw [q5]
  clear q5
  refine qR fun nx6 q6 => ?_
  simp only [UH,zh,cb3,qb,qg,v3,List.getElem?_cons_zero,List.getElem?_cons_succ]
  refine ⟨a,_,rfl,L2',by omega,fun m G3 m1 m2 L3' E3 => ?_⟩
  have gp3 := E3 _ _ npp gp2
  refine ⟨⟨by omega,by omega⟩,?_⟩
  rw [Int.toNat_natCast]
  refine zH _ (fun i τ G' => ∃ ps : List (Int × Int),G' pp = some (.lst (ps.map pT))∧(1 ≤ i → 1 ≤ ps.length)∧ps.length ≤ i∧ps.Nodup∧(∀ p ∈ ps,(-16 ≤ p.1∧p.1 ≤ 16)∧(-16 ≤ p.2∧p.2 ≤ 16))∧Lf G' a (n + 5 + 2 * i)∧Ext a G G'∧∃ x9 x10,τ = [some (.ref a),some (.int way),none,none,none,none,none,some (.ref pp),some (.int far),x9,x10])
   ⟨[],gp3,by omega,by simp,by simp,(by intro p hp;cases hp),by simpa using L3'.mono (by omega),X2.trans E3,none,none,rfl⟩ (fun _ _ _ _ _ => True.intro) ?_ ?_
  ·rintro i z τ G' nx hz ⟨ps,gp,i1,pl,nd,bd,L,E,x9,x10,rfl⟩ hnx
   obtain ⟨hi,rfl⟩ := jt hz
   simp only [gn3,List.set_cons_succ,List.set_cons_zero]
   refine qR fun nx7 q7 => ?_
   simp only [qD,qK,qb,o3,v3,Int.zero_add,List.length_cons,List.length_nil,Nat.zero_add,Nat.reduceAdd,Nat.reduceLT,getElem?_pos,List.getElem_cons_succ,List.getElem_cons_zero,cb3,Nat.zero_lt_succ,c3,qg,iI,iC,sizeLine_eq,Nat.reduceLeDiff,gn3,List.set_cons_succ,List.set_cons_zero,true_and]
   refine qW L (by omega) (by omega) (by omega) fun u G4 u0 u1 L4 E4 => ?_
   try simp
   refine ⟨cm (by omega) (by omega),qW L4 (by omega) (by omega) (by omega) fun v G5 v0 v1 L5 E5 => ?_⟩
   try simp
   refine ⟨cm (by omega) (by omega),?_⟩
   rw [q7]
   clear q7
   have gp5 := E5 _ _ npp (E4 _ _ npp gp)
   have X5 := E.trans (E4.trans E5)
   have pe : T.tup [.int (far * (u - 2)),.int (far * (v - 2))] = pT (far * (u - 2),far * (v - 2)) := rfl
   rw [pe]
   have pb : (-16 ≤ far * (u - 2)∧far * (u - 2) ≤ 16)∧(-16 ≤ far * (v - 2)∧far * (v - 2) ≤ 16) := by rcases hfar with rfl | rfl <;> omega
   generalize hP : (far * (u - 2),far * (v - 2)) = P at *
   have pb' : (-16 ≤ P.1∧P.1 ≤ 16)∧(-16 ≤ P.2∧P.2 ≤ 16) := by rw [← hP];exact pb
   simp only [qN,tb3,o3,v3,List.getElem?_cons_zero,List.getElem?_cons_succ]
   refine ⟨_,_,_,_,qC gp5,qcH _ _,qbX _ _,pIn _ _,fun d hd => ?_,?_⟩
   ·obtain ⟨p,_,rfl⟩ := List.mem_map.mp hd
    exact qe7 p
   ·by_cases hm : P ∈ ps
    ·simp only [↓reduceIte,hm,decide_true,Bool.not_true,Bool.false_eq_true,qm]
     exact hnx _ _ ⟨ps,gp5,fun _ => List.length_pos_of_mem hm,by omega,nd,bd,L5.mono (by omega),X5,_,_,rfl⟩
    ·simp only [↓reduceIte,hm,decide_false,Bool.not_false,qQ,bm3,v3,List.length_cons,List.length_nil,Nat.zero_add,Nat.reduceAdd,Nat.reduceLT,getElem?_pos,List.getElem_cons_succ,List.getElem_cons_zero,qb,Nat.lt_add_one,qg,z9,gp5,List.length_map,sizeLine_eq]
     refine ⟨by rw [qC gp5];rfl,by omega,?_⟩
     refine hnx _ _ ⟨ps ++ [P],by rw [qo];simp,fun _ => by simp,by simp;omega,?_,fun p hp => ?_,L5.new npp |>.mono (by omega),fun b o hb eb => ?_,_,_,rfl⟩
     ·rw [List.nodup_append]
      exact ⟨nd,by simp,fun x hx y hy => by simp at hy;subst hy;rintro rfl;exact hm hx⟩
     ·rcases List.mem_append.mp hp with hp | hp
      ·exact bd p hp
      ·simp at hp;subst hp;exact pb'
     ·have : b ≠ pp := by
       rintro rfl
       have := E1 _ _ hb eb
       rw [hpp] at this;cases this
      rw [jK this]
      exact X5 _ _ hb eb
  ·rintro τ G' ⟨ps,gp,i1,pl,nd,bd,L,E,x9,x10,rfl⟩
   rw [zr] at i1 pl L
   show nx6 _ _
   rw [q6]
   simp only [qz,qK,qb,c3,cb3,v3,List.length_cons,List.length_nil,Nat.zero_add,Nat.reduceAdd,Nat.reduceLT,getElem?_pos,List.getElem_cons_succ,List.getElem_cons_zero,qg,qs,qC gp,sizeLine_eq,Nat.reduceLeDiff,true_and]
   exact h (.cells ps) G' ⟨i1 m1,by omega,nd,bd⟩ (L.mono (by omega)) E
 by_cases k0 : fv = 0
 ·have := fin 5 (.inr rfl)
  simp only [k0,decide_true,↓reduceIte,Int.mul_one,Int.reduceAdd]
  exact ⟨cm (by omega) (by omega),this⟩
 ·have := fin 1 (.inl rfl)
  simp only [k0,decide_false,Bool.false_eq_true,↓reduceIte,Int.mul_zero,Int.add_zero]
  exact ⟨cm (by omega) (by omega),this⟩
end Bk
namespace Bk
open PySem L2 L3
def JQ : Sp3 := fun ts G q => ∃ w : Wk,ts = [w.t]∧w.Ok∧∀ p G',Ex G G' → G p = none → G' p = some (.lst w.cT) → q (.ref p) G'
theorem qfh {i w : Nat} {G : Gp} {q : Q3} (hw : w ≤ 1000) (h : ∀ p,G p = none → q (.ref p) (gu G p (.lst (((List.range w).map fun (j : Nat) => ((i : Int),(j : Int))).map pT)))) :
  VP (fun _ => True) (gn3 0) tt3 (qK (qb (v3 1) (qb (v3 0) qg))) q (DI 0 w) [] [none,some (.int i)] G := by
 refine j8 (fun t => T.tup [.int (i : Int),t]) (fun τ => ∃ x0,τ = [x0,some (.int (i : Int))]) True.intro _ _ _ ⟨none,rfl⟩ ?_ (by simp [DI,sizeLine_eq];omega) ?_
 ·rintro z hz τ ⟨x0,rfl⟩ K hK
  simp [qv,qD,gn3,qz,zd,qN,qQ,jr,qm,v3,c3,o3,u3,zD,L3.ixT,L3.ixR,qU,iI,iC,iB,qP,qy,ji,tb3,jz,or3,jg,qH,jw,qZ,if3,ch3,cb3,qb,qg,zL,tyT,zq,qK,zk,ja,np3,sp3,qx,qj,qw,qT,je,zE,qi,bm3,z9,jc,zF,jj,jq,jy,zU,qs,qY,jb,jv,jn,jd,HT.sIx,in3,qO,eqF,sizeLine_eq,List.getElem?_cons_zero,List.getElem?_cons_succ]
  exact hK _ ⟨_,rfl⟩
 ·intro p hp
  have := h p hp
  simpa [pT,DI,List.map_map,Function.comp_def] using this
theorem LC {k : Nat} (hk : k < 4) {x : T} : j5 (([("row" : Str),"column","slant","back","step"]).zip [T.tup [.int 0,.int 1],.tup [.int 1,.int 0],.tup [.int 1,.int 1],.tup [.int 1,.int (-1)],x]) (jo k) = some (.tup [.int (lnD k),.int (lnA k)]) := by
 rcases k with _ | _ | _ | _ | k
 ·rfl
 ·rfl
 ·rfl
 ·rfl
 ·omega
theorem RL : ∀ ts G q,JQ ts G q → ts.length = 1∧Z0 (ZN q) (qi ["_law_walk_here","_law_found","_law_p","_law_down","_law_along"] ts) G := by
 rintro ts G q ⟨w,rfl,ok,h⟩
 refine ⟨rfl,?_⟩
 unfold Z0
 cases w with
 | cells ps =>
  show qv _ _ _ [some (.tup [.str "cells",.tup (ps.map pT)]),none,none,none,none] G
  rw [zi rfl,if_pos rfl]
  simp only [qz,cb3,qb,qg,o3,v3,c3,L3.ixT,W2,qY,List.getElem?_cons_zero]
  intro p hp
  exact h p _ (ze hp) hp qo
 | block v w =>
  obtain ⟨h1,h2,h3,h4,h5⟩ := ok
  show qv _ _ _ [some (.tup [.str "block",.int v,.int w]),none,none,none,none] G
  rw [zi rfl,if_neg (by decide),zi rfl,if_pos rfl]
  refine qR fun nx1 q1 => ?_
  simp [qv,qD,gn3,qz,zd,qN,qQ,jr,qm,v3,c3,o3,u3,zD,L3.ixT,L3.ixR,qU,iI,iC,iB,qP,qy,ji,tb3,jz,or3,jg,qH,jw,qZ,if3,ch3,cb3,qb,qg,zL,tyT,zq,qK,zk,ja,np3,sp3,qx,qj,qw,qT,je,zE,qi,bm3,z9,jc,zF,jj,jq,jy,zU,qs,qY,jb,jv,jn,jd,HT.sIx,in3,qO,eqF,sizeLine_eq,List.getElem?_cons_zero,List.getElem?_cons_succ]
  intro p hp
  rw [q1]
  clear q1
  refine qR fun nx2 q2 => ?_
  simp only [UH,zh,qb,qg,o3,v3,c3,L3.ixT,W2,List.getElem?_cons_zero]
  refine ⟨⟨by omega,by omega⟩,?_⟩
  rw [Int.toNat_natCast]
  refine zH _ (fun i τ G' => Ex G G'∧G' p = some (.lst ((j4 i w).map pT))∧∃ x2,τ = [some (.tup [.str "block",.int v,.int w]),some (.ref p),x2,none,none]) ⟨ze hp,by rw [qo];rfl,none,rfl⟩ (fun _ _ _ _ _ => True.intro) ?_ ?_
  ·rintro i z τ G' nx hz ⟨E,gp,x2,rfl⟩ hnx
   obtain ⟨hi,rfl⟩ := jt hz
   have hb : i * w ≤ 16 * 16 := Nat.mul_le_mul (by omega) h4
   simp only [gn3,List.set_cons_succ,List.set_cons_zero,qQ,bm3,v3,qb,qg,lc3,zh,o3,c3,L3.ixT,TZ,cap,List.getElem?_cons_zero,List.getElem?_cons_succ]
   refine ⟨by rw [qC gp];rfl,⟨by omega,by omega⟩,?_⟩
   rw [Int.toNat_natCast,show (0 : Int) + (i : Int) = (i : Int) by omega]
   refine qfh (by omega) fun p2 hp2 => ?_
   have hne : p ≠ p2 := by rintro rfl;rw [gp] at hp2;cases hp2
   simp only [jc,jK hne,gp,qo]
   refine ⟨by simp [DZ,sizeLine_eq];omega,hnx _ _ ⟨fun b o hb' => ?_,?_,_,rfl⟩⟩
   ·have n1 : b ≠ p := by rintro rfl;rw [hp] at hb';cases hb'
    have n2 : b ≠ p2 := by rintro rfl;rw [E _ _ hb'] at hp2;cases hp2
    rw [jK n1,jK n2]
    exact E _ _ hb'
   ·rw [qo,UU,List.map_append]
  ·rintro τ G' ⟨E,gp,x2,rfl⟩
   rw [zr] at gp
   show nx2 _ _
   rw [q2]
   exact h p G' E hp gp
 | step d a m =>
  obtain ⟨k1,k2,k3,k4⟩ := ok
  show qv _ _ _ [some (.tup [.str "step",.int d,.int a,.int m]),none,none,none,none] G
  rw [zi rfl,if_neg (by decide),zi rfl,if_neg (by decide)]
  refine qR fun nx1 q1 => ?_
  have tg : j5 (([("row" : Str),"column","slant","back","step"]).zip [T.tup [.int 0,.int 1],.tup [.int 1,.int 0],.tup [.int 1,.int 1],.tup [.int 1,.int (-1)],.tup [.int d,.int a]]) (Str.ofString "step") = some (.tup [.int d,.int a]) := rfl
  have sl : sl3 (.tup [.str "step",.int d,.int a,.int m]) (some 1) (some 3) G = fun q => q (.tup [.int d,.int a]) G := by
   funext q;simp [sl3,HT.sIx,L3.jd]
  have s2 : ∀ x y : T,[x,y].length ≤ sizeLine := fun x y => by simp [sizeLine_eq]
  simp only [qD,qaS,qb,qg,qK,c3,u3,zD,ja,sp3,o3,v3,L3.ixT,DE,List.getElem?_cons_zero,sl]
  refine ⟨s2 _ _,s2 _ _,s2 _ _,s2 _ _,?_⟩
  simp only [tg]
  simp [qx,qj,qw,gn3]
  rw [q1]
  have am : L2.atI [T.str (Str.ofString "step"),.int d,.int a,.int m] (-1) = some (.int (m : Int)) := rfl
  simp only [qz,lc3,zh,qb,qg,o3,v3,c3,u3,zD,L3.ixT,am,cap,List.getElem?_cons_zero]
  refine ⟨⟨by omega,by omega⟩,?_⟩
  rw [Int.toNat_natCast]
  exact CU (by omega) (by omega) (by omega) fun p hp => h p _ (ze hp) hp qo
 | line k m =>
  obtain ⟨hk,k3,k4⟩ := ok
  have hn : jo k ≠ Str.ofString "cells"∧jo k ≠ Str.ofString "block" := by
   rcases k with _ | _ | _ | _ | k
   ·decide
   ·decide
   ·decide
   ·decide
   ·omega
  have bd : (-1000 ≤ lnD k∧lnD k ≤ 1000)∧(-1000 ≤ lnA k∧lnA k ≤ 1000) := by
   rcases k with _ | _ | _ | _ | k
   ·decide
   ·decide
   ·decide
   ·decide
   ·omega
  show qv _ _ _ [some (.tup [.str (jo k),.int m]),none,none,none,none] G
  rw [zi rfl,if_neg hn.1,zi rfl,if_neg hn.2]
  refine qR fun nx1 q1 => ?_
  have sl : sl3 (.tup [.str (jo k),.int m]) (some 1) (some 3) G = fun q => q (.tup [.int m]) G := by
   funext q;simp [sl3,HT.sIx,L3.jd]
  have s2 : ∀ x y : T,[x,y].length ≤ sizeLine := fun x y => by simp [sizeLine_eq]
  simp only [qD,qaS,qb,qg,qK,c3,u3,zD,ja,sp3,o3,v3,L3.ixT,DE,List.getElem?_cons_zero,sl]
  refine ⟨s2 _ _,s2 _ _,s2 _ _,s2 _ _,?_⟩
  have tg := LC hk (x := .tup [.int m])
  simp only [tg]
  simp [qx,qj,qw,gn3]
  rw [q1]
  have am : L2.atI [T.str (jo k),.int m] (-1) = some (.int (m : Int)) := rfl
  simp only [qz,lc3,zh,qb,qg,o3,v3,c3,u3,zD,L3.ixT,am,cap,List.getElem?_cons_zero]
  refine ⟨⟨by omega,by omega⟩,?_⟩
  rw [Int.toNat_natCast]
  exact CU bd.1 bd.2 (by omega) fun p hp => h p _ (ze hp) hp qo
end Bk
namespace Bk
open PySem L2 L3
def DB : List Int → Int
 | [] => 0
 | [x] => x
 | x :: y :: r => min x (DB (y :: r))
def KA : List Int → Int
 | [] => 0
 | [x] => x
 | x :: y :: r => max x (KA (y :: r))
theorem jC : ∀ {ns : List Int},ns ≠ [] → DB ns ∈ ns∧∀ a ∈ ns,DB ns ≤ a
 | [],h => absurd rfl h
 | [x],_ => by simp [DB]
 | x :: y :: r,_ => by
  obtain ⟨h1,h2⟩ := jC (ns := y :: r) (by simp)
  simp only [DB]
  constructor
  ·rcases Int.le_total x (DB (y :: r)) with z | z
   ·rw [Int.min_eq_left z];simp
   ·rw [Int.min_eq_right z];exact List.mem_cons_of_mem _ h1
  ·intro a ha
   rcases List.mem_cons.mp ha with rfl | ha
   ·exact Int.min_le_left _ _
   ·exact Int.le_trans (Int.min_le_right _ _) (h2 a ha)
theorem jH : ∀ {ns : List Int},ns ≠ [] → KA ns ∈ ns∧∀ a ∈ ns,a ≤ KA ns
 | [],h => absurd rfl h
 | [x],_ => by simp [KA]
 | x :: y :: r,_ => by
  obtain ⟨h1,h2⟩ := jH (ns := y :: r) (by simp)
  simp only [KA]
  constructor
  ·rcases Int.le_total x (KA (y :: r)) with z | z
   ·rw [Int.max_eq_right z];exact List.mem_cons_of_mem _ h1
   ·rw [Int.max_eq_left z];simp
  ·intro a ha
   rcases List.mem_cons.mp ha with rfl | ha
   ·exact Int.le_max_left _ _
   ·exact Int.le_trans (h2 a ha) (Int.le_max_right _ _)
theorem KF {G : Gp} {p : Addr} {ns : List Int} {q : Q3} (hp : getL G p = some (ns.map T.int)) (ne : ns ≠ []) (h : q (.int (DB ns)) G) : RB [.ref p] G q := by
 simp only [RB,hp,VT]
 refine ⟨ne,fun m hm ha => ?_⟩
 obtain ⟨h1,h2⟩ := jC ne
 have : m = DB ns := Int.le_antisymm (ha _ h1) (h2 _ hm)
 rw [this];exact h
theorem KP {G : Gp} {p : Addr} {ns : List Int} {q : Q3} (hp : getL G p = some (ns.map T.int)) (ne : ns ≠ []) (h : q (.int (KA ns)) G) : RY [.ref p] G q := by
 simp only [RY,hp,VT]
 refine ⟨ne,fun m hm ha => ?_⟩
 obtain ⟨h1,h2⟩ := jH ne
 have : m = KA ns := Int.le_antisymm (h2 _ hm) (ha _ h1)
 rw [this];exact h
def dn (cs : List (Int × Int)) : List Int := cs.map (·.1)
def al (cs : List (Int × Int)) : List Int := cs.map (·.2)
def n1 (R : Int) (cs : List (Int × Int)) : Nat := (R - KA (dn cs) - -DB (dn cs)).toNat
def n2 (C : Int) (cs : List (Int × Int)) : Nat := (C - KA (al cs) - -DB (al cs)).toNat
def UR (C : Int) (cs : List (Int × Int)) (i : Nat) (N : Nat) : List (Int × Int) := (List.range N).map fun (j : Nat) => (-DB (dn cs) + (i : Int),-DB (al cs) + (j : Int))
def M5 (C : Int) (cs : List (Int × Int)) (N : Nat) : List (Int × Int) := (List.range N).flatMap fun (i : Nat) => UR C cs i (n2 C cs)
def stL (R C : Int) (cs : List (Int × Int)) : List (Int × Int) := M5 C cs (n1 R cs)
theorem WS (C : Int) (cs : List (Int × Int)) (N : Nat) : M5 C cs (N + 1) = M5 C cs N ++ UR C cs N (n2 C cs) := by simp [M5,List.range_succ]
theorem LB (C : Int) (cs : List (Int × Int)) (i N : Nat) : UR C cs i (N + 1) = UR C cs i N ++ [(-DB (dn cs) + (i : Int),-DB (al cs) + (N : Int))] := by simp [UR,List.range_succ]
theorem WK (C : Int) (cs : List (Int × Int)) (i N : Nat) : (UR C cs i N).length = N := by simp [UR]
theorem KY (C : Int) (cs : List (Int × Int)) (N : Nat) : (M5 C cs N).length = N * n2 C cs := by
 induction N with
 | zero => simp [M5]
 | succ N ih => rw [WS,List.length_append,ih,WK,Nat.succ_mul]
def qg1 (cs : List (Int × Int)) : Prop := cs ≠ []∧cs.length ≤ 16∧∀ p ∈ cs,(-1000 ≤ p.1∧p.1 ≤ 1000)∧(-1000 ≤ p.2∧p.2 ≤ 1000)
theorem KO {d a : Int} {m : Nat} (hd : -16 ≤ d∧d ≤ 16) (ha : -16 ≤ a∧a ≤ 16) (hm : m ≤ 16) : ∀ p ∈ VY d a m,(-1000 ≤ p.1∧p.1 ≤ 1000)∧(-1000 ≤ p.2∧p.2 ≤ 1000) := by
 intro p hp
 unfold VY at hp
 obtain ⟨t,ht,rfl⟩ := List.mem_map.mp hp
 have ht' : t < m := by simpa using ht
 have t16 : (t : Int) ≤ 16 := by omega
 have m1 : ∀ x : Int,-16 ≤ x∧x ≤ 16 → -256 ≤ (t : Int) * x∧(t : Int) * x ≤ 256 := fun x hx => by
  have a1 : (t : Int) * x ≤ (t : Int) * 16 := Int.mul_le_mul_of_nonneg_left hx.2 (by omega)
  have a2 : (t : Int) * (-16) ≤ (t : Int) * x := Int.mul_le_mul_of_nonneg_left hx.1 (by omega)
  omega
 have := m1 d hd;have := m1 a ha
 exact ⟨⟨by show -1000 ≤ (t : Int) * d;omega,by show (t : Int) * d ≤ 1000;omega⟩,⟨by show -1000 ≤ (t : Int) * a;omega,by show (t : Int) * a ≤ 1000;omega⟩⟩
theorem X7 {w : Wk} (ok : w.Ok) : qg1 w.pc := by
 have l := qef ok
 refine ⟨fun z => by rw [z] at l;simp at l,l.2,?_⟩
 cases w with
 | line k m =>
  obtain ⟨hk,k3,k4⟩ := ok
  have bd : (-16 ≤ lnD k∧lnD k ≤ 16)∧(-16 ≤ lnA k∧lnA k ≤ 16) := by
   rcases k with _ | _ | _ | _ | k
   ·decide
   ·decide
   ·decide
   ·decide
   ·omega
  exact KO bd.1 bd.2 k4
 | step d a m => exact KO ok.1 ok.2.1 ok.2.2.2
 | cells ps => intro p hp;have := ok.2.2.2 p hp;omega
 | block h v =>
  obtain ⟨h1,h2,h3,h4,h5⟩ := ok
  intro p hp
  simp only [Wk.pc,j4,List.mem_flatMap,List.mem_map,List.mem_range] at hp
  obtain ⟨i,hi,j,hj,rfl⟩ := hp
  exact ⟨⟨by show -1000 ≤ (i : Int);omega,by show (i : Int) ≤ 1000;omega⟩,⟨by show -1000 ≤ (j : Int);omega,by show (j : Int) ≤ 1000;omega⟩⟩
structure MM (cs : List (Int × Int)) : Prop where
 a1 : -1000 ≤ DB (dn cs)
 a2 : DB (dn cs) ≤ 1000
 a3 : -1000 ≤ KA (dn cs)
 a4 : KA (dn cs) ≤ 1000
 b1 : -1000 ≤ DB (al cs)
 b2 : DB (al cs) ≤ 1000
 b3 : -1000 ≤ KA (al cs)
 b4 : KA (al cs) ≤ 1000
 n1 : dn cs ≠ []
 n2 : al cs ≠ []
theorem qg1.mm {cs : List (Int × Int)} (ok : qg1 cs) : MM cs := by
 obtain ⟨ne,_,bd⟩ := ok
 have d1 : dn cs ≠ [] := by simpa [dn] using ne
 have d2 : al cs ≠ [] := by simpa [al] using ne
 have e1 : ∀ x ∈ dn cs,-1000 ≤ x∧x ≤ 1000 := fun x hx => by obtain ⟨p,hp,rfl⟩ := List.mem_map.mp hx;exact (bd p hp).1
 have e2 : ∀ x ∈ al cs,-1000 ≤ x∧x ≤ 1000 := fun x hx => by obtain ⟨p,hp,rfl⟩ := List.mem_map.mp hx;exact (bd p hp).2
 have h1 := e1 _ (jC d1).1;have h2 := e1 _ (jH d1).1;have h3 := e2 _ (jC d2).1;have h4 := e2 _ (jH d2).1
 exact ⟨h1.1,h1.2,h2.1,h2.2,h3.1,h3.2,h4.1,h4.2,d1,d2⟩
theorem qhu {d : Dl} {cs : List (Int × Int)} (ok : qg1 cs) {s : Int × Int} (hs : s ∈ stL d.R d.C cs) {p : Int × Int} (hp : p ∈ cs) : Inn d (s.1 + p.1) (s.2 + p.2) := by
 have mm := ok.mm
 unfold stL M5 UR at hs
 simp only [List.mem_flatMap,List.mem_map,List.mem_range] at hs
 obtain ⟨i,hi,j,hj,rfl⟩ := hs
 unfold n1 at hi
 unfold n2 at hj
 have x1 := (jC mm.n1).2 p.1 (List.mem_map.mpr ⟨p,hp,rfl⟩)
 have x2 := (jH mm.n1).2 p.1 (List.mem_map.mpr ⟨p,hp,rfl⟩)
 have x3 := (jC mm.n2).2 p.2 (List.mem_map.mpr ⟨p,hp,rfl⟩)
 have x4 := (jH mm.n2).2 p.2 (List.mem_map.mpr ⟨p,hp,rfl⟩)
 exact ⟨by show 0 ≤ -DB (dn cs) + (i : Int) + p.1;omega,by show -DB (dn cs) + (i : Int) + p.1 < d.R;omega,by show 0 ≤ -DB (al cs) + (j : Int) + p.2;omega,by show -DB (al cs) + (j : Int) + p.2 < d.C;omega⟩
theorem qbu {p : Addr} {cs : List (Int × Int)} {G : Gp} {q : Q3} (hp : getL G p = some (cs.map pT)) (hl : cs.length ≤ 1000) (h : ∀ p2,G p2 = none → q (.ref p2) (gu G p2 (.lst ((dn cs).map T.int)))) :
  VP (fun G => getL G p = some (cs.map pT)) (qx 2 (qj (gn3 0) (qj (gn3 1) qw))) tt3 (v3 0) q (cs.map pT) [] [none,none] G := by
 refine j8 (fun t => match t with | .tup [x,_] => x | t => t) (fun τ => ∃ x0 x1,τ = [x0,x1]) hp _ _ _ ⟨none,none,rfl⟩ ?_ (by simp [sizeLine_eq];omega) ?_
 ·rintro z hz τ ⟨x0,x1,rfl⟩ K hK
  obtain ⟨c,_,rfl⟩ := List.mem_map.mp hz
  simp [pT,qv,qD,gn3,qz,zd,qN,qQ,jr,qm,v3,c3,o3,u3,zD,L3.ixT,L3.ixR,qU,iI,iC,iB,qP,qy,ji,tb3,jz,or3,jg,qH,jw,qZ,if3,ch3,cb3,qb,qg,zL,tyT,zq,qK,zk,ja,np3,sp3,qx,qj,qw,qT,je,zE,qi,bm3,z9,jc,zF,jj,jq,jy,zU,qs,qY,jb,jv,jn,jd,HT.sIx,in3,qO,eqF,sizeLine_eq,List.getElem?_cons_zero,List.getElem?_cons_succ]
  exact hK _ ⟨_,_,rfl⟩
 ·intro p2 hp2
  have := h p2 hp2
  simpa [dn,pT,List.map_map,Function.comp_def] using this
theorem qbC {p : Addr} {cs : List (Int × Int)} {G : Gp} {q : Q3} (hp : getL G p = some (cs.map pT)) (hl : cs.length ≤ 1000) (h : ∀ p2,G p2 = none → q (.ref p2) (gu G p2 (.lst ((al cs).map T.int)))) :
  VP (fun G => getL G p = some (cs.map pT)) (qx 2 (qj (gn3 0) (qj (gn3 1) qw))) tt3 (v3 1) q (cs.map pT) [] [none,none] G := by
 refine j8 (fun t => match t with | .tup [_,x] => x | t => t) (fun τ => ∃ x0 x1,τ = [x0,x1]) hp _ _ _ ⟨none,none,rfl⟩ ?_ (by simp [sizeLine_eq];omega) ?_
 ·rintro z hz τ ⟨x0,x1,rfl⟩ K hK
  obtain ⟨c,_,rfl⟩ := List.mem_map.mp hz
  simp [pT,qv,qD,gn3,qz,zd,qN,qQ,jr,qm,v3,c3,o3,u3,zD,L3.ixT,L3.ixR,qU,iI,iC,iB,qP,qy,ji,tb3,jz,or3,jg,qH,jw,qZ,if3,ch3,cb3,qb,qg,zL,tyT,zq,qK,zk,ja,np3,sp3,qx,qj,qw,qT,je,zE,qi,bm3,z9,jc,zF,jj,jq,jy,zU,qs,qY,jb,jv,jn,jd,HT.sIx,in3,qO,eqF,sizeLine_eq,List.getElem?_cons_zero,List.getElem?_cons_succ]
  exact hK _ ⟨_,_,rfl⟩
 ·intro p2 hp2
  have := h p2 hp2
  simpa [al,pT,List.map_map,Function.comp_def] using this
end Bk
namespace Bk
open PySem L2 L3
def C8 (n : Nat) : Sp3 := fun ts G q => ∃ (d : Dl) (w : Wk),ts = [d.t,w.t]∧d.dep ≤ n∧d.Ok∧d.R ≤ 1000∧d.C ≤ 1000∧w.Ok∧∀ p G',Ex G G' → G p = none → G' p = some (.lst ((stL d.R d.C w.pc).map pT)) → q (.ref p) G'
theorem qac (n : Nat) : ∀ ts G q,C8 n ts G q → ts.length = 2∧DN (QC (n + 1)) Y6 (ZN q) (qi ["dealing","walk","rows","columns","banks","cells","downs","alongs"] ts) G := by
 rintro ts G q ⟨d,w,rfl,hd,ok,hR,hC,wok,h⟩
 refine ⟨rfl,?_⟩
 have L := Dl.lims ok
 have r1 := L.r1;have r2 := L.r2;have c1 := L.c1;have c2 := L.c2
 have co := X7 wok
 have mm := co.mm
 have cl := co.2.1
 have nn1 : n1 d.R w.pc ≤ 6000 := by unfold n1;have := mm.a2;have := mm.a3;omega
 have nn2 : n2 d.C w.pc ≤ 6000 := by unfold n2;have := mm.b2;have := mm.b3;omega
 have m1 := mm.a1;have m2 := mm.a2;have m3 := mm.a3;have m4 := mm.a4;have m5 := mm.b1;have m6 := mm.b2;have m7 := mm.b3;have m8 := mm.b4
 unfold DN
 refine qR fun nx1 q1 => ?_
 simp [qv,qD,gn3,qz,zd,qN,qQ,jr,qm,v3,c3,o3,u3,zD,L3.ixT,L3.ixR,qU,iI,iC,iB,qP,qy,ji,tb3,jz,or3,jg,qH,jw,qZ,if3,ch3,cb3,qb,qg,zL,tyT,zq,qK,zk,ja,np3,sp3,qx,qj,qw,qT,je,zE,qi,bm3,z9,jc,zF,jj,jq,jy,zU,qs,qY,jb,jv,jn,jd,HT.sIx,in3,qO,eqF,sizeLine_eq,List.getElem?_cons_zero,List.getElem?_cons_succ]
 refine ⟨d,rfl,hd,ok,?_⟩
 simp [VI,qv,qD,gn3,qz,zd,qN,qQ,jr,qm,v3,c3,o3,u3,zD,L3.ixT,L3.ixR,qU,iI,iC,iB,qP,qy,ji,tb3,jz,or3,jg,qH,jw,qZ,if3,ch3,cb3,qb,qg,zL,tyT,zq,qK,zk,ja,np3,sp3,qx,qj,qw,qT,je,zE,qi,bm3,z9,jc,zF,jj,jq,jy,zU,qs,qY,jb,jv,jn,jd,HT.sIx,in3,qO,eqF,sizeLine_eq,List.getElem?_cons_zero,List.getElem?_cons_succ]
 rw [q1]
 clear q1
 refine qR fun nx2 q2 => ?_
 simp only [qD,cb3,qb,qg,v3,gn3,List.getElem?_cons_zero,List.getElem?_cons_succ]
 refine ⟨w,rfl,wok,fun pc hpc => ?_⟩
 have E1 : Ex G (gu G pc (.lst w.cT)) := ze hpc
 have gc : getL (gu G pc (.lst w.cT)) pc = some (w.pc.map pT) := qC qo
 generalize gu G pc (.lst w.cT) = G1 at E1 gc
 simp only [List.set_cons_succ,List.set_cons_zero]
 rw [q2]
 clear q2
 refine qR fun nx3 q3 => ?_
 simp only [qD,lc3,jI,v3,gc,cap,List.getElem?_cons_zero,List.getElem?_cons_succ]
 refine qbu gc (by omega) fun pd hpd => ?_
 have E2 : Ex G (gu G1 pd (.lst ((dn w.pc).map T.int))) := E1.trans (ze hpd)
 have gd : getL (gu G1 pd (.lst ((dn w.pc).map T.int))) pd = some ((dn w.pc).map T.int) := qC qo
 have gc2 := (ze hpd (o := .lst ((dn w.pc).map T.int))).getL gc
 generalize gu G1 pd (.lst ((dn w.pc).map T.int)) = G2 at E2 gd gc2
 simp only [gn3,List.set_cons_succ,List.set_cons_zero]
 rw [q3]
 clear q3
 refine qR fun nx4 q4 => ?_
 simp only [qD,lc3,jI,v3,gc2,cap,List.getElem?_cons_zero,List.getElem?_cons_succ]
 refine qbC gc2 (by omega) fun pa hpa => ?_
 have E3 : Ex G (gu G2 pa (.lst ((al w.pc).map T.int))) := E2.trans (ze hpa)
 have ga : getL (gu G2 pa (.lst ((al w.pc).map T.int))) pa = some ((al w.pc).map T.int) := qC qo
 have gd3 := (ze hpa (o := .lst ((al w.pc).map T.int))).getL gd
 generalize gu G2 pa (.lst ((al w.pc).map T.int)) = G3 at E3 ga gd3
 simp only [gn3,List.set_cons_succ,List.set_cons_zero]
 rw [q4]
 clear q4
 simp only [qz,qdK,zh,qb,qg,o3,u3,cb3,v3,iI,List.getElem?_cons_zero,List.getElem?_cons_succ]
 refine KF gd3 mm.n1 ?_
 simp only [zD]
 refine KP gd3 mm.n1 ?_
 refine ⟨⟨by omega,by omega⟩,fun D hD => ?_⟩
 have Ed : Ex G3 (gu G3 D (.lst [])) := ze hD
 refine RS _ (fun i τ G' => G' = gu G3 D (.lst ((M5 d.C w.pc i).map pT))∧∃ x0 x1,τ = [x0,x1,some (.int d.C),some (.ref pa)]) ⟨by simp [M5],none,none,rfl⟩ (fun _ _ _ _ _ => True.intro) ?_ ?_
 ·rintro i x τ G' R hx ⟨rfl,x0,x1,rfl⟩ hR
  obtain ⟨hi,rfl⟩ := jt hx
  have hi' : i < n1 d.R w.pc := hi
  simp only [gn3,tt3,if_true,List.set_cons_succ,List.set_cons_zero,zh,qb,qg,o3,u3,cb3,v3,iI,List.getElem?_cons_zero,List.getElem?_cons_succ]
  have gaD : ∀ B,getL (gu G3 D B) pa = some ((al w.pc).map T.int) := fun B => (ze hD (o := B)).getL ga
  refine KF (gaD _) mm.n2 ?_
  simp only [zD]
  refine KP (gaD _) mm.n2 ?_
  refine ⟨⟨by omega,by omega⟩,?_⟩
  refine KN _ (fun j τ G' => G' = gu G3 D (.lst ((M5 d.C w.pc i ++ UR d.C w.pc i j).map pT))∧∃ x1,τ = [some (.int (-DB (dn w.pc) + (i : Int))),x1,some (.int d.C),some (.ref pa)]) ⟨by simp [UR],x1,rfl⟩ (fun _ _ _ _ _ => True.intro) ?_ ?_
  ·rintro j x τ G' R2 hx ⟨rfl,x1,rfl⟩ hR2
   obtain ⟨hj,rfl⟩ := jt hx
   have hj' : j < n2 d.C w.pc := hj
   have hb : i * n2 d.C w.pc ≤ 6000 * 2000 := by
    have q2 : n2 d.C w.pc ≤ 2000 := by unfold n2;have := (jC mm.n2).2 _ (jH mm.n2).1;omega
    exact Nat.mul_le_mul (by omega) q2
   simp only [gn3,tt3,qK,qb,qg,v3,List.set_cons_succ,List.set_cons_zero,List.getElem?_cons_zero,List.getElem?_cons_succ,if_true,qo]
   refine ⟨by simp [sizeLine_eq],by simp [KY,WK,sizeLine_eq];omega,hR2 _ _ ⟨?_,_,rfl⟩⟩
   rw [qeF,LB,← List.append_assoc,List.map_append]
   simp [pT]
  ·rintro τ G' ⟨rfl,x1,rfl⟩
   rw [zr]
   refine hR _ _ ⟨?_,_,_,rfl⟩
   rw [WS]
   rfl
 ·rintro τ G' ⟨rfl,x0,x1,rfl⟩
  rw [zr]
  refine h D _ (E3.trans (ze hD)) ?_ qo
  cases e : G D with
  | none => rfl
  | some o => rw [E3 _ _ e] at hD;cases hD
end Bk
namespace Bk
open PySem L2 L3
def V2 (n : Nat) : Sp3 := fun ts G q => ∃ (d : Dl) (w : Wk),ts = [d.t,w.t]∧d.dep ≤ n∧d.Ok∧d.R ≤ 1000∧d.C ≤ 1000∧w.Ok∧∀ p G',Ex G G' → G p = none → G' p = some (.lst ((stL d.R d.C w.pc).map pT)) → q (.ref p) G'
theorem qaM {i N : Nat} {x lo C : Int} {cs : List (Int × Int)} {G : Gp} {q : Q3} (hx : x = -DB (dn cs) + (i : Int)) (hlo : lo = -DB (al cs)) (hN : N ≤ 100000) (h : ∀ p,G p = none → q (.ref p) (gu G p (.lst ((UR C cs i N).map pT)))) :
  VP (fun _ => True) (gn3 0) tt3 (qK (qb (v3 1) (qb (v3 0) qg))) q (DI lo N) [] [none,some (.int x)] G := by
 refine j8 (fun t => T.tup [.int x,t]) (fun τ => ∃ x0,τ = [x0,some (.int x)]) True.intro _ _ _ ⟨none,rfl⟩ ?_ (by simp [DI,sizeLine_eq];omega) ?_
 ·rintro z hz τ ⟨x0,rfl⟩ K hK
  simp [qv,qD,gn3,qz,zd,qN,qQ,jr,qm,v3,c3,o3,u3,zD,L3.ixT,L3.ixR,qU,iI,iC,iB,qP,qy,ji,tb3,jz,or3,jg,qH,jw,qZ,if3,ch3,cb3,qb,qg,zL,tyT,zq,qK,zk,ja,np3,sp3,qx,qj,qw,qT,je,zE,qi,bm3,z9,jc,zF,jj,jq,jy,zU,qs,qY,jb,jv,jn,jd,HT.sIx,in3,qO,eqF,sizeLine_eq,List.getElem?_cons_zero,List.getElem?_cons_succ]
  exact hK _ ⟨_,rfl⟩
 ·intro p hp
  have := h p hp
  subst hx;subst hlo
  simpa [UR,pT,DI,List.map_map,Function.comp_def] using this
theorem X8 (n : Nat) : ∀ ts G q,V2 n ts G q → ts.length = 2∧QZ (ZW (n + 1)) JQ (ZN q) (qi ["_law_dealing_here","_law_walk_here","_law_rows","_law_columns","_law_banks","_law_cells_here","_law_downs","_law_alongs","_law_found","_law_i"] ts) G := by
 rintro ts G q ⟨d,w,rfl,hd,ok,hR,hC,wok,h⟩
 refine ⟨rfl,?_⟩
 have L := Dl.lims ok
 have r1 := L.r1;have r2 := L.r2;have c1 := L.c1;have c2 := L.c2
 have co := X7 wok
 have mm := co.mm
 have cl := co.2.1
 have q2' : n2 d.C w.pc ≤ 2000 := by unfold n2;have := (jC mm.n2).2 _ (jH mm.n2).1;omega
 have q1' : n1 d.R w.pc ≤ 2000 := by unfold n1;have := (jC mm.n1).2 _ (jH mm.n1).1;omega
 have m1 := mm.a1;have m2 := mm.a2;have m3 := mm.a3;have m4 := mm.a4;have m5 := mm.b1;have m6 := mm.b2;have m7 := mm.b3;have m8 := mm.b4
 unfold QZ
 refine qR fun nx1 q1 => ?_
 simp only [qD,cb3,qb,qg,v3,qi,List.map,List.length,List.cons_append,List.getElem?_cons_zero,List.getElem?_cons_succ]
 refine ⟨d,rfl,hd,ok,fun G0 E0 => ?_⟩
 simp [VI,qx,qj,qw,gn3]
 rw [q1]
 clear q1
 refine qR fun nx2 q2 => ?_
 simp only [qD,cb3,qb,qg,v3,gn3,List.getElem?_cons_zero,List.getElem?_cons_succ]
 refine ⟨w,rfl,wok,fun pc G1 E1' f1 g1 => ?_⟩
 have E1 : Ex G G1 := E0.trans E1'
 have gc : getL G1 pc = some (w.pc.map pT) := qC g1
 simp only [List.set_cons_succ,List.set_cons_zero]
 rw [q2]
 clear q2
 refine qR fun nx3 q3 => ?_
 simp only [zE,qb,qg,lc3,jI,v3,gc,cap,List.getElem?_cons_zero,List.getElem?_cons_succ]
 refine qbu gc (by omega) fun pd hpd => ?_
 have E2 : Ex G (gu G1 pd (.lst ((dn w.pc).map T.int))) := E1.trans (ze hpd)
 have gd : getL (gu G1 pd (.lst ((dn w.pc).map T.int))) pd = some ((dn w.pc).map T.int) := qC qo
 have gc2 := (ze hpd (o := .lst ((dn w.pc).map T.int))).getL gc
 generalize gu G1 pd (.lst ((dn w.pc).map T.int)) = G2 at E2 gd gc2
 simp only [gc2]
 refine qbC gc2 (by omega) fun pa hpa => ?_
 have E3 : Ex G (gu G2 pa (.lst ((al w.pc).map T.int))) := E2.trans (ze hpa)
 have ga : getL (gu G2 pa (.lst ((al w.pc).map T.int))) pa = some ((al w.pc).map T.int) := qC qo
 have gd3 := (ze hpa (o := .lst ((al w.pc).map T.int))).getL gd
 generalize gu G2 pa (.lst ((al w.pc).map T.int)) = G3 at E3 ga gd3
 simp only [gn3,List.set_cons_succ,List.set_cons_zero]
 rw [q3]
 clear q3
 refine qR fun nx4 q4 => ?_
 simp [qv,qD,gn3,qz,zd,qN,qQ,jr,qm,v3,c3,o3,u3,zD,L3.ixT,L3.ixR,qU,iI,iC,iB,qP,qy,ji,tb3,jz,or3,jg,qH,jw,qZ,if3,ch3,cb3,qb,qg,zL,tyT,zq,qK,zk,ja,np3,sp3,qx,qj,qw,qT,je,zE,qi,bm3,z9,jc,zF,jj,jq,jy,zU,qs,qY,jb,jv,jn,jd,HT.sIx,in3,qO,eqF,sizeLine_eq,List.getElem?_cons_zero,List.getElem?_cons_succ]
 intro p hp
 rw [q4]
 clear q4
 refine qR fun nx5 q5 => ?_
 have E4 : Ex G (gu G3 p (.lst [])) := E3.trans (ze hp)
 have ga4 : getL (gu G3 p (.lst [])) pa = some ((al w.pc).map T.int) := (ze hp).getL ga
 have gd4 : getL (gu G3 p (.lst [])) pd = some ((dn w.pc).map T.int) := (ze hp).getL gd3
 have hpG : G p = none := by
  cases e : G p with
  | none => rfl
  | some o => rw [E3 _ _ e] at hp;cases hp
 have npa : pa ≠ p := by rintro rfl;unfold getL at ga;rw [hp] at ga;simp at ga
 have gp4 : gu G3 p (.lst []) p = some (.lst []) := qo
 generalize gu G3 p (.lst []) = G4 at E4 ga4 gd4 gp4
 simp only [UH,zh,qb,qg,o3,u3,cb3,v3,iI,List.getElem?_cons_zero,List.getElem?_cons_succ]
 refine KF gd4 mm.n1 ?_
 simp only [zD]
 refine KP gd4 mm.n1 ?_
 refine ⟨⟨by omega,by omega⟩,?_⟩
 refine zH _ (fun i τ G' => Ex G G'∧getL G' pa = some ((al w.pc).map T.int)∧G' p = some (.lst ((M5 d.C w.pc i).map pT))∧∃ x9,τ = [some d.t,some w.t,some (.int d.R),some (.int d.C),some (.int d.B),some (.ref pc),some (.ref pd),some (.ref pa),some (.ref p),x9]) ⟨E4,ga4,by rw [gp4];rfl,none,rfl⟩ (fun _ _ _ _ _ => True.intro) ?_ ?_
 ·rintro i z τ G' nx hz ⟨E,gaa,gp,x9,rfl⟩ hnx
  obtain ⟨hi,rfl⟩ := jt hz
  have hi' : i < n1 d.R w.pc := hi
  have hb : i * n2 d.C w.pc ≤ 2000 * 2000 := Nat.mul_le_mul (by omega) q2'
  simp only [gn3,List.set_cons_succ,List.set_cons_zero,qQ,bm3,v3,qb,qg,lc3,zh,o3,u3,cb3,iI,cap,List.getElem?_cons_zero,List.getElem?_cons_succ]
  refine ⟨by rw [qC gp];rfl,?_⟩
  refine KF gaa mm.n2 ?_
  simp only [zD]
  refine KP gaa mm.n2 ?_
  refine ⟨⟨by omega,by omega⟩,?_⟩
  refine qaM (C := d.C) (cs := w.pc) (i := i) rfl rfl (N := n2 d.C w.pc) (by omega) fun p2 hp2 => ?_
  have hne : p ≠ p2 := by rintro rfl;rw [gp] at hp2;cases hp2
  simp only [jc,jK hne,gp,qo]
  refine ⟨by simp [KY,WK,sizeLine_eq];omega,hnx _ _ ⟨fun b o hb' => ?_,?_,?_,_,rfl⟩⟩
  ·have n1' : b ≠ p := by rintro rfl;rw [hpG] at hb';cases hb'
   have n2' : b ≠ p2 := by rintro rfl;rw [E _ _ hb'] at hp2;cases hp2
   rw [jK n1',jK n2']
   exact E _ _ hb'
  ·have := (ze hp2 (o := .lst ((UR d.C w.pc i (n2 d.C w.pc)).map pT))).getL gaa
   unfold getL at this ⊢
   rw [jK npa]
   exact this
  ·rw [qo,WS,List.map_append]
 ·rintro τ G' ⟨E,gaa,gp,x9,rfl⟩
  rw [zr] at gp
  show nx5 _ _
  rw [q5]
  exact h p G' E hpG gp
def shC (cs : List (Int × Int)) (s : Int × Int) : List (Int × Int) := cs.map fun p => (s.1 + p.1,s.2 + p.2)
def UO : Sp3 := fun ts G q => ∃ (w : Wk) (s : Int × Int),ts = [w.t,pT s]∧w.Ok∧∀ p G',Ex G G' → G p = none → G' p = some (.lst ((shC w.pc s).map pT)) → q (.ref p) G'
theorem L0 : ∀ ts G q,UO ts G q → ts.length = 2∧VZ Y6 (ZN q) (qi ["walk","start"] ts) G := by
 rintro ts G q ⟨w,s,rfl,wok,h⟩
 refine ⟨rfl,?_⟩
 have cl := (X7 wok).2.1
 unfold VZ
 simp only [qz,lc3,jI,cb3,qb,qg,v3,qi,List.map,List.length,List.cons_append,List.getElem?_cons_zero,List.getElem?_cons_succ]
 refine ⟨w,rfl,wok,fun pc hpc => ?_⟩
 have gc : getL (gu G pc (.lst w.cT)) pc = some (w.pc.map pT) := qC qo
 simp only [gc,cap]
 refine j8 (fun t => match t with | .tup [.int x,.int y] => pT (s.1 + x,s.2 + y) | t => t) (fun τ => ∃ x0 x1,τ = [x0,x1,some (pT s)]) gc _ _ _ ⟨none,none,rfl⟩ ?_ (by simp [sizeLine_eq];omega) ?_
 ·rintro z hz τ ⟨x0,x1,rfl⟩ K hK
  obtain ⟨c,_,rfl⟩ := List.mem_map.mp hz
  simp [pT,DE,W2,qv,qD,gn3,qz,zd,qN,qQ,jr,qm,v3,c3,o3,u3,zD,L3.ixT,L3.ixR,qU,iI,iC,iB,qP,qy,ji,tb3,jz,or3,jg,qH,jw,qZ,if3,ch3,cb3,qb,qg,zL,tyT,zq,qK,zk,ja,np3,sp3,qx,qj,qw,qT,je,zE,qi,bm3,z9,jc,zF,jj,jq,jy,zU,qs,qY,jb,jv,jn,jd,HT.sIx,in3,qO,eqF,sizeLine_eq,List.getElem?_cons_zero,List.getElem?_cons_succ]
  have := hK [some (.int c.1),some (.int c.2),some (pT s)] ⟨_,_,rfl⟩
  simpa [pT] using this
 ·intro p2 hp2
  have e : [] ++ (w.pc.map pT).map (fun t => match t with | .tup [.int x,.int y] => pT (s.1 + x,s.2 + y) | t => t) = (shC w.pc s).map pT := by
   rw [List.nil_append,List.map_map]
   unfold shC
   rw [List.map_map]
   apply List.map_congr_left
   intro c _
   simp [pT]
  rw [e]
  refine h p2 _ ((ze hpc).trans (ze hp2)) ?_ qo
  cases e : G p2 with
  | none => rfl
  | some o => rw [ze hpc _ _ e] at hp2;cases hp2
structure St (d : Dl) (w : Wk) (s : Int × Int) : Prop where
 ok : d.Ok
 wok : w.Ok
 inn : ∀ p ∈ w.pc,Inn d (s.1 + p.1) (s.2 + p.2)
def WA (n : Nat) : Sp3 := fun ts G q => ∃ (d : Dl) (w : Wk) (s : Int × Int),ts = [d.t,w.t,pT s]∧d.dep ≤ n∧St d w s∧∀ G',Ex G G' → q (.bl true) G'
theorem TY (n : Nat) : ∀ ts G q,WA n ts G q → ts.length = 3∧J4 UO (XR n) U5 (ZN q) (qi ["dealing","walk","thing"] ts) G := by
 rintro ts G q ⟨d,w,s,rfl,hd,st,h⟩
 refine ⟨rfl,?_⟩
 have cl := (X7 st.wok).2.1
 unfold J4
 simp only [qz,qH,cb3,qb,qg,v3,qi,List.map,List.length,List.cons_append,List.getElem?_cons_zero,List.getElem?_cons_succ]
 refine ⟨s.1,s.2,rfl,?_⟩
 simp only [if_true,lc3,jI]
 refine ⟨w,s,rfl,st.wok,fun p G1 E1 f1 g1 => ?_⟩
 simp only [qC g1,cap]
 refine j8 (fun _ => T.bl true) (fun τ => ∃ x0,τ = [x0,some d.t]) (qC g1) _ _ _ ⟨none,rfl⟩ ?_ (by simp [shC,sizeLine_eq];omega) ?_
 ·rintro z hz τ ⟨x0,rfl⟩ K hK
  obtain ⟨c,hc,rfl⟩ := List.mem_map.mp hz
  unfold shC at hc
  obtain ⟨c0,hc0,rfl⟩ := List.mem_map.mp hc
  simp [qv,qD,gn3,qz,zd,qN,qQ,jr,qm,v3,c3,o3,u3,zD,L3.ixT,L3.ixR,qU,iI,iC,iB,qP,qy,ji,tb3,jz,or3,jg,qH,jw,qZ,if3,ch3,cb3,qb,qg,zL,tyT,zq,qK,zk,ja,np3,sp3,qx,qj,qw,qT,je,zE,qi,bm3,z9,jc,zF,jj,jq,jy,zU,qs,qY,jb,jv,jn,jd,HT.sIx,in3,qO,eqF,sizeLine_eq,List.getElem?_cons_zero,List.getElem?_cons_succ]
  exact ⟨d,_,_,rfl,hd,st.ok,st.inn c0 hc0,hK _ ⟨_,rfl⟩⟩
 ·intro p2 hp2
  have e : qcX ([] ++ ((shC w.pc s).map pT).map (fun _ => T.bl true)) = some true := by
   rw [List.nil_append,List.map_const']
   exact T5 _
  simp only [jb,qC qo,e]
  exact h _ (E1.trans (ze hp2))
def W6 (n : Nat) : Sp3 := fun ts G q => ∃ (d : Dl) (w : Wk) (s : Int × Int),ts = [d.t,w.t,pT s]∧d.dep ≤ n∧St d w s∧∀ p G',Ex G G' → G p = none → G' p = some (.lst ((shC w.pc s).map pT)) → q (.ref p) G'
theorem S0 (n : Nat) : ∀ ts G q,W6 n ts G q → ts.length = 3∧YE (WA n) UO (ZN q) (qi ["dealing","walk","start"] ts) G := by
 rintro ts G q ⟨d,w,s,rfl,hd,st,h⟩
 refine ⟨rfl,?_⟩
 unfold YE
 refine qR fun nx1 q1 => ?_
 simp only [qN,jg,tb3,cb3,qb,qg,v3,qi,List.map,List.length,List.cons_append,List.getElem?_cons_zero,List.getElem?_cons_succ]
 refine ⟨d,w,s,rfl,hd,st,fun G1 E1 => ?_⟩
 simp [qm]
 rw [q1]
 simp only [qz,cb3,qb,qg,v3,List.getElem?_cons_zero,List.getElem?_cons_succ]
 refine ⟨w,s,rfl,st.wok,fun p G2 E2 f2 g2 => h p G2 (E1.trans E2) ?_ g2⟩
 cases e : G p with
 | none => rfl
 | some o => rw [E1 _ _ e] at f2;cases f2
def bkL (d : Dl) (w : Wk) (s : Int × Int) : List Int := w.pc.map fun p => d.bank (s.1 + p.1) (s.2 + p.2)
def UG (n : Nat) : Sp3 := fun ts G q => ∃ (d : Dl) (w : Wk) (s : Int × Int),ts = [d.t,w.t,pT s]∧d.dep ≤ n∧St d w s∧∀ p G',Ex G G' → G p = none → G' p = some (.lst ((bkL d w s).map T.int)) → q (.ref p) G'
theorem CY (n : Nat) : ∀ ts G q,UG n ts G q → ts.length = 3∧Q1 (W6 n) (EG (n + 1)) (ZN q) (qi ["dealing","walk","start"] ts) G := by
 rintro ts G q ⟨d,w,s,rfl,hd,st,h⟩
 refine ⟨rfl,?_⟩
 have cl := (X7 st.wok).2.1
 unfold Q1
 simp only [qz,lc3,jI,cb3,qb,qg,v3,qi,List.map,List.length,List.cons_append,List.getElem?_cons_zero,List.getElem?_cons_succ]
 refine ⟨d,w,s,rfl,hd,st,fun p G1 E1 f1 g1 => ?_⟩
 simp only [qC g1,cap]
 refine jN _ (fun i ys τ G' => Ex G1 G'∧ys = ((bkL d w s).take i).map T.int∧∃ x0,τ = [x0,some d.t]) ⟨Ex.refl,by simp,none,rfl⟩ (fun _ _ _ _ _ hP => hP.1.getL (qC g1)) ?_ ?_
 ·rintro i z ys τ G' R hz ⟨E,rfl,x0,rfl⟩ hR
  unfold shC at hz
  rw [List.getElem?_map,List.getElem?_map] at hz
  cases e : w.pc[i]? with
  | none => rw [e] at hz;cases hz
  | some c =>
   rw [e] at hz
   have : z = pT (s.1 + c.1,s.2 + c.2) := by simpa using hz.symm
   subst this
   obtain ⟨hi,ec⟩ := List.getElem?_eq_some_iff.mp e
   simp [tt3,qv,qD,gn3,qz,zd,qN,qQ,jr,qm,v3,c3,o3,u3,zD,L3.ixT,L3.ixR,qU,iI,iC,iB,qP,qy,ji,tb3,jz,or3,jg,qH,jw,qZ,if3,ch3,cb3,qb,qg,zL,tyT,zq,qK,zk,ja,np3,sp3,qx,qj,qw,qT,je,zE,qi,bm3,z9,jc,zF,jj,jq,jy,zU,qs,qY,jb,jv,jn,jd,HT.sIx,in3,qO,eqF,sizeLine_eq,List.getElem?_cons_zero,List.getElem?_cons_succ]
   refine ⟨d,_,_,rfl,hd,st.ok,st.inn c (List.mem_of_getElem? e),fun G2 E2 => ⟨by first | omega | (simp [sizeLine_eq];omega),hR _ _ _ ⟨E.trans E2,?_,_,rfl⟩⟩⟩
   have hb : i < (bkL d w s).length := by simpa [bkL] using hi
   rw [List.take_succ_eq_append_getElem hb]
   simp [bkL,ec]
 ·rintro ys τ G' ⟨E,rfl,x0,rfl⟩ p2 hp2
  have e : (bkL d w s).take ((shC w.pc s).map pT).length = bkL d w s := List.take_of_length_le (by simp [bkL,shC])
  rw [e]
  refine h p2 _ (E1.trans (E.trans (ze hp2))) ?_ qo
  cases e : G p2 with
  | none => rfl
  | some o => rw [E _ _ (E1 _ _ e)] at hp2;cases hp2
def D5 (n : Nat) : Sp3 := fun ts G q => ∃ (d : Dl) (w : Wk) (s : Int × Int),ts = [d.t,w.t,pT s]∧d.dep ≤ n∧St d w s∧∀ p G',Ex G G' → G p = none → G' p = some (.lst ((bkL d w s).map T.int)) → q (.ref p) G'
theorem TM (n : Nat) : ∀ ts G q,D5 n ts G q → ts.length = 3∧J8 JQ (VD (n + 1)) (ZN q) (qi ["_law_dealing_here","_law_walk_here","_law_start"] ts) G := by
 rintro ts G q ⟨d,w,s,rfl,hd,st,h⟩
 refine ⟨rfl,?_⟩
 have cl := (X7 st.wok).2.1
 unfold J8
 simp only [qz,lc3,jI,cb3,qb,qg,v3,qi,List.map,List.length,List.cons_append,List.getElem?_cons_zero,List.getElem?_cons_succ]
 refine ⟨w,rfl,st.wok,fun p G1 E1 f1 g1 => ?_⟩
 have gc : getL G1 p = some (w.pc.map pT) := qC g1
 simp only [gc,cap]
 refine jN _ (fun i ys τ G' => Ex G1 G'∧ys = ((bkL d w s).take i).map T.int∧∃ x0 x1,τ = [x0,x1,some d.t,some (pT s)]) ⟨Ex.refl,by simp,none,none,rfl⟩ (fun _ _ _ _ _ hP => hP.1.getL gc) ?_ ?_
 ·rintro i z ys τ G' R hz ⟨E,rfl,x0,x1,rfl⟩ hR
  rw [List.getElem?_map] at hz
  cases e : w.pc[i]? with
  | none => rw [e] at hz;cases hz
  | some c =>
   rw [e] at hz
   have : z = pT c := by simpa using hz.symm
   subst this
   obtain ⟨hi,ec⟩ := List.getElem?_eq_some_iff.mp e
   simp [tt3,pT,DE,W2,qv,qD,gn3,qz,zd,qN,qQ,jr,qm,v3,c3,o3,u3,zD,L3.ixT,L3.ixR,qU,iI,iC,iB,qP,qy,ji,tb3,jz,or3,jg,qH,jw,qZ,if3,ch3,cb3,qb,qg,zL,tyT,zq,qK,zk,ja,np3,sp3,qx,qj,qw,qT,je,zE,qi,bm3,z9,jc,zF,jj,jq,jy,zU,qs,qY,jb,jv,jn,jd,HT.sIx,in3,qO,eqF,sizeLine_eq,List.getElem?_cons_zero,List.getElem?_cons_succ]
   refine ⟨d,_,_,rfl,hd,st.ok,st.inn c (List.mem_of_getElem? e),fun G2 E2 => ⟨by first | omega | (simp [sizeLine_eq];omega),hR _ _ _ ⟨E.trans E2,?_,_,_,rfl⟩⟩⟩
   have hb : i < (bkL d w s).length := by simpa [bkL] using hi
   rw [List.take_succ_eq_append_getElem hb]
   simp [bkL,ec]
 ·rintro ys τ G' ⟨E,rfl,x0,x1,rfl⟩ p2 hp2
  have e : (bkL d w s).take (w.pc.map pT).length = bkL d w s := List.take_of_length_le (by simp [bkL])
  rw [e]
  refine h p2 _ (E1.trans (E.trans (ze hp2))) ?_ qo
  cases e : G p2 with
  | none => rfl
  | some o => rw [E _ _ (E1 _ _ e)] at hp2;cases hp2
end Bk
namespace Bk
open PySem L2 L3
theorem CM {G : Gp} {x : T} {us : List T} {q : Q3} (h : zC G x = some us) : zF [x] G q = q (.int us.length) G := by
 cases x with
 | tup xs => simp [zC] at h;subst h;rfl
 | ref p => simp [zC] at h;simp [zF,h]
 | _ => simp [zC] at h
theorem XH {G : Gp} {x : T} {us : List T} {i : Int} {z : T} {q : Q3} (h : zC G x = some us) (hz : L2.atI us i = some z) : ix3 x (.int i) G q = q z G := by
 cases x with
 | tup xs => simp [zC] at h;subst h;rw [L3.ixT,hz]
 | ref p => simp [zC] at h;rw [L3.ixR,h];simp only [hz]
 | _ => simp [zC] at h
def Un2 (ns : List Int) (i : Nat) : Prop := ∀ a b,a < i → a < b → b < ns.length → ns[a]? ≠ ns[b]?
structure Fst (ns : List Int) (i j : Nat) : Prop where
 ij : i < j
 jl : j < ns.length
 un : Un2 ns i
 nb : ∀ b,i < b → b < j → ns[i]? ≠ ns[b]?
 eq : ns[i]? = ns[j]?
theorem Fst.uniq {ns : List Int} {i j i' j' : Nat} (F : Fst ns i j) (F' : Fst ns i' j') : i = i'∧j = j' := by
 have e : i = i' := by
  rcases Nat.lt_trichotomy i i' with z | z | z
  ·exact absurd F.eq (F'.un i j z F.ij F.jl)
  ·exact z
  ·exact absurd F'.eq (F.un i' j' z F'.ij F'.jl)
 subst e
 refine ⟨rfl,?_⟩
 rcases Nat.lt_trichotomy j j' with z | z | z
 ·exact absurd F.eq (F'.nb j F.ij z)
 ·exact z
 ·exact absurd F'.eq (F.nb j' F'.ij z)
open Classical in
def faO (ns : List Int) : Option (Nat × Nat) := if h : ∃ ij : Nat × Nat,Fst ns ij.1 ij.2 then some h.choose else none
theorem YF {ns : List Int} {i j : Nat} (F : Fst ns i j) : faO ns = some (i,j) := by
 have h : ∃ ij : Nat × Nat,Fst ns ij.1 ij.2 := ⟨(i,j),F⟩
 unfold faO
 rw [dif_pos h]
 have := h.choose_spec
 obtain ⟨e1,e2⟩ := this.uniq F
 exact congrArg some (Prod.ext e1 e2)
theorem J7 {ns : List Int} (h : Un2 ns ns.length) : faO ns = none := by
 unfold faO
 rw [dif_neg]
 rintro ⟨ij,F⟩
 exact h ij.1 ij.2 (Nat.lt_trans F.ij F.jl) F.ij F.jl F.eq
def YO : Sp3 := fun ts G q => ∃ (x : T) (ns : List Int),ts = [x]∧zC G x = some (ns.map T.int)∧ns.length ≤ 1000000∧(Un2 ns ns.length → q .non G)∧(∀ i j : Nat,Fst ns i j → q (.tup [.int i,.int j]) G)
theorem W8 : ∀ ts G q,YO ts G q → ts.length = 1∧j7 (ZN q) (qi ["things","k","l"] ts) G := by
 rintro ts G q ⟨x,ns,rfl,hx,hl,h1,h2⟩
 refine ⟨rfl,?_⟩
 have lm : (ns.map T.int).length = ns.length := List.length_map _
 unfold j7
 refine qR fun nx0 q0 => ?_
 simp only [UH,zh,qb,qg,cb3,v3,qi,List.map,List.length,List.cons_append,List.getElem?_cons_zero,CM hx,lm]
 refine ⟨⟨by omega,by omega⟩,?_⟩
 rw [Int.toNat_natCast]
 refine zH _ (fun i τ G' => G' = G∧Un2 ns i∧∃ x1 x2,τ = [some x,x1,x2]) ⟨rfl,fun a b ha => by omega,none,none,rfl⟩ (fun _ _ _ _ _ => True.intro) ?_ ?_
 ·rintro i z τ G' nx hz ⟨rfl,hu,x1,x2,rfl⟩ hn
  obtain ⟨hi,rfl⟩ := jt hz
  simp only [gn3,UH,zh,List.set_cons_succ,List.set_cons_zero,qb,qg,c3,v3,o3,cb3,qU,List.getElem?_cons_zero,List.getElem?_cons_succ,CM hx,lm]
  refine ⟨⟨by omega,by omega⟩,?_⟩
  rw [show ((ns.length : Int) - (0 + (i : Int) + 1)).toNat = ns.length - (i + 1) by omega]
  refine zH _ (fun j τ G'' => G'' = G'∧(∀ b,i < b → b < i + 1 + j → b < ns.length → ns[i]? ≠ ns[b]?)∧∃ x2,τ = [some x,some (.int (0 + (i : Int))),x2]) ⟨rfl,fun b hb hb2 => by omega,x2,rfl⟩ (fun _ _ _ _ _ => True.intro) ?_ ?_
  ·rintro j z τ G'' nx2 hz ⟨rfl,hv,x2,rfl⟩ hn2
   obtain ⟨hj,rfl⟩ := jt hz
   have hij : i + 1 + j < ns.length := by omega
   have ga : L2.atI (ns.map T.int) (0 + (i : Int)) = some (T.int ns[i]) := by
    rw [zp (by omega) (by simp;omega),show ((0 : Int) + (i : Int)).toNat = i by omega];simp [hi]
   have gb : L2.atI (ns.map T.int) (0 + (i : Int) + 1 + (j : Int)) = some (T.int ns[i + 1 + j]) := by
    rw [zp (by omega) (by simp;omega),show ((0 : Int) + (i : Int) + 1 + (j : Int)).toNat = i + 1 + j by omega];simp [hij]
   simp only [gn3,List.set_cons_succ,List.set_cons_zero,qN,tb3,o3,v3,List.getElem?_cons_zero,List.getElem?_cons_succ,XH hx ga,XH hx gb,qP,qy]
   by_cases e : ns[i] = ns[i + 1 + j]
   ·have := h2 i (i + 1 + j) ⟨by omega,hij,hu,fun b hb hb2 => hv b hb (by omega) (by omega),by simp [hi,hij,e]⟩
    simp [e,qv,qD,gn3,qz,zd,qN,qQ,jr,qm,v3,c3,o3,u3,zD,L3.ixT,L3.ixR,qU,iI,iC,iB,qP,qy,ji,tb3,jz,or3,jg,qH,jw,qZ,if3,ch3,cb3,qb,qg,zL,tyT,zq,qK,zk,ja,np3,sp3,qx,qj,qw,qT,je,zE,qi,bm3,z9,jc,zF,jj,jq,jy,zU,qs,qY,jb,jv,jn,jd,HT.sIx,in3,qO,eqF,sizeLine_eq,List.getElem?_cons_zero,List.getElem?_cons_succ]
    simpa [Int.natCast_add] using this
   ·simp [e,qv,qD,gn3,qz,zd,qN,qQ,jr,qm,v3,c3,o3,u3,zD,L3.ixT,L3.ixR,qU,iI,iC,iB,qP,qy,ji,tb3,jz,or3,jg,qH,jw,qZ,if3,ch3,cb3,qb,qg,zL,tyT,zq,qK,zk,ja,np3,sp3,qx,qj,qw,qT,je,zE,qi,bm3,z9,jc,zF,jj,jq,jy,zU,qs,qY,jb,jv,jn,jd,HT.sIx,in3,qO,eqF,sizeLine_eq,List.getElem?_cons_zero,List.getElem?_cons_succ]
    refine hn2 _ _ ⟨rfl,fun b hb hb2 hb3 => ?_,_,by simp;rfl⟩
    by_cases eb : b = i + 1 + j
    ·subst eb;simp [hi,hij,e]
    ·exact hv b hb (by omega) hb3
  ·rintro τ G'' ⟨rfl,hv,x2,rfl⟩
   refine hn _ _ ⟨rfl,fun a b ha hab hb => ?_,_,_,rfl⟩
   rw [zr] at hv
   by_cases e : a = i
   ·subst e;exact hv b hab (by omega) hb
   ·exact hu a b (by omega) hab hb
 ·rintro τ G' ⟨rfl,hu,x1,x2,rfl⟩
  rw [zr] at hu
  show nx0 _ _
  rw [q0]
  exact h1 hu
def clO (d : Dl) (w : Wk) : Option ((Int × Int) × Nat × Nat) := (stL d.R d.C w.pc).findSome? fun s => (faO (bkL d w s)).map fun ij => (s,ij)
def clT : Option ((Int × Int) × Nat × Nat) → T
 | none => .non
 | some (s,i,j) => .tup [pT s,.int i,.int j]
def clD : Option ((Int × Int) × Nat × Nat) → PyData
 | none => .none
 | some (s,i,j) => .tuple [pD s,.int i,.int j]
theorem qei (G : Gp) : ∀ o,Dp G (clT o) (clD o)
 | none => .non
 | some (s,i,j) => .tup (.cons (qcH G s) (.cons (.int _) (.cons (.int _) .nil)))
theorem NI {α β : Type} {f : α → Option β} {xs : List α} {i : Nat} {x : α} {b : β} (hx : xs[i]? = some x) (hf : f x = some b) (hb : ∀ j y,j < i → xs[j]? = some y → f y = none) : xs.findSome? f = some b := by
 induction xs generalizing i with
 | nil => simp at hx
 | cons z zs ih =>
  cases i with
  | zero => simp at hx;subst hx;simp [hf]
  | succ i =>
   have := hb 0 z (by omega) (by simp)
   simp only [List.findSome?_cons,this]
   exact ih (by simpa using hx) fun j y hj hy => hb (j + 1) y (by omega) (by simpa using hy)
theorem KW {α β : Type} {f : α → Option β} {xs : List α} (hb : ∀ j y,j < xs.length → xs[j]? = some y → f y = none) : xs.findSome? f = none := by
 rw [List.findSome?_eq_none_iff]
 intro x hx
 obtain ⟨j,hj,e⟩ := List.mem_iff_getElem.mp hx
 exact hb j x hj (by rw [List.getElem?_eq_getElem hj,e])
theorem qej {d : Dl} {w : Wk} (ok : d.Ok) (wok : w.Ok) {s : Int × Int} (hs : s ∈ stL d.R d.C w.pc) : St d w s := ⟨ok,wok,fun p hp => qhu (X7 wok) hs hp⟩
def T3 (n : Nat) : Sp3 := fun ts G q => ∃ (d : Dl) (w : Wk),ts = [d.t,w.t]∧d.dep ≤ n∧d.Ok∧d.R ≤ 1000∧d.C ≤ 1000∧w.Ok∧∀ G',Ex G G' → q (clT (clO d w)) G'
theorem qa4 (n : Nat) : ∀ ts G q,T3 n ts G q → ts.length = 2∧CC (C8 n) (UG n) YO (ZN q) (qi ["dealing","walk","start","found"] ts) G := by
 rintro ts G q ⟨d,w,rfl,hd,ok,hR,hC,wok,h⟩
 refine ⟨rfl,?_⟩
 have cl := (X7 wok).2.1
 unfold CC
 refine qR fun nx0 q0 => ?_
 simp only [UH,jI,cb3,qb,qg,v3,qi,List.map,List.length,List.cons_append,List.getElem?_cons_zero,List.getElem?_cons_succ]
 refine ⟨d,w,rfl,hd,ok,hR,hC,wok,fun p G1 E1 f1 g1 => ?_⟩
 simp only [qC g1]
 refine zH _ (fun i τ G' => Ex G1 G'∧(∀ j y,j < i → (stL d.R d.C w.pc)[j]? = some y → faO (bkL d w y) = none)∧∃ x2 x3,τ = [some d.t,some w.t,x2,x3]) ⟨Ex.refl,fun j y hj => by omega,none,none,rfl⟩ (fun _ _ _ _ hP => hP.1.getL (qC g1)) ?_ ?_
 ·rintro i z τ G' nx hz ⟨E,hb,x2,x3,rfl⟩ hnx
  rw [List.getElem?_map] at hz
  cases e : (stL d.R d.C w.pc)[i]? with
  | none => rw [e] at hz;cases hz
  | some s =>
   rw [e] at hz
   have : z = pT s := by simpa using hz.symm
   subst this
   have st := qej ok wok (List.mem_of_getElem? e)
   simp only [gn3,List.set_cons_succ,List.set_cons_zero]
   refine qR fun nx1 q1 => ?_
   simp only [qD,cb3,qb,qg,v3,gn3,List.getElem?_cons_zero,List.getElem?_cons_succ,List.set_cons_succ,List.set_cons_zero]
   refine ⟨d,w,s,rfl,hd,st,fun p2 G2 E2 f2 g2 => ?_⟩
   refine ⟨_,bkL d w s,rfl,qC g2,by simp [bkL];omega,fun un => ?_,fun i' j' F => ?_⟩
   ·have fn := J7 un
    rw [q1]
    simp [qv,qD,gn3,qz,zd,qN,qQ,jr,qm,v3,c3,o3,u3,zD,L3.ixT,L3.ixR,qU,iI,iC,iB,qP,qy,ji,tb3,jz,or3,jg,qH,jw,qZ,if3,ch3,cb3,qb,qg,zL,tyT,zq,qK,zk,ja,np3,sp3,qx,qj,qw,qT,je,zE,qi,bm3,z9,jc,zF,jj,jq,jy,zU,qs,qY,jb,jv,jn,jd,HT.sIx,in3,qO,eqF,sizeLine_eq,List.getElem?_cons_zero,List.getElem?_cons_succ]
    refine hnx _ _ ⟨E.trans E2,fun j y hj hy => ?_,_,_,rfl⟩
    rcases Nat.lt_or_ge j i with z | z
    ·exact hb j y z hy
    ·have : j = i := by omega
     subst this
     rw [e] at hy;cases hy
     exact fn
   ·have fs := YF F
    rw [q1]
    simp [DE,W2,qv,qD,gn3,qz,zd,qN,qQ,jr,qm,v3,c3,o3,u3,zD,L3.ixT,L3.ixR,qU,iI,iC,iB,qP,qy,ji,tb3,jz,or3,jg,qH,jw,qZ,if3,ch3,cb3,qb,qg,zL,tyT,zq,qK,zk,ja,np3,sp3,qx,qj,qw,qT,je,zE,qi,bm3,z9,jc,zF,jj,jq,jy,zU,qs,qY,jb,jv,jn,jd,HT.sIx,in3,qO,eqF,sizeLine_eq,List.getElem?_cons_zero,List.getElem?_cons_succ]
    have : clO d w = some (s,i',j') := NI e (by simp [fs]) fun j y hj hy => by simp [hb j y hj hy]
    have := this ▸ h G2 (E1.trans (E.trans E2))
    exact this
 ·rintro τ G' ⟨E,hb,x2,x3,rfl⟩
  rw [List.length_map] at hb
  show nx0 _ _
  rw [q0]
  have : clO d w = none := KW fun j y hj hy => by simp [hb j y hj hy]
  have := this ▸ h G' (E1.trans E)
  exact this
end Bk
namespace Bk
open PySem L2 L3
end Bk
namespace Bk
open PySem L2 L3
end Bk
namespace Bk
open PySem L2 L3
end Bk
namespace Bk
open PySem L2 L3
end Bk
namespace Bk
open PySem L2 L3
end Bk
namespace Pu
open PySem L2 L3
end Pu
namespace Pu
open PySem L2 L3
end Pu
namespace Pu
open PySem L2 L3
end Pu
namespace Pu
open PySem L2 L3
section
variable {D : Addr → Prop} {G0 G G' : Gp} {A A' : Nat → Option Addr} {τ : St3} {ρ : Rho}
end
end Pu
namespace Pu
open PySem L2 L3
end Pu
namespace Pu
open PySem L2 L3
section
variable {gf : PyData → Option (List (Nat × PyData))} {bf : Rho → Option Ot} {α : Type} {g : α → PyData} {ρ : Rho} {Q : Option Ot → Prop} {F : Ot → Option Ot}
end
theorem RJ {α : Type} {us : List α} (h : us.length = 1) : ∃ a0,us = [a0] := List.length_eq_one_iff.mp h
theorem RK {α : Type} {us : List α} (h : us.length = 2) : ∃ a0 a1,us = [a0,a1] := by
 obtain ⟨a0,r,rfl⟩ := List.exists_cons_of_length_pos (show 0 < us.length by omega)
 obtain ⟨a1,rfl⟩ := RJ (show r.length = 1 by simpa using h)
 exact ⟨a0,a1,rfl⟩
theorem qcc {α : Type} {us : List α} (h : us.length = 3) : ∃ a0 a1 a2,us = [a0,a1,a2] := by
 obtain ⟨a0,r,rfl⟩ := List.exists_cons_of_length_pos (show 0 < us.length by omega)
 obtain ⟨a1,a2,rfl⟩ := RK (show r.length = 2 by simpa using h)
 exact ⟨a0,a1,a2,rfl⟩
end Pu
namespace Pu
open PySem L2 L3
end Pu
namespace Pu
open PySem L2 L3
end Pu
namespace Pu
open PySem L2 L3
end Pu
namespace Pv
open PySem L2 L3 Pu
end Pv
namespace Pv
open PySem L2 L3 Pu
open Bk (Wk Dl VY j4 jo lnD lnA)
end Pv
namespace Pu
open PySem L2 L3
open Bk (Lf Ext)
section
variable {D : Addr → Prop} {a : Addr} {G G' G0 : Gp} {n n' : Nat} {fv gv : List Nat} {l : Nat} {τ : St3} {ρ : Rho}
end
section
variable {l : Nat}
end
end Pu
namespace Pu
open PySem L2 L3
open Bk (Lf Ext)
section
variable {l : Nat} {a : Addr} {z0 : Option (Option T) × Nat} {D : Addr → Prop} {G0 G G' : Gp} {A : Nat → Option Addr} {τ : St3} {ρ : Rho} {n n' : Nat}
end
section
variable {l : Nat}
end
end Pu
namespace Pu
open PySem L2 L3
open Bk (Lf Ext Dl Wk Dr)
end Pu
namespace Pu
open PySem L2 L3
open Bk (Lf Ext Dl Wk Dr)
section
variable {l : Nat} {g : TG3} {tb : TS3}
end
end Pu
namespace Pu
open PySem L2 L3
open Bk (Lf Ext Dl Wk Dr)
end Pu
namespace Pu
open PySem L2 L3
open Bk (Lf Ext Dl Wk Dr)
end Pu
namespace Pu
open PySem L2 L3
open Bk (Lf Ext Dl Wk Dr SD SDs K3 S8 V4 C5 NK qb3 KK T2)
end Pu
namespace Pu
open PySem L2 L3
end Pu
namespace Pu
open PySem L2 L3
end Pu
namespace Pu
open PySem L2 L3
end Pu
namespace Pu
open PySem L2 L3
end Pu
namespace Pv
open PySem L2 L3 Pu
open Bk (Wk VY j4 jo lnD lnA Un2 Fst faO YF J7)
end Pv
namespace Pv
open PySem L2 L3 Pu
open Bk (Wk Dl VY j4 jo lnD lnA Un2 Fst faO YF J7)
end Pv
namespace Pv
open PySem L2 L3 Pu
open Bk (Wk Dl VY j4 jo lnD lnA Un2 Fst faO YF J7)
end Pv
namespace Pv
open PySem L2 L3 Pu
open Bk (Wk Dl VY j4 jo lnD lnA Un2 Fst faO YF J7)
end Pv
namespace Pv
open PySem L2 L3 Pu
end Pv
namespace Pv
open PySem L2 L3 Pu
open Bk (pop LN ZX VV DG DH Dl zK YB QE J3)
end Pv
namespace Pv
open PySem L2 L3 Pu
open Bk (pop LN ZX VV DG DH Dl)
end Pv
namespace Pv
open PySem L2 L3 Pu
open Bk (pop LN ZX VV Dl)
end Pv
namespace Hd
open PySem L2 L3 PySem.W
def oF (x : Str) (st : Stmt) (pm cd : Value) : Obj := ⟨.type "function",none,.func (PySem.W.fnOf x x (JE st) (jD st) (qk st) .none .none .none pm none cd .none),#[]⟩
def oG (x : Str) (st : Stmt) : Obj := ⟨.none,none,.func { name := x,qualname := x,params := JE st,body := .stmts (jD st),scope := qk st,globals := 0,closure := [],defaults := .none,kwdefaults := .none },#[]⟩
def oC (vs : List Value) : Obj := ⟨.type "code",none,.fields vs.toArray,#[]⟩
def oT (vs : List Value) : Obj := ⟨.type "tuple",none,.seq vs.toArray 0,#[]⟩
def eD (P : Params) : Value × Value → DictEntry
 | (.str x t,v) => ⟨PyData.keyHash P x,.str x t,v⟩
 | (u,v) => ⟨0,u,v⟩
def oD (P : Params) (n : Nat) (es : List (Value × Value)) : Obj := ⟨.type "dict",none,.dict (es.map (eD P)).toArray n,#[]⟩
def oK (x : Str) (t l n m : Nat) (a b : Addr) (u v z : Value) (e y q : Nat) : Obj := oC [.str x t,.str x (t + 1),.str "/claim/cut.py" (t + 2),.int l 0,.int n 0,.int 0 0,.int 0 0,.int 3 0,.ref a,.bool true,.int m 0,.ref b,u,v,z,.ref e,.int y 0,.int l 0,.str "/claim/cut.py" q]
def nmV : List Str → Nat → List Value
 | [],_ => []
 | x :: r,t => .str x t :: nmV r (t + 1)
def oN (xs : List Str) (t : Nat) : Obj := oT (nmV xs t)
abbrev nd (o : Obj) (l r : PySem.W.BT) : PySem.W.BT := .node o l r
abbrev lf (o : Obj) : PySem.W.BT := .node o .nil .nil
theorem zI {K : PySem.W.Frag} (x : Str) (st : Stmt) (f : Addr) (pm cd : Value) (l : K.lookup f = some (oF x st pm cd)) (c : PySem.W.codeIn K cd x = true) (k : PySem.W.keepIn K (.ref f) = true) :
  Fun K x x st f (PySem.W.fnOf x x (JE st) (jD st) (qk st) .none .none .none pm none cd .none) := qfi l c k
theorem zB {K : PySem.W.Frag} {h : Heap} {mg : Str → Option Value} (X : K.In h) (G : h.Ns mainGlobals mg) (n : Str) (v : Value) (e : PySem.W.nsIn K mainGlobals n = some (some v)) : mg n = some v := PySem.W.mg_of X G e
theorem VA {K : PySem.W.Frag} {h : Heap} {mg : Str → Option Value} (X : K.In h) (G : h.Ns mainGlobals mg) (n : Str) (e : PySem.W.nsIn K mainGlobals n = some none) : mg n = none := PySem.W.mg_none_of X G e
theorem head {l : OpenLaw} {q : Program} {loose : List Str} {K : Params → Frag} {as : List Addr} {d : DefRec} {N : Nat} {k : Nat} {x : Str} (ha : ∀ P,as = (K P).map (·.1))
  (ok : l.wellSaid = true)
  (left : LeftO l.prog q loose (fun s => xlAt q [] s && recOk [] s) (fun s => as.map s.heap.get?) (fun w => (K w.params).map fun p => some p.2) N)
  (hdef : defOf q l.name = some (d,[])) (hp : l.prog.theDef l.name = some (d.params,d.body,d.scope)) (hk : kwWritten? d.params.kwonlyargs d.params.kw_defaults = some [])
  (hwr : (!l.row.writes || l.row.records.isEmpty) = true) (ok2 : (chainsOk q && opensWell l.prog && (frees l.row.toRowW && l.row.within.isEmpty)) = true) (hb : l.prog.bare) (hw : l.row.toRowW.promised)
  (hn : l.most = some 63) (hdf : d.params.defaults = []) (hr : Room k callerA) (hK : ∀ w : World,EL (K w.params) = true)
  (F : ∀ (w : World) (mg : Str → Option Value) (fa : Addr) (h : Heap),(K w.params).In h → h.Ns mainGlobals mg → mg d.name = some (.ref fa) →
   ∃ fd : FuncData,(∀ (s : Shared) (u : Value),BindsTo s fd ⟨[u],[]⟩ [(x,u)])∧∀ base : Heap,(K w.params).In base → base.Ns mainGlobals mg → FnOk l.prog w (K w.params) mg base CX0 k fa fd [x] (lSp (K w.params) RX)) : l.Holds := by
 refine holds_law ok fun said => ?_
 exact holds_open (q := q) (loose := loose) (Xt := fun s => xlAt q [] s && recOk [] s) (XP := XL q []) (Yf := Hook.obs (kHook K as ha)) (Ya := Hook.val (kHook K as ha)) (YP := Hook.says (kHook K as ha)) (N := N) left
  (Hook.of (kHook K as ha)) (Hook.keeps (kHook K as ha)) (fun s e => xl_of s (Bool.and_eq_true_iff.mp e).1) XL.keeps hdef hp hk (fun s e => recFacts_of (Bool.and_eq_true_iff.mp e).2) hwr said ok2 hb hw
  (L3.qii (l := l) (k := k) (x := x) hn hdf hr (fun w h Y => kIn_of Y) hK F)
end Hd
namespace K16
open PySem L2 L3 Bk
def top (i : Nat) : Stmt := PySem.Challenge.pw_bankwalk_k16_clashes_told.main.body.getD i (.Pass ⟨0,0,0,0⟩)
variable {P : Program} {w : World} {K : PySem.W.Frag} {mg : Str → Option Value} {base : Heap} {f : Addr} {fd : FuncData} {k : Nat} {sp : Sp3}
abbrev jO : Stmt := top 1
abbrev WH : List Str := ["thing"]
abbrev VF : List Str := ["thing"]
theorem R7 : FnScope WH VF (qk jO) := ⟨rfl,rfl,rfl,by decide +kernel,rfl,by decide +kernel,by decide +kernel⟩
theorem SF (F : Fun K "is_number" "is_number" jO f fd) (bd : zl K fd VF []) (hm : mg "is_number" = some (.ref f))  (m_isinstance : mg "isinstance" = none) (m_bool : mg "bool" = none) (m_int : mg "int" = none)
  (read : Rd sp 1 (Bk.JF) WH) : Fn3 P w K mg base (k + 1) "is_number" sp :=
 qI (t3 := (Bk.JF)) F R7 bd hm (fun cdv A outer s H E hr => (ql (qr (ZJ (JW (qc 0) rfl m_isinstance rfl m_int PyProof.Rows.boot_int) (VN (qbd (JW (qc 0) rfl m_isinstance rfl m_bool PyProof.Rows.boot_bool))))))) read
abbrev ZM : Stmt := top 2
abbrev VU : List Str := ["thing"]
abbrev WJ : List Str := ["thing"]
theorem MA : FnScope VU WJ (qk ZM) := ⟨rfl,rfl,rfl,by decide +kernel,rfl,by decide +kernel,by decide +kernel⟩
theorem LL {S_is_number : Sp3} (F : Fun K "is_pair" "is_pair" ZM f fd) (bd : zl K fd WJ []) (hm : mg "is_pair" = some (.ref f)) (F_is_number : Fn3 P w K mg base k "is_number" S_is_number) (m_len : mg "len" = none) (m_isinstance : mg "isinstance" = none) (m_tuple : mg "tuple" = none)
  (read : Rd sp 1 (Bk.VW S_is_number) VU) : Fn3 P w K mg base (k + 1) "is_pair" sp :=
 qI (t3 := (Bk.VW S_is_number)) F MA bd hm (fun cdv A outer s H E hr => (ql (qr (ZJ (JW (qc 0) rfl m_isinstance rfl m_tuple PyProof.Rows.boot_tuple) (ZJ (j3 (za hr.units) qG (qL zN js rfl m_len PySem.boot_len (qa (qc 0) qe)) qd (qB _)) (ZJ (qh F_is_number hr rfl (qa (qu (qc 0) qd) qe)) (VN (qh F_is_number hr rfl (qa (qu (qc 0) qd) qe))))))))) read
abbrev jk : Stmt := top 3
abbrev JB : List Str := ["things","k","l"]
abbrev ZV : List Str := ["things"]
theorem Q7 : FnScope JB ZV (qk jk) := ⟨rfl,rfl,rfl,by decide +kernel,rfl,by decide +kernel,by decide +kernel⟩
theorem XA (F : Fun K "first_alike" "first_alike" jk f fd) (bd : zl K fd ZV []) (hm : mg "first_alike" = some (.ref f))  (m_len : mg "len" = none) (m_range : mg "range" = none)
  (read : Rd sp 1 (Bk.j7) JB) : Fn3 P w K mg base (k + 1) "first_alike" sp :=
 qI (t3 := (Bk.j7)) F Q7 bd hm (fun cdv A outer s H E hr => (qf (ZR PassesOwn.never rfl (zc rfl m_range (qa (qL zN js rfl m_len PySem.boot_len (qa (qc 0) qe)) qe) (h1 := by intro _ _ _ h;simpa [qb,qg] using h)) (qt (i := 1) (Q7.nd)) (ql (ZR PassesOwn.never rfl (ZQ rfl m_range (qa (qF (qc 1) qd) (qa (qL zN js rfl m_len PySem.boot_len (qa (qc 0) qe)) qe)) (h1 := by intro _ _ _ h;simpa [qb,qg] using h)) (qt (i := 2) (Q7.nd)) (ql (zx (qS (za hr.units) qG (qu (qc 0) (qc 1)) (qu (qc 0) (qc 2)) (qB _)) (ql (qr (qE (qa (qc 1) (qa (qc 2) qe))))) qX))))) (ql (qr W0)))) read
abbrev ZC : Stmt := top 8
abbrev D4 : List Str := ["dealing","kind","rows","columns","banks","other_rows","other_columns","other_banks"]
abbrev WU : List Str := ["dealing"]
theorem ju : FnScope D4 WU (qk ZC) := ⟨rfl,rfl,rfl,by decide +kernel,rfl,by decide +kernel,by decide +kernel⟩
theorem U2 {S_size_of : Sp3} (F : Fun K "size_of" "size_of" ZC f fd) (bd : zl K fd WU []) (hm : mg "size_of" = some (.ref f)) (F_size_of : Fn3 P w K mg base k "size_of" S_size_of) (m_len : mg "len" = none)
  (read : Rd sp 1 (Bk.UC S_size_of) D4) : Fn3 P w K mg base (k + 1) "size_of" sp :=
 qI (t3 := (Bk.UC S_size_of)) F ju bd hm (fun cdv A outer s H E hr => (qf (zb 1 ju.nd (qu (qc 0) qd)) (qf (zx (qS (za hr.units) qG (qc 1) qM (qB _)) (ql (qr (qE (qa (KI qd (qu (qc 0) qd)) (qa (KI qd (qu (qc 0) qd)) (qa (KI qd (qL zN js rfl m_len PySem.boot_len (qa (qu (qc 0) qd) qe))) qe)))))) qX) (qf (zx (qS (za hr.units) qG (qc 1) qM (qB _)) (ql (qr (qE (qa (qL zN js rfl m_len PySem.boot_len (qa (qu (qc 0) qd) qe)) (qa (qL zN js rfl m_len PySem.boot_len (qa (qu (qu (qc 0) qd) qd) qe)) (qa (qu (qc 0) qd) qe)))))) qX) (qf (zx (qS (za hr.units) qG (qc 1) qM (qB _)) (qf (jA (qh F_size_of hr rfl (qa (qu (qc 0) qd) qe)) (zG rfl (qp (qt (i := 2) (ju.nd)) (qp (qt (i := 3) (ju.nd)) (qp (qt (i := 4) (ju.nd)) zJ))))) (qf (jA (qh F_size_of hr rfl (qa (qu (qc 0) qd) qe)) (zG rfl (qp (qt (i := 5) (ju.nd)) (qp (qt (i := 6) (ju.nd)) (qp (qt (i := 7) (ju.nd)) zJ))))) (ql (qr (qE (qa (zu (qc 2) (qc 5)) (qa (zu (qc 3) (qc 6)) (qa (zu (qc 4) (qc 7)) qe)))))))) qX) (ql (qr (qE (qa (qu (qc 0) qd) (qa (qu (qc 0) qd) (qa (qu (qc 0) qd) qe))))))))))) read
abbrev jQ : Stmt := top 9
abbrev VB : List Str := ["dealing","word","rows","columns","banks"]
abbrev Y8 : List Str := ["dealing","word"]
theorem Q2 : FnScope VB Y8 (qk jQ) := ⟨rfl,rfl,rfl,by decide +kernel,rfl,by decide +kernel,by decide +kernel⟩
theorem JX {S_size_of : Sp3} (F : Fun K "number_of" "number_of" jQ f fd) (bd : zl K fd Y8 []) (hm : mg "number_of" = some (.ref f)) (F_size_of : Fn3 P w K mg base k "size_of" S_size_of) 
  (read : Rd sp 2 (Bk.Z3 S_size_of) VB) : Fn3 P w K mg base (k + 1) "number_of" sp :=
 qI (t3 := (Bk.Z3 S_size_of)) F Q2 bd hm (fun cdv A outer s H E hr => (qf (jA (qh F_size_of hr rfl (qa (qc 0) qe)) (zG rfl (qp (qt (i := 2) (Q2.nd)) (qp (qt (i := 3) (Q2.nd)) (qp (qt (i := 4) (Q2.nd)) zJ))))) (ql (qr (qF (zu (qu (qc 1) qd) (qc 3)) (qu (qc 1) qd)))))) read
abbrev ZP : Stmt := top 10
abbrev WV : List Str := ["dealing","thing","rows","columns","banks"]
abbrev D6 : List Str := ["dealing","thing"]
theorem J5 : FnScope WV D6 (qk ZP) := ⟨rfl,rfl,rfl,by decide +kernel,rfl,by decide +kernel,by decide +kernel⟩
theorem LO {S_is_pair : Sp3} {S_size_of : Sp3} (F : Fun K "is_word" "is_word" ZP f fd) (bd : zl K fd D6 []) (hm : mg "is_word" = some (.ref f)) (F_is_pair : Fn3 P w K mg base k "is_pair" S_is_pair) (F_size_of : Fn3 P w K mg base k "size_of" S_size_of) 
  (read : Rd sp 2 (Bk.VL S_is_pair S_size_of) WV) : Fn3 P w K mg base (k + 1) "is_word" sp :=
 qI (t3 := (Bk.VL S_is_pair S_size_of)) F J5 bd hm (fun cdv A outer s H E hr => (qf (zx (MQ (DX (qh F_is_pair hr rfl (qa (qc 1) qe)))) (ql (qr qae)) qX) (qf (jA (qh F_size_of hr rfl (qa (qc 0) qe)) (zG rfl (qp (qt (i := 2) (J5.nd)) (qp (qt (i := 3) (J5.nd)) (qp (qt (i := 4) (J5.nd)) zJ))))) (ql (qr (ZJ (KQ qeh QK S6 QK qd (qu (qc 1) qd) (qc 2)) (VN (KQ qeh QK S6 QK qd (qu (qc 1) qd) (qc 3))))))))) read
abbrev zP : Stmt := top 11
abbrev QX : List Str := ["number","mask","common","many"]
abbrev QR : List Str := ["number","mask"]
theorem zO : FnScope QX QR (qk zP) := ⟨rfl,rfl,rfl,by decide +kernel,rfl,by decide +kernel,by decide +kernel⟩
theorem DD (F : Fun K "odd_in_common" "odd_in_common" zP f fd) (bd : zl K fd QR []) (hm : mg "odd_in_common" = some (.ref f))  
  (read : Rd sp 2 (Bk.jF) QX) : Fn3 P w K mg base (k + 1) "odd_in_common" sp :=
 qI (t3 := (Bk.jF)) F zO bd hm (fun cdv A outer s H E hr => (qf (zb 2 zO.nd (X6 (qc 0) (qc 1))) (qf (zb 3 zO.nd qd) (qf (K4 PassesOwn.never (qS N7 QK (qc 2) qd (qB _)) (qf (MG 3 zO.nd (X6 (qc 2) qd)) (ql (zb 2 zO.nd (qgz (qc 2) qd))))) (ql (qr (j3 (za hr.units) qG (X6 (qc 3) qd) qd (qB _)))))))) read
abbrev jT : Stmt := top 12
abbrev D8 : List Str := ["masks","number"]
abbrev Y0 : List Str := ["masks","number"]
theorem RT : FnScope D8 Y0 (qk jT) := ⟨rfl,rfl,rfl,by decide +kernel,rfl,by decide +kernel,by decide +kernel⟩
theorem RC {S_odd_in_common : Sp3} (F : Fun K "bits_bank" "bits_bank" jT f fd) (bd : zl K fd Y0 []) (hm : mg "bits_bank" = some (.ref f)) (F_odd_in_common : Fn3 P w K mg base k "odd_in_common" S_odd_in_common) (m_enumerate : mg "enumerate" = none) (m_sum : mg "sum" = none)
  (read : Rd sp 2 (Bk.Z9 S_odd_in_common) D8) : Fn3 P w K mg base (k + 1) "bits_bank" sp :=
 qI (t3 := (Bk.Z9 S_odd_in_common)) F RT bd hm (fun cdv A outer s H E hr => (ql (qr (qL (VR rfl) M3 rfl m_sum PyProof.Rows.boot_sum (qa (JI ["t","mask","number"] [none,none,some 1] rfl (qab rfl m_enumerate (qa (qc 0) qe)) (fun _ _ _ => (zG rfl (qp (jgn 0) (qp (jgn 1) zJ)))) (fun _ _ _ => qaa (DX (qh F_odd_in_common hr rfl (qa (qc 2) (qa (qc 1) qe))))) (fun _ _ _ => (KI qd (qc 0))) (by kernel_rfl) (by kernel_rfl)) qe))))) read
abbrev JS : Stmt := top 13
abbrev C1 : List Str := ["word","rows","columns","i","j"]
abbrev CH : List Str := ["word","rows","columns"]
theorem WE : FnScope C1 CH (qk JS) := ⟨rfl,rfl,rfl,by decide +kernel,rfl,by decide +kernel,by decide +kernel⟩
theorem MU (F : Fun K "parted" "parted" JS f fd) (bd : zl K fd CH []) (hm : mg "parted" = some (.ref f))  
  (read : Rd sp 3 (Bk.DO) C1) : Fn3 P w K mg base (k + 1) "parted" sp :=
 qI (t3 := (Bk.DO)) F WE bd hm (fun cdv A outer s H E hr => (qf (jA (qc 0) (zG rfl (qp (qt (i := 3) (WE.nd)) (qp (qt (i := 4) (WE.nd)) zJ)))) (ql (qr (qE (qa (qE (qa (YQ (qc 3) (qc 1)) (qa (YQ (qc 4) (qc 2)) qe))) (qa (qE (qa (jU (qc 3) (qc 1)) (qa (jU (qc 4) (qc 2)) qe))) qe))))))) read
abbrev jp : Stmt := top 14
abbrev JD : List Str := ["one","other","word","rows","columns","banks","upper","lower"]
abbrev JC : List Str := ["one","other","word"]
theorem zR : FnScope JD JC (qk jp) := ⟨rfl,rfl,rfl,by decide +kernel,rfl,by decide +kernel,by decide +kernel⟩
theorem Q8 {S_size_of : Sp3} {S_parted : Sp3} {S_bank_in : Sp3} (F : Fun K "joined_bank" "joined_bank" jp f fd) (bd : zl K fd JC []) (hm : mg "joined_bank" = some (.ref f)) (F_size_of : Fn3 P w K mg base k "size_of" S_size_of) (F_parted : Fn3 P w K mg base k "parted" S_parted) (F_bank_in : Fn3 P w K mg base k "bank_in" S_bank_in) 
  (read : Rd sp 3 (Bk.j6 S_size_of S_parted S_bank_in) JD) : Fn3 P w K mg base (k + 1) "joined_bank" sp :=
 qI (t3 := (Bk.j6 S_size_of S_parted S_bank_in)) F zR bd hm (fun cdv A outer s H E hr => (qf (jA (qh F_size_of hr rfl (qa (qc 1) qe)) (zG rfl (qp (qt (i := 3) (zR.nd)) (qp (qt (i := 4) (zR.nd)) (qp (qt (i := 5) (zR.nd)) zJ))))) (qf (jA (qh F_parted hr rfl (qa (qc 2) (qa (qc 3) (qa (qc 4) qe)))) (zG rfl (qp (qt (i := 6) (zR.nd)) (qp (qt (i := 7) (zR.nd)) zJ)))) (ql (qr (qF (zu (qh F_bank_in hr rfl (qa (qc 0) (qa (qc 6) qe))) (qc 5)) (qh F_bank_in hr rfl (qa (qc 1) (qa (qc 7) qe))))))))) read
abbrev ZL : Stmt := top 15
abbrev W5 : List Str := ["dealing","word","kind"]
abbrev W7 : List Str := ["dealing","word"]
theorem XZ : FnScope W5 W7 (qk ZL) := ⟨rfl,rfl,rfl,by decide +kernel,rfl,by decide +kernel,by decide +kernel⟩
theorem UV {S_number_of : Sp3} {S_bits_bank : Sp3} {S_joined_bank : Sp3} (F : Fun K "bank_in" "bank_in" ZL f fd) (bd : zl K fd W7 []) (hm : mg "bank_in" = some (.ref f)) (F_number_of : Fn3 P w K mg base k "number_of" S_number_of) (F_bits_bank : Fn3 P w K mg base k "bits_bank" S_bits_bank) (F_joined_bank : Fn3 P w K mg base k "joined_bank" S_joined_bank) 
  (read : Rd sp 2 (Bk.UF S_number_of S_bits_bank S_joined_bank) W5) : Fn3 P w K mg base (k + 1) "bank_in" sp :=
 qI (t3 := (Bk.UF S_number_of S_bits_bank S_joined_bank)) F XZ bd hm (fun cdv A outer s H E hr => (qf (zb 2 XZ.nd (qu (qc 0) qd)) (qf (zx (qS (za hr.units) qG (qc 2) qM (qB _)) (ql (qr (jU (qF (zu (qu (qc 0) qd) (qu (qc 1) qd)) (zu (qu (qc 0) qd) (qu (qc 1) qd))) (qu (qc 0) qd)))) qX) (qf (zx (qS (za hr.units) qG (qc 2) qM (qB _)) (ql (qr (jU (qh F_number_of hr rfl (qa (qc 0) (qa (qc 1) qe))) (qu (qc 0) qd)))) qX) (qf (zx (qS (za hr.units) qG (qc 2) qM (qB _)) (ql (qr (qh F_bits_bank hr rfl (qa (qu (qc 0) qd) (qa (qh F_number_of hr rfl (qa (qc 0) (qa (qc 1) qe))) qe))))) qX) (qf (zx (qS (za hr.units) qG (qc 2) qM (qB _)) (ql (qr (qu (qu (qu (qc 0) qd) (qu (qc 1) qd)) (qu (qc 1) qd)))) qX) (ql (qr (qh F_joined_bank hr rfl (qa (qu (qc 0) qd) (qa (qu (qc 0) qd) (qa (qc 1) qe)))))))))))) read
abbrev JU : Stmt := top 18
abbrev KB : List Str := ["down","along","many"]
abbrev CV : List Str := ["down","along","many"]
theorem NM : FnScope KB CV (qk JU) := ⟨rfl,rfl,rfl,by decide +kernel,rfl,by decide +kernel,by decide +kernel⟩
theorem N9 (F : Fun K "strung" "strung" JU f fd) (bd : zl K fd CV []) (hm : mg "strung" = some (.ref f))  (m_range : mg "range" = none)
  (read : Rd sp 3 (Bk.DP) KB) : Fn3 P w K mg base (k + 1) "strung" sp :=
 qI (t3 := (Bk.DP)) F NM bd hm (fun cdv A outer s H E hr => (ql (qr (JI ["t","down","along"] [none,some 0,some 1] rfl (zc rfl m_range (qa (qc 2) qe) (h1 := by intro _ _ _ h;simpa [qb,qg] using h)) (fun _ _ _ => (jgn 0)) (fun _ _ _ => zA) (fun _ _ _ => (qE (qa (zu (qc 0) (qc 1)) (qa (zu (qc 0) (qc 2)) qe)))) (by kernel_rfl) (by kernel_rfl))))) read
abbrev QN : Stmt := top 19
abbrev XQ : List Str := ["walk","kind","down","along"]
abbrev UJ : List Str := ["walk"]
theorem Z2 : FnScope XQ UJ (qk QN) := ⟨rfl,rfl,rfl,by decide +kernel,rfl,by decide +kernel,by decide +kernel⟩
theorem S9 {S_strung : Sp3} (F : Fun K "cells_of" "cells_of" QN f fd) (bd : zl K fd UJ []) (hm : mg "cells_of" = some (.ref f)) (F_strung : Fn3 P w K mg base k "strung" S_strung) (m_list : mg "list" = none) (m_range : mg "range" = none) (m_STRIDES : Tb K mg w "STRIDES" DL)
  (read : Rd sp 1 (Bk.YJ S_strung) XQ) : Fn3 P w K mg base (k + 1) "cells_of" sp :=
 qI (t3 := (Bk.YJ S_strung)) F Z2 bd hm (fun cdv A outer s H E hr => (qf (zb 1 Z2.nd (qu (qc 0) qd)) (qf (zx (qS (za hr.units) qG (qc 1) qM (qB _)) (ql (qr (zo ER KT rfl m_list PyProof.Rows.boot_list (qa (qu (qc 0) qd) qe)))) qX) (qf (zx (qS (za hr.units) qG (qc 1) qM (qB _)) (ql (qr (qbb ["p","q","walk"] [none,none,some 0] rfl (zc rfl m_range (qa (qu (qc 0) qd) qe) (h1 := by intro _ _ _ h;simpa [qb,qg] using h)) (fun _ _ _ => (jgn 0)) (fun _ _ _ => zA) (fun _ _ _ => (zc rfl m_range (qa (qu (qc 2) qd) qe) (h1 := by intro _ _ _ h;simpa [qb,qg] using h))) (fun _ _ _ => (jgn 1)) (fun _ _ _ => zA) (fun _ _ _ => (qE (qa (qc 0) (qa (qc 1) qe)))) (by kernel_rfl) (by kernel_rfl)))) qX) (qf (zx (qS (za hr.units) qG (qc 1) qM (qB _)) (ql (qr (qh F_strung hr rfl (qa (qu (qc 0) qd) (qa (qu (qc 0) qd) (qa (qu (qc 0) qd) qe)))))) qX) (qf (jA (qcu m_STRIDES rfl (qc 1) (fun _ _ => rfl)) (zG rfl (qp (qt (i := 2) (Z2.nd)) (qp (qt (i := 3) (Z2.nd)) zJ)))) (ql (qr (qh F_strung hr rfl (qa (qc 2) (qa (qc 3) (qa (qu (qc 0) qd) qe)))))))))))) read
abbrev JZ : Stmt := top 20
abbrev K5 : List Str := ["dealing","walk","rows","columns","banks","cells","downs","alongs"]
abbrev CQ : List Str := ["dealing","walk"]
theorem QS : FnScope K5 CQ (qk JZ) := ⟨rfl,rfl,rfl,by decide +kernel,rfl,by decide +kernel,by decide +kernel⟩
theorem M8 {S_size_of : Sp3} {S_cells_of : Sp3} (F : Fun K "starts" "starts" JZ f fd) (bd : zl K fd CQ []) (hm : mg "starts" = some (.ref f)) (F_size_of : Fn3 P w K mg base k "size_of" S_size_of) (F_cells_of : Fn3 P w K mg base k "cells_of" S_cells_of) (m_min : mg "min" = none) (m_max : mg "max" = none) (m_range : mg "range" = none)
  (read : Rd sp 2 (Bk.DN S_size_of S_cells_of) K5) : Fn3 P w K mg base (k + 1) "starts" sp :=
 qI (t3 := (Bk.DN S_size_of S_cells_of)) F QS bd hm (fun cdv A outer s H E hr => (qf (jA (qh F_size_of hr rfl (qa (qc 0) qe)) (zG rfl (qp (qt (i := 2) (QS.nd)) (qp (qt (i := 3) (QS.nd)) (qp (qt (i := 4) (QS.nd)) zJ))))) (qf (zb 5 QS.nd (qh F_cells_of hr rfl (qa (qc 1) qe))) (qf (QB 6 ["p","q"] [none,none] rfl QS.nd (Q5 (qc 5)) (fun _ _ _ => (zG rfl (qp (jgn 0) (qp (jgn 1) zJ)))) (fun _ _ _ => zA) (fun _ _ _ => (qc 0)) (by kernel_rfl) (by kernel_rfl) rfl rfl) (qf (zb 7 QS.nd (JI ["p","q"] [none,none] rfl (Q5 (qc 5)) (fun _ _ _ => (zG rfl (qp (jgn 0) (qp (jgn 1) zJ)))) (fun _ _ _ => zA) (fun _ _ _ => (qc 1)) (by kernel_rfl) (by kernel_rfl))) (ql (qr (qbb ["i","j","columns","alongs"] [none,none,some 3,some 7] rfl (ZQ rfl m_range (qa (YN (qL (UA rfl) DK rfl m_min PyProof.Rows.boot_min (qa (qc 6) qe))) (qa (EY (qc 2) (qL (V8 rfl) DF rfl m_max PyProof.Rows.boot_max (qa (qc 6) qe))) qe)) (h1 := by intro _ _ _ h;simpa [qb,qg] using h)) (fun _ _ _ => (jgn 0)) (fun _ _ _ => zA) (fun _ _ _ => (ZQ rfl m_range (qa (YN (qL (UA rfl) DK rfl m_min PyProof.Rows.boot_min (qa (qc 3) qe))) (qa (EY (qc 2) (qL (V8 rfl) DF rfl m_max PyProof.Rows.boot_max (qa (qc 3) qe))) qe)) (h1 := by intro _ _ _ h;simpa [qb,qg] using h))) (fun _ _ _ => (jgn 1)) (fun _ _ _ => zA) (fun _ _ _ => (qE (qa (qc 0) (qa (qc 1) qe)))) (by kernel_rfl) (by kernel_rfl))))))))) read
abbrev ZD : Stmt := top 21
abbrev RM : List Str := ["walk","start"]
abbrev WY : List Str := ["walk","start"]
theorem LT : FnScope RM WY (qk ZD) := ⟨rfl,rfl,rfl,by decide +kernel,rfl,by decide +kernel,by decide +kernel⟩
theorem LH {S_cells_of : Sp3} (F : Fun K "shifted" "shifted" ZD f fd) (bd : zl K fd WY []) (hm : mg "shifted" = some (.ref f)) (F_cells_of : Fn3 P w K mg base k "cells_of" S_cells_of) 
  (read : Rd sp 2 (Bk.VZ S_cells_of) RM) : Fn3 P w K mg base (k + 1) "shifted" sp :=
 qI (t3 := (Bk.VZ S_cells_of)) F LT bd hm (fun cdv A outer s H E hr => (ql (qr (JI ["p","q","start"] [none,none,some 1] rfl (Q5 (qh F_cells_of hr rfl (qa (qc 0) qe))) (fun _ _ _ => (zG rfl (qp (jgn 0) (qp (jgn 1) zJ)))) (fun _ _ _ => zA) (fun _ _ _ => (qE (qa (qF (qu (qc 2) qd) (qc 0)) (qa (qF (qu (qc 2) qd) (qc 1)) qe)))) (by kernel_rfl) (by kernel_rfl))))) read
abbrev QG : Stmt := top 22
abbrev XN : List Str := ["dealing","walk","thing"]
abbrev UQ : List Str := ["dealing","walk","thing"]
theorem TD : FnScope XN UQ (qk QG) := ⟨rfl,rfl,rfl,by decide +kernel,rfl,by decide +kernel,by decide +kernel⟩
theorem TR {S_shifted : Sp3} {S_is_word : Sp3} {S_is_pair : Sp3} (F : Fun K "is_start" "is_start" QG f fd) (bd : zl K fd UQ []) (hm : mg "is_start" = some (.ref f)) (F_shifted : Fn3 P w K mg base k "shifted" S_shifted) (F_is_word : Fn3 P w K mg base k "is_word" S_is_word) (F_is_pair : Fn3 P w K mg base k "is_pair" S_is_pair) (m_all : mg "all" = none)
  (read : Rd sp 3 (Bk.J4 S_shifted S_is_word S_is_pair) XN) : Fn3 P w K mg base (k + 1) "is_start" sp :=
 qI (t3 := (Bk.J4 S_shifted S_is_word S_is_pair)) F TD bd hm (fun cdv A outer s H E hr => (ql (qr (ZJ (qh F_is_pair hr rfl (qa (qc 2) qe)) (VN (qL (YM rfl) MZ rfl m_all PyProof.Rows.boot_all (qa (JI ["word","dealing"] [none,some 0] rfl (Q5 (qh F_shifted hr rfl (qa (qc 1) (qa (qc 2) qe)))) (fun _ _ _ => (jgn 0)) (fun _ _ _ => zA) (fun _ _ _ => (qh F_is_word hr rfl (qa (qc 1) (qa (qc 0) qe)))) (by kernel_rfl) (by kernel_rfl)) qe))))))) read
abbrev QQ : Stmt := top 23
abbrev XG : List Str := ["dealing","walk","start"]
abbrev UL : List Str := ["dealing","walk","start"]
theorem TF : FnScope XG UL (qk QQ) := ⟨rfl,rfl,rfl,by decide +kernel,rfl,by decide +kernel,by decide +kernel⟩
theorem TW {S_is_start : Sp3} {S_shifted : Sp3} (F : Fun K "words_of" "words_of" QQ f fd) (bd : zl K fd UL []) (hm : mg "words_of" = some (.ref f)) (F_is_start : Fn3 P w K mg base k "is_start" S_is_start) (F_shifted : Fn3 P w K mg base k "shifted" S_shifted) 
  (read : Rd sp 3 (Bk.YE S_is_start S_shifted) XG) : Fn3 P w K mg base (k + 1) "words_of" sp :=
 qI (t3 := (Bk.YE S_is_start S_shifted)) F TF bd hm (fun cdv A outer s H E hr => (qf (zx (MQ (DX (qh F_is_start hr rfl (qa (qc 0) (qa (qc 1) (qa (qc 2) qe)))))) qaG qX) (ql (qr (qh F_shifted hr rfl (qa (qc 1) (qa (qc 2) qe))))))) read
abbrev jB : Stmt := top 25
abbrev JL : List Str := ["dealing","walk","start"]
abbrev JM : List Str := ["dealing","walk","start"]
theorem C0 : FnScope JL JM (qk jB) := ⟨rfl,rfl,rfl,by decide +kernel,rfl,by decide +kernel,by decide +kernel⟩
theorem CT {S_words_of : Sp3} {S_bank_in : Sp3} (F : Fun K "banks_from" "banks_from" jB f fd) (bd : zl K fd JM []) (hm : mg "banks_from" = some (.ref f)) (F_words_of : Fn3 P w K mg base k "words_of" S_words_of) (F_bank_in : Fn3 P w K mg base k "bank_in" S_bank_in) 
  (read : Rd sp 3 (Bk.Q1 S_words_of S_bank_in) JL) : Fn3 P w K mg base (k + 1) "banks_from" sp :=
 qI (t3 := (Bk.Q1 S_words_of S_bank_in)) F C0 bd hm (fun cdv A outer s H E hr => (ql (qr (JI ["word","dealing"] [none,some 0] rfl (Q5 (qh F_words_of hr rfl (qa (qc 0) (qa (qc 1) (qa (qc 2) qe))))) (fun _ _ _ => (jgn 0)) (fun _ _ _ => zA) (fun _ _ _ => (qh F_bank_in hr rfl (qa (qc 1) (qa (qc 0) qe)))) (by kernel_rfl) (by kernel_rfl))))) read
abbrev V9 : Stmt := top 26
abbrev SV : List Str := ["dealing","walk","start","found"]
abbrev SM : List Str := ["dealing","walk"]
theorem CZ : FnScope SV SM (qk V9) := ⟨rfl,rfl,rfl,by decide +kernel,rfl,by decide +kernel,by decide +kernel⟩
theorem qaL {S_starts : Sp3} {S_banks_from : Sp3} {S_first_alike : Sp3} (F : Fun K "clash" "clash" V9 f fd) (bd : zl K fd SM []) (hm : mg "clash" = some (.ref f)) (F_starts : Fn3 P w K mg base k "starts" S_starts) (F_banks_from : Fn3 P w K mg base k "banks_from" S_banks_from) (F_first_alike : Fn3 P w K mg base k "first_alike" S_first_alike) 
  (read : Rd sp 2 (Bk.CC S_starts S_banks_from S_first_alike) SV) : Fn3 P w K mg base (k + 1) "clash" sp :=
 qI (t3 := (Bk.CC S_starts S_banks_from S_first_alike)) F CZ bd hm (fun cdv A outer s H E hr => (qf (ZR PassesOwn.never rfl (Q5 (qh F_starts hr rfl (qa (qc 0) (qa (qc 1) qe)))) (qt (i := 2) (CZ.nd)) (qf (zb 3 CZ.nd (qh F_first_alike hr rfl (qa (qh F_banks_from hr rfl (qa (qc 0) (qa (qc 1) (qa (qc 2) qe)))) qe))) (ql (zx (qS qdk qaU (qc 3) W0 (qB _)) (ql (qr (qE (qa (qc 2) (qa (qu (qc 3) qd) (qa (qu (qc 3) qd) qe)))))) qX)))) (ql (qr W0)))) read
abbrev ZK : Stmt := top 28
abbrev WP : List Str := ["_law_cell","_law_k","_law_m"]
abbrev WM : List Str := ["_law_cell","_law_k"]
theorem XY : FnScope WP WM (qk ZK) := ⟨rfl,rfl,rfl,by decide +kernel,rfl,by decide +kernel,by decide +kernel⟩
theorem LV (F : Fun K "_law_mix" "_law_mix" ZK f fd) (bd : zl K fd WM []) (hm : mg "_law_mix" = some (.ref f))  
  (read : Rd sp 2 (Bk.VM) WP) : Fn3 P w K mg base (k + 1) "_law_mix" sp :=
 qI (t3 := (Bk.VM)) F XY bd hm (fun cdv A outer s H E hr => (qf (zb 2 XY.nd (jU (zu (qF (qF (jU (qc 0) qd) (zu (zu (qc 1) (qc 1)) qd)) qd) qd) qd)) (ql (qr (jU (zu (qc 2) (qc 2)) qd))))) read
abbrev QM : Stmt := top 29
abbrev UW : List Str := ["_law_script","_law_k","_law_cell","_law_own"]
abbrev EK : List Str := ["_law_script","_law_k"]
theorem Y3 : FnScope UW EK (qk QM) := ⟨rfl,rfl,rfl,by decide +kernel,rfl,by decide +kernel,by decide +kernel⟩
theorem SY (F : Fun K "_law_left" "_law_left" QM f fd) (bd : zl K fd EK []) (hm : mg "_law_left" = some (.ref f))  (m_len : mg "len" = none) (m_abs : mg "abs" = none)
  (read : Rd sp 2 (Bk.J6) UW) : Fn3 P w K mg base (k + 1) "_law_left" sp :=
 qI (t3 := (Bk.J6)) F Y3 bd hm (fun cdv A outer s H E hr => (qf (zb 2 Y3.nd (qeA (qS S6 QK (qc 1) (qL zN js rfl m_len PySem.boot_len (qa (qc 0) qe)) (qB _)) (qu (qc 0) (qc 1)) qd)) (qf (zb 3 Y3.nd (qeA (qS qij QK (qL T6 M6 rfl m_abs PyProof.Rows.boot_abs (qa (qc 2) qe)) (qgg qd qd) (qB _)) (qL T6 M6 rfl m_abs PyProof.Rows.boot_abs (qa (qc 2) qe)) qd)) (ql (qr (jf (qa (qc 3) (qa (qF (qc 2) (zu qd (qc 1))) (qa qd qe))))))))) read
abbrev QH : Stmt := top 30
abbrev U9 : List Str := ["_law_left_here","_law_many_here","_law_digit"]
abbrev US : List Str := ["_law_left_here","_law_many_here"]
theorem WF : FnScope U9 US (qk QH) := ⟨rfl,rfl,rfl,by decide +kernel,rfl,by decide +kernel,by decide +kernel⟩
theorem SZ {S_law_mix : Sp3} (F : Fun K "_law_pick" "_law_pick" QH f fd) (bd : zl K fd US []) (hm : mg "_law_pick" = some (.ref f)) (F_law_mix : Fn3 P w K mg base k "_law_mix" S_law_mix) 
  (read : Rd sp 2 (Bk.YG S_law_mix) U9) : Fn3 P w K mg base (k + 1) "_law_pick" sp :=
 qI (t3 := (Bk.YG S_law_mix)) F WF bd hm (fun cdv A outer s H E hr => (qf (jA (qF (qu (qc 0) qd) qd) (qbw (qc 0) qd)) (qf (zx (qS N7 QK (qu (qc 0) qd) qd (qB _)) (qf (zb 2 WF.nd (jU (qu (qc 0) qd) (qc 1))) (qf (jA (YQ (qu (qc 0) qd) (qc 1)) (qbw (qc 0) qd)) (ql (qr (qc 2))))) qX) (ql (qr (jU (YQ (qh F_law_mix hr rfl (qa (qh F_law_mix hr rfl (qa (qu (qc 0) qd) (qa (qu (qc 0) qd) qe))) (qa (qF (qu (qc 0) qd) qd) qe))) qd) (qc 1))))))) read
abbrev jR : Stmt := top 31
abbrev YW : List Str := ["_law_left_here","_law_wide","_law_rows","_law_columns"]
abbrev Y4 : List Str := ["_law_left_here"]
theorem JO : FnScope YW Y4 (qk jR) := ⟨rfl,rfl,rfl,by decide +kernel,rfl,by decide +kernel,by decide +kernel⟩
theorem RZ {S_law_pick : Sp3} (F : Fun K "_law_sides" "_law_sides" jR f fd) (bd : zl K fd Y4 []) (hm : mg "_law_sides" = some (.ref f)) (F_law_pick : Fn3 P w K mg base k "_law_pick" S_law_pick) 
  (read : Rd sp 1 (Bk.ZT S_law_pick) YW) : Fn3 P w K mg base (k + 1) "_law_sides" sp :=
 qI (t3 := (Bk.ZT S_law_pick)) F JO bd hm (fun cdv A outer s H E hr => (qf (zb 1 JO.nd (qu (jf (qa qd (qa qd (qa qd (qa qd qe))))) (qh F_law_pick hr rfl (qa (qc 0) (qa qd qe))))) (qf (V1 (i := 2) (j := 3) rfl JO.nd rfl rfl (by decide) rfl rfl (qa (qF qd (qh F_law_pick hr rfl (qa (qc 0) (qa (qc 1) qe)))) (qa (qF qd (qh F_law_pick hr rfl (qa (qc 0) (qa (qc 1) qe)))) qe))) (ql (qr (qu (jf (qa (qE (qa (qc 2) (qa (qc 3) qe))) (qa (qE (qa (qc 2) (qa (qc 3) qe))) (qa (qE (qa (qc 2) (qa (qc 3) qe))) (qa (qE (qa (qc 2) (qa (qc 2) qe))) qe))))) (qh F_law_pick hr rfl (qa (qc 0) (qa qd qe))))))))) read
abbrev ZG : Stmt := top 32
abbrev D3 : List Str := ["_law_one","_law_other"]
abbrev D0 : List Str := ["_law_one","_law_other"]
theorem XW : FnScope D3 D0 (qk ZG) := ⟨rfl,rfl,rfl,by decide +kernel,rfl,by decide +kernel,by decide +kernel⟩
theorem K7 (F : Fun K "_law_gcd" "_law_gcd" ZG f fd) (bd : zl K fd D0 []) (hm : mg "_law_gcd" = some (.ref f))  
  (read : Rd sp 2 (Bk.V5) D3) : Fn3 P w K mg base (k + 1) "_law_gcd" sp :=
 qI (t3 := (Bk.V5)) F XW bd hm (fun cdv A outer s H E hr => (qf (K4 PassesOwn.never (qS N7 QK (qc 1) qd (qB _)) (ql (V1 (i := 0) (j := 1) rfl XW.nd rfl rfl (by decide) rfl rfl (qa (qc 1) (qa (jU (qc 0) (qc 1)) qe))))) (ql (qr (qc 0))))) read
abbrev QI : Stmt := top 33
abbrev EA : List Str := ["_law_left_here","_law_rows","_law_columns","_law_banks","_law_wide"]
abbrev U8 : List Str := ["_law_left_here"]
theorem QU : FnScope EA U8 (qk QI) := ⟨rfl,rfl,rfl,by decide +kernel,rfl,by decide +kernel,by decide +kernel⟩
theorem SX {S_law_sides : Sp3} {S_law_pick : Sp3} (F : Fun K "_law_skew" "_law_skew" QI f fd) (bd : zl K fd U8 []) (hm : mg "_law_skew" = some (.ref f)) (F_law_sides : Fn3 P w K mg base k "_law_sides" S_law_sides) (F_law_pick : Fn3 P w K mg base k "_law_pick" S_law_pick) 
  (read : Rd sp 1 (Bk.J1 S_law_sides S_law_pick) EA) : Fn3 P w K mg base (k + 1) "_law_skew" sp :=
 qI (t3 := (Bk.J1 S_law_sides S_law_pick)) F QU bd hm (fun cdv A outer s H E hr => (qf (jA (qh F_law_sides hr rfl (qa (qc 0) qe)) (zG rfl (qp (qt (i := 1) (QU.nd)) (qp (qt (i := 2) (QU.nd)) zJ)))) (qf (zb 3 QU.nd (qF qd (qh F_law_pick hr rfl (qa (qc 0) (qa (qu (jf (qa qd (qa qd (qa qd (qa qd qe))))) (qh F_law_pick hr rfl (qa (qc 0) (qa qd qe)))) qe))))) (qf (zb 4 QU.nd (qu (jf (qa (qc 3) (qa qd (qa qd qe)))) (qh F_law_pick hr rfl (qa (qc 0) (qa qd qe))))) (ql (qr (qE (qa qM (qa (qc 1) (qa (qc 2) (qa (qc 3) (qa (qh F_law_pick hr rfl (qa (qc 0) (qa (qc 4) qe))) (qa (qh F_law_pick hr rfl (qa (qc 0) (qa (qc 4) qe))) qe))))))))))))) read
abbrev jV : Stmt := top 34
abbrev Y5 : List Str := ["_law_left_here","_law_rows","_law_columns","_law_banks","_law_places","_law_turn"]
abbrev YV : List Str := ["_law_left_here"]
theorem zX : FnScope Y5 YV (qk jV) := ⟨rfl,rfl,rfl,by decide +kernel,rfl,by decide +kernel,by decide +kernel⟩
theorem RH {S_law_sides : Sp3} {S_law_pick : Sp3} {S_law_gcd : Sp3} (F : Fun K "_law_rests" "_law_rests" jV f fd) (bd : zl K fd YV []) (hm : mg "_law_rests" = some (.ref f)) (F_law_sides : Fn3 P w K mg base k "_law_sides" S_law_sides) (F_law_pick : Fn3 P w K mg base k "_law_pick" S_law_pick) (F_law_gcd : Fn3 P w K mg base k "_law_gcd" S_law_gcd) (m_range : mg "range" = none)
  (read : Rd sp 1 (Bk.ZU S_law_sides S_law_pick S_law_gcd) Y5) : Fn3 P w K mg base (k + 1) "_law_rests" sp :=
 qI (t3 := (Bk.ZU S_law_sides S_law_pick S_law_gcd)) F zX bd hm (fun cdv A outer s H E hr => (qf (jA (qh F_law_sides hr rfl (qa (qc 0) qe)) (zG rfl (qp (qt (i := 1) (zX.nd)) (qp (qt (i := 2) (zX.nd)) zJ)))) (qf (zb 3 zX.nd (qF qd (qh F_law_pick hr rfl (qa (qc 0) (qa (qu (jf (qa qd (qa qd (qa qd qe)))) (qh F_law_pick hr rfl (qa (qc 0) (qa qd qe)))) qe))))) (qf (zb 4 zX.nd (qF (YN (YQ (zu (YN (qc 1)) (qc 2)) (qc 3))) (qh F_law_pick hr rfl (qa (qc 0) (qa qd qe))))) (qf (ZR PassesOwn.never rfl (zc rfl m_range (qa qd qe) (h1 := by intro _ _ _ h;simpa [qb,qg] using h)) (qt (i := 5) (zX.nd)) (ql (zx (qS N7 QK (qh F_law_gcd hr rfl (qa (qc 3) (qa (qc 4) qe))) qd (qB _)) (ql (zb 4 zX.nd (qF (qc 4) qd))) qX))) (ql (qr (qE (qa qM (qa (qc 1) (qa (qc 2) (qa (qc 3) (qa (qc 4) qe))))))))))))) read
abbrev QV : Stmt := top 35
abbrev XF : List Str := ["_law_left_here","_law_most","_law_high","_law_low","_law_masks","_law_wide"]
abbrev EC : List Str := ["_law_left_here","_law_most"]
theorem Z4 : FnScope XF EC (qk QV) := ⟨rfl,rfl,rfl,by decide +kernel,rfl,by decide +kernel,by decide +kernel⟩
theorem ST {S_law_pick : Sp3} (F : Fun K "_law_bits" "_law_bits" QV f fd) (bd : zl K fd EC []) (hm : mg "_law_bits" = some (.ref f)) (F_law_pick : Fn3 P w K mg base k "_law_pick" S_law_pick) (m_range : mg "range" = none) (m_tuple : mg "tuple" = none)
  (read : Rd sp 2 (Bk.YD S_law_pick) XF) : Fn3 P w K mg base (k + 1) "_law_bits" sp :=
 qI (t3 := (Bk.YD S_law_pick)) F Z4 bd hm (fun cdv A outer s H E hr => (qf (V1 (i := 2) (j := 3) rfl Z4.nd rfl rfl (by decide) rfl rfl (qa (qh F_law_pick hr rfl (qa (qc 0) (qa (qF (qc 1) qd) qe))) (qa (qh F_law_pick hr rfl (qa (qc 0) (qa (qF (qc 1) qd) qe))) qe))) (qf (QB 4 ["_law_t","_law_left_here"] [none,some 0] rfl Z4.nd (zc rfl m_range (qa (qh F_law_pick hr rfl (qa (qc 0) (qa qd qe))) qe) (h1 := by intro _ _ _ h;simpa [qb,qg] using h)) (fun _ _ _ => (jgn 0)) (fun _ _ _ => zA) (fun _ _ _ => (qh F_law_pick hr rfl (qa (qc 1) (qa qd qe)))) (by kernel_rfl) (by kernel_rfl) rfl rfl) (qf (zb 5 Z4.nd (qu (jf (qa qd (qa qd (qa qd (qa qd (qa qd (qa qd (qa qd (qa qd (qa qd qe)))))))))) (qF (qc 2) (qc 3)))) (ql (qr (qE (qa qM (qa (qc 2) (qa (qc 3) (qa (zo zt jW rfl m_tuple PyProof.Rows.boot_tuple (qa (JI ["_law_mask","_law_wide"] [none,some 5] rfl (Q5 (qc 4)) (fun _ _ _ => (jgn 0)) (fun _ _ _ => zA) (fun _ _ _ => (jU (qc 0) (qc 1))) (by kernel_rfl) (by kernel_rfl)) qe)) qe))))))))))) read
abbrev jP : Stmt := top 36
abbrev DU : List Str := ["_law_left_here","_law_rows","_law_columns","_law_banks","_law_cells_here"]
abbrev VG : List Str := ["_law_left_here"]
theorem jS : FnScope DU VG (qk jP) := ⟨rfl,rfl,rfl,by decide +kernel,rfl,by decide +kernel,by decide +kernel⟩
theorem SG {S_law_sides : Sp3} {S_law_pick : Sp3} (F : Fun K "_law_table" "_law_table" jP f fd) (bd : zl K fd VG []) (hm : mg "_law_table" = some (.ref f)) (F_law_sides : Fn3 P w K mg base k "_law_sides" S_law_sides) (F_law_pick : Fn3 P w K mg base k "_law_pick" S_law_pick) (m_range : mg "range" = none) (m_tuple : mg "tuple" = none)
  (read : Rd sp 1 (Bk.ZS S_law_sides S_law_pick) DU) : Fn3 P w K mg base (k + 1) "_law_table" sp :=
 qI (t3 := (Bk.ZS S_law_sides S_law_pick)) F jS bd hm (fun cdv A outer s H E hr => (qf (jA (qh F_law_sides hr rfl (qa (qc 0) qe)) (zG rfl (qp (qt (i := 1) (jS.nd)) (qp (qt (i := 2) (jS.nd)) zJ)))) (qf (zb 3 jS.nd (qF qd (qh F_law_pick hr rfl (qa (qc 0) (qa (qu (jf (qa qd (qa qd (qa qd qe)))) (qh F_law_pick hr rfl (qa (qc 0) (qa qd qe)))) qe))))) (qf (QB 4 ["_law_i","_law_left_here","_law_banks","_law_columns"] [none,some 0,some 3,some 2] rfl jS.nd (zc rfl m_range (qa (qc 1) qe) (h1 := by intro _ _ _ h;simpa [qb,qg] using h)) (fun _ _ _ => (jgn 0)) (fun _ _ _ => zA) (fun _ _ _ => (zo zt jW rfl m_tuple PyProof.Rows.boot_tuple (qa (JI ["_law_j","_law_left_here","_law_banks"] [none,some 1,some 2] rfl (zc rfl m_range (qa (qc 3) qe) (h1 := by intro _ _ _ h;simpa [qb,qg] using h)) (fun _ _ _ => (jgn 0)) (fun _ _ _ => zA) (fun _ _ _ => (qh F_law_pick hr rfl (qa (qc 1) (qa (qc 2) qe)))) (by kernel_rfl) (by kernel_rfl)) qe))) (by kernel_rfl) (by kernel_rfl) rfl rfl) (ql (qr (qE (qa qM (qa (qc 3) (qa (zo zt jW rfl m_tuple PyProof.Rows.boot_tuple (qa (qc 4) qe)) qe)))))))))) read
abbrev jX : Stmt := top 37
abbrev WD : List Str := ["_law_left_here","_law_rows","_law_columns","_law_banks","_law_way","_law_high","_law_low","_law_masks","_law_wide","_law_places","_law_turn","_law_cells_here"]
abbrev VC : List Str := ["_law_left_here"]
theorem zg : FnScope WD VC (qk jX) := ⟨rfl,rfl,rfl,by decide +kernel,rfl,by decide +kernel,by decide +kernel⟩
theorem SB {S_law_pick : Sp3} {S_law_gcd : Sp3} (F : Fun K "_law_small" "_law_small" jX f fd) (bd : zl K fd VC []) (hm : mg "_law_small" = some (.ref f)) (F_law_pick : Fn3 P w K mg base k "_law_pick" S_law_pick) (F_law_gcd : Fn3 P w K mg base k "_law_gcd" S_law_gcd) (m_range : mg "range" = none) (m_tuple : mg "tuple" = none)
  (read : Rd sp 1 (Bk.JG S_law_pick S_law_gcd) WD) : Fn3 P w K mg base (k + 1) "_law_small" sp :=
 qI (t3 := (Bk.JG S_law_pick S_law_gcd)) F zg bd hm (fun cdv A outer s H E hr => (qf (jA (qE (qa (qF qd (qh F_law_pick hr rfl (qa (qc 0) (qa qd qe)))) (qa (qF qd (qh F_law_pick hr rfl (qa (qc 0) (qa qd qe)))) (qa (qF qd (qh F_law_pick hr rfl (qa (qc 0) (qa qd qe)))) qe)))) (zG rfl (qp (qt (i := 1) (zg.nd)) (qp (qt (i := 2) (zg.nd)) (qp (qt (i := 3) (zg.nd)) zJ))))) (qf (zb 4 zg.nd (qh F_law_pick hr rfl (qa (qc 0) (qa qd qe)))) (qf (zx (qS (za hr.units) qG (qc 4) qd (qB _)) (ql (qr (qE (qa qM (qa (qc 1) (qa (qc 2) (qa (qc 3) (qa (qh F_law_pick hr rfl (qa (qc 0) (qa (qc 3) qe))) (qa (qh F_law_pick hr rfl (qa (qc 0) (qa qd qe))) qe))))))))) qX) (qf (zx (qS (za hr.units) qG (qc 4) qd (qB _)) (qf (V1 (i := 5) (j := 6) rfl zg.nd rfl rfl (by decide) rfl rfl (qa (qh F_law_pick hr rfl (qa (qc 0) (qa qd qe))) (qa (qh F_law_pick hr rfl (qa (qc 0) (qa qd qe))) qe))) (qf (QB 7 ["_law_t","_law_left_here"] [none,some 0] rfl zg.nd (zc rfl m_range (qa (qh F_law_pick hr rfl (qa (qc 0) (qa qd qe))) qe) (h1 := by intro _ _ _ h;simpa [qb,qg] using h)) (fun _ _ _ => (jgn 0)) (fun _ _ _ => zA) (fun _ _ _ => (qh F_law_pick hr rfl (qa (qc 1) (qa qd qe)))) (by kernel_rfl) (by kernel_rfl) rfl rfl) (qf (zb 8 zg.nd (qu (jf (qa qd (qa qd (qa qd (qa qd (qa qd qe)))))) (qF (qc 5) (qc 6)))) (ql (qr (qE (qa qM (qa (qc 5) (qa (qc 6) (qa (zo zt jW rfl m_tuple PyProof.Rows.boot_tuple (qa (JI ["_law_mask","_law_wide"] [none,some 8] rfl (Q5 (qc 7)) (fun _ _ _ => (jgn 0)) (fun _ _ _ => zA) (fun _ _ _ => (jU (qc 0) (qc 1))) (by kernel_rfl) (by kernel_rfl)) qe)) qe)))))))))) qX) (qf (zx (qS (za hr.units) qG (qc 4) qd (qB _)) (qf (zb 9 zg.nd (qF (YN (YQ (zu (YN (qc 1)) (qc 2)) (qc 3))) (qh F_law_pick hr rfl (qa (qc 0) (qa qd qe))))) (qf (ZR PassesOwn.never rfl (zc rfl m_range (qa qd qe) (h1 := by intro _ _ _ h;simpa [qb,qg] using h)) (qt (i := 10) (zg.nd)) (ql (zx (qS N7 QK (qh F_law_gcd hr rfl (qa (qc 3) (qa (qc 9) qe))) qd (qB _)) (ql (zb 9 zg.nd (qF (qc 9) qd))) qX))) (ql (qr (qE (qa qM (qa (qc 1) (qa (qc 2) (qa (qc 3) (qa (qc 9) qe)))))))))) qX) (qf (QB 11 ["_law_i","_law_left_here","_law_banks","_law_columns"] [none,some 0,some 3,some 2] rfl zg.nd (zc rfl m_range (qa (qc 1) qe) (h1 := by intro _ _ _ h;simpa [qb,qg] using h)) (fun _ _ _ => (jgn 0)) (fun _ _ _ => zA) (fun _ _ _ => (zo zt jW rfl m_tuple PyProof.Rows.boot_tuple (qa (JI ["_law_j","_law_left_here","_law_banks"] [none,some 1,some 2] rfl (zc rfl m_range (qa (qc 3) qe) (h1 := by intro _ _ _ h;simpa [qb,qg] using h)) (fun _ _ _ => (jgn 0)) (fun _ _ _ => zA) (fun _ _ _ => (qh F_law_pick hr rfl (qa (qc 1) (qa (qc 2) qe)))) (by kernel_rfl) (by kernel_rfl)) qe))) (by kernel_rfl) (by kernel_rfl) rfl rfl) (ql (qr (qE (qa qM (qa (qc 3) (qa (zo zt jW rfl m_tuple PyProof.Rows.boot_tuple (qa (qc 11) qe)) qe))))))))))))) read
abbrev jm : Stmt := top 38
abbrev ZY : List Str := ["_law_left_here","_law_way","_law_inner","_law_some"]
abbrev JA : List Str := ["_law_left_here"]
theorem jM : FnScope ZY JA (qk jm) := ⟨rfl,rfl,rfl,by decide +kernel,rfl,by decide +kernel,by decide +kernel⟩
theorem XB {S_law_pick : Sp3} {S_law_skew : Sp3} {S_law_rests : Sp3} {S_law_bits : Sp3} {S_law_table : Sp3} {S_law_small : Sp3} (F : Fun K "_law_dealing" "_law_dealing" jm f fd) (bd : zl K fd JA []) (hm : mg "_law_dealing" = some (.ref f)) (F_law_pick : Fn3 P w K mg base k "_law_pick" S_law_pick) (F_law_skew : Fn3 P w K mg base k "_law_skew" S_law_skew) (F_law_rests : Fn3 P w K mg base k "_law_rests" S_law_rests) (F_law_bits : Fn3 P w K mg base k "_law_bits" S_law_bits) (F_law_table : Fn3 P w K mg base k "_law_table" S_law_table) (F_law_small : Fn3 P w K mg base k "_law_small" S_law_small) 
  (read : Rd sp 1 (Bk.j9 S_law_pick S_law_skew S_law_rests S_law_bits S_law_table S_law_small) ZY) : Fn3 P w K mg base (k + 1) "_law_dealing" sp :=
 qI (t3 := (Bk.j9 S_law_pick S_law_skew S_law_rests S_law_bits S_law_table S_law_small)) F jM bd hm (fun cdv A outer s H E hr => (qf (zb 1 jM.nd (qh F_law_pick hr rfl (qa (qc 0) (qa qd qe)))) (qf (zx (qS S6 QK (qc 1) qd (qB _)) (ql (qr (qh F_law_skew hr rfl (qa (qc 0) qe)))) qX) (qf (zx (qS (za hr.units) qG (qc 1) qd (qB _)) (ql (qr (qh F_law_rests hr rfl (qa (qc 0) qe)))) qX) (qf (zx (qS (za hr.units) qG (qc 1) qd (qB _)) (ql (qr (qh F_law_bits hr rfl (qa (qc 0) (qa qd qe))))) qX) (qf (zx (qS (za hr.units) qG (qc 1) qd (qB _)) (ql (qr (qh F_law_table hr rfl (qa (qc 0) qe)))) qX) (qf (zx (qS (za hr.units) qG (qc 1) qd (qB _)) (qf (zb 2 jM.nd (qE (qa qM (qa (qE (qa qM (qa (qF qd (qh F_law_pick hr rfl (qa (qc 0) (qa qd qe)))) (qa qd (qa qd (qa qd (qa qd qe))))))) (qa (qE (qa qM (qa qd (qa (qE (qa (qE (qa qd (qa qd qe))) qe)) qe)))) qe))))) (qf (zb 3 jM.nd (jf (qa (qE (qa qM (qa (qc 2) (qa (qh F_law_small hr rfl (qa (qc 0) qe)) qe)))) (qa (qE (qa qM (qa (qh F_law_small hr rfl (qa (qc 0) qe)) (qa (qc 2) qe)))) qe)))) (qf (WG (DW (qc 3) (qa (qE (qa qM (qa (qE (qa qM (qa qd (qa qd (qa qd (qa qd (qa qd qe))))))) (qa (qE (qa qM (qa qd (qa qd (qa qd (qa qd qe)))))) qe)))) qe))) (qf (WG (DW (qc 3) (qa (qE (qa qM (qa (qE (qa qM (qa qd (qa qd (qa qd (qa qd qe)))))) (qa (qE (qa qM (qa qd (qa qd (qa qd (qa qd (qa qd qe))))))) qe)))) qe))) (ql (qr (qu (qc 3) (qh F_law_pick hr rfl (qa (qc 0) (qa qd qe)))))))))) qX) (ql (qr (qE (qa qM (qa (qh F_law_small hr rfl (qa (qc 0) qe)) (qa (qh F_law_small hr rfl (qa (qc 0) qe)) qe))))))))))))) read
abbrev QF : Stmt := top 39
abbrev XS : List Str := ["_law_dealing_here","_law_two","_law_one","_law_other"]
abbrev UI : List Str := ["_law_dealing_here"]
theorem VH : FnScope XS UI (qk QF) := ⟨rfl,rfl,rfl,by decide +kernel,rfl,by decide +kernel,by decide +kernel⟩
def YH (S_law_size : Sp3) : TS3 := (qv (qN (tb3 (o3 (in3 false) (o3 ix3 (v3 0) (c3 (.int 0))) (qK (qb (c3 (.str "skew")) (qb (c3 (.str "rests")) qg))))) (qz (ja (v3 0) (sp3 (c3 (.int 1))) (sp3 (c3 (.int 4))))) qm) (qv (qN (tb3 (o3 (qP false) (o3 ix3 (v3 0) (c3 (.int 0))) (c3 (.str "bits")))) (qv (qD (zk (qb (c3 (.int 1)) (qb (c3 (.int 2)) (qb (c3 (.int 4)) (qb (c3 (.int 8)) (qb (c3 (.int 16)) (qb (c3 (.int 32)) qg))))))) (gn3 1)) (qz (qK (qb (o3 ix3 (v3 1) (o3 ix3 (v3 0) (c3 (.int 1)))) (qb (o3 ix3 (v3 1) (o3 ix3 (v3 0) (c3 (.int 2)))) (qb (o3 ix3 (v3 1) (cb3 zF (qb (o3 ix3 (v3 0) (c3 (.int 3))) qg))) qg)))))) qm) (qv (qN (tb3 (o3 (qP false) (o3 ix3 (v3 0) (c3 (.int 0))) (c3 (.str "table")))) (qz (qK (qb (cb3 zF (qb (o3 ix3 (v3 0) (c3 (.int 2))) qg)) (qb (cb3 zF (qb (o3 ix3 (o3 ix3 (v3 0) (c3 (.int 2))) (c3 (.int 0))) qg)) (qb (o3 ix3 (v3 0) (c3 (.int 1))) qg))))) qm) (qv (zE 2 3 (qb (cb3 S_law_size (qb (o3 ix3 (v3 0) (c3 (.int 1))) qg)) (qb (cb3 S_law_size (qb (o3 ix3 (v3 0) (c3 (.int 2))) qg)) qg))) (qz (cb3 qs (qb (lc3 (K8 (qb (v3 2) (qb (v3 3) qg))) (qx 2 (qj (gn3 0) (qj (gn3 1) qw))) tt3 (o3 (iC ZB (· * ·)) (v3 0) (v3 1)) [none,none]) qg)))))))
theorem YZ {S_law_size : Sp3} (F : Fun K "_law_size" "_law_size" QF f fd) (bd : zl K fd UI []) (hm : mg "_law_size" = some (.ref f)) (F_law_size : Fn3 P w K mg base k "_law_size" S_law_size) (m_len : mg "len" = none) (m_zip : mg "zip" = none) (m_tuple : mg "tuple" = none)
  (read : Rd sp 1 (YH S_law_size) XS) : Fn3 P w K mg base (k + 1) "_law_size" sp :=
 qI (t3 := (YH S_law_size)) F VH bd hm (fun cdv A outer s H E hr => (qf (zx (qS N6 qgA (qu (qc 0) qd) (qE (qa qM (qa qM qe))) (by with_unfolding_all rfl)) (ql (qr (KZ (qc 0) (CK qd) (CK qd)))) qX) (qf (zx (qS (za hr.units) qG (qu (qc 0) qd) qM (qB _)) (qf (zb 1 VH.nd (jf (qa qd (qa qd (qa qd (qa qd (qa qd (qa qd qe)))))))) (ql (qr (qE (qa (qu (qc 1) (qu (qc 0) qd)) (qa (qu (qc 1) (qu (qc 0) qd)) (qa (qu (qc 1) (qL zN js rfl m_len PySem.boot_len (qa (qu (qc 0) qd) qe))) qe))))))) qX) (qf (zx (qS (za hr.units) qG (qu (qc 0) qd) qM (qB _)) (ql (qr (qE (qa (qL zN js rfl m_len PySem.boot_len (qa (qu (qc 0) qd) qe)) (qa (qL zN js rfl m_len PySem.boot_len (qa (qu (qu (qc 0) qd) qd) qe)) (qa (qu (qc 0) qd) qe)))))) qX) (qf (V1 (i := 2) (j := 3) rfl VH.nd rfl rfl (by decide) rfl rfl (qa (qh F_law_size hr rfl (qa (qu (qc 0) qd) qe)) (qa (qh F_law_size hr rfl (qa (qu (qc 0) qd) qe)) qe))) (ql (qr (zo zt jW rfl m_tuple PyProof.Rows.boot_tuple (qa (JI ["_law_x","_law_y"] [none,none] rfl (qbU rfl m_zip (qa (qc 2) (qa (qc 3) qe))) (fun _ _ _ => (zG rfl (qp (jgn 0) (qp (jgn 1) zJ)))) (fun _ _ _ => zA) (fun _ _ _ => (zu (qc 0) (qc 1))) (by kernel_rfl) (by kernel_rfl)) qe))))))))) read
abbrev ZE : Stmt := top 40
abbrev W1 : List Str := ["_law_number","_law_found","_law_t"]
abbrev WX : List Str := ["_law_number"]
theorem YA : FnScope W1 WX (qk ZE) := ⟨rfl,rfl,rfl,by decide +kernel,rfl,by decide +kernel,by decide +kernel⟩
theorem LK (F : Fun K "_law_odd" "_law_odd" ZE f fd) (bd : zl K fd WX []) (hm : mg "_law_odd" = some (.ref f))  (m_range : mg "range" = none)
  (read : Rd sp 1 (Bk.V6) W1) : Fn3 P w K mg base (k + 1) "_law_odd" sp :=
 qI (t3 := (Bk.V6)) F YA bd hm (fun cdv A outer s H E hr => (qf (zb 1 YA.nd qae) (qf (ZR PassesOwn.never rfl (zc rfl m_range (qa qd qe) (h1 := by intro _ _ _ h;simpa [qb,qg] using h)) (qt (i := 2) (YA.nd)) (ql (zb 1 YA.nd (j3 (SA hr.units) WC (qc 1) (j3 (za hr.units) qG (jU (YQ (qc 0) (qu (jf (qa qd (qa qd (qa qd (qa qd (qa qd (qa qd (qa qd (qa qd (qa qd qe)))))))))) (qc 2))) qd) qd (qB _)) (qB _))))) (ql (qr (qc 1)))))) read
abbrev QO : Stmt := top 41
abbrev X0 : List Str := ["_law_dealing_here","_law_i","_law_j","_law_rows","_law_columns","_law_banks","_law_some","_law_high","_law_wide","_law_more"]
abbrev UN : List Str := ["_law_dealing_here","_law_i","_law_j"]
theorem zV : FnScope X0 UN (qk QO) := ⟨rfl,rfl,rfl,by decide +kernel,rfl,by decide +kernel,by decide +kernel⟩
theorem Y1 {S_law_size : Sp3} {S_law_odd : Sp3} {S_law_bank : Sp3} (F : Fun K "_law_bank" "_law_bank" QO f fd) (bd : zl K fd UN []) (hm : mg "_law_bank" = some (.ref f)) (F_law_size : Fn3 P w K mg base k "_law_size" S_law_size) (F_law_odd : Fn3 P w K mg base k "_law_odd" S_law_odd) (F_law_bank : Fn3 P w K mg base k "_law_bank" S_law_bank) (m_enumerate : mg "enumerate" = none) (m_sum : mg "sum" = none)
  (read : Rd sp 3 (Bk.J9 S_law_size S_law_odd S_law_bank) X0) : Fn3 P w K mg base (k + 1) "_law_bank" sp :=
 qI (t3 := (Bk.J9 S_law_size S_law_odd S_law_bank)) F zV bd hm (fun cdv A outer s H E hr => (qf (jA (qh F_law_size hr rfl (qa (qc 0) qe)) (zG rfl (qp (qt (i := 3) (zV.nd)) (qp (qt (i := 4) (zV.nd)) (qp (qt (i := 5) (zV.nd)) zJ))))) (qf (zx (qS (za hr.units) qG (qu (qc 0) qd) qM (qB _)) (ql (qr (jU (qF (zu (qu (qc 0) qd) (qc 1)) (zu (qu (qc 0) qd) (qc 2))) (qc 5)))) qX) (qf (zx (qS (za hr.units) qG (qu (qc 0) qd) qM (qB _)) (ql (qr (jU (qF (zu (qc 1) (qc 4)) (qc 2)) (qc 5)))) qX) (qf (zx (qS (za hr.units) qG (qu (qc 0) qd) qM (qB _)) (qf (QB 6 ["_law_t","_law_mask","_law_j","_law_i","_law_columns"] [none,none,some 2,some 1,some 4] rfl zV.nd (qab rfl m_enumerate (qa (qu (qc 0) qd) qe)) (fun _ _ _ => (zG rfl (qp (jgn 0) (qp (jgn 1) zJ)))) (fun _ _ _ => qaa (DX (qh F_law_odd hr rfl (qa (X6 (qF (zu (qc 3) (qc 4)) (qc 2)) (qc 1)) qe)))) (fun _ _ _ => (qu (jf (qa qd (qa qd (qa qd (qa qd (qa qd qe)))))) (qc 0))) (by kernel_rfl) (by kernel_rfl) rfl rfl) (ql (qr (qL (VR rfl) M3 rfl m_sum PyProof.Rows.boot_sum (qa (qc 6) qe))))) qX) (qf (zx (qS (za hr.units) qG (qu (qc 0) qd) qM (qB _)) (ql (qr (qu (qu (qu (qc 0) qd) (qc 1)) (qc 2)))) qX) (qf (jA (qh F_law_size hr rfl (qa (qu (qc 0) qd) qe)) (zG rfl (qp (qt (i := 7) (zV.nd)) (qp (qt (i := 8) (zV.nd)) (qp (qt (i := 9) (zV.nd)) zJ))))) (ql (qr (qF (zu (qh F_law_bank hr rfl (qa (qu (qc 0) qd) (qa (YQ (qc 1) (qc 7)) (qa (YQ (qc 2) (qc 8)) qe)))) (qc 9)) (qh F_law_bank hr rfl (qa (qu (qc 0) qd) (qa (jU (qc 1) (qc 7)) (qa (jU (qc 2) (qc 8)) qe)))))))))))))) read
abbrev QJ : Stmt := top 42
abbrev UP : List Str := ["_law_left_here"]
abbrev U4 : List Str := ["_law_left_here"]
theorem SL : FnScope UP U4 (qk QJ) := ⟨rfl,rfl,rfl,by decide +kernel,rfl,by decide +kernel,by decide +kernel⟩
theorem SS {S_law_pick : Sp3} (F : Fun K "_law_many" "_law_many" QJ f fd) (bd : zl K fd U4 []) (hm : mg "_law_many" = some (.ref f)) (F_law_pick : Fn3 P w K mg base k "_law_pick" S_law_pick) 
  (read : Rd sp 1 (Bk.YC S_law_pick) UP) : Fn3 P w K mg base (k + 1) "_law_many" sp :=
 qI (t3 := (Bk.YC S_law_pick)) F SL bd hm (fun cdv A outer s H E hr => (ql (qr (qF qd (qh F_law_pick hr rfl (qa (qc 0) (qa (qu (jf (qa qd (qa qd (qa qd (qa qd (qa qd (qa qd (qa qd (qa qd qe))))))))) (qh F_law_pick hr rfl (qa (qc 0) (qa qd qe)))) qe))))))) read
abbrev QW : Stmt := top 43
abbrev U0 : List Str := ["_law_left_here","_law_way","_law_lying","_law_high","_law_wide","_law_down","_law_along","_law_pairs","_law_far","_law_turn","_law_pair"]
abbrev U1 : List Str := ["_law_left_here"]
theorem zY : FnScope U0 U1 (qk QW) := ⟨rfl,rfl,rfl,by decide +kernel,rfl,by decide +kernel,by decide +kernel⟩
theorem TN {S_law_pick : Sp3} {S_law_many : Sp3} (F : Fun K "_law_walk" "_law_walk" QW f fd) (bd : zl K fd U1 []) (hm : mg "_law_walk" = some (.ref f)) (F_law_pick : Fn3 P w K mg base k "_law_pick" S_law_pick) (F_law_many : Fn3 P w K mg base k "_law_many" S_law_many) (m_int : mg "int" = none) (m_range : mg "range" = none) (m_tuple : mg "tuple" = none)
  (read : Rd sp 1 (Bk.J2 S_law_pick S_law_many) U0) : Fn3 P w K mg base (k + 1) "_law_walk" sp :=
 qI (t3 := (Bk.J2 S_law_pick S_law_many)) F zY bd hm (fun cdv A outer s H E hr => (qf (zb 1 zY.nd (qh F_law_pick hr rfl (qa (qc 0) (qa qd qe)))) (qf (zx (qS S6 QK (qc 1) qd (qB _)) (ql (qr (qE (qa (qu (jf (qa qM (qa qM (qa qM (qa qM qe))))) (qc 1)) (qa (qh F_law_many hr rfl (qa (qc 0) qe)) qe))))) qX) (qf (zx (qS S6 QK (qc 1) qd (qB _)) (qf (V1 (i := 2) (j := 3) rfl zY.nd rfl rfl (by decide) rfl rfl (qa (qh F_law_pick hr rfl (qa (qc 0) (qa qd qe))) (qa (qF qd (qh F_law_pick hr rfl (qa (qc 0) (qa qd qe)))) qe))) (qf (zb 4 zY.nd (qF qd (qh F_law_pick hr rfl (qa (qc 0) (qa (YQ qd (qc 3)) qe))))) (ql (qr (qu (jf (qa (qE (qa qM (qa (qc 3) (qa (qc 4) qe)))) (qa (qE (qa qM (qa (qc 4) (qa (qc 3) qe)))) qe))) (qc 2)))))) qX) (qf (zx (qS S6 QK (qc 1) qd (qB _)) (qf (V1 (i := 5) (j := 6) rfl zY.nd rfl rfl (by decide) rfl rfl (qa (EY (qh F_law_pick hr rfl (qa (qc 0) (qa qd qe))) qd) (qa (EY (qh F_law_pick hr rfl (qa (qc 0) (qa qd qe))) qd) qe))) (qf (zx (qS (za hr.units) qG (qh F_law_pick hr rfl (qa (qc 0) (qa qd qe))) qd (qB _)) (ql (qr (qE (qa qM (qa (zu qd (qc 5)) (qa (qF (zu qd (qc 6)) (zo WT T1 rfl m_int PyProof.Rows.boot_int (qa (ZJ (j3 (za hr.units) qG (qc 5) qd (qB _)) (VN (j3 (za hr.units) qG (qc 6) qd (qB _)))) qe))) (qa (qF qd (qh F_law_pick hr rfl (qa (qc 0) (qa qd qe)))) qe))))))) qX) (ql (qr (qE (qa qM (qa (qc 5) (qa (qF (qc 6) (zo WT T1 rfl m_int PyProof.Rows.boot_int (qa (ZJ (j3 (za hr.units) qG (qc 5) qd (qB _)) (VN (j3 (za hr.units) qG (qc 6) qd (qB _)))) qe))) (qa (qh F_law_many hr rfl (qa (qc 0) qe)) qe))))))))) qX) (qf (V1 (i := 7) (j := 8) rfl zY.nd rfl rfl (by decide) rfl rfl (qa (jf qe) (qa (qF qd (zu qd (zo WT T1 rfl m_int PyProof.Rows.boot_int (qa (j3 (za hr.units) qG (qh F_law_pick hr rfl (qa (qc 0) (qa qd qe))) qd (qB _)) qe)))) qe))) (qf (ZR PassesOwn.never rfl (zc rfl m_range (qa (qh F_law_many hr rfl (qa (qc 0) qe)) qe) (h1 := by intro _ _ _ h;simpa [qb,qg] using h)) (qt (i := 9) (zY.nd)) (qf (zb 10 zY.nd (qE (qa (zu (qc 8) (EY (qh F_law_pick hr rfl (qa (qc 0) (qa qd qe))) qd)) (qa (zu (qc 8) (EY (qh F_law_pick hr rfl (qa (qc 0) (qa qd qe))) qd)) qe)))) (ql (zx (qS (MI hr.units) qda (qc 10) (qc 7) (by with_unfolding_all rfl)) (ql (WG (DW (qc 7) (qa (qc 10) qe)))) qX)))) (ql (qr (qE (qa qM (qa (zo zt jW rfl m_tuple PyProof.Rows.boot_tuple (qa (qc 7) qe)) qe)))))))))))) read
abbrev jZ : Stmt := top 44
abbrev D2 : List Str := ["_law_walk_here","_law_found","_law_p","_law_down","_law_along"]
abbrev YS : List Str := ["_law_walk_here"]
theorem jY : FnScope D2 YS (qk jZ) := ⟨rfl,rfl,rfl,by decide +kernel,rfl,by decide +kernel,by decide +kernel⟩
theorem C7 (F : Fun K "_law_cells" "_law_cells" jZ f fd) (bd : zl K fd YS []) (hm : mg "_law_cells" = some (.ref f))  (m_list : mg "list" = none) (m_range : mg "range" = none)
  (read : Rd sp 1 (Bk.Z0) D2) : Fn3 P w K mg base (k + 1) "_law_cells" sp :=
 qI (t3 := (Bk.Z0)) F jY bd hm (fun cdv A outer s H E hr => (qf (zx (qS (za hr.units) qG (qu (qc 0) qd) qM (qB _)) (ql (qr (zo ER KT rfl m_list PyProof.Rows.boot_list (qa (qu (qc 0) qd) qe)))) qX) (qf (zx (qS (za hr.units) qG (qu (qc 0) qd) qM (qB _)) (qf (zb 1 jY.nd (jf qe)) (qf (ZR PassesOwn.never rfl (zc rfl m_range (qa (qu (qc 0) qd) qe) (h1 := by intro _ _ _ h;simpa [qb,qg] using h)) (qt (i := 2) (jY.nd)) (ql (WG (RV (qc 1) (qa (JI ["_law_q","_law_p"] [none,some 2] rfl (zc rfl m_range (qa (qu (qc 0) qd) qe) (h1 := by intro _ _ _ h;simpa [qb,qg] using h)) (fun _ _ _ => (jgn 0)) (fun _ _ _ => zA) (fun _ _ _ => (qE (qa (qc 1) (qa (qc 0) qe)))) (by kernel_rfl) (by kernel_rfl)) qe))))) (ql (qr (qc 1))))) qX) (qf (jA (qdz (WZ (qE (qa qd (qa qd qe))) (WZ (qE (qa qd (qa qd qe))) (WZ (qE (qa qd (qa qd qe))) (WZ (qE (qa qd (qa (YN qd) qe))) (WZ (KZ (qc 0) (CK qd) (CK qd)) qfp))))) (qu (qc 0) qd)) (zG rfl (qp (qt (i := 3) (jY.nd)) (qp (qt (i := 4) (jY.nd)) zJ)))) (ql (qr (JI ["_law_t","_law_down","_law_along"] [none,some 3,some 4] rfl (zc rfl m_range (qa (qu (qc 0) (YN qd)) qe) (h1 := by intro _ _ _ h;simpa [qb,qg] using h)) (fun _ _ _ => (jgn 0)) (fun _ _ _ => zA) (fun _ _ _ => (qE (qa (zu (qc 0) (qc 1)) (qa (zu (qc 0) (qc 2)) qe)))) (by kernel_rfl) (by kernel_rfl)))))))) read
abbrev jJ : Stmt := top 45
abbrev EZ : List Str := ["_law_dealing_here","_law_walk_here","_law_rows","_law_columns","_law_banks","_law_cells_here","_law_downs","_law_alongs","_law_found","_law_i"]
abbrev J0 : List Str := ["_law_dealing_here","_law_walk_here"]
theorem zy : FnScope EZ J0 (qk jJ) := ⟨rfl,rfl,rfl,by decide +kernel,rfl,by decide +kernel,by decide +kernel⟩
theorem CD {S_law_size : Sp3} {S_law_cells : Sp3} (F : Fun K "_law_starts" "_law_starts" jJ f fd) (bd : zl K fd J0 []) (hm : mg "_law_starts" = some (.ref f)) (F_law_size : Fn3 P w K mg base k "_law_size" S_law_size) (F_law_cells : Fn3 P w K mg base k "_law_cells" S_law_cells) (m_min : mg "min" = none) (m_max : mg "max" = none) (m_range : mg "range" = none)
  (read : Rd sp 2 (Bk.QZ S_law_size S_law_cells) EZ) : Fn3 P w K mg base (k + 1) "_law_starts" sp :=
 qI (t3 := (Bk.QZ S_law_size S_law_cells)) F zy bd hm (fun cdv A outer s H E hr => (qf (jA (qh F_law_size hr rfl (qa (qc 0) qe)) (zG rfl (qp (qt (i := 2) (zy.nd)) (qp (qt (i := 3) (zy.nd)) (qp (qt (i := 4) (zy.nd)) zJ))))) (qf (zb 5 zy.nd (qh F_law_cells hr rfl (qa (qc 1) qe))) (qf (V1 (i := 6) (j := 7) rfl zy.nd rfl rfl (by decide) rfl rfl (qa (JI ["_law_p","_law_q"] [none,none] rfl (Q5 (qc 5)) (fun _ _ _ => (zG rfl (qp (jgn 0) (qp (jgn 1) zJ)))) (fun _ _ _ => zA) (fun _ _ _ => (qc 0)) (by kernel_rfl) (by kernel_rfl)) (qa (JI ["_law_p","_law_q"] [none,none] rfl (Q5 (qc 5)) (fun _ _ _ => (zG rfl (qp (jgn 0) (qp (jgn 1) zJ)))) (fun _ _ _ => zA) (fun _ _ _ => (qc 1)) (by kernel_rfl) (by kernel_rfl)) qe))) (qf (zb 8 zy.nd (jf qe)) (qf (ZR PassesOwn.never rfl (ZQ rfl m_range (qa (YN (qL (UA rfl) DK rfl m_min PyProof.Rows.boot_min (qa (qc 6) qe))) (qa (EY (qc 2) (qL (V8 rfl) DF rfl m_max PyProof.Rows.boot_max (qa (qc 6) qe))) qe)) (h1 := by intro _ _ _ h;simpa [qb,qg] using h)) (qt (i := 9) (zy.nd)) (ql (WG (RV (qc 8) (qa (JI ["_law_j","_law_i"] [none,some 9] rfl (ZQ rfl m_range (qa (YN (qL (UA rfl) DK rfl m_min PyProof.Rows.boot_min (qa (qc 7) qe))) (qa (EY (qc 3) (qL (V8 rfl) DF rfl m_max PyProof.Rows.boot_max (qa (qc 7) qe))) qe)) (h1 := by intro _ _ _ h;simpa [qb,qg] using h)) (fun _ _ _ => (jgn 0)) (fun _ _ _ => zA) (fun _ _ _ => (qE (qa (qc 1) (qa (qc 0) qe)))) (by kernel_rfl) (by kernel_rfl)) qe))))) (ql (qr (qc 8))))))))) read
abbrev QT : Stmt := top 46
abbrev XI : List Str := ["_law_dealing_here","_law_walk_here","_law_start"]
abbrev UX : List Str := ["_law_dealing_here","_law_walk_here","_law_start"]
theorem S7 : FnScope XI UX (qk QT) := ⟨rfl,rfl,rfl,by decide +kernel,rfl,by decide +kernel,by decide +kernel⟩
theorem SN {S_law_cells : Sp3} {S_law_bank : Sp3} (F : Fun K "_law_from" "_law_from" QT f fd) (bd : zl K fd UX []) (hm : mg "_law_from" = some (.ref f)) (F_law_cells : Fn3 P w K mg base k "_law_cells" S_law_cells) (F_law_bank : Fn3 P w K mg base k "_law_bank" S_law_bank) 
  (read : Rd sp 3 (Bk.J8 S_law_cells S_law_bank) XI) : Fn3 P w K mg base (k + 1) "_law_from" sp :=
 qI (t3 := (Bk.J8 S_law_cells S_law_bank)) F S7 bd hm (fun cdv A outer s H E hr => (ql (qr (JI ["_law_p","_law_q","_law_dealing_here","_law_start"] [none,none,some 0,some 2] rfl (Q5 (qh F_law_cells hr rfl (qa (qc 1) qe))) (fun _ _ _ => (zG rfl (qp (jgn 0) (qp (jgn 1) zJ)))) (fun _ _ _ => zA) (fun _ _ _ => (qh F_law_bank hr rfl (qa (qc 2) (qa (qF (qu (qc 3) qd) (qc 0)) (qa (qF (qu (qc 3) qd) (qc 1)) qe))))) (by kernel_rfl) (by kernel_rfl))))) read
abbrev ZO : Stmt := top 47
abbrev SE : List Str := ["_law_dealing_here","_law_walk_here","_law_start","_law_some","_law_k","_law_behind"]
abbrev WB : List Str := ["_law_dealing_here","_law_walk_here"]
theorem ZH : FnScope SE WB (qk ZO) := ⟨rfl,rfl,rfl,by decide +kernel,rfl,by decide +kernel,by decide +kernel⟩
def V0 (S_law_starts : Sp3) (S_law_from : Sp3) : TS3 := (qv (UH (jI (cb3 S_law_starts (qb (v3 0) (qb (v3 1) qg)))) (gn3 2) (qv (qD (cb3 S_law_from (qb (v3 0) (qb (v3 1) (qb (v3 2) qg)))) (gn3 3)) (UH (zh (qb (cb3 zF (qb (v3 3) qg)) qg)) (gn3 4) (qv (qD (lc3 (zh (qb (o3 qU (v3 4) (c3 (.int 1))) (qb (cb3 zF (qb (v3 3) qg)) qg))) (gn3 0) (tb3 (o3 (qP false) (o3 ix3 (v3 1) (v3 0)) (o3 ix3 (v3 1) (v3 2)))) (v3 0) [none,some 3,some 4]) (gn3 5)) (qN (tb3 (o3 (qP true) (v3 5) (zk qg))) (qz (qK (qb (v3 2) (qb (v3 4) (qb (o3 ix3 (v3 5) (c3 (.int 0))) qg))))) qm))))) (qz (c3 .non)))
theorem LR {S_law_starts : Sp3} {S_law_from : Sp3} (F : Fun K "_law_due" "_law_due" ZO f fd) (bd : zl K fd WB []) (hm : mg "_law_due" = some (.ref f)) (F_law_starts : Fn3 P w K mg base k "_law_starts" S_law_starts) (F_law_from : Fn3 P w K mg base k "_law_from" S_law_from) (m_len : mg "len" = none) (m_range : mg "range" = none)
  (read : Rd sp 2 (V0 S_law_starts S_law_from) SE) : Fn3 P w K mg base (k + 1) "_law_due" sp :=
 qI (t3 := (V0 S_law_starts S_law_from)) F ZH bd hm (fun cdv A outer s H E hr => (qf (ZR PassesOwn.never rfl (Q5 (qh F_law_starts hr rfl (qa (qc 0) (qa (qc 1) qe)))) (qt (i := 2) (ZH.nd)) (qf (zb 3 ZH.nd (qh F_law_from hr rfl (qa (qc 0) (qa (qc 1) (qa (qc 2) qe))))) (ql (ZR PassesOwn.never rfl (zc rfl m_range (qa (qL zN js rfl m_len PySem.boot_len (qa (qc 3) qe)) qe) (h1 := by intro _ _ _ h;simpa [qb,qg] using h)) (qt (i := 4) (ZH.nd)) (qf (QB 5 ["_law_l","_law_some","_law_k"] [none,some 3,some 4] rfl ZH.nd (ZQ rfl m_range (qa (qF (qc 4) qd) (qa (qL zN js rfl m_len PySem.boot_len (qa (qc 3) qe)) qe)) (h1 := by intro _ _ _ h;simpa [qb,qg] using h)) (fun _ _ _ => (jgn 0)) (fun _ _ _ => qaa (qS (za hr.units) qG (qu (qc 1) (qc 0)) (qu (qc 1) (qc 2)) (qB _))) (fun _ _ _ => (qc 0)) (by kernel_rfl) (by kernel_rfl) rfl rfl) (ql (zx (qS (SA hr.units) WC (qc 5) (jf qe) (qB _)) (ql (qr (qE (qa (qc 2) (qa (qc 4) (qa (qu (qc 5) qd) qe)))))) qX))))))) (ql (qr W0)))) read
abbrev QP : Stmt := top 48
abbrev X1 : List Str := ["_law_found","_law_due_here"]
abbrev U7 : List Str := ["_law_found","_law_due_here"]
theorem TK : FnScope X1 U7 (qk QP) := ⟨rfl,rfl,rfl,by decide +kernel,rfl,by decide +kernel,by decide +kernel⟩
theorem Z1 {S_law_same : Sp3} (F : Fun K "_law_same" "_law_same" QP f fd) (bd : zl K fd U7 []) (hm : mg "_law_same" = some (.ref f)) (F_law_same : Fn3 P w K mg base k "_law_same" S_law_same) (m_isinstance : mg "isinstance" = none) (m_list : mg "list" = none) (m_tuple : mg "tuple" = none) (m_zip : mg "zip" = none) (m_all : mg "all" = none) (m_len : mg "len" = none) (m_str : mg "str" = none) (m_bool : mg "bool" = none) (m_int : mg "int" = none)
  (read : Rd sp 2 (Bk.UK S_law_same) X1) : Fn3 P w K mg base (k + 1) "_law_same" sp :=
 qI (t3 := (Bk.UK S_law_same)) F TK bd hm (fun cdv A outer s H E hr => (qf (zx (DX (NJ (qc 1) rfl m_isinstance rfl m_list PyProof.Rows.boot_list rfl m_tuple PyProof.Rows.boot_tuple)) (qf (zx (jpt (qdw (qS (SA hr.units) WC (JW (qc 0) rfl m_isinstance rfl m_list PyProof.Rows.boot_list) (JW (qc 1) rfl m_isinstance rfl m_list PyProof.Rows.boot_list) (qB _)) (NL (qS (SA hr.units) WC (JW (qc 0) rfl m_isinstance rfl m_tuple PyProof.Rows.boot_tuple) (JW (qc 1) rfl m_isinstance rfl m_tuple PyProof.Rows.boot_tuple) (qB _))))) (ql (qr qae)) qX) (ql (qr (ZJ (j3 (za hr.units) qG (qL zN js rfl m_len PySem.boot_len (qa (qc 0) qe)) (qL zN js rfl m_len PySem.boot_len (qa (qc 1) qe)) (qB _)) (VN (qL (YM rfl) MZ rfl m_all PyProof.Rows.boot_all (qa (JI ["_law_one","_law_other"] [none,none] rfl (qbU rfl m_zip (qa (qc 0) (qa (qc 1) qe))) (fun _ _ _ => (zG rfl (qp (jgn 0) (qp (jgn 1) zJ)))) (fun _ _ _ => zA) (fun _ _ _ => (qh F_law_same hr rfl (qa (qc 0) (qa (qc 1) qe)))) (by kernel_rfl) (by kernel_rfl)) qe))))))) qX) (qf (zx (jpt (qdw (qS MS S4 (qc 1) W0 (qB _)) (NL (DX (NJ (qc 1) rfl m_isinstance rfl m_str PyProof.Rows.boot_str rfl m_bool PyProof.Rows.boot_bool))))) (ql (qr (ZJ (j3 (za hr.units) qG (qc 0) (qc 1) (qB _)) (ZJ (j3 (za hr.units) qG (JW (qc 0) rfl m_isinstance rfl m_bool PyProof.Rows.boot_bool) (JW (qc 1) rfl m_isinstance rfl m_bool PyProof.Rows.boot_bool) (qB _)) (VN (j3 (za hr.units) qG (j3 MS S4 (qc 0) W0 (qB _)) (j3 MS S4 (qc 1) W0 (qB _)) (qB _))))))) qX) (ql (qr (ZJ (JW (qc 0) rfl m_isinstance rfl m_int PyProof.Rows.boot_int) (ZJ (qbd (JW (qc 0) rfl m_isinstance rfl m_bool PyProof.Rows.boot_bool)) (VN (j3 (za hr.units) qG (qc 0) (qc 1) (qB _)))))))))) read
abbrev JN : Stmt := top 49
abbrev qdY : List Str := ["_law_script","_law_k","_law_left_here","_law_dealing_here","_law_walks","_law_kept","_law_dues","_law_at"]
abbrev qeb : List Str := ["_law_script"]
theorem ES : FnScope qdY qeb (qk JN) := ⟨rfl,rfl,rfl,by decide +kernel,rfl,by decide +kernel,by decide +kernel⟩
def qaX (S_law_left : Sp3) (S_law_dealing : Sp3) (S_law_walk : Sp3) (S_law_due : Sp3) (S_clash : Sp3) (S_law_same : Sp3) : TS3 := (qv (UH (zh (qb (o3 qU (c3 (.int 1)) (cb3 jq (qb (c3 (.int 3)) (qb (cb3 zF (qb (v3 0) qg)) qg)))) qg)) (gn3 1) (qv (qD (cb3 S_law_left (qb (v3 0) (qb (v3 1) qg))) (gn3 2)) (qv (qD (cb3 S_law_dealing (qb (v3 2) qg)) (gn3 3)) (qv (qD (lc3 (zh (qb (c3 (.int 3)) qg)) (gn3 0) tt3 (cb3 S_law_walk (qb (v3 1) qg)) [none,some 2]) (gn3 4)) (qv (qD (cb3 (LF true) (qb (zk (qb (v3 3) (qb (v3 4) qg))) qg)) (gn3 5)) (qv (qD (lc3 (jI (v3 4)) (gn3 0) tt3 (cb3 S_law_due (qb (v3 1) (qb (v3 0) qg))) [none,some 3]) (gn3 6)) (UH (jI (qK (qb (c3 (.int 0)) (qb (c3 (.int 1)) (qb (c3 (.int 2)) (qb (c3 (.int 0)) qg)))))) (gn3 7) (qN (or3 (jg (tb3 (cb3 S_law_same (qb (cb3 S_clash (qb (v3 3) (qb (o3 ix3 (v3 4) (v3 7)) qg))) (qb (o3 ix3 (v3 6) (v3 7)) qg))))) (tb3 (o3 (qP true) (cb3 (LF true) (qb (zk (qb (v3 3) (qb (v3 4) qg))) qg)) (v3 5)))) (qz (c3 (.bl false))) qm)))))))) (qz (c3 (.bl true))))
theorem qfX {S_law_left : Sp3} {S_law_dealing : Sp3} {S_law_walk : Sp3} {S_law_due : Sp3} {S_clash : Sp3} {S_law_same : Sp3} (F : Fun K "law" "law" JN f fd) (F_law_left : Fn3 P w K mg base k "_law_left" S_law_left) (F_law_dealing : Fn3 P w K mg base k "_law_dealing" S_law_dealing) (F_law_walk : Fn3 P w K mg base k "_law_walk" S_law_walk) (F_law_due : Fn3 P w K mg base k "_law_due" S_law_due) (F_clash : Fn3 P w K mg base k "clash" S_clash) (F_law_same : Fn3 P w K mg base k "_law_same" S_law_same) (m_len : mg "len" = none) (m_min : mg "min" = none) (m_range : mg "range" = none) (m_str : mg "str" = none)
  (read : Rd sp 1 (qaX S_law_left S_law_dealing S_law_walk S_law_due S_clash S_law_same) qdY) : FnOk P w K mg base CX0 (k + 1) f fd qeb (lSp K sp) :=
 qaZ (t3 := (qaX S_law_left S_law_dealing S_law_walk S_law_due S_clash S_law_same)) F ES (fun cdv A outer s H E hr => (qf (ZR PassesOwn.never rfl (zc rfl m_range (qa (qF qd (qL (qad rfl) qcB rfl m_min PyProof.Rows.boot_min (qa qd (qa (qL zN js rfl m_len PySem.boot_len (qa (qc 0) qe)) qe)))) qe) (h1 := by intro _ _ _ h;simpa [qb,qg] using h)) (qt (i := 1) (ES.nd)) (qf (zb 2 ES.nd (qh F_law_left hr rfl (qa (qc 0) (qa (qc 1) qe)))) (qf (zb 3 ES.nd (qh F_law_dealing hr rfl (qa (qc 2) qe))) (qf (QB 4 ["_law_turn","_law_left_here"] [none,some 2] rfl ES.nd (zc rfl m_range (qa qd qe) (h1 := by intro _ _ _ h;simpa [qb,qg] using h)) (fun _ _ _ => (jgn 0)) (fun _ _ _ => zA) (fun _ _ _ => (qh F_law_walk hr rfl (qa (qc 1) qe))) (by kernel_rfl) (by kernel_rfl) rfl rfl) (qf (zb 5 ES.nd (zo (WO hr.gd hr.units) K1 rfl m_str PyProof.Rows.boot_str (qa (jf (qa (qc 3) (qa (qc 4) qe))) qe))) (qf (QB 6 ["_law_walk_here","_law_dealing_here"] [none,some 3] rfl ES.nd (Q5 (qc 4)) (fun _ _ _ => (jgn 0)) (fun _ _ _ => zA) (fun _ _ _ => (qh F_law_due hr rfl (qa (qc 1) (qa (qc 0) qe)))) (by kernel_rfl) (by kernel_rfl) rfl rfl) (ql (ZR PassesOwn.never rfl (Q5 (qE (qa qd (qa qd (qa qd (qa qd qe)))))) (qt (i := 7) (ES.nd)) (ql (zx (jpt (qdw (MQ (DX (qh F_law_same hr rfl (qa (qh F_clash hr rfl (qa (qc 3) (qa (qu (qc 4) (qc 7)) qe))) (qa (qu (qc 6) (qc 7)) qe))))) (NL (qS (SA hr.units) WC (zo (WO hr.gd hr.units) K1 rfl m_str PyProof.Rows.boot_str (qa (jf (qa (qc 3) (qa (qc 4) qe))) qe)) (qc 5) (qB _))))) (ql (qr qae)) qX)))))))))) (ql (qr qae)))) read
end K16
namespace K16
open PySem L2 L3 Bk
theorem qaQ {d : Nat} (h : d ≤ 5) : L2.atI [T.int 1,.int 2,.int 4,.int 8,.int 16,.int 32] (d : Int) = some (.int (2 ^ d)) := by
 have : d = 0 ∨ d = 1 ∨ d = 2 ∨ d = 3 ∨ d = 4 ∨ d = 5 := by omega
 rcases this with rfl | rfl | rfl | rfl | rfl | rfl <;> rfl
theorem C9 {s l1 l2 : Str} {xs : List T} {R S : TS3} {d : Ends3} {τ : St3} {G : Gp} (hτ : τ[0]? = some (some (T.tup (.str s :: xs)))) : qv (qN (tb3 (o3 (in3 false) (o3 ix3 (v3 0) (c3 (.int 0))) (qK (qb (c3 (.str l1)) (qb (c3 (.str l2)) qg))))) R qm) S d τ G = (if s = l1 ∨ s = l2 then R { d with nx := S d } τ G else S d τ G) := by
 have s2 : [T.str l1,T.str l2].length ≤ sizeLine := by simp [sizeLine_eq]
 simp only [qv,qN,tb3,o3,v3,hτ,c3,L3.ixT,DE,qK,qb,qg,in3,qm]
 by_cases e1 : s = l1
 ·subst e1;simp [qO,eqF,sizeLine_eq]
 ·have e1' : ¬ l1 = s := fun z => e1 z.symm
  by_cases e2 : s = l2
  ·subst e2;simp [qO,eqF,sizeLine_eq]
  ·have e2' : ¬ l2 = s := fun z => e2 z.symm
   simp [qO,eqF,sizeLine_eq,e1,e2,e1',e2']
theorem YU (n : Nat) : ∀ ts G q,ZW (n + 1) ts G q → ts.length = 1∧YH (ZW n) (ZN q) (qi ["_law_dealing_here","_law_two","_law_one","_law_other"] ts) G := by
 rintro ts G q ⟨d,rfl,hd,ok,h⟩
 refine ⟨rfl,?_⟩
 have h0 := h G Ex.refl
 unfold YH
 cases d with
 | skew r c b x y =>
  show qv _ _ _ [some (.tup [.str "skew",.int r,.int c,.int b,.int x,.int y]),none,none,none] G
  rw [C9 rfl,if_pos (.inl rfl)]
  simp [sl3,qz,ja,sp3,v3,c3,L3.jd,HT.sIx]
  exact h0
 | rests r c b x =>
  show qv _ _ _ [some (.tup [.str "rests",.int r,.int c,.int b,.int x]),none,none,none] G
  rw [C9 rfl,if_pos (.inr rfl)]
  simp [sl3,qz,ja,sp3,v3,c3,L3.jd,HT.sIx]
  exact h0
 | bits hh l ms =>
  obtain ⟨k1,k2,k3,_⟩ := ok
  show qv _ _ _ [some (.tup [.str "bits",.int hh,.int l,.tup (ms.map T.int)]),none,none,none] G
  rw [C9 rfl,if_neg (by decide),zi rfl,if_pos rfl]
  simp [qv,qD,gn3,qz,zd,qN,qQ,jr,qm,v3,c3,o3,u3,zD,L3.ixT,L3.ixR,qU,iI,iC,iB,qP,qy,ji,tb3,jz,or3,jg,qH,jw,qZ,if3,ch3,cb3,qb,qg,zL,tyT,zq,qK,zk,ja,np3,sp3,qx,qj,qw,qT,je,zE,qi,bm3,z9,jc,zF,jj,jq,jy,zU,qs,qY,jb,jv,jn,jd,HT.sIx,getL,in3,qO,eqF,gu,sizeLine_eq,List.getElem?_cons_zero,List.getElem?_cons_succ]
  intro p hp
  have ix : ∀ k : Nat,k ≤ 5 → L2.atI [T.int 1,.int 2,.int 4,.int 8,.int 16,.int 32] (k : Int) = some (.int (2 ^ k)) := fun k hk => qaQ hk
  simp [qv,qD,gn3,qz,zd,qN,qQ,jr,qm,v3,c3,o3,u3,zD,L3.ixT,L3.ixR,qU,iI,iC,iB,qP,qy,ji,tb3,jz,or3,jg,qH,jw,qZ,if3,ch3,cb3,qb,qg,zL,tyT,zq,qK,zk,ja,np3,sp3,qx,qj,qw,qT,je,zE,qi,bm3,z9,jc,zF,jj,jq,jy,zU,qs,qY,jb,jv,jn,jd,HT.sIx,getL,in3,qO,eqF,gu,sizeLine_eq,List.getElem?_cons_zero,List.getElem?_cons_succ,DE,W2,TZ,qgJ,ix hh (by omega),ix l (by omega),ix ms.length (by omega)]
  exact h _ (ze hp)
 | table b cells =>
  have L := Dl.lims ok
  obtain ⟨k1,k2,k3,k4,c,k5,k6,k7⟩ := ok
  cases cells with
  | nil => simp at k3
  | cons row cells =>
   show qv _ _ _ [some (.tup [.str "table",.int b,.tup (LW row :: cells.map LW)]),none,none,none] G
   rw [C9 rfl,if_neg (by decide),zi rfl,if_neg (by decide),zi rfl,if_pos rfl]
   simp [LW,DE,W2,TZ,qv,qD,gn3,qz,zd,qN,qQ,jr,qm,v3,c3,o3,u3,zD,L3.ixT,L3.ixR,qU,iI,iC,iB,qP,qy,ji,tb3,jz,or3,jg,qH,jw,qZ,if3,ch3,cb3,qb,qg,zL,tyT,zq,qK,zk,ja,np3,sp3,qx,qj,qw,qT,je,zE,qi,bm3,z9,jc,zF,jj,jq,jy,zU,qs,qY,jb,jv,jn,jd,HT.sIx,getL,in3,qO,eqF,gu,sizeLine_eq,List.getElem?_cons_zero,List.getElem?_cons_succ];simpa [VI,Dl.R,Dl.C,Dl.B] using h0
 | joined d e =>
  have Ld := Dl.lims ok.1
  have Le := Dl.lims ok.2.1
  have : 1 ≤ n := by simp [Dl.dep] at hd;omega
  obtain ⟨m,rfl⟩ : ∃ m,n = m + 1 := ⟨n - 1,by omega⟩
  show qv _ _ _ [some (.tup [.str "joined",d.t,e.t]),none,none,none] G
  rw [C9 rfl,if_neg (by decide),zi rfl,if_neg (by decide),zi rfl,if_neg (by decide)]
  refine qR fun nx1 q1 => ?_
  simp only [zE,qb,qg,cb3,o3,v3,c3,L3.ixT,W2,TZ,List.getElem?_cons_zero]
  refine ⟨d,rfl,by simp [Dl.dep] at hd;omega,ok.1,fun G1 E1 => ?_⟩
  refine ⟨e,rfl,by simp [Dl.dep] at hd;omega,ok.2.1,fun G2 E2 => ?_⟩
  simp
  rw [q1]
  have e1 := Le.r1;have e2 := Le.r2;have e3 := Le.c1;have e4 := Le.c2;have e5 := Le.b1;have e6 := Le.b2
  simp [VI,lc3,K8,zC,qbj,VP,tt3,cap,qv,qD,gn3,qz,zd,qN,qQ,jr,qm,v3,c3,o3,u3,zD,L3.ixT,L3.ixR,qU,iI,iC,iB,qP,qy,ji,tb3,jz,or3,jg,qH,jw,qZ,if3,ch3,cb3,qb,qg,zL,tyT,zq,qK,zk,ja,np3,sp3,qx,qj,qw,qT,je,zE,qi,bm3,z9,jc,zF,jj,jq,jy,zU,qs,qY,jb,jv,jn,L2.atI,ixN,jd,HT.sIx,getL,in3,qO,eqF,gu,sizeLine_eq,List.getElem?_cons_zero,List.getElem?_cons_succ]
  refine ⟨cm (by omega) (by omega),cm (by omega) (by omega),cm (by omega) (by omega),fun p hp => ?_⟩
  exact h _ ((E1.trans E2).trans (ze hp))
def bh (ns : List Int) (k N : Nat) : List Nat := (List.range N).filter fun t => ns[k + 1 + t]? == ns[k]?
theorem MX (ns : List Int) (k N : Nat) : bh ns k (N + 1) = bh ns k N ++ (if ns[k + 1 + N]? == ns[k]? then [N] else []) := by
 unfold bh
 rw [List.range_succ,List.filter_append]
 congr 1
 simp [List.filter_cons]
theorem qhN {p : Addr} {ns : List Int} {k : Nat} {G : Gp} {q : Q3} (hp : getL G p = some (ns.map T.int)) (hk : k < ns.length) (hl : ns.length ≤ 1000) (h : ∀ p2,G p2 = none → q (.ref p2) (gu G p2 (.lst ((bh ns k (ns.length - (k + 1))).map fun (t : Nat) => T.int ((k + 1 + t : Nat) : Int))))) :
  VP (fun _ => True) (gn3 0) (tb3 (o3 (qP false) (o3 ix3 (v3 1) (v3 0)) (o3 ix3 (v3 1) (v3 2)))) (v3 0) q (DI (0 + (k : Int) + 1) (ns.length - (k + 1))) [] [none,some (.ref p),some (.int (0 + (k : Int)))] G := by
 refine jN _ (fun i ys τ G' => G' = G∧ys = (bh ns k i).map (fun (t : Nat) => T.int ((k + 1 + t : Nat) : Int))∧∃ x0,τ = [x0,some (.ref p),some (.int (0 + (k : Int)))]) ⟨rfl,rfl,none,rfl⟩ (fun _ _ _ _ _ _ => True.intro) ?_ ?_
 ·rintro i z ys τ G' R hz ⟨rfl,rfl,x0,rfl⟩ hR
  obtain ⟨hi,rfl⟩ := jt hz
  have hki : k + 1 + i < ns.length := by omega
  have ga : L2.atI (ns.map T.int) (0 + (k : Int)) = some (T.int ns[k]) := by
   rw [zp (by omega) (by simp;omega),show ((0 : Int) + (k : Int)).toNat = k by omega];simp [hk]
  have gb : L2.atI (ns.map T.int) (0 + (k : Int) + 1 + (i : Int)) = some (T.int ns[k + 1 + i]) := by
   rw [zp (by omega) (by simp;omega),show ((0 : Int) + (k : Int) + 1 + (i : Int)).toNat = k + 1 + i by omega];simp [hki]
  have hx : zC G' (.ref p) = some (ns.map T.int) := hp
  have bl : (bh ns k i).length ≤ i := by unfold bh;have := List.length_filter_le (fun t => ns[k + 1 + t]? == ns[k]?) (List.range i);simpa using this
  simp only [gn3,List.set_cons_zero,tb3,o3,v3,List.getElem?_cons_zero,List.getElem?_cons_succ,XH hx ga,XH hx gb,qP,qy]
  by_cases e : ns[k + 1 + i] = ns[k]
  ·simp [e]
   refine ⟨by first | omega | (simp [sizeLine_eq];omega),hR _ _ _ ⟨rfl,?_,some (.int ((k : Int) + 1 + i)),by simp⟩⟩
   rw [MX]
   simp [hki,hk,e]
   try omega
  ·simp [e]
   refine hR _ _ _ ⟨rfl,?_,some (.int ((k : Int) + 1 + i)),by simp⟩
   rw [MX]
   simp [hki,hk,e]
 ·rintro ys τ G' ⟨rfl,rfl,x0,rfl⟩ p2 hp2
  rw [zr]
  exact h p2 hp2
theorem qdX {ns : List Int} {k : Nat} (hu : Un2 ns k) (h : bh ns k (ns.length - (k + 1)) = []) : Un2 ns (k + 1) := by
 intro a b ha hab hb
 rcases Nat.lt_or_ge a k with z | z
 ·exact hu a b z hab hb
 ·have : a = k := by omega
  subst this
  intro e
  unfold bh at h
  rw [List.filter_eq_nil_iff] at h
  have := h (b - (a + 1)) (by simp;omega)
  rw [show a + 1 + (b - (a + 1)) = b by omega] at this
  simp [e] at this
theorem qcU {ns : List Int} {k h : Nat} {r : List Nat} (hu : Un2 ns k) (e : bh ns k (ns.length - (k + 1)) = h :: r) : Fst ns k (k + 1 + h) := by
 unfold bh at e
 have hf := List.head?_filter (p := fun t => ns[k + 1 + t]? == ns[k]?) (l := List.range (ns.length - (k + 1)))
 rw [e,List.head?_cons] at hf
 obtain ⟨p1,p2,p3⟩ := List.find?_range_eq_some.mp hf.symm
 have p2' : h < ns.length - (k + 1) := by simpa using p2
 refine ⟨by omega,by omega,hu,fun b hb hb2 eq => ?_,?_⟩
 ·have := p3 (b - (k + 1)) (by omega)
  rw [show k + 1 + (b - (k + 1)) = b by omega] at this
  simp [eq] at this
 ·exact (by simpa using p1 : ns[k + 1 + h]? = ns[k]?).symm
def UY : Sp3 := fun ts G q => ∃ (d : Dl) (w : Wk),ts = [d.t,w.t]∧d.dep ≤ 2∧d.Ok∧d.R ≤ 1000∧d.C ≤ 1000∧w.Ok∧∀ G',Ex G G' → q (clT (clO d w)) G'
theorem MB : ∀ ts G q,UY ts G q → ts.length = 2∧V0 (V2 2) (D5 2) (ZN q) (qi ["_law_dealing_here","_law_walk_here","_law_start","_law_some","_law_k","_law_behind"] ts) G := by
 rintro ts G q ⟨d,w,rfl,hd,ok,hR,hC,wok,h⟩
 refine ⟨rfl,?_⟩
 have cl := (X7 wok).2.1
 unfold V0
 refine qR fun nx0 q0 => ?_
 simp only [UH,jI,cb3,qb,qg,v3,qi,List.map,List.length,List.cons_append,List.getElem?_cons_zero,List.getElem?_cons_succ]
 refine ⟨d,w,rfl,hd,ok,hR,hC,wok,fun p G1 E1 f1 g1 => ?_⟩
 simp only [qC g1]
 refine zH _ (fun i τ G' => Ex G1 G'∧(∀ j y,j < i → (stL d.R d.C w.pc)[j]? = some y → faO (bkL d w y) = none)∧∃ x2 x3 x4 x5,τ = [some d.t,some w.t,x2,x3,x4,x5]) ⟨Ex.refl,fun j y hj => by omega,none,none,none,none,rfl⟩ (fun _ _ _ _ hP => hP.1.getL (qC g1)) ?_ ?_
 ·rintro i z τ G' nx hz ⟨E,hb,x2,x3,x4,x5,rfl⟩ hnx
  rw [List.getElem?_map] at hz
  cases e : (stL d.R d.C w.pc)[i]? with
  | none => rw [e] at hz;cases hz
  | some s =>
   rw [e] at hz
   have : z = pT s := by simpa using hz.symm
   subst this
   have st := qej ok wok (List.mem_of_getElem? e)
   simp only [gn3,List.set_cons_succ,List.set_cons_zero]
   refine qR fun nx1 q1 => ?_
   simp only [qD,cb3,qb,qg,v3,gn3,List.getElem?_cons_zero,List.getElem?_cons_succ,List.set_cons_succ,List.set_cons_zero]
   refine ⟨d,w,s,rfl,hd,st,fun p2 G2 E2 f2 g2 => ?_⟩
   rw [q1]
   clear q1
   have hl : (bkL d w s).length ≤ 16 := by simp [bkL];omega
   generalize hns : bkL d w s = ns at g2 hl
   have lm : (ns.map T.int).length = ns.length := List.length_map _
   have hx : zC G2 (.ref p2) = some (ns.map T.int) := qC g2
   simp only [UH,zh,qb,qg,cb3,v3,List.getElem?_cons_zero,List.getElem?_cons_succ,CM hx,lm]
   refine ⟨⟨by omega,by omega⟩,?_⟩
   rw [Int.toNat_natCast]
   refine zH _ (fun k τ G3 => Ex G2 G3∧Un2 ns k∧∃ x4 x5,τ = [some d.t,some w.t,some (pT s),some (.ref p2),x4,x5]) ⟨Ex.refl,fun a b ha => by omega,_,_,rfl⟩ (fun _ _ _ _ _ => True.intro) ?_ ?_
   ·rintro k z τ G3 nx2 hz ⟨E3,hu,y4,y5,rfl⟩ hnx2
    obtain ⟨hk,rfl⟩ := jt hz
    have g3 := qC (E3 _ _ g2)
    have hx3 : zC G3 (.ref p2) = some (ns.map T.int) := g3
    simp only [gn3,List.set_cons_succ,List.set_cons_zero]
    refine qR fun nx3 q3 => ?_
    simp only [qD,lc3,zh,qb,qg,o3,cb3,v3,c3,qU,cap,List.getElem?_cons_zero,List.getElem?_cons_succ,CM hx3,lm]
    refine ⟨⟨by omega,by omega⟩,?_⟩
    rw [show ((ns.length : Int) - (0 + (k : Int) + 1)).toNat = ns.length - (k + 1) by omega]
    refine qhN g3 hk (by omega) fun p3 hp3 => ?_
    have E4 : Ex G2 (gu G3 p3 (.lst ((bh ns k (ns.length - (k + 1))).map fun (t : Nat) => T.int ((k + 1 + t : Nat) : Int)))) := E3.trans (ze hp3)
    have g4 : getL (gu G3 p3 (.lst ((bh ns k (ns.length - (k + 1))).map fun (t : Nat) => T.int ((k + 1 + t : Nat) : Int)))) p3 = some ((bh ns k (ns.length - (k + 1))).map fun (t : Nat) => T.int ((k + 1 + t : Nat) : Int)) := qC qo
    generalize gu G3 p3 (.lst ((bh ns k (ns.length - (k + 1))).map fun (t : Nat) => T.int ((k + 1 + t : Nat) : Int))) = G4 at E4 g4
    simp only [gn3,List.set_cons_succ,List.set_cons_zero]
    rw [q3]
    clear q3
    simp only [qN,tb3,o3,v3,zk,qg,List.getElem?_cons_zero,List.getElem?_cons_succ]
    refine ⟨by simp [sizeLine_eq],fun p4 hp4 => ?_⟩
    have g4' := (ze hp4 (o := .lst [])).getL g4
    have ge : getL (gu G4 p4 (.lst [])) p4 = some [] := qC qo
    have E5 : Ex G2 (gu G4 p4 (.lst [])) := E4.trans (ze hp4)
    generalize gu G4 p4 (.lst []) = G5 at g4' ge E5
    cases hbh : bh ns k (ns.length - (k + 1)) with
    | nil =>
     rw [hbh] at g4'
     refine ⟨.list [],.list [],true,.lst g4' .nil,.lst ge .nil,by simp [ZF,YK],by simp [dpt,qav],by simp [dpt],?_⟩
     simp [qm]
     exact hnx2 _ _ ⟨E5,qdX hu hbh,_,_,rfl⟩
    | cons hd' r =>
     rw [hbh] at g4'
     have F := qcU hu hbh
     have dps : Dps G5 ((hd' :: r).map fun (t : Nat) => T.int ((k + 1 + t : Nat) : Int)) ((hd' :: r).map fun (t : Nat) => PyData.int ((k + 1 + t : Nat) : Int)) := by
      generalize hd' :: r = xs
      induction xs with
      | nil => exact .nil
      | cons a b ih => exact .cons (.int _) ih
     refine ⟨.list ((hd' :: r).map fun (t : Nat) => PyData.int ((k + 1 + t : Nat) : Int)),.list [],false,.lst g4' dps,.lst ge .nil,by simp [ZF,YK],?_,by simp [dpt],?_⟩
     ·have : ∀ xs : List Nat,qav (xs.map fun (t : Nat) => PyData.int ((k + 1 + t : Nat) : Int)) = 0 := fun xs => by
       induction xs with
       | nil => rfl
       | cons a b ih => simp [qav,dpt] at ih ⊢;exact ih
      simp only [dpt,this];omega
     ·have ix : L2.atI ((hd' :: r).map fun (t : Nat) => T.int ((k + 1 + t : Nat) : Int)) 0 = some (.int ((k + 1 + hd' : Nat) : Int)) := DE
      simp only [if_true,Bool.not_false,qz,qK,qb,qg,o3,v3,c3,L3.ixR,g4',ix,List.getElem?_cons_zero,List.getElem?_cons_succ]
      refine ⟨by simp [sizeLine_eq],?_⟩
      have fs := YF F
      rw [← hns] at fs
      have cc : clO d w = some (s,k,k + 1 + hd') := NI e (by simp [fs]) fun j y hj hy => by simp [hb j y hj hy]
      have := h G5 (E1.trans (E.trans (E2.trans E5)))
      rw [cc] at this
      simpa [clT] using this
   ·rintro τ G3 ⟨E3,hu,y4,y5,rfl⟩
    rw [zr] at hu
    have fn := J7 hu
    rw [← hns] at fn
    refine hnx _ _ ⟨E.trans (E2.trans E3),fun j y hj hy => ?_,_,_,_,_,rfl⟩
    rcases Nat.lt_or_ge j i with z | z
    ·exact hb j y z hy
    ·have : j = i := by omega
     subst this
     rw [e] at hy;cases hy
     exact fn
 ·rintro τ G' ⟨E,hb,x2,x3,x4,x5,rfl⟩
  rw [List.length_map] at hb
  show nx0 _ _
  rw [q0]
  have : clO d w = none := KW fun j y hj hy => by simp [hb j y hj hy]
  have := this ▸ h G' (E1.trans E)
  exact this
end K16
namespace K16
open PySem L2 L3 Bk
theorem qbv (G : Gp) (k : Nat) : ∀ {ps : List (Int × Int)},(∀ p ∈ ps,(-16 ≤ p.1∧p.1 ≤ 16)∧(-16 ≤ p.2∧p.2 ≤ 16)) → DSs G (k + 1) (ps.length * 3) (ps.map pT)
 | [],_ => jL _ _ _
 | p :: ps,h => by
  have hp := h p (by simp)
  have a : DS G (k + 1) 2 (pT p) := Q0 (qA (WW G k 0 (by omega)) (qA (WW G k 0 (by omega)) (jL _ _ 0) (Nat.le_refl _)) (Nat.le_refl _))
  refine qA a (qbv G k fun r hr => h r (by simp [hr])) ?_
  rw [List.length_cons,Nat.succ_mul];omega
theorem qin (G : Gp) {w : Wk} (ok : w.Ok) : DS G 3 100 w.t := by
 have z : ∀ {i : Int},-1000000 ≤ i∧i ≤ 1000000 → DS G 2 0 (.int i) := fun h => WW _ _ _ h
 have lnS : ∀ k,(jo k).cps.size ≤ 10∧((jo k).cps.toList.all fun c => decide (c < 16 ^ 8)) = true := by
  intro k
  rcases k with _ | _ | _ | k
  ·decide
  ·decide
  ·decide
  ·exact (by decide : (Str.ofString "back").cps.size ≤ 10∧((Str.ofString "back").cps.toList.all fun c => decide (c < 16 ^ 8)) = true)
 cases w with
 | line k m =>
  obtain ⟨h1,h2,h3⟩ := ok
  exact (Q0 (qA (VO G 2 10 (lnS k).1 (lnS k).2) (qA (z (by omega)) (jL _ _ 0) (Nat.le_refl _)) (Nat.le_refl _))).mono (by omega) (by omega)
 | block h v =>
  obtain ⟨h1,h2,h3,h4,h5⟩ := ok
  exact (Q0 (qA (VO G 2 10 (by decide) (by decide)) (qA (z (by omega)) (qA (z (by omega)) (jL _ _ 0) (Nat.le_refl _)) (Nat.le_refl _)) (Nat.le_refl _))).mono (by omega) (by omega)
 | step d a m =>
  obtain ⟨h1,h2,h3,h4⟩ := ok
  exact (Q0 (qA (VO G 2 10 (by decide) (by decide)) (qA (z (by omega)) (qA (z (by omega)) (qA (z (by omega)) (jL _ _ 0) (Nat.le_refl _)) (Nat.le_refl _)) (Nat.le_refl _)) (Nat.le_refl _))).mono (by omega) (by omega)
 | cells ps =>
  obtain ⟨h1,h2,h3,h4⟩ := ok
  have a : DS G 2 48 (.tup (ps.map pT)) := (Q0 (qbv G 0 h4)).mono (by omega) (by omega)
  exact (Q0 (qA (VO G 2 10 (by decide) (by decide)) (qA a (jL _ _ 0) (Nat.le_refl _)) (Nat.le_refl _))).mono (by omega) (by omega)
theorem ME : ∀ (n : Nat) {d : Dl},d.dep ≤ n → d.sz ≤ 5020 * 2 ^ n - 20
 | n,.skew .. ,_ => by have := Nat.one_le_two_pow (n := n);simp [Dl.sz];omega
 | n,.rests ..,_ => by have := Nat.one_le_two_pow (n := n);simp [Dl.sz];omega
 | n,.bits ..,_ => by have := Nat.one_le_two_pow (n := n);simp [Dl.sz];omega
 | n,.table ..,_ => by have := Nat.one_le_two_pow (n := n);simp [Dl.sz];omega
 | 0,.joined d e,h => by simp [Dl.dep] at h
 | n + 1,.joined d e,h => by
  have h1 : d.dep ≤ n := by simp [Dl.dep] at h;omega
  have h2 : e.dep ≤ n := by simp [Dl.dep] at h;omega
  have a := ME n h1
  have b := ME n h2
  have := Nat.one_le_two_pow (n := n)
  simp only [Dl.sz,Nat.pow_succ]
  omega
theorem qaT {a : Addr} {n : Int} {N : Nat} {G : Gp} {q : Q3} (hL : Lf G a n) (hn : n < 100000) (hN : N ≤ 10)
  (h : ∀ (ws : List Wk) G' p,ws.length = N → (∀ w ∈ ws,w.Ok) → Lf G' a (n + 60 * N) → Ext a G G' → G' p = none → q (.ref p) (gu G' p (.lst (ws.map Wk.t)))) :
  VP (fun _ => True) (gn3 0) tt3 (cb3 VE (qb (v3 1) qg)) q (DI 0 N) [] [none,some (.ref a)] G := by
 refine jN _ (fun i ys τ G' => ∃ ws : List Wk,ys = ws.map Wk.t∧ws.length = i∧(∀ w ∈ ws,w.Ok)∧Lf G' a (n + 60 * i)∧Ext a G G'∧∃ x0,τ = [x0,some (.ref a)]) ⟨[],rfl,rfl,(by intro w hw;cases hw),by simpa using hL,Ext.refl,none,rfl⟩ (fun _ _ _ _ _ _ => True.intro) ?_ ?_
 ·rintro i z ys τ G' R hz ⟨ws,rfl,e,ok,L,E,x0,rfl⟩ hR
  obtain ⟨hi,rfl⟩ := jt hz
  simp [tt3,qv,qD,gn3,qz,zd,qN,qQ,jr,qm,v3,c3,o3,u3,zD,L3.ixT,L3.ixR,qU,iI,iC,iB,qP,qy,ji,tb3,jz,or3,jg,qH,jw,qZ,if3,ch3,cb3,qb,qg,zL,tyT,zq,qK,zk,ja,np3,sp3,qx,qj,qw,qT,je,zE,qi,bm3,z9,jc,zF,jj,jq,jy,zU,qs,qY,jb,jv,jn,jd,HT.sIx,in3,qO,eqF,sizeLine_eq,List.getElem?_cons_zero,List.getElem?_cons_succ]
  refine ⟨a,_,rfl,L,by omega,fun w G2 wok L2' E2 => ⟨by omega,hR _ _ _ ⟨ws ++ [w],by simp,by simp [e],fun x hx => ?_,L2'.mono (by omega),E.trans E2,_,rfl⟩⟩⟩
  rcases List.mem_append.mp hx with hx | hx
  ·exact ok x hx
  ·simp at hx;subst hx;exact wok
 ·rintro ys τ G' ⟨ws,rfl,e,ok,L,E,x0,rfl⟩ p hp
  rw [zr] at e L
  exact h ws G' p e ok L E hp
theorem qdu {d : Dl} {ws : List Wk} {pw : Addr} {G : Gp} {q : Q3} (hd : d.dep ≤ 2) (ok : d.Ok) (hR : d.R ≤ 1000) (hC : d.C ≤ 1000) (wok : ∀ w ∈ ws,w.Ok) (gw : getL G pw = some (ws.map Wk.t)) (hl : ws.length ≤ 10)
  (h : ∀ G' p,Ex G G' → G' p = none → q (.ref p) (gu G' p (.lst (ws.map fun w => clT (clO d w))))) :
  VP (fun G => getL G pw = some (ws.map Wk.t)) (gn3 0) tt3 (cb3 UY (qb (v3 1) (qb (v3 0) qg))) q (ws.map Wk.t) [] [none,some d.t] G := by
 refine jN _ (fun i ys τ G' => Ex G G'∧ys = (ws.take i).map (fun w => clT (clO d w))∧∃ x0,τ = [x0,some d.t]) ⟨Ex.refl,by simp,none,rfl⟩ (fun _ _ _ _ _ hP => hP.1.getL gw) ?_ ?_
 ·rintro i z ys τ G' R hz ⟨E,rfl,x0,rfl⟩ hRR
  rw [List.getElem?_map] at hz
  cases e : ws[i]? with
  | none => rw [e] at hz;cases hz
  | some w =>
   rw [e] at hz
   have : z = w.t := by simpa using hz.symm
   subst this
   obtain ⟨hi,ec⟩ := List.getElem?_eq_some_iff.mp e
   simp [tt3,qv,qD,gn3,qz,zd,qN,qQ,jr,qm,v3,c3,o3,u3,zD,L3.ixT,L3.ixR,qU,iI,iC,iB,qP,qy,ji,tb3,jz,or3,jg,qH,jw,qZ,if3,ch3,cb3,qb,qg,zL,tyT,zq,qK,zk,ja,np3,sp3,qx,qj,qw,qT,je,zE,qi,bm3,z9,jc,zF,jj,jq,jy,zU,qs,qY,jb,jv,jn,jd,HT.sIx,in3,qO,eqF,sizeLine_eq,List.getElem?_cons_zero,List.getElem?_cons_succ]
   refine ⟨d,w,rfl,hd,ok,hR,hC,wok w (List.mem_of_getElem? e),fun G2 E2 => ⟨by first | omega | (simp [sizeLine_eq];omega),hRR _ _ _ ⟨E.trans E2,?_,_,rfl⟩⟩⟩
   rw [List.take_succ_eq_append_getElem hi,ec]
   simp
 ·rintro ys τ G' ⟨E,rfl,x0,rfl⟩ p hp
  rw [List.length_map,List.take_length]
  exact h G' p E hp
theorem qeB (o : Option ((Int × Int) × Nat × Nat)) : WQ 3 (clD o) := by
 cases o with
 | none => simp [clD,WQ]
 | some r => obtain ⟨s,i,j⟩ := r;simp [clD,pD,WQ]
theorem qgw : ∀ ts G q,RX ts G q → ts.length = 1∧qaX DR YL VE UY (T3 2) (Z5 4) (ZN q) (qi ["_law_script","_law_k","_law_left_here","_law_dealing_here","_law_walks","_law_kept","_law_dues","_law_at"] ts) G := by
 rintro ts G q ⟨a,ns,rfl,hG,hl,h⟩
 refine ⟨rfl,?_⟩
 unfold qaX
 refine qR fun nx0 q0 => ?_
 simp only [UH,zh,qb,qg,o3,c3,cb3,v3,zF,jq,qU,qi,List.map,List.length,List.getElem?_cons_zero]
 simp [hG,getL]
 refine ⟨⟨by split <;> omega,by split <;> omega⟩,?_⟩
 refine zH _ (fun _ τ G' => G' a = some (.frz (ns.map T.int))∧∃ x1 x2 x3 x4 x5 x6 x7,τ = [some (.ref a),x1,x2,x3,x4,x5,x6,x7]) ⟨hG,none,none,none,none,none,none,none,rfl⟩ (fun _ _ _ _ _ => True.intro) ?_ ?_
 ·rintro n z τ G' nx hz ⟨gA,x1,x2,x3,x4,x5,x6,x7,rfl⟩ hn
  obtain ⟨hi,rfl⟩ := jt hz
  have hn8 : n < 8 := by split at hi <;> omega
  simp only [gn3,List.set_cons_succ,List.set_cons_zero]
  refine qR fun nx1 q1 => ?_
  simp [qv,qD,gn3,qz,zd,qN,qQ,jr,qm,v3,c3,o3,u3,zD,L3.ixT,L3.ixR,qU,iI,iC,iB,qP,qy,ji,tb3,jz,or3,jg,qH,jw,qZ,if3,ch3,cb3,qb,qg,zL,tyT,zq,qK,zk,ja,np3,sp3,qx,qj,qw,qT,je,zE,qi,bm3,z9,jc,zF,jj,jq,jy,zU,qs,qY,jb,jv,jn,jd,HT.sIx,in3,qO,eqF,sizeLine_eq,List.getElem?_cons_zero,List.getElem?_cons_succ]
  refine ⟨a,n,ns,rfl,gA,hl,by omega,by omega,fun p o c hp ho => ?_⟩
  have pa : a ≠ p := by rintro rfl;rw [gA] at hp;cases hp
  have M0 : Lf (gu G' p (.lst [.int o,.int c,.int 0])) p 0 := ⟨o,c,0,qo,ho,by omega,by omega⟩
  have g0 : (gu G' p (.lst [.int o,.int c,.int 0])) a = some (.frz (ns.map T.int)) := by rw [jK pa];exact gA
  generalize gu G' p (.lst [.int o,.int c,.int 0]) = G0 at M0 g0
  rw [q1]
  clear q1
  refine qR fun nx2 q2 => ?_
  simp [qv,qD,gn3,qz,zd,qN,qQ,jr,qm,v3,c3,o3,u3,zD,L3.ixT,L3.ixR,qU,iI,iC,iB,qP,qy,ji,tb3,jz,or3,jg,qH,jw,qZ,if3,ch3,cb3,qb,qg,zL,tyT,zq,qK,zk,ja,np3,sp3,qx,qj,qw,qT,je,zE,qi,bm3,z9,jc,zF,jj,jq,jy,zU,qs,qY,jb,jv,jn,jd,HT.sIx,in3,qO,eqF,sizeLine_eq,List.getElem?_cons_zero,List.getElem?_cons_succ]
  refine ⟨p,0,rfl,M0,by omega,fun d G1 D1 dd M1 E1 => ?_⟩
  have ok := D1.ok
  have dR := D1.r2;have dC := D1.c2
  rw [q2]
  clear q2
  refine qR fun nx3 q3 => ?_
  simp only [qD,lc3,zh,qb,qg,c3,v3,cap,List.getElem?_cons_zero,List.getElem?_cons_succ]
  refine ⟨⟨by omega,by omega⟩,qaT M1 (by omega) (by omega) (N := 3) fun ws G2 pw wl wok M2 E2 hpw => ?_⟩
  have npw := M2.ne hpw
  have X2 : Ext p G0 (gu G2 pw (.lst (ws.map Wk.t))) := E1.trans (E2.trans (zz hpw))
  have gw : gu G2 pw (.lst (ws.map Wk.t)) pw = some (.lst (ws.map Wk.t)) := qo
  generalize gu G2 pw (.lst (ws.map Wk.t)) = G3 at X2 gw
  have g3 : G3 a = some (.frz (ns.map T.int)) := X2 _ _ pa g0
  simp only [gn3,List.set_cons_succ,List.set_cons_zero]
  rw [q3]
  clear q3
  -- the text of the dealing and the walks
  have txt : ∃ x : Str,∀ Gx,Ex G3 Gx → ∀ pl,Gx pl = some (.lst [d.t,.ref pw]) → ∀ q : Str → Prop,q x → shT true (.ref pl) Gx q := by
   obtain ⟨dd0,hdd,sdd⟩ := Dl.ds (fun _ => none) ok
   have sz := ME 2 dd
   have ws1 : DSs (fun _ => none) 3 (3 * 101) (ws.map Wk.t) := by
    have : ∀ (us : List Wk),(∀ w ∈ us,w.Ok) → DSs (fun _ => none) 3 (us.length * 101) (us.map Wk.t) := fun us => by
     induction us with
     | nil => exact fun _ => jL _ _ _
     | cons u us ih =>
      intro hu
      refine qA (qin _ (hu u (by simp))) (ih fun w hw => hu w (by simp [hw])) ?_
      rw [List.length_cons,Nat.succ_mul];omega
    have := this ws wok
    rw [wl] at this
    exact this
   obtain ⟨dws,hws,sws⟩ := ws1
   have em : ∀ Gx,Ex (fun _ => none) Gx := fun Gx b o e => by cases e
   have sd : SD 10 100000 (.list [dd0,.list dws]) :=
    (S8 (V4 (sdd.mono (k' := 9) (by omega) (Nat.le_refl _)) (V4 ((S8 sws).mono (k' := 9) (by omega) (Nat.le_refl _)) (C5 _ 0) (Nat.le_refl _)) (Nat.le_refl _))).mono (by omega) (by omega)
   refine ⟨(PyData.list [dd0,.list dws]).shown,fun Gx Ex' pl gl q hq => ?_⟩
   exact ⟨_,.lst (qC gl) (.cons (hdd.up (em _)) (.cons (.lst (Ex'.getL (qC gw)) (hws.up (em _))) .nil)),sd.w (by omega) (by omega),hq⟩
  obtain ⟨x,hx⟩ := txt
  refine qR fun nx4 q4 => ?_
  simp only [qD,cb3,qb,qg,zk,v3,LF,List.getElem?_cons_zero,List.getElem?_cons_succ]
  refine ⟨by simp [sizeLine_eq],fun p5 hp5 => ?_⟩
  have g5 : gu G3 p5 (.lst [d.t,.ref pw]) p5 = some (.lst [d.t,.ref pw]) := qo
  have E5 : Ex G3 (gu G3 p5 (.lst [d.t,.ref pw])) := ze hp5
  generalize gu G3 p5 (.lst [d.t,.ref pw]) = G5 at g5 E5
  refine hx G5 E5 p5 g5 _ ?_
  simp only [gn3,List.set_cons_succ,List.set_cons_zero]
  rw [q4]
  clear q4
  refine qR fun nx5 q5 => ?_
  have gw5 := E5.getL (qC gw)
  simp only [qD,lc3,jI,v3,gw5,cap,List.getElem?_cons_zero,List.getElem?_cons_succ]
  refine qdu dd ok (by omega) (by omega) wok gw5 (by omega) fun G6 p6 E6 hp6 => ?_
  have gd : gu G6 p6 (.lst (ws.map fun w => clT (clO d w))) p6 = some (.lst (ws.map fun w => clT (clO d w))) := qo
  have E7 : Ex G3 (gu G6 p6 (.lst (ws.map fun w => clT (clO d w)))) := E5.trans (E6.trans (ze hp6))
  generalize gu G6 p6 (.lst (ws.map fun w => clT (clO d w))) = G7 at gd E7
  simp only [gn3,List.set_cons_succ,List.set_cons_zero]
  rw [q5]
  clear q5
  simp only [UH,jI,qK,qb,qg,c3]
  refine ⟨by simp [sizeLine_eq],?_⟩
  refine zH _ (fun _ τ G' => Ex G7 G'∧∃ x7,τ = [some (.ref a),some (.int (n : Int)),some (.ref p),some d.t,some (.ref pw),some (.str x),some (.ref p6),x7]) ⟨Ex.refl,_,rfl⟩ (fun _ _ _ _ _ => True.intro) ?_ ?_
  ·rintro i z τ G8 nx8 hz ⟨E8,y7,rfl⟩ hn8'
   have hz' : ∃ k : Nat,k < 3∧z = .int (k : Int) := by
    match i,hz with
    | 0,hz => exact ⟨0,by omega,by simpa using hz.symm⟩
    | 1,hz => exact ⟨1,by omega,by simpa using hz.symm⟩
    | 2,hz => exact ⟨2,by omega,by simpa using hz.symm⟩
    | 3,hz => exact ⟨0,by omega,by simpa using hz.symm⟩
    | i + 4,hz => simp at hz
   obtain ⟨k,hk,rfl⟩ := hz'
   have hkw : k < ws.length := by omega
   have gw8 := (E7.trans E8).getL (qC gw)
   have gd8 := E8 _ _ gd
   have iw : L2.atI (ws.map Wk.t) (k : Int) = some ws[k].t := by rw [zp (by omega) (by simp;omega)];simp [hkw]
   have id' : L2.atI (ws.map fun w => clT (clO d w)) (k : Int) = some (clT (clO d ws[k])) := by rw [zp (by omega) (by simp;omega)];simp [hkw]
   have wk := wok ws[k] (List.getElem_mem hkw)
   simp only [gn3,List.set_cons_succ,List.set_cons_zero,qN,or3,jg,tb3,cb3,qb,qg,o3,v3,zk,LF,L3.ixR,gw8,iw,List.getElem?_cons_zero,List.getElem?_cons_succ]
   refine ⟨d,ws[k],rfl,dd,ok,by omega,by omega,wk,fun G9 E9 => ?_⟩
   have gd9 := qC (E9 _ _ gd8)
   simp only [gd9,id']
   refine ⟨_,_,clD (clO d ws[k]),rfl,qei _ _,qei _ _,qeB _,fun G10 E10 => ?_⟩
   simp
   refine ⟨by simp [sizeLine_eq],fun p11 hp11 => ?_⟩
   have E11 : Ex G7 (gu G10 p11 (.lst [d.t,.ref pw])) := E8.trans (E9.trans (E10.trans (ze hp11)))
   refine hx _ (E7.trans E11) p11 qo _ ?_
   simp [qP,qy,qm]
   exact hn8' _ _ ⟨E11,_,rfl⟩
  ·rintro τ G8 ⟨E8,y7,rfl⟩
   exact hn _ _ ⟨E8 _ _ (E7 _ _ g3),_,_,_,_,_,_,_,rfl⟩
 ·rintro τ G' ⟨gA,x1,x2,x3,x4,x5,x6,x7,rfl⟩
  show nx0 _ _
  rw [q0]
  simp [qv,qD,gn3,qz,zd,qN,qQ,jr,qm,v3,c3,o3,u3,zD,L3.ixT,L3.ixR,qU,iI,iC,iB,qP,qy,ji,tb3,jz,or3,jg,qH,jw,qZ,if3,ch3,cb3,qb,qg,zL,tyT,zq,qK,zk,ja,np3,sp3,qx,qj,qw,qT,je,zE,qi,bm3,z9,jc,zF,jj,jq,jy,zU,qs,qY,jb,jv,jn,jd,HT.sIx,getL,in3,qO,eqF,gu,sizeLine_eq,List.getElem?_cons_zero,List.getElem?_cons_succ]
  exact h _
end K16
namespace K16
open PySem L2 L3 Bk
abbrev qfq : Env := { scope := PySem.Challenge.pw_bankwalk_k16_clashes_told.main.scope,locals := mainNs,globals := mainNs,cells := [],code := .ref 13,frame := some 14 }
abbrev MO : List Stmt := PySem.W.behindTheImports PySem.Challenge.pw_bankwalk_k16_clashes_told
abbrev CF : Code := .body MO qfq
abbrev qgb : List Frame := [PySem.W.topFrame ⟨0,0,0,0⟩]
def zn : Obj := Hd.oT []
def jG : Obj := ⟨.none,none,.fields #[],#[]⟩
def qg5 : Obj := Hd.oC [.str "<module>" 182,.str "<module>" 183,.str "/claim/cut.py" 184,.int (1) 0,.int (0) 0,.int (0) 0,.int (0) 0,.int (0) 0,.ref 11,.bool false,.int (181) 0,.ref 12,.none,.none,.none,.none,.int (185) 0,.int (1) 0,.str "/claim/cut.py" 186]
def qg3 : Obj := ⟨.type "frame",none,.plain,#[some (.ref 13),some (.ref 3),some (.ref 3),none,some (.str "__main__" 164),none,some (.ref 0)]⟩
def qeg (P : Params) : Heap := ⟨Array.mk [PySem.W.boot_o_0 P,PySem.W.boot_o_1 P,PySem.W.boot_o_2 P,PySem.W.boot_o_3 P,PySem.W.boot_o_4 P,PySem.W.boot_o_5 P,PySem.W.boot_o_6 P,PySem.W.boot_o_7 P,PySem.W.boot_o_8 P,PySem.W.boot_o_9 P,PySem.W.boot_o_10 P,zn,jG,qg5,qg3],{ }⟩
def qf5 (P : Params) : PySem.W.BT := (Hd.nd (PySem.W.boot_o_0 P) (Hd.nd (PySem.W.boot_o_1 P) (Hd.nd (PySem.W.boot_o_3 P) (Hd.lf (PySem.W.boot_o_7 P)) (Hd.lf zn)) (Hd.nd (PySem.W.boot_o_5 P) (Hd.lf (PySem.W.boot_o_9 P)) (Hd.lf qg5))) (Hd.nd (PySem.W.boot_o_2 P) (Hd.nd (PySem.W.boot_o_4 P) (Hd.lf (PySem.W.boot_o_8 P)) (Hd.lf jG)) (Hd.nd (PySem.W.boot_o_6 P) (Hd.lf (PySem.W.boot_o_10 P)) (Hd.lf qg3))))
set_option maxRecDepth 100000 in
set_option maxHeartbeats 0 in
theorem qdU (w : World) (os : OsState) : PySem.W.topGo treeTable PySem.Challenge.pw_bankwalk_k16_clashes_told w 11 (some (Value.ref 6)) 12 ⟨PySem.W.boot_heap w.params,Array.mk [],PySem.W.boot_drawn,PySem.W.boot_toks,os⟩ (PySem.W.topStub PySem.Challenge.pw_bankwalk_k16_clashes_told) = some (⟨qeg w.params,#[],{ },187,os⟩,⟨denote treeTable CF,CF,⟨0,0,0,0⟩,qgb⟩) := by kernel_rfl
set_option maxRecDepth 100000 in
set_option maxHeartbeats 0 in
theorem qfD (w : World) (os : OsState) : PySem.W.segRun treeTable PySem.Challenge.pw_bankwalk_k16_clashes_told w 11 (some (Value.ref 6)) 1 1 ⟨qeg w.params,#[],{ },187,os⟩ (PySem.W.blockOf MO qfq CF ⟨0,0,0,0⟩ qgb) = some (.next,(⟨qf5 w.params,15,{ },#[],{ },187,os⟩ : PySem.W.SharedT).abs,CF,⟨0,0,0,0⟩) := by kernel_rfl
def qi0 (P : Params) : Obj := Hd.oD P 24 [(.str "__name__" 165,.str "bankwalk.walks" 336),(.str "__doc__" 166,.none),(.str "__package__" 167,.none),(.str "__loader__" 168,.builtin "__main__.__loader__#opaque"),(.str "__spec__" 169,.none),(.str "__annotations__" 170,.ref 6),(.str "__builtins__" 171,.ref 4),(.str "__file__" 173,.str "/claim/cut.py" 172),(.str "__cached__" 174,.none),(.str "is_number" 195,.ref 21),(.str "is_pair" 202,.ref 28),(.str "first_alike" 211,.ref 35),(.str "BankError" 231,.ref 45),(.str "NoStart" 247,.ref 58),(.str "size_of" 263,.ref 67),(.str "number_of" 274,.ref 74),(.str "is_word" 285,.ref 81),(.str "odd_in_common" 295,.ref 88),(.str "bits_bank" 301,.ref 93),(.str "parted" 312,.ref 100),(.str "joined_bank" 326,.ref 107),(.str "bank_in" 335,.ref 114),(.str "STRIDES" 355,.ref 115),(.str "strung" 361,.ref 124)]
def qjc : Obj := ⟨.none,none,.fields #[.int (2) 0,.int (0) 0,.ref 20,.int (4) 0,.int (0) 0,.ref 27,.int (6) 0,.int (0) 0,.ref 34,.int (13) 0,.int (0) 0,.ref 41,.int (15) 0,.int (0) 0,.ref 54,.int (18) 0,.int (0) 0,.ref 66,.int (29) 0,.int (0) 0,.ref 73,.int (32) 0,.int (0) 0,.ref 80,.int (37) 0,.int (0) 0,.ref 87,.int (44) 0,.int (0) 0,.ref 92,.int (46) 0,.int (0) 0,.ref 99,.int (49) 0,.int (0) 0,.ref 106,.int (53) 0,.int (0) 0,.ref 113,.int (66) 0,.int (0) 0,.ref 123],#[]⟩
def qiQ : Obj := Hd.oN VU 192
def qiI : Obj := Hd.oG "is_number" jO
def qhC : Obj := Hd.oK "is_number" 189 2 1 181 15 16 .none (.ref 17) (.ref 18) 19 193 194
def qde : Obj := Hd.oF "is_number" jO (.str "bankwalk.basics" 187) (.ref 20)
def qfC : Obj := Hd.oN VU 199
def qfd : Obj := Hd.oG "is_pair" ZM
def qdf : Obj := Hd.oK "is_pair" 196 4 1 181 22 23 .none (.ref 24) (.ref 25) 26 200 201
def qcM : Obj := Hd.oF "is_pair" ZM (.str "bankwalk.basics" 187) (.ref 27)
def qeI : Obj := Hd.oN JB 206
def qgu : Obj := Hd.oG "first_alike" jk
def qcl : Obj := Hd.oK "first_alike" 203 6 1 181 29 30 .none (.ref 31) (.ref 32) 33 209 210
def qcn : Obj := Hd.oF "first_alike" jk (.str "bankwalk.basics" 187) (.ref 34)
def qfo : Obj := Hd.oT [.type "ValueError"]
def qaj : Obj := ⟨.type "builtin_function_or_method",none,.fields #[.builtin "type.__prepare__",.type "type"],#[]⟩
def qev (P : Params) : Obj := Hd.oD P 4 [(.str "__module__" 221,.str "bankwalk.errors" 212),(.str "__qualname__" 223,.str "BankError" 222),(.str "__firstlineno__" 225,.int (13) 224),(.str "__static_attributes__" 226,.ref 43)]
def qgC : Obj := Hd.oC [.str "BankError" 216,.str "BankError" 217,.str "/claim/cut.py" 218,.int (13) 0,.int (0) 0,.int (0) 0,.int (0) 0,.int (0) 0,.ref 39,.bool false,.int (181) 0,.ref 40,.none,.none,.none,.none,.int (219) 0,.int (13) 0,.str "/claim/cut.py" 220]
def qgh : Obj := ⟨.type "frame",none,.plain,#[some (.ref 41),some (.ref 3),some (.ref 38),none,some (.str "bankwalk.errors" 212),none,some (.ref 0)]⟩
def qeR (P : Params) : Obj := Hd.oD P 3 [(.str "__module__" 221,.str "bankwalk.errors" 212),(.str "__firstlineno__" 225,.int (13) 224),(.str "__static_attributes__" 226,.ref 43),(.str "__weakref__" 228,.ref 46),(.str "__doc__" 229,.none)]
def qeU : Obj := ⟨.type "type",none,.cls ({ name := Str.ofString "BankError",bases := [Value.type "ValueError"],  mro :=     [Value.ref 45,Value.type "ValueError",Value.type "Exception",Value.type "BaseException",Value.type "object"],  ns := 44,qualname := Str.ofString "BankError",subclasses := [Value.ref 58] }),#[some (.ref 36),none,some (.str "BankError" 214),some (.str "BankError" 222),some (.builtin "ValueError.__new__"),some (.bool true)]⟩
def qek : Obj := ⟨.type "getset_descriptor",none,.fields #[.str "__weakref__" 227,.ref 45,.builtin "ExceptionGroup.__weakref__",.none],#[]⟩
def qd5 : Obj := ⟨.type "super",none,.fields #[.ref 45,.ref 45,.ref 45],#[]⟩
def qeJ : Obj := ⟨.type "builtin_function_or_method",none,.fields #[.builtin "object.__init_subclass__",.ref 45],#[]⟩
def qdR : Obj := Hd.oT [.ref 45]
def qel (P : Params) : Obj := Hd.oD P 4 [(.str "__module__" 239,.str "bankwalk.errors" 212),(.str "__qualname__" 241,.str "NoStart" 240),(.str "__firstlineno__" 243,.int (15) 242),(.str "__static_attributes__" 244,.ref 56)]
def qfr : Obj := Hd.oC [.str "NoStart" 234,.str "NoStart" 235,.str "/claim/cut.py" 236,.int (15) 0,.int (0) 0,.int (0) 0,.int (0) 0,.int (0) 0,.ref 52,.bool false,.int (181) 0,.ref 53,.none,.none,.none,.none,.int (237) 0,.int (15) 0,.str "/claim/cut.py" 238]
def qeW : Obj := ⟨.type "frame",none,.plain,#[some (.ref 54),some (.ref 3),some (.ref 51),none,some (.str "bankwalk.errors" 212),none,some (.ref 0)]⟩
def qfL (P : Params) : Obj := Hd.oD P 2 [(.str "__module__" 239,.str "bankwalk.errors" 212),(.str "__firstlineno__" 243,.int (15) 242),(.str "__static_attributes__" 244,.ref 56),(.str "__doc__" 245,.none)]
def qgE : Obj := ⟨.type "type",none,.cls ({ name := Str.ofString "NoStart",bases := [Value.ref 45],  mro :=     [Value.ref 58,Value.ref 45,Value.type "ValueError",Value.type "Exception",Value.type "BaseException",      Value.type "object"],  ns := 57,qualname := Str.ofString "NoStart" }),#[some (.ref 49),none,some (.str "NoStart" 232),some (.str "NoStart" 240),some (.builtin "ValueError.__new__"),some (.bool true)]⟩
def qgD : Obj := ⟨.type "super",none,.fields #[.ref 58,.ref 58,.ref 58],#[]⟩
def qe4 : Obj := ⟨.type "builtin_function_or_method",none,.fields #[.builtin "object.__init_subclass__",.ref 58],#[]⟩
def qew : Obj := Hd.oN D4 253
def qd1 : Obj := Hd.oG "size_of" ZC
def qdq : Obj := Hd.oK "size_of" 250 18 1 181 61 62 .none (.ref 63) (.ref 64) 65 261 262
def qc6 : Obj := Hd.oF "size_of" ZC (.str "bankwalk.dealings" 248) (.ref 66)
def qeY : Obj := Hd.oN VB 267
def qdZ : Obj := Hd.oG "number_of" jQ
def qcs : Obj := Hd.oK "number_of" 264 29 2 181 68 69 .none (.ref 70) (.ref 71) 72 272 273
def qc5 : Obj := Hd.oF "number_of" jQ (.str "bankwalk.dealings" 248) (.ref 73)
def qf0 : Obj := Hd.oN WV 278
def qgy : Obj := Hd.oG "is_word" ZP
def qdo : Obj := Hd.oK "is_word" 275 32 2 181 75 76 .none (.ref 77) (.ref 78) 79 283 284
def qcN : Obj := Hd.oF "is_word" ZP (.str "bankwalk.dealings" 248) (.ref 80)
def qge : Obj := Hd.oN QX 289
def qgW : Obj := Hd.oG "odd_in_common" zP
def qdy : Obj := Hd.oK "odd_in_common" 286 37 2 181 82 83 .none (.ref 84) (.ref 85) 86 293 294
def qcG : Obj := Hd.oF "odd_in_common" zP (.str "bankwalk.dealings" 248) (.ref 87)
def qd0 : Obj := Hd.oG "bits_bank" jT
def qcQ : Obj := Hd.oK "bits_bank" 296 44 2 181 89 90 .none .none .none 91 299 300
def qcP : Obj := Hd.oF "bits_bank" jT (.str "bankwalk.dealings" 248) (.ref 92)
def qd7 : Obj := Hd.oN C1 305
def qgB : Obj := Hd.oG "parted" JS
def qc8 : Obj := Hd.oK "parted" 302 46 3 181 94 95 .none (.ref 96) (.ref 97) 98 310 311
def qc4 : Obj := Hd.oF "parted" JS (.str "bankwalk.dealings" 248) (.ref 99)
def qeC : Obj := Hd.oN JD 316
def qet : Obj := Hd.oG "joined_bank" jp
def qcx : Obj := Hd.oK "joined_bank" 313 49 3 181 101 102 .none (.ref 103) (.ref 104) 105 324 325
def qc1 : Obj := Hd.oF "joined_bank" jp (.str "bankwalk.dealings" 248) (.ref 106)
def qfa : Obj := Hd.oN W5 330
def qe6 : Obj := Hd.oG "bank_in" ZL
def qdI : Obj := Hd.oK "bank_in" 327 53 2 181 108 109 .none (.ref 110) (.ref 111) 112 333 334
def qdl : Obj := Hd.oF "bank_in" ZL (.str "bankwalk.dealings" 248) (.ref 113)
def qds (P : Params) : Obj := Hd.oD P 4 [(.str "row" 338,.ref 116),(.str "column" 341,.ref 117),(.str "slant" 344,.ref 118),(.str "back" 347,.ref 119)]
def qco : Obj := Hd.oT [.int (0) 339,.int (1) 340]
def qcv : Obj := Hd.oT [.int (1) 342,.int (0) 343]
def qcL : Obj := Hd.oT [.int (1) 345,.int (1) 346]
def qc0 : Obj := Hd.oT [.int (1) 348,.int (-1) 350]
def qee : Obj := Hd.oG "strung" JU
def qdB : Obj := Hd.oK "strung" 356 66 3 181 120 121 .none .none .none 122 359 360
def qdc : Obj := Hd.oF "strung" JU (.str "bankwalk.walks" 336) (.ref 123)
def qgT (P : Params) : PySem.W.BT := (Hd.nd (PySem.W.boot_o_0 P) (Hd.nd (PySem.W.boot_o_1 P) (Hd.nd (qi0 P) (Hd.nd (PySem.W.boot_o_7 P) (Hd.nd zn (Hd.nd qeI (Hd.lf qew) (Hd.lf jG)) (Hd.nd qd5 (Hd.lf qgy) (Hd.lf zn))) (Hd.nd jG (Hd.nd zn (Hd.lf zn) (Hd.lf qeC)) (Hd.nd qeW (Hd.lf qdy) (Hd.lf qc0)))) (Hd.nd zn (Hd.nd qiI (Hd.nd qcn (Hd.lf qc6) (Hd.lf qc8)) (Hd.nd (qel P) (Hd.lf jG) (Hd.lf (qds P)))) (Hd.nd qdf (Hd.nd zn (Hd.lf zn) (Hd.lf qc1)) (Hd.nd qgD (Hd.lf qd0) (Hd.lf qdB))))) (Hd.nd (PySem.W.boot_o_5 P) (Hd.nd (PySem.W.boot_o_9 P) (Hd.nd qiQ (Hd.nd qgu (Hd.lf qd1) (Hd.lf zn)) (Hd.nd qdR (Hd.lf qcN) (Hd.lf qdI))) (Hd.nd zn (Hd.nd qgC (Hd.lf qcs) (Hd.lf qet)) (Hd.nd (qfL P) (Hd.lf zn) (Hd.lf jG)))) (Hd.nd qg5 (Hd.nd qde (Hd.nd qaj (Hd.lf jG) (Hd.lf zn)) (Hd.nd jG (Hd.lf zn) (Hd.lf qcv))) (Hd.nd zn (Hd.nd qeU (Hd.lf qf0) (Hd.lf jG)) (Hd.nd zn (Hd.lf qcP) .nil))))) (Hd.nd (PySem.W.boot_o_2 P) (Hd.nd (PySem.W.boot_o_4 P) (Hd.nd (PySem.W.boot_o_8 P) (Hd.nd jG (Hd.nd zn (Hd.lf zn) (Hd.lf qd7)) (Hd.nd qeJ (Hd.lf qdo) (Hd.lf qe6))) (Hd.nd qfC (Hd.nd jG (Hd.lf qdZ) (Hd.lf zn)) (Hd.nd zn (Hd.lf qcG) (Hd.lf zn)))) (Hd.nd qjc (Hd.nd qhC (Hd.nd qfo (Hd.lf zn) (Hd.lf qc4)) (Hd.nd zn (Hd.lf qge) (Hd.lf qco))) (Hd.nd qcM (Hd.nd (qeR P) (Hd.lf jG) (Hd.lf zn)) (Hd.nd qe4 (Hd.lf qcQ) (Hd.lf qdc))))) (Hd.nd (PySem.W.boot_o_6 P) (Hd.nd (PySem.W.boot_o_10 P) (Hd.nd zn (Hd.nd qcl (Hd.lf qdq) (Hd.lf qgB)) (Hd.nd qaj (Hd.lf zn) (Hd.lf qdl))) (Hd.nd qfd (Hd.nd qgh (Hd.lf qc5) (Hd.lf qcx)) (Hd.nd qgE (Hd.lf jG) (Hd.lf qee)))) (Hd.nd qg3 (Hd.nd zn (Hd.nd (qev P) (Hd.lf qeY) (Hd.lf jG)) (Hd.nd qfr (Hd.lf qgW) (Hd.lf qcL))) (Hd.nd jG (Hd.nd qek (Hd.lf zn) (Hd.lf qfa)) (Hd.nd jG (Hd.lf zn) .nil))))))
abbrev qbD : List Stmt := (MO.drop 0).take 19
def qbP (os : OsState) (w : World) : Prop := PySem.W.segRunT treeTable PySem.Challenge.pw_bankwalk_k16_clashes_told w 11 (some (Value.ref 6)) 1 898 (⟨qf5 w.params,15,{ },#[],{ },187,os⟩ : PySem.W.SharedT) (PySem.W.piecesOf qbD qfq CF ⟨0,0,0,0⟩ qgb) = some (.next,(⟨qgT w.params,125,{ },#[],{ },362,os⟩ : PySem.W.SharedT),CF,⟨66,0,67,55⟩)
set_option maxRecDepth 100000 in
set_option maxHeartbeats 0 in
theorem qfz (w : World) (os : OsState) : qbP os w :=
 PySem.W.byRow2 "special-get-raises" (P := qbP os) (fun w => show _ = _ by kernel_rfl) (fun w => show _ = _ by kernel_rfl) w
def qgI (P : Params) : Obj := Hd.oD P 53 [(.str "__name__" 165,.str "law_bankwalk_k16_clashes_told" 413),(.str "__doc__" 166,.none),(.str "__package__" 167,.none),(.str "__loader__" 168,.builtin "__main__.__loader__#opaque"),(.str "__spec__" 169,.none),(.str "__annotations__" 170,.ref 6),(.str "__builtins__" 171,.ref 4),(.str "__file__" 173,.str "/claim/cut.py" 172),(.str "__cached__" 174,.none),(.str "is_number" 195,.ref 21),(.str "is_pair" 202,.ref 28),(.str "first_alike" 211,.ref 35),(.str "BankError" 231,.ref 45),(.str "NoStart" 247,.ref 58),(.str "size_of" 263,.ref 67),(.str "number_of" 274,.ref 74),(.str "is_word" 285,.ref 81),(.str "odd_in_common" 295,.ref 88),(.str "bits_bank" 301,.ref 93),(.str "parted" 312,.ref 100),(.str "joined_bank" 326,.ref 107),(.str "bank_in" 335,.ref 114),(.str "STRIDES" 355,.ref 115),(.str "strung" 361,.ref 124),(.str "cells_of" 367,.ref 129),(.str "starts" 373,.ref 134),(.str "shifted" 379,.ref 139),(.str "is_start" 385,.ref 144),(.str "words_of" 394,.ref 151),(.str "banks_from" 402,.ref 156),(.str "clash" 412,.ref 163),(.str "_law_mix" 423,.ref 170),(.str "_law_left" 433,.ref 177),(.str "_law_pick" 442,.ref 184),(.str "_law_sides" 452,.ref 191),(.str "_law_gcd" 460,.ref 198),(.str "_law_skew" 471,.ref 205),(.str "_law_rests" 483,.ref 212),(.str "_law_bits" 489,.ref 217),(.str "_law_table" 495,.ref 222),(.str "_law_small" 501,.ref 227),(.str "_law_dealing" 511,.ref 234),(.str "_law_size" 517,.ref 239),(.str "_law_odd" 526,.ref 246),(.str "_law_bank" 532,.ref 251),(.str "_law_many" 539,.ref 258),(.str "_law_walk" 556,.ref 265),(.str "_law_cells" 562,.ref 270),(.str "_law_starts" 568,.ref 275),(.str "_law_from" 574,.ref 280),(.str "_law_due" 580,.ref 285),(.str "_law_same" 586,.ref 290),(.str "law" 592,.ref 295)]
def qhm : Obj := ⟨.none,none,.fields #[.int (2) 0,.int (0) 0,.ref 20,.int (4) 0,.int (0) 0,.ref 27,.int (6) 0,.int (0) 0,.ref 34,.int (13) 0,.int (0) 0,.ref 41,.int (15) 0,.int (0) 0,.ref 54,.int (18) 0,.int (0) 0,.ref 66,.int (29) 0,.int (0) 0,.ref 73,.int (32) 0,.int (0) 0,.ref 80,.int (37) 0,.int (0) 0,.ref 87,.int (44) 0,.int (0) 0,.ref 92,.int (46) 0,.int (0) 0,.ref 99,.int (49) 0,.int (0) 0,.ref 106,.int (53) 0,.int (0) 0,.ref 113,.int (66) 0,.int (0) 0,.ref 123,.int (68) 0,.int (0) 0,.ref 128,.int (78) 0,.int (0) 0,.ref 133,.int (84) 0,.int (0) 0,.ref 138,.int (86) 0,.int (0) 0,.ref 143,.int (88) 0,.int (0) 0,.ref 150,.int (93) 0,.int (0) 0,.ref 155,.int (95) 0,.int (0) 0,.ref 162,.int (102) 0,.int (0) 0,.ref 169,.int (105) 0,.int (0) 0,.ref 176,.int (109) 0,.int (0) 0,.ref 183,.int (116) 0,.int (0) 0,.ref 190,.int (120) 0,.int (0) 0,.ref 197,.int (124) 0,.int (0) 0,.ref 204,.int (129) 0,.int (0) 0,.ref 211,.int (137) 0,.int (0) 0,.ref 216,.int (142) 0,.int (0) 0,.ref 221,.int (147) 0,.int (0) 0,.ref 226,.int (165) 0,.int (0) 0,.ref 233,.int (182) 0,.int (0) 0,.ref 238,.int (192) 0,.int (0) 0,.ref 245,.int (197) 0,.int (0) 0,.ref 250,.int (210) 0,.int (0) 0,.ref 257,.int (212) 0,.int (0) 0,.ref 264,.int (231) 0,.int (0) 0,.ref 269,.int (241) 0,.int (0) 0,.ref 274,.int (249) 0,.int (0) 0,.ref 279,.int (251) 0,.int (0) 0,.ref 284,.int (259) 0,.int (0) 0,.ref 289,.int (267) 0,.int (0) 0,.ref 294],#[]⟩
def qhz : Obj := Hd.oG "cells_of" QN
def qgs : Obj := Hd.oK "cells_of" 362 68 1 181 125 126 .none .none .none 127 365 366
def qfs : Obj := Hd.oF "cells_of" QN (.str "bankwalk.walks" 336) (.ref 128)
def qhg : Obj := Hd.oG "starts" JZ
def qeS : Obj := Hd.oK "starts" 368 78 2 181 130 131 .none .none .none 132 371 372
def qey : Obj := Hd.oF "starts" JZ (.str "bankwalk.walks" 336) (.ref 133)
def qil : Obj := Hd.oG "shifted" ZD
def qd6 : Obj := Hd.oK "shifted" 374 84 2 181 135 136 .none .none .none 137 377 378
def qfM : Obj := Hd.oF "shifted" ZD (.str "bankwalk.walks" 336) (.ref 138)
def qhD : Obj := Hd.oG "is_start" QG
def qgV : Obj := Hd.oK "is_start" 380 86 3 181 140 141 .none .none .none 142 383 384
def qen : Obj := Hd.oF "is_start" QG (.str "bankwalk.walks" 336) (.ref 143)
def qh2 : Obj := Hd.oN JL 389
def qhv : Obj := Hd.oG "words_of" QQ
def qeo : Obj := Hd.oK "words_of" 386 88 3 181 145 146 .none (.ref 147) (.ref 148) 149 392 393
def qeM : Obj := Hd.oF "words_of" QQ (.str "bankwalk.walks" 336) (.ref 150)
def qhH : Obj := Hd.oG "banks_from" jB
def qer : Obj := Hd.oK "banks_from" 397 93 3 181 152 153 .none .none .none 154 400 401
def qgp : Obj := Hd.oF "banks_from" jB (.str "bankwalk.clashes" 395) (.ref 155)
def qh8 : Obj := Hd.oN SV 406
def qh0 : Obj := Hd.oG "clash" V9
def qfB : Obj := Hd.oK "clash" 403 95 2 181 157 158 .none (.ref 159) (.ref 160) 161 410 411
def qbB : Obj := Hd.oF "clash" V9 (.str "bankwalk.clashes" 395) (.ref 162)
def qeQ : Obj := Hd.oN WP 418
def qfI : Obj := Hd.oG "_law_mix" ZK
def qbY : Obj := Hd.oK "_law_mix" 415 102 2 181 164 165 .none (.ref 166) (.ref 167) 168 421 422
def qb6 : Obj := Hd.oF "_law_mix" ZK (.str "law_bankwalk_k16_clashes_told" 413) (.ref 169)
def qgr : Obj := Hd.oN UW 427
def qex : Obj := Hd.oG "_law_left" QM
def qbn : Obj := Hd.oK "_law_left" 424 105 2 181 171 172 .none (.ref 173) (.ref 174) 175 431 432
def qbo : Obj := Hd.oF "_law_left" QM (.str "law_bankwalk_k16_clashes_told" 413) (.ref 176)
def qf2 : Obj := Hd.oN U9 437
def qgt : Obj := Hd.oG "_law_pick" QH
def qbm : Obj := Hd.oK "_law_pick" 434 109 2 181 178 179 .none (.ref 180) (.ref 181) 182 440 441
def qbO : Obj := Hd.oF "_law_pick" QH (.str "law_bankwalk_k16_clashes_told" 413) (.ref 183)
def qeT : Obj := Hd.oN YW 446
def qeu : Obj := Hd.oG "_law_sides" jR
def qbA : Obj := Hd.oK "_law_sides" 443 116 1 181 185 186 .none (.ref 187) (.ref 188) 189 450 451
def qbt : Obj := Hd.oF "_law_sides" jR (.str "law_bankwalk_k16_clashes_told" 413) (.ref 190)
def qe0 : Obj := Hd.oN D3 456
def qeL : Obj := Hd.oG "_law_gcd" ZG
def qbF : Obj := Hd.oK "_law_gcd" 453 120 2 181 192 193 .none (.ref 194) (.ref 195) 196 458 459
def qcb : Obj := Hd.oF "_law_gcd" ZG (.str "law_bankwalk_k16_clashes_told" 413) (.ref 197)
def qd4 : Obj := Hd.oN EA 464
def qfx : Obj := Hd.oG "_law_skew" QI
def qbS : Obj := Hd.oK "_law_skew" 461 124 1 181 199 200 .none (.ref 201) (.ref 202) 203 469 470
def qbW : Obj := Hd.oF "_law_skew" QI (.str "law_bankwalk_k16_clashes_told" 413) (.ref 204)
def qfl : Obj := Hd.oN Y5 475
def qfT : Obj := Hd.oG "_law_rests" jV
def qb9 : Obj := Hd.oK "_law_rests" 472 129 1 181 206 207 .none (.ref 208) (.ref 209) 210 481 482
def qbT : Obj := Hd.oF "_law_rests" jV (.str "law_bankwalk_k16_clashes_told" 413) (.ref 211)
def qgc : Obj := Hd.oG "_law_bits" QV
def qbe : Obj := Hd.oK "_law_bits" 484 137 2 181 213 214 .none .none .none 215 487 488
def qbI : Obj := Hd.oF "_law_bits" QV (.str "law_bankwalk_k16_clashes_told" 413) (.ref 216)
def qeD : Obj := Hd.oG "_law_table" jP
def qbQ : Obj := Hd.oK "_law_table" 490 142 1 181 218 219 .none .none .none 220 493 494
def qca : Obj := Hd.oF "_law_table" jP (.str "law_bankwalk_k16_clashes_told" 413) (.ref 221)
def qdS : Obj := Hd.oG "_law_small" jX
def qbq : Obj := Hd.oK "_law_small" 496 147 1 181 223 224 .none .none .none 225 499 500
def qcg : Obj := Hd.oF "_law_small" jX (.str "law_bankwalk_k16_clashes_told" 413) (.ref 226)
def qgx : Obj := Hd.oN ZY 505
def qfy : Obj := Hd.oG "_law_dealing" jm
def qb1 : Obj := Hd.oK "_law_dealing" 502 165 1 181 228 229 .none (.ref 230) (.ref 231) 232 509 510
def qbg : Obj := Hd.oF "_law_dealing" jm (.str "law_bankwalk_k16_clashes_told" 413) (.ref 233)
def qem : Obj := Hd.oG "_law_size" QF
def qbs : Obj := Hd.oK "_law_size" 512 182 1 181 235 236 .none .none .none 237 515 516
def qb4 : Obj := Hd.oF "_law_size" QF (.str "law_bankwalk_k16_clashes_told" 413) (.ref 238)
def qes : Obj := Hd.oN W1 521
def qfm : Obj := Hd.oG "_law_odd" ZE
def qbK : Obj := Hd.oK "_law_odd" 518 192 1 181 240 241 .none (.ref 242) (.ref 243) 244 524 525
def qcd : Obj := Hd.oF "_law_odd" ZE (.str "law_bankwalk_k16_clashes_told" 413) (.ref 245)
def qdP : Obj := Hd.oG "_law_bank" QO
def qbJ : Obj := Hd.oK "_law_bank" 527 197 3 181 247 248 .none .none .none 249 530 531
def qci : Obj := Hd.oF "_law_bank" QO (.str "law_bankwalk_k16_clashes_told" 413) (.ref 250)
def qd8 : Obj := Hd.oN UP 536
def qdV : Obj := Hd.oG "_law_many" QJ
def qbH : Obj := Hd.oK "_law_many" 533 210 1 181 252 253 .none (.ref 254) (.ref 255) 256 537 538
def qbp : Obj := Hd.oF "_law_many" QJ (.str "law_bankwalk_k16_clashes_told" 413) (.ref 257)
def qeG : Obj := Hd.oN U0 543
def qgf : Obj := Hd.oG "_law_walk" QW
def qch : Obj := Hd.oK "_law_walk" 540 212 1 181 259 260 .none (.ref 261) (.ref 262) 263 554 555
def qby : Obj := Hd.oF "_law_walk" QW (.str "law_bankwalk_k16_clashes_told" 413) (.ref 264)
def qgd : Obj := Hd.oG "_law_cells" jZ
def qbG : Obj := Hd.oK "_law_cells" 557 231 1 181 266 267 .none .none .none 268 560 561
def qbc : Obj := Hd.oF "_law_cells" jZ (.str "law_bankwalk_k16_clashes_told" 413) (.ref 269)
def qgK : Obj := Hd.oG "_law_starts" jJ
def qbR : Obj := Hd.oK "_law_starts" 563 241 2 181 271 272 .none .none .none 273 566 567
def qbM : Obj := Hd.oF "_law_starts" jJ (.str "law_bankwalk_k16_clashes_told" 413) (.ref 274)
def qfw : Obj := Hd.oG "_law_from" QT
def qbr : Obj := Hd.oK "_law_from" 569 249 3 181 276 277 .none .none .none 278 572 573
def qbz : Obj := Hd.oF "_law_from" QT (.str "law_bankwalk_k16_clashes_told" 413) (.ref 279)
def qdQ : Obj := Hd.oG "_law_due" ZO
def qbN : Obj := Hd.oK "_law_due" 575 251 2 181 281 282 .none .none .none 283 578 579
def qbL : Obj := Hd.oF "_law_due" ZO (.str "law_bankwalk_k16_clashes_told" 413) (.ref 284)
def qff : Obj := Hd.oG "_law_same" QP
def qb0 : Obj := Hd.oK "_law_same" 581 259 2 181 286 287 .none .none .none 288 584 585
def qbk : Obj := Hd.oF "_law_same" QP (.str "law_bankwalk_k16_clashes_told" 413) (.ref 289)
def qfj : Obj := Hd.oG "law" JN
def qck : Obj := Hd.oK "law" 587 267 1 181 291 292 .none .none .none 293 590 591
def qbf : Obj := Hd.oF "law" JN (.str "law_bankwalk_k16_clashes_told" 413) (.ref 294)
def qc2 (P : Params) : PySem.W.BT := (Hd.nd (PySem.W.boot_o_0 P) (Hd.nd (PySem.W.boot_o_1 P) (Hd.nd (qgI P) (Hd.nd (PySem.W.boot_o_7 P) (Hd.nd zn (Hd.nd qeI (Hd.nd qew (Hd.nd qhz (Hd.lf zn) .nil) (Hd.lf qbt)) (Hd.nd jG (Hd.nd qh8 (Hd.lf jG) .nil) (Hd.lf zn))) (Hd.nd qd5 (Hd.nd qgy (Hd.nd qgV (Hd.lf zn) .nil) (Hd.lf jG)) (Hd.nd zn (Hd.lf qex) (Hd.lf qb4)))) (Hd.nd jG (Hd.nd zn (Hd.nd zn (Hd.nd zn (Hd.lf qgf) .nil) (Hd.lf zn)) (Hd.nd qeC (Hd.nd zn (Hd.lf qbf) .nil) (Hd.lf zn))) (Hd.nd qeW (Hd.nd qdy (Hd.nd qeM (Hd.lf qbr) .nil) (Hd.lf qgc)) (Hd.nd qc0 (Hd.lf qbm) (Hd.lf zn))))) (Hd.nd zn (Hd.nd qiI (Hd.nd qcn (Hd.nd qc6 (Hd.nd jG (Hd.lf zn) .nil) (Hd.lf zn)) (Hd.nd qc8 (Hd.nd qbB (Hd.lf zn) .nil) (Hd.lf qcg))) (Hd.nd (qel P) (Hd.nd jG (Hd.nd qh2 (Hd.lf qbM) .nil) (Hd.lf qb9)) (Hd.nd (qds P) (Hd.lf jG) (Hd.lf zn)))) (Hd.nd qdf (Hd.nd zn (Hd.nd zn (Hd.nd qfM (Hd.lf jG) .nil) (Hd.lf qfx)) (Hd.nd qc1 (Hd.lf zn) (Hd.lf zn))) (Hd.nd qgD (Hd.nd qd0 (Hd.nd qer (Hd.lf qdQ) .nil) (Hd.lf jG)) (Hd.nd qdB (Hd.lf qeT) (Hd.lf qci)))))) (Hd.nd (PySem.W.boot_o_5 P) (Hd.nd (PySem.W.boot_o_9 P) (Hd.nd qiQ (Hd.nd qgu (Hd.nd qd1 (Hd.nd qfs (Hd.lf qbH) .nil) (Hd.lf jG)) (Hd.nd zn (Hd.nd qh0 (Hd.lf qb0) .nil) (Hd.lf qdS))) (Hd.nd qdR (Hd.nd qcN (Hd.nd zn (Hd.lf qgK) .nil) (Hd.lf zn)) (Hd.nd qdI (Hd.lf qbo) (Hd.lf jG)))) (Hd.nd zn (Hd.nd qgC (Hd.nd qcs (Hd.nd qil (Hd.lf qby) .nil) (Hd.lf qd4)) (Hd.nd qet (Hd.lf qbY) (Hd.lf qb1))) (Hd.nd (qfL P) (Hd.nd zn (Hd.nd jG (Hd.lf zn) .nil) (Hd.lf qbI)) (Hd.nd jG (Hd.lf zn) (Hd.lf qdP))))) (Hd.nd qg5 (Hd.nd qde (Hd.nd qaj (Hd.nd jG (Hd.nd qeS (Hd.lf qeG) .nil) (Hd.lf qbF)) (Hd.nd zn (Hd.nd jG (Hd.lf qfj) .nil) (Hd.lf jG))) (Hd.nd jG (Hd.nd zn (Hd.nd qhv (Hd.lf jG) .nil) (Hd.lf zn)) (Hd.nd qcv (Hd.lf zn) (Hd.lf qbK)))) (Hd.nd zn (Hd.nd qeU (Hd.nd qf0 (Hd.nd jG (Hd.lf qbG) .nil) (Hd.lf qbW)) (Hd.nd jG (Hd.lf qgr) (Hd.lf qem))) (Hd.nd zn (Hd.nd qcP (Hd.nd zn (Hd.lf qbL) .nil) (Hd.lf qbQ)) (Hd.nd zn (Hd.lf qeu) (Hd.lf jG))))))) (Hd.nd (PySem.W.boot_o_2 P) (Hd.nd (PySem.W.boot_o_4 P) (Hd.nd (PySem.W.boot_o_8 P) (Hd.nd jG (Hd.nd zn (Hd.nd zn (Hd.nd qgs (Hd.lf qdV) .nil) (Hd.lf zn)) (Hd.nd qd7 (Hd.nd zn (Hd.lf qff) .nil) (Hd.lf jG))) (Hd.nd qeJ (Hd.nd qdo (Hd.nd qen (Hd.lf jG) .nil) (Hd.lf qfl)) (Hd.nd qe6 (Hd.lf qbn) (Hd.lf zn)))) (Hd.nd qfC (Hd.nd jG (Hd.nd qdZ (Hd.nd jG (Hd.lf qch) .nil) (Hd.lf jG)) (Hd.nd zn (Hd.lf qfI) (Hd.lf qfy))) (Hd.nd zn (Hd.nd qcG (Hd.nd zn (Hd.lf qbz) .nil) (Hd.lf qbe)) (Hd.nd zn (Hd.lf qbO) (Hd.lf jG))))) (Hd.nd qhm (Hd.nd qhC (Hd.nd qfo (Hd.nd zn (Hd.nd qhg (Hd.lf jG) .nil) (Hd.lf qeL)) (Hd.nd qc4 (Hd.nd zn (Hd.lf jG) .nil) (Hd.lf zn))) (Hd.nd zn (Hd.nd qge (Hd.nd zn (Hd.lf zn) .nil) (Hd.lf qbT)) (Hd.nd qco (Hd.lf qf2) (Hd.lf qfm)))) (Hd.nd qcM (Hd.nd (qeR P) (Hd.nd jG (Hd.nd zn (Hd.lf qgd) .nil) (Hd.lf qbS)) (Hd.nd zn (Hd.lf jG) (Hd.lf jG))) (Hd.nd qe4 (Hd.nd qcQ (Hd.nd qgp (Hd.lf qbN) .nil) (Hd.lf qeD)) (Hd.nd qdc (Hd.lf zn) (Hd.lf zn)))))) (Hd.nd (PySem.W.boot_o_6 P) (Hd.nd (PySem.W.boot_o_10 P) (Hd.nd zn (Hd.nd qcl (Hd.nd qdq (Hd.nd zn (Hd.lf qbp) .nil) (Hd.lf qe0)) (Hd.nd qgB (Hd.nd qfB (Hd.lf qbk) .nil) (Hd.lf qbq))) (Hd.nd qaj (Hd.nd zn (Hd.nd jG (Hd.lf qbR) .nil) (Hd.lf qfT)) (Hd.nd qdl (Hd.lf zn) (Hd.lf qes)))) (Hd.nd qfd (Hd.nd qgh (Hd.nd qc5 (Hd.nd qd6 (Hd.lf zn) .nil) (Hd.lf zn)) (Hd.nd qcx (Hd.lf qb6) (Hd.lf qbg))) (Hd.nd qgE (Hd.nd jG (Hd.nd qhH (Hd.lf jG) .nil) (Hd.lf zn)) (Hd.nd qee (Hd.lf jG) (Hd.lf qbJ))))) (Hd.nd qg3 (Hd.nd zn (Hd.nd (qev P) (Hd.nd qeY (Hd.nd qey (Hd.lf zn) .nil) (Hd.lf qcb)) (Hd.nd jG (Hd.nd qeQ (Hd.lf qck) .nil) (Hd.lf qgx))) (Hd.nd qfr (Hd.nd qgW (Hd.nd qeo (Hd.lf qfw) .nil) (Hd.lf jG)) (Hd.nd qcL (Hd.lf qgt) (Hd.lf qcd)))) (Hd.nd jG (Hd.nd qek (Hd.nd zn (Hd.nd qhD (Hd.lf qbc) .nil) (Hd.lf zn)) (Hd.nd qfa (Hd.lf zn) (Hd.lf qbs))) (Hd.nd jG (Hd.nd zn (Hd.nd jG (Hd.lf zn) .nil) (Hd.lf qca)) (Hd.nd jG (Hd.lf qbA) (Hd.lf qd8))))))))
abbrev qb8 : List Stmt := (MO.drop 19).take 31
set_option maxRecDepth 100000 in
set_option maxHeartbeats 0 in
theorem qec (w : World) (os : OsState) : PySem.W.segRunT treeTable PySem.Challenge.pw_bankwalk_k16_clashes_told w 11 (some (Value.ref 6)) 1 852 (⟨qgT w.params,125,{ },#[],{ },362,os⟩ : PySem.W.SharedT) (PySem.W.piecesOf qb8 qfq CF ⟨66,0,67,55⟩ qgb) = some (.next,(⟨qc2 w.params,296,{ },#[],{ },593,os⟩ : PySem.W.SharedT),CF,⟨267,0,277,15⟩) := by kernel_rfl
abbrev qdj (P : Params) : Heap := PySem.W.absHeap (qc2 P) 296 { }
def Kf (P : Params) : PySem.W.Frag := [(3,qgI P),(20,qhC),(21,qde),(27,qdf),(28,qcM),(34,qcl),(35,qcn),(66,qdq),(67,qc6),(73,qcs),(74,qc5),(80,qdo),(81,qcN),(87,qdy),(88,qcG),(92,qcQ),(93,qcP),(99,qc8),(100,qc4),(106,qcx),(107,qc1),(113,qdI),(114,qdl),(115,qds P),(116,qco),(117,qcv),(118,qcL),(119,qc0),(123,qdB),(124,qdc),(128,qgs),(129,qfs),(133,qeS),(134,qey),(138,qd6),(139,qfM),(143,qgV),(144,qen),(150,qeo),(151,qeM),(155,qer),(156,qgp),(162,qfB),(163,qbB),(169,qbY),(170,qb6),(176,qbn),(177,qbo),(183,qbm),(184,qbO),(190,qbA),(191,qbt),(197,qbF),(198,qcb),(204,qbS),(205,qbW),(211,qb9),(212,qbT),(216,qbe),(217,qbI),(221,qbQ),(222,qca),(226,qbq),(227,qcg),(233,qb1),(234,qbg),(238,qbs),(239,qb4),(245,qbK),(246,qcd),(250,qbJ),(251,qci),(257,qbH),(258,qbp),(264,qch),(265,qby),(269,qbG),(270,qbc),(274,qbR),(275,qbM),(279,qbr),(280,qbz),(284,qbN),(285,qbL),(289,qb0),(290,qbk),(294,qck),(295,qbf)]
theorem qfQ {l : PySem.W.OpenLaw} {w : World} {h : Heap} {mg : Str → Option Value} {fa : Addr} (X : (Kf w.params).In h) (G : h.Ns mainGlobals mg) (hfa : mg "law" = some (.ref fa)) :
  ∃ fd : FuncData,(∀ (s : Shared) (v : Value),BindsTo s fd ⟨[v],[]⟩ [("_law_script",v)])∧∀ base : Heap,(Kf w.params).In base → base.Ns mainGlobals mg → FnOk l.prog w (Kf w.params) mg base CX0 10 fa fd ["_law_script"] (lSp (Kf w.params) RX) := by
 have e := hfa.symm.trans (Hd.zB X G "law" (.ref 295) (by kernel_rfl))
 cases e
 have F0 := Hd.zI (K := Kf w.params) "is_number" jO 21 (.str "bankwalk.basics" 187) (.ref 20) (by kernel_rfl) (by kernel_rfl) (by kernel_rfl)
 have b0 := F0.binds (ps := VF) fun _ _ _ _ _ _ us hl => by obtain ⟨_,rfl⟩ := Pu.RJ hl;rfl
 have m0 := Hd.zB X G "is_number" (.ref 21) (by kernel_rfl)
 have F1 := Hd.zI (K := Kf w.params) "is_pair" ZM 28 (.str "bankwalk.basics" 187) (.ref 27) (by kernel_rfl) (by kernel_rfl) (by kernel_rfl)
 have b1 := F1.binds (ps := WJ) fun _ _ _ _ _ _ us hl => by obtain ⟨_,rfl⟩ := Pu.RJ hl;rfl
 have m1 := Hd.zB X G "is_pair" (.ref 28) (by kernel_rfl)
 have F2 := Hd.zI (K := Kf w.params) "first_alike" jk 35 (.str "bankwalk.basics" 187) (.ref 34) (by kernel_rfl) (by kernel_rfl) (by kernel_rfl)
 have b2 := F2.binds (ps := ZV) fun _ _ _ _ _ _ us hl => by obtain ⟨_,rfl⟩ := Pu.RJ hl;rfl
 have m2 := Hd.zB X G "first_alike" (.ref 35) (by kernel_rfl)
 have F3 := Hd.zI (K := Kf w.params) "size_of" ZC 67 (.str "bankwalk.dealings" 248) (.ref 66) (by kernel_rfl) (by kernel_rfl) (by kernel_rfl)
 have b3 := F3.binds (ps := WU) fun _ _ _ _ _ _ us hl => by obtain ⟨_,rfl⟩ := Pu.RJ hl;rfl
 have m3 := Hd.zB X G "size_of" (.ref 67) (by kernel_rfl)
 have F4 := Hd.zI (K := Kf w.params) "number_of" jQ 74 (.str "bankwalk.dealings" 248) (.ref 73) (by kernel_rfl) (by kernel_rfl) (by kernel_rfl)
 have b4 := F4.binds (ps := Y8) fun _ _ _ _ _ _ us hl => by obtain ⟨_,_,rfl⟩ := Pu.RK hl;rfl
 have m4 := Hd.zB X G "number_of" (.ref 74) (by kernel_rfl)
 have F5 := Hd.zI (K := Kf w.params) "is_word" ZP 81 (.str "bankwalk.dealings" 248) (.ref 80) (by kernel_rfl) (by kernel_rfl) (by kernel_rfl)
 have b5 := F5.binds (ps := D6) fun _ _ _ _ _ _ us hl => by obtain ⟨_,_,rfl⟩ := Pu.RK hl;rfl
 have m5 := Hd.zB X G "is_word" (.ref 81) (by kernel_rfl)
 have F6 := Hd.zI (K := Kf w.params) "odd_in_common" zP 88 (.str "bankwalk.dealings" 248) (.ref 87) (by kernel_rfl) (by kernel_rfl) (by kernel_rfl)
 have b6 := F6.binds (ps := QR) fun _ _ _ _ _ _ us hl => by obtain ⟨_,_,rfl⟩ := Pu.RK hl;rfl
 have m6 := Hd.zB X G "odd_in_common" (.ref 88) (by kernel_rfl)
 have F7 := Hd.zI (K := Kf w.params) "bits_bank" jT 93 (.str "bankwalk.dealings" 248) (.ref 92) (by kernel_rfl) (by kernel_rfl) (by kernel_rfl)
 have b7 := F7.binds (ps := Y0) fun _ _ _ _ _ _ us hl => by obtain ⟨_,_,rfl⟩ := Pu.RK hl;rfl
 have m7 := Hd.zB X G "bits_bank" (.ref 93) (by kernel_rfl)
 have F8 := Hd.zI (K := Kf w.params) "parted" JS 100 (.str "bankwalk.dealings" 248) (.ref 99) (by kernel_rfl) (by kernel_rfl) (by kernel_rfl)
 have b8 := F8.binds (ps := CH) fun _ _ _ _ _ _ us hl => by obtain ⟨_,_,_,rfl⟩ := Pu.qcc hl;rfl
 have m8 := Hd.zB X G "parted" (.ref 100) (by kernel_rfl)
 have F9 := Hd.zI (K := Kf w.params) "joined_bank" jp 107 (.str "bankwalk.dealings" 248) (.ref 106) (by kernel_rfl) (by kernel_rfl) (by kernel_rfl)
 have b9 := F9.binds (ps := JC) fun _ _ _ _ _ _ us hl => by obtain ⟨_,_,_,rfl⟩ := Pu.qcc hl;rfl
 have m9 := Hd.zB X G "joined_bank" (.ref 107) (by kernel_rfl)
 have F10 := Hd.zI (K := Kf w.params) "bank_in" ZL 114 (.str "bankwalk.dealings" 248) (.ref 113) (by kernel_rfl) (by kernel_rfl) (by kernel_rfl)
 have b10 := F10.binds (ps := W7) fun _ _ _ _ _ _ us hl => by obtain ⟨_,_,rfl⟩ := Pu.RK hl;rfl
 have m10 := Hd.zB X G "bank_in" (.ref 114) (by kernel_rfl)
 have F11 := Hd.zI (K := Kf w.params) "strung" JU 124 (.str "bankwalk.walks" 336) (.ref 123) (by kernel_rfl) (by kernel_rfl) (by kernel_rfl)
 have b11 := F11.binds (ps := CV) fun _ _ _ _ _ _ us hl => by obtain ⟨_,_,_,rfl⟩ := Pu.qcc hl;rfl
 have m11 := Hd.zB X G "strung" (.ref 124) (by kernel_rfl)
 have F12 := Hd.zI (K := Kf w.params) "cells_of" QN 129 (.str "bankwalk.walks" 336) (.ref 128) (by kernel_rfl) (by kernel_rfl) (by kernel_rfl)
 have b12 := F12.binds (ps := UJ) fun _ _ _ _ _ _ us hl => by obtain ⟨_,rfl⟩ := Pu.RJ hl;rfl
 have m12 := Hd.zB X G "cells_of" (.ref 129) (by kernel_rfl)
 have F13 := Hd.zI (K := Kf w.params) "starts" JZ 134 (.str "bankwalk.walks" 336) (.ref 133) (by kernel_rfl) (by kernel_rfl) (by kernel_rfl)
 have b13 := F13.binds (ps := CQ) fun _ _ _ _ _ _ us hl => by obtain ⟨_,_,rfl⟩ := Pu.RK hl;rfl
 have m13 := Hd.zB X G "starts" (.ref 134) (by kernel_rfl)
 have F14 := Hd.zI (K := Kf w.params) "shifted" ZD 139 (.str "bankwalk.walks" 336) (.ref 138) (by kernel_rfl) (by kernel_rfl) (by kernel_rfl)
 have b14 := F14.binds (ps := WY) fun _ _ _ _ _ _ us hl => by obtain ⟨_,_,rfl⟩ := Pu.RK hl;rfl
 have m14 := Hd.zB X G "shifted" (.ref 139) (by kernel_rfl)
 have F15 := Hd.zI (K := Kf w.params) "is_start" QG 144 (.str "bankwalk.walks" 336) (.ref 143) (by kernel_rfl) (by kernel_rfl) (by kernel_rfl)
 have b15 := F15.binds (ps := UQ) fun _ _ _ _ _ _ us hl => by obtain ⟨_,_,_,rfl⟩ := Pu.qcc hl;rfl
 have m15 := Hd.zB X G "is_start" (.ref 144) (by kernel_rfl)
 have F16 := Hd.zI (K := Kf w.params) "words_of" QQ 151 (.str "bankwalk.walks" 336) (.ref 150) (by kernel_rfl) (by kernel_rfl) (by kernel_rfl)
 have b16 := F16.binds (ps := UL) fun _ _ _ _ _ _ us hl => by obtain ⟨_,_,_,rfl⟩ := Pu.qcc hl;rfl
 have m16 := Hd.zB X G "words_of" (.ref 151) (by kernel_rfl)
 have F17 := Hd.zI (K := Kf w.params) "banks_from" jB 156 (.str "bankwalk.clashes" 395) (.ref 155) (by kernel_rfl) (by kernel_rfl) (by kernel_rfl)
 have b17 := F17.binds (ps := JM) fun _ _ _ _ _ _ us hl => by obtain ⟨_,_,_,rfl⟩ := Pu.qcc hl;rfl
 have m17 := Hd.zB X G "banks_from" (.ref 156) (by kernel_rfl)
 have F18 := Hd.zI (K := Kf w.params) "clash" V9 163 (.str "bankwalk.clashes" 395) (.ref 162) (by kernel_rfl) (by kernel_rfl) (by kernel_rfl)
 have b18 := F18.binds (ps := SM) fun _ _ _ _ _ _ us hl => by obtain ⟨_,_,rfl⟩ := Pu.RK hl;rfl
 have m18 := Hd.zB X G "clash" (.ref 163) (by kernel_rfl)
 have F19 := Hd.zI (K := Kf w.params) "_law_mix" ZK 170 (.str "law_bankwalk_k16_clashes_told" 413) (.ref 169) (by kernel_rfl) (by kernel_rfl) (by kernel_rfl)
 have b19 := F19.binds (ps := WM) fun _ _ _ _ _ _ us hl => by obtain ⟨_,_,rfl⟩ := Pu.RK hl;rfl
 have m19 := Hd.zB X G "_law_mix" (.ref 170) (by kernel_rfl)
 have F20 := Hd.zI (K := Kf w.params) "_law_left" QM 177 (.str "law_bankwalk_k16_clashes_told" 413) (.ref 176) (by kernel_rfl) (by kernel_rfl) (by kernel_rfl)
 have b20 := F20.binds (ps := EK) fun _ _ _ _ _ _ us hl => by obtain ⟨_,_,rfl⟩ := Pu.RK hl;rfl
 have m20 := Hd.zB X G "_law_left" (.ref 177) (by kernel_rfl)
 have F21 := Hd.zI (K := Kf w.params) "_law_pick" QH 184 (.str "law_bankwalk_k16_clashes_told" 413) (.ref 183) (by kernel_rfl) (by kernel_rfl) (by kernel_rfl)
 have b21 := F21.binds (ps := US) fun _ _ _ _ _ _ us hl => by obtain ⟨_,_,rfl⟩ := Pu.RK hl;rfl
 have m21 := Hd.zB X G "_law_pick" (.ref 184) (by kernel_rfl)
 have F22 := Hd.zI (K := Kf w.params) "_law_sides" jR 191 (.str "law_bankwalk_k16_clashes_told" 413) (.ref 190) (by kernel_rfl) (by kernel_rfl) (by kernel_rfl)
 have b22 := F22.binds (ps := Y4) fun _ _ _ _ _ _ us hl => by obtain ⟨_,rfl⟩ := Pu.RJ hl;rfl
 have m22 := Hd.zB X G "_law_sides" (.ref 191) (by kernel_rfl)
 have F23 := Hd.zI (K := Kf w.params) "_law_gcd" ZG 198 (.str "law_bankwalk_k16_clashes_told" 413) (.ref 197) (by kernel_rfl) (by kernel_rfl) (by kernel_rfl)
 have b23 := F23.binds (ps := D0) fun _ _ _ _ _ _ us hl => by obtain ⟨_,_,rfl⟩ := Pu.RK hl;rfl
 have m23 := Hd.zB X G "_law_gcd" (.ref 198) (by kernel_rfl)
 have F24 := Hd.zI (K := Kf w.params) "_law_skew" QI 205 (.str "law_bankwalk_k16_clashes_told" 413) (.ref 204) (by kernel_rfl) (by kernel_rfl) (by kernel_rfl)
 have b24 := F24.binds (ps := U8) fun _ _ _ _ _ _ us hl => by obtain ⟨_,rfl⟩ := Pu.RJ hl;rfl
 have m24 := Hd.zB X G "_law_skew" (.ref 205) (by kernel_rfl)
 have F25 := Hd.zI (K := Kf w.params) "_law_rests" jV 212 (.str "law_bankwalk_k16_clashes_told" 413) (.ref 211) (by kernel_rfl) (by kernel_rfl) (by kernel_rfl)
 have b25 := F25.binds (ps := YV) fun _ _ _ _ _ _ us hl => by obtain ⟨_,rfl⟩ := Pu.RJ hl;rfl
 have m25 := Hd.zB X G "_law_rests" (.ref 212) (by kernel_rfl)
 have F26 := Hd.zI (K := Kf w.params) "_law_bits" QV 217 (.str "law_bankwalk_k16_clashes_told" 413) (.ref 216) (by kernel_rfl) (by kernel_rfl) (by kernel_rfl)
 have b26 := F26.binds (ps := EC) fun _ _ _ _ _ _ us hl => by obtain ⟨_,_,rfl⟩ := Pu.RK hl;rfl
 have m26 := Hd.zB X G "_law_bits" (.ref 217) (by kernel_rfl)
 have F27 := Hd.zI (K := Kf w.params) "_law_table" jP 222 (.str "law_bankwalk_k16_clashes_told" 413) (.ref 221) (by kernel_rfl) (by kernel_rfl) (by kernel_rfl)
 have b27 := F27.binds (ps := VG) fun _ _ _ _ _ _ us hl => by obtain ⟨_,rfl⟩ := Pu.RJ hl;rfl
 have m27 := Hd.zB X G "_law_table" (.ref 222) (by kernel_rfl)
 have F28 := Hd.zI (K := Kf w.params) "_law_small" jX 227 (.str "law_bankwalk_k16_clashes_told" 413) (.ref 226) (by kernel_rfl) (by kernel_rfl) (by kernel_rfl)
 have b28 := F28.binds (ps := VC) fun _ _ _ _ _ _ us hl => by obtain ⟨_,rfl⟩ := Pu.RJ hl;rfl
 have m28 := Hd.zB X G "_law_small" (.ref 227) (by kernel_rfl)
 have F29 := Hd.zI (K := Kf w.params) "_law_dealing" jm 234 (.str "law_bankwalk_k16_clashes_told" 413) (.ref 233) (by kernel_rfl) (by kernel_rfl) (by kernel_rfl)
 have b29 := F29.binds (ps := JA) fun _ _ _ _ _ _ us hl => by obtain ⟨_,rfl⟩ := Pu.RJ hl;rfl
 have m29 := Hd.zB X G "_law_dealing" (.ref 234) (by kernel_rfl)
 have F30 := Hd.zI (K := Kf w.params) "_law_size" QF 239 (.str "law_bankwalk_k16_clashes_told" 413) (.ref 238) (by kernel_rfl) (by kernel_rfl) (by kernel_rfl)
 have b30 := F30.binds (ps := UI) fun _ _ _ _ _ _ us hl => by obtain ⟨_,rfl⟩ := Pu.RJ hl;rfl
 have m30 := Hd.zB X G "_law_size" (.ref 239) (by kernel_rfl)
 have F31 := Hd.zI (K := Kf w.params) "_law_odd" ZE 246 (.str "law_bankwalk_k16_clashes_told" 413) (.ref 245) (by kernel_rfl) (by kernel_rfl) (by kernel_rfl)
 have b31 := F31.binds (ps := WX) fun _ _ _ _ _ _ us hl => by obtain ⟨_,rfl⟩ := Pu.RJ hl;rfl
 have m31 := Hd.zB X G "_law_odd" (.ref 246) (by kernel_rfl)
 have F32 := Hd.zI (K := Kf w.params) "_law_bank" QO 251 (.str "law_bankwalk_k16_clashes_told" 413) (.ref 250) (by kernel_rfl) (by kernel_rfl) (by kernel_rfl)
 have b32 := F32.binds (ps := UN) fun _ _ _ _ _ _ us hl => by obtain ⟨_,_,_,rfl⟩ := Pu.qcc hl;rfl
 have m32 := Hd.zB X G "_law_bank" (.ref 251) (by kernel_rfl)
 have F33 := Hd.zI (K := Kf w.params) "_law_many" QJ 258 (.str "law_bankwalk_k16_clashes_told" 413) (.ref 257) (by kernel_rfl) (by kernel_rfl) (by kernel_rfl)
 have b33 := F33.binds (ps := U4) fun _ _ _ _ _ _ us hl => by obtain ⟨_,rfl⟩ := Pu.RJ hl;rfl
 have m33 := Hd.zB X G "_law_many" (.ref 258) (by kernel_rfl)
 have F34 := Hd.zI (K := Kf w.params) "_law_walk" QW 265 (.str "law_bankwalk_k16_clashes_told" 413) (.ref 264) (by kernel_rfl) (by kernel_rfl) (by kernel_rfl)
 have b34 := F34.binds (ps := U1) fun _ _ _ _ _ _ us hl => by obtain ⟨_,rfl⟩ := Pu.RJ hl;rfl
 have m34 := Hd.zB X G "_law_walk" (.ref 265) (by kernel_rfl)
 have F35 := Hd.zI (K := Kf w.params) "_law_cells" jZ 270 (.str "law_bankwalk_k16_clashes_told" 413) (.ref 269) (by kernel_rfl) (by kernel_rfl) (by kernel_rfl)
 have b35 := F35.binds (ps := YS) fun _ _ _ _ _ _ us hl => by obtain ⟨_,rfl⟩ := Pu.RJ hl;rfl
 have m35 := Hd.zB X G "_law_cells" (.ref 270) (by kernel_rfl)
 have F36 := Hd.zI (K := Kf w.params) "_law_starts" jJ 275 (.str "law_bankwalk_k16_clashes_told" 413) (.ref 274) (by kernel_rfl) (by kernel_rfl) (by kernel_rfl)
 have b36 := F36.binds (ps := J0) fun _ _ _ _ _ _ us hl => by obtain ⟨_,_,rfl⟩ := Pu.RK hl;rfl
 have m36 := Hd.zB X G "_law_starts" (.ref 275) (by kernel_rfl)
 have F37 := Hd.zI (K := Kf w.params) "_law_from" QT 280 (.str "law_bankwalk_k16_clashes_told" 413) (.ref 279) (by kernel_rfl) (by kernel_rfl) (by kernel_rfl)
 have b37 := F37.binds (ps := UX) fun _ _ _ _ _ _ us hl => by obtain ⟨_,_,_,rfl⟩ := Pu.qcc hl;rfl
 have m37 := Hd.zB X G "_law_from" (.ref 280) (by kernel_rfl)
 have F38 := Hd.zI (K := Kf w.params) "_law_due" ZO 285 (.str "law_bankwalk_k16_clashes_told" 413) (.ref 284) (by kernel_rfl) (by kernel_rfl) (by kernel_rfl)
 have b38 := F38.binds (ps := WB) fun _ _ _ _ _ _ us hl => by obtain ⟨_,_,rfl⟩ := Pu.RK hl;rfl
 have m38 := Hd.zB X G "_law_due" (.ref 285) (by kernel_rfl)
 have F39 := Hd.zI (K := Kf w.params) "_law_same" QP 290 (.str "law_bankwalk_k16_clashes_told" 413) (.ref 289) (by kernel_rfl) (by kernel_rfl) (by kernel_rfl)
 have b39 := F39.binds (ps := U7) fun _ _ _ _ _ _ us hl => by obtain ⟨_,_,rfl⟩ := Pu.RK hl;rfl
 have m39 := Hd.zB X G "_law_same" (.ref 290) (by kernel_rfl)
 have F40 := Hd.zI (K := Kf w.params) "law" JN 295 (.str "law_bankwalk_k16_clashes_told" 413) (.ref 294) (by kernel_rfl) (by kernel_rfl) (by kernel_rfl)
 have g_isinstance := Hd.VA X G "isinstance" (by kernel_rfl)
 have g_bool := Hd.VA X G "bool" (by kernel_rfl)
 have g_int := Hd.VA X G "int" (by kernel_rfl)
 have g_len := Hd.VA X G "len" (by kernel_rfl)
 have g_tuple := Hd.VA X G "tuple" (by kernel_rfl)
 have g_range := Hd.VA X G "range" (by kernel_rfl)
 have g_enumerate := Hd.VA X G "enumerate" (by kernel_rfl)
 have g_sum := Hd.VA X G "sum" (by kernel_rfl)
 have g_list := Hd.VA X G "list" (by kernel_rfl)
 have g_STRIDES : Tb (Kf w.params) mg w "STRIDES" DL := ⟨115,_,4,Hd.zB X G "STRIDES" (.ref 115) (by kernel_rfl),(show (Kf w.params).lookup 115 = some ⟨.type "dict",none,.dict #[⟨PyData.keyHash w.params "row",.str "row" 338,.ref 116⟩,⟨PyData.keyHash w.params "column",.str "column" 341,.ref 117⟩,⟨PyData.keyHash w.params "slant",.str "slant" 344,.ref 118⟩,⟨PyData.keyHash w.params "back",.str "back" 347,.ref 119⟩] 4,#[]⟩ by kernel_rfl),rfl,(.cons (v := .ref 116) rfl (K2 (show (Kf w.params).lookup 116 = some ⟨.type "tuple",none,.seq #[.int (0) 339,.int (1) 340] 0,#[]⟩ by kernel_rfl)) (.cons (v := .ref 117) rfl (K2 (show (Kf w.params).lookup 117 = some ⟨.type "tuple",none,.seq #[.int (1) 342,.int (0) 343] 0,#[]⟩ by kernel_rfl)) (.cons (v := .ref 118) rfl (K2 (show (Kf w.params).lookup 118 = some ⟨.type "tuple",none,.seq #[.int (1) 345,.int (1) 346] 0,#[]⟩ by kernel_rfl)) (.cons (v := .ref 119) rfl (K2 (show (Kf w.params).lookup 119 = some ⟨.type "tuple",none,.seq #[.int (1) 348,.int (-1) 350] 0,#[]⟩ by kernel_rfl)) .nil))))⟩
 have g_min := Hd.VA X G "min" (by kernel_rfl)
 have g_max := Hd.VA X G "max" (by kernel_rfl)
 have g_all := Hd.VA X G "all" (by kernel_rfl)
 have g_abs := Hd.VA X G "abs" (by kernel_rfl)
 have g_zip := Hd.VA X G "zip" (by kernel_rfl)
 have g_str := Hd.VA X G "str" (by kernel_rfl)
 refine ⟨PySem.W.fnOf "law" "law" (JE JN) (jD JN) (qk JN) .none .none .none (.str "law_bankwalk_k16_clashes_told" 413) none (.ref 294) .none,fun s v => .of_eq rfl,fun base _ _ => ?_⟩
 have O_is_number := SF (P := l.prog) (w := w) (base := base) (k := 0) F0 b0 m0  g_isinstance g_bool g_int R4
 have O_is_pair := LL (P := l.prog) (w := w) (base := base) (k := 1) F1 b1 m1 O_is_number g_len g_isinstance g_tuple LG
 have O_first_alike := XA (P := l.prog) (w := w) (base := base) (k := 0) F2 b2 m2  g_len g_range W8
 have O_odd_in_common := DD (P := l.prog) (w := w) (base := base) (k := 0) F6 b6 m6   DA
 have O_bits_bank := RC (P := l.prog) (w := w) (base := base) (k := 1) F7 b7 m7 O_odd_in_common g_enumerate g_sum R5
 have O_parted := MU (P := l.prog) (w := w) (base := base) (k := 0) F8 b8 m8   MY
 have O_strung := N9 (P := l.prog) (w := w) (base := base) (k := 0) F11 b11 m11  g_range MK
 have O_cells_of := S9 (P := l.prog) (w := w) (base := base) (k := 1) F12 b12 m12 O_strung g_list g_range g_STRIDES SU
 have O_shifted := LH (P := l.prog) (w := w) (base := base) (k := 2) F14 b14 m14 O_cells_of  L0
 have O_law_mix := LV (P := l.prog) (w := w) (base := base) (k := 0) F19 b19 m19   LE
 have O_law_left := SY (P := l.prog) (w := w) (base := base) (k := 0) F20 b20 m20  g_len g_abs SK
 have O_law_pick := SZ (P := l.prog) (w := w) (base := base) (k := 1) F21 b21 m21 O_law_mix  TL
 have O_law_sides := RZ (P := l.prog) (w := w) (base := base) (k := 2) F22 b22 m22 O_law_pick  RD
 have O_law_gcd := K7 (P := l.prog) (w := w) (base := base) (k := 0) F23 b23 m23   LI
 have O_law_skew := SX (P := l.prog) (w := w) (base := base) (k := 3) F24 b24 m24 O_law_sides (O_law_pick.mono (by decide))  SR
 have O_law_rests := RH (P := l.prog) (w := w) (base := base) (k := 3) F25 b25 m25 O_law_sides (O_law_pick.mono (by decide)) (O_law_gcd.mono (by decide)) g_range SC
 have O_law_bits := ST (P := l.prog) (w := w) (base := base) (k := 2) F26 b26 m26 O_law_pick g_range g_tuple SQ
 have O_law_table := SG (P := l.prog) (w := w) (base := base) (k := 3) F27 b27 m27 O_law_sides (O_law_pick.mono (by decide)) g_range g_tuple RG
 have O_law_small := SB (P := l.prog) (w := w) (base := base) (k := 2) F28 b28 m28 O_law_pick (O_law_gcd.mono (by decide)) g_range g_tuple RP
 have O_law_dealing := XB (P := l.prog) (w := w) (base := base) (k := 4) F29 b29 m29 (O_law_pick.mono (by decide)) O_law_skew O_law_rests (O_law_bits.mono (by decide)) O_law_table (O_law_small.mono (by decide))  W9
 have O_law_odd := LK (P := l.prog) (w := w) (base := base) (k := 0) F31 b31 m31  g_range K9
 have O_law_many := SS (P := l.prog) (w := w) (base := base) (k := 2) F33 b33 m33 O_law_pick  TB
 have O_law_walk := TN (P := l.prog) (w := w) (base := base) (k := 3) F34 b34 m34 (O_law_pick.mono (by decide)) O_law_many g_int g_range g_tuple SW
 have O_law_cells := C7 (P := l.prog) (w := w) (base := base) (k := 0) F35 b35 m35  g_list g_range RL
 have O_size_of_0 := UB (P := l.prog) (w := w) (base := base) F3 b3 m3
 have O_size_of_1 := U2 (P := l.prog) (w := w) (base := base) (k := 0) F3 b3 m3 O_size_of_0 g_len (EB 0)
 have O_size_of_2 := U2 (P := l.prog) (w := w) (base := base) (k := 1) F3 b3 m3 O_size_of_1 g_len (EB 1)
 have O_size_of_3 := U2 (P := l.prog) (w := w) (base := base) (k := 2) F3 b3 m3 O_size_of_2 g_len (EB 2)
 have O_is_word := LO (P := l.prog) (w := w) (base := base) (k := 3) F5 b5 m5 (O_is_pair.mono (by decide)) O_size_of_3  (LU 2)
 have O_starts := M8 (P := l.prog) (w := w) (base := base) (k := 3) F13 b13 m13 O_size_of_3 (O_cells_of.mono (by decide)) g_min g_max g_range (qac 2)
 have O_is_start := TR (P := l.prog) (w := w) (base := base) (k := 4) F15 b15 m15 (O_shifted.mono (by decide)) O_is_word (O_is_pair.mono (by decide)) g_all (TY 2)
 have O_words_of := TW (P := l.prog) (w := w) (base := base) (k := 5) F16 b16 m16 O_is_start (O_shifted.mono (by decide))  (S0 2)
 have O_number_of_0 := JX (P := l.prog) (w := w) (base := base) (k := 1) F4 b4 m4 O_size_of_1  (JP 0)
 have O_number_of_1 := JX (P := l.prog) (w := w) (base := base) (k := 2) F4 b4 m4 O_size_of_2  (JP 1)
 have O_number_of_2 := JX (P := l.prog) (w := w) (base := base) (k := 3) F4 b4 m4 O_size_of_3  (JP 2)
 have O_bank_in_0 := UB (P := l.prog) (w := w) (base := base) F10 b10 m10
 have O_joined_bank_0 := Q8 (P := l.prog) (w := w) (base := base) (k := 1) F9 b9 m9 O_size_of_1 O_parted (O_bank_in_0.mono (by decide))  (Q9 0)
 have O_bank_in_1 := UV (P := l.prog) (w := w) (base := base) (k := 2) F10 b10 m10 O_number_of_0 O_bits_bank O_joined_bank_0  (UZ 0)
 have O_joined_bank_1 := Q8 (P := l.prog) (w := w) (base := base) (k := 3) F9 b9 m9 (O_size_of_2.mono (by decide)) (O_parted.mono (by decide)) O_bank_in_1  (Q9 1)
 have O_bank_in_2 := UV (P := l.prog) (w := w) (base := base) (k := 4) F10 b10 m10 (O_number_of_1.mono (by decide)) (O_bits_bank.mono (by decide)) O_joined_bank_1  (UZ 1)
 have O_joined_bank_2 := Q8 (P := l.prog) (w := w) (base := base) (k := 5) F9 b9 m9 (O_size_of_3.mono (by decide)) (O_parted.mono (by decide)) O_bank_in_2  (Q9 2)
 have O_bank_in_3 := UV (P := l.prog) (w := w) (base := base) (k := 6) F10 b10 m10 (O_number_of_2.mono (by decide)) (O_bits_bank.mono (by decide)) O_joined_bank_2  (UZ 2)
 have O_banks_from := CT (P := l.prog) (w := w) (base := base) (k := 7) F17 b17 m17 (O_words_of.mono (by decide)) O_bank_in_3  (CY 2)
 have O_clash := qaL (P := l.prog) (w := w) (base := base) (k := 8) F18 b18 m18 (O_starts.mono (by decide)) O_banks_from (O_first_alike.mono (by decide))  (qa4 2)
 have O_law_size_0 := UB (P := l.prog) (w := w) (base := base) F30 b30 m30
 have O_law_size_1 := YZ (P := l.prog) (w := w) (base := base) (k := 0) F30 b30 m30 O_law_size_0 g_len g_zip g_tuple (YU 0)
 have O_law_size_2 := YZ (P := l.prog) (w := w) (base := base) (k := 1) F30 b30 m30 O_law_size_1 g_len g_zip g_tuple (YU 1)
 have O_law_size_3 := YZ (P := l.prog) (w := w) (base := base) (k := 2) F30 b30 m30 O_law_size_2 g_len g_zip g_tuple (YU 2)
 have O_law_starts := CD (P := l.prog) (w := w) (base := base) (k := 3) F36 b36 m36 O_law_size_3 (O_law_cells.mono (by decide)) g_min g_max g_range (X8 2)
 have O_law_same_0 := UB (P := l.prog) (w := w) (base := base) F39 b39 m39
 have O_law_same_1 := Z1 (P := l.prog) (w := w) (base := base) (k := 0) F39 b39 m39 O_law_same_0 g_isinstance g_list g_tuple g_zip g_all g_len g_str g_bool g_int (ZZ 0)
 have O_law_same_2 := Z1 (P := l.prog) (w := w) (base := base) (k := 1) F39 b39 m39 O_law_same_1 g_isinstance g_list g_tuple g_zip g_all g_len g_str g_bool g_int (ZZ 1)
 have O_law_same_3 := Z1 (P := l.prog) (w := w) (base := base) (k := 2) F39 b39 m39 O_law_same_2 g_isinstance g_list g_tuple g_zip g_all g_len g_str g_bool g_int (ZZ 2)
 have O_law_same_4 := Z1 (P := l.prog) (w := w) (base := base) (k := 3) F39 b39 m39 O_law_same_3 g_isinstance g_list g_tuple g_zip g_all g_len g_str g_bool g_int (ZZ 3)
 have O_law_bank_0 := UB (P := l.prog) (w := w) (base := base) F32 b32 m32
 have O_law_bank_1 := Y1 (P := l.prog) (w := w) (base := base) (k := 1) F32 b32 m32 O_law_size_1 O_law_odd (O_law_bank_0.mono (by decide)) g_enumerate g_sum (Y7 0)
 have O_law_bank_2 := Y1 (P := l.prog) (w := w) (base := base) (k := 2) F32 b32 m32 O_law_size_2 (O_law_odd.mono (by decide)) O_law_bank_1 g_enumerate g_sum (Y7 1)
 have O_law_bank_3 := Y1 (P := l.prog) (w := w) (base := base) (k := 3) F32 b32 m32 O_law_size_3 (O_law_odd.mono (by decide)) O_law_bank_2 g_enumerate g_sum (Y7 2)
 have O_law_from := SN (P := l.prog) (w := w) (base := base) (k := 4) F37 b37 m37 (O_law_cells.mono (by decide)) O_law_bank_3  (TM 2)
 have O_law_due := LR (P := l.prog) (w := w) (base := base) (k := 5) F38 b38 m38 (O_law_starts.mono (by decide)) O_law_from g_len g_range MB
 exact qfX (k := 9) F40 (O_law_left.mono (by decide)) (O_law_dealing.mono (by decide)) (O_law_walk.mono (by decide)) (O_law_due.mono (by decide)) O_clash (O_law_same_4.mono (by decide)) g_len g_min g_range g_str qgw
set_option maxRecDepth 100000 in
set_option maxHeartbeats 0 in
theorem qfP (w : World) (os : OsState) : PySem.W.topRun treeTable PySem.Challenge.pw_bankwalk_k16_clashes_told w 11 (some (Value.ref 6)) 2 (⟨qc2 w.params,296,{ },#[],{ },593,os⟩ : PySem.W.SharedT).abs (PySem.W.restOf [] qfq CF ⟨267,0,277,15⟩ qgb) = some ⟨qdj w.params,#[],{ },593,os⟩ := by kernel_rfl
theorem qht : (qbD ++ (qb8 ++ [])) = MO := by kernel_rfl
set_option maxRecDepth 100000 in
set_option maxHeartbeats 0 in
theorem qcE (w : World) (os : OsState) : PySem.W.topRun treeTable PySem.Challenge.pw_bankwalk_k16_clashes_told w 11 (some (Value.ref 6)) (12 + (1 + (898 + (852 + 2)))) ⟨PySem.W.boot_heap w.params,Array.mk [],PySem.W.boot_drawn,PySem.W.boot_toks,os⟩ (PySem.W.topStub PySem.Challenge.pw_bankwalk_k16_clashes_told) = some ⟨qdj w.params,#[],{ },593,os⟩ := by
 have h := (PySem.W.piece_app (PySem.W.segRun_of (qfz w os)) (PySem.W.piece_app (PySem.W.segRun_of (qec w os)) (qfP w os)))
 rw [qht] at h
 exact PySem.W.go_top (qdU w os) (PySem.W.piece_block (qfD w os) h)
abbrev Q : Program := PySem.W.view PySem.Challenge.pw_bankwalk_k16_clashes_told [1,2,3,5,6,8,9,10,11,12,13,14,15,17,18,19,20,21,22,23,25,26,28,29,30,31,32,33,34,35,36,37,38,39,40,41,42,43,44,45,46,47,48,49]
set_option maxRecDepth 100000 in
set_option maxHeartbeats 0 in
theorem left : PySem.W.LeftO PySem.Challenge.pw_bankwalk_k16_clashes_told Q ["STRIDES"] (fun s => PySem.W.xlAt Q [] s && PySem.W.recOk [] s) (fun s => ([3,20,21,27,28,34,35,66,67,73,74,80,81,87,88,92,93,99,100,106,107,113,114,115,116,117,118,119,123,124,128,129,133,134,138,139,143,144,150,151,155,156,162,163,169,170,176,177,183,184,190,191,197,198,204,205,211,212,216,217,221,222,226,227,233,234,238,239,245,246,250,251,257,258,264,265,269,270,274,275,279,280,284,285,289,290,294,295] : List Addr).map s.heap.get?) (fun w => (Kf w.params).map fun p => some p.2) 3622 :=
 PySem.W.LeftO.of_pieces (H₀ := PySem.W.boot_heap) (H₁ := qdj) (gs₀ := Array.mk []) (gs₁ := #[]) (d₀ := PySem.W.boot_drawn) (d₁ := { }) (k₀ := PySem.W.boot_toks) (k₁ := 593) (m₀ := 11) (ann := some (Value.ref 6)) (M := (12 + (1 + (898 + (852 + 2)))))
  (PySem.W.boot_open (by kernel_rfl) (by kernel_rfl) (fun s => by kernel_rfl)) (fun w => by kernel_rfl) qcE (by kernel_rfl) (fun w => by kernel_rfl)
end K16
open PySem PySem.W PyProof.Rows
set_option maxRecDepth 100000 in
set_option maxHeartbeats 0 in
theorem PySem.Challenge.cw_bankwalk_k16_clashes_told_holds : PySem.Challenge.rw_bankwalk_k16_clashes_told.Holds :=
 Hd.head (l := PySem.Challenge.rw_bankwalk_k16_clashes_told) (q := K16.Q) (loose := ["STRIDES"]) (K := K16.Kf) (as := [3,20,21,27,28,34,35,66,67,73,74,80,81,87,88,92,93,99,100,106,107,113,114,115,116,117,118,119,123,124,128,129,133,134,138,139,143,144,150,151,155,156,162,163,169,170,176,177,183,184,190,191,197,198,204,205,211,212,216,217,221,222,226,227,233,234,238,239,245,246,250,251,257,258,264,265,269,270,274,275,279,280,284,285,289,290,294,295]) (N := 3622) (k := 10) (x := "_law_script")
  (d := ⟨"law",L2.JE K16.JN,L2.jD K16.JN,L2.qk K16.JN,⟨267,0,277,15⟩⟩) (fun _ => by kernel_rfl) (by kernel_rfl) K16.left (by kernel_rfl) (by kernel_rfl) (by kernel_rfl) (by kernel_rfl) (by kernel_rfl)
  ⟨rfl,rfl,rfl,rfl,rfl,by decide +kernel⟩ (by w_witness2) rfl (by kernel_rfl) ⟨rfl,by decide,by decide,rfl⟩ (fun w => by kernel_rfl) fun w mg fa h KX G hmg => K16.qfQ KX G hmg
