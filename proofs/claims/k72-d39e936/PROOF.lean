import PyProof.Rows.All
import Wide.All
import OpenK.AllK
import Wide.FinOn
import Lean
import PyProof.EqAt
import PyProof.EqKinds
import PyProof.TupleCall
import PyProof.NeKinds
import KE.KRevSl
import PyProof.FactsAll.bool_2
import PyProof.Rows.EqBoolInt
import PyProof.Rows.IntBool
import KE.KUnpackStar
import KE.KIntText
import KE.KSortTup
import PySem.Challenge.RW_bankwalk_k72_memories_turned
-- CHANGE: your row's module here,as the last of these rows
set_option Elab.async false
set_option genSizeOf false
set_option genInjectivity false
noncomputable section
theorem x5:type_of% @List.getElem?_cons_succ.{0}:=@List.getElem?_cons_succ.{0}
theorem x6:type_of% @List.getElem?_cons_zero.{0}:=@List.getElem?_cons_zero.{0}
theorem x8:type_of% @List.getElem_cons_zero.{0}:=@List.getElem_cons_zero.{0}
theorem x9:type_of% @List.getElem_cons_succ.{0}:=@List.getElem_cons_succ.{0}
theorem y6:type_of% @PySem.wpAny_bind:=@PySem.wpAny_bind
theorem y8:type_of% @PySem.wpAny_pure:=@PySem.wpAny_pure
theorem y9:type_of% @PySem.wpAny_mono:=@PySem.wpAny_mono
theorem v0:type_of% @PySem.Heap.get?_push_of_some:=@PySem.Heap.get?_push_of_some
theorem v4:type_of% @PySem.Heap.get?_push_size:=@PySem.Heap.get?_push_size
theorem v5:type_of% @PySem.Heap.lt_size:=@PySem.Heap.lt_size
theorem v6:type_of% @Bool.false_ne_true:=@Bool.false_ne_true
theorem v7:type_of% @PySem.sizeLine_eq:=@PySem.sizeLine_eq
theorem v8:type_of% @List.getElem?_eq_getElem.{0}:=@List.getElem?_eq_getElem.{0}
theorem v9:type_of% @Nat.zero_lt_succ:=@Nat.zero_lt_succ
theorem u7:type_of% @Nat.le_refl:=@Nat.le_refl
theorem u8:type_of% @List.mem_cons_of_mem.{0}:=@List.mem_cons_of_mem.{0}
theorem u9:type_of% @List.mem_append_right.{0}:=@List.mem_append_right.{0}
theorem za0:type_of% @Nat.lt_of_lt_of_le:=@Nat.lt_of_lt_of_le
theorem za1:type_of% @List.mem_of_getElem?.{0}:=@List.mem_of_getElem?.{0}
theorem za2:type_of% @Nat.le_trans:=@Nat.le_trans
theorem za3:type_of% @Nat.ne_of_lt:=@Nat.ne_of_lt
theorem za4:type_of% @Nat.lt_add_one:=@Nat.lt_add_one
theorem za5:type_of% @List.mem_cons_self.{0}:=@List.mem_cons_self.{0}
theorem za6:type_of% @List.getElem_mem.{0}:=@List.getElem_mem.{0}
theorem za7:type_of% @decide_eq_false:=@decide_eq_false
theorem za8:type_of% @decide_eq_true:=@decide_eq_true
def za9{α β:Type}{b:β}{f:α->β}{o:Option α}(h:o.map f=some b):=Option.map_eq_some_iff.mp h
def zb0{α:Type}{l:List α}{i:Nat}{a:α}(h:l[i]?=some a):=List.getElem?_eq_some_iff.mp h
abbrev zb1:PySem.Value:=.str "law_bankwalk_k72_memories_turned" 400
abbrev zb2:PySem.Value:=.str "bankwalk.dealings" 223
abbrev zb3:PySem.Value:=.str "bankwalk.turning" 333
abbrev zb4:PySem.Value:=.str "bankwalk.places" 306
abbrev zb5:PySem.Str:="bankwalk.errors"
abbrev Frg:=PySem.W.Frag
open List (length_cons length_nil set_cons_zero set_cons_succ length_map not_mem_nil map_cons mem_cons getElem?_set getElem?_map cons_append size_toArray map_map mem_map length_append getD_eq_getElem?_getD mem_range length_range)
def obb{α β:Type _}{o:Option α}{f:α->Option β}{b:β}(h:o.bind f=some b):∃a,o=some a/\f a=some b:=Option.bind_eq_some_iff.mp h
set_option linter.all false
set_option maxRecDepth 100000
namespace L2
open PySem PySem.Spec PyProof.Rows
abbrev Key:=Sum Int Str
def qeB:Key->Value->Bool
 |.inl k,v=>Value.isInt k v
 |.inr x,v=>Value.isStrOf x v
def qrD (w:World):Key->Int
 |.inl k=>hashInt k
 |.inr x=>hashStr w x
def zw:∀ {k:Key} {v:Value},qeB k v=true->(∃ i t,k=Sum.inl i/\v=Value.int i t)\/(∃ x t,k=Sum.inr x/\v=Value.str x t)
 |.inl i,v,h=>by
  obtain ⟨t,e⟩:=Value.isInt_shape (k:=i) (v:=v) h;exact .inl ⟨i,t,rfl,e⟩
 |.inr x,v,h=>by
  obtain ⟨t,e⟩:=Value.isStrOf_shape (x:=x) (v:=v) h;exact .inr ⟨x,t,rfl,e⟩
def qa3 (i:Int) (t:Tok):qeB (.inl i) (.int i t)=true:=by simp [qeB,Value.isInt]
def qjt (a b:Int):decide ((Sum.inl a:Key)=Sum.inl b)=(a==b):=by
 by_cases e:a=b
 ·subst e;simp
 ·have h:¬ (Sum.inl a:Key)=Sum.inl b:=λq=>e (Sum.inl.inj q);rw [za7 h];exact (beq_eq_false_iff_ne.mpr e).symm
def qlc (a b:Str):decide ((Sum.inr a:Key)=Sum.inr b)=decide (a=b):=by
 by_cases e:a=b
 ·subst e;simp
 ·have h:¬ (Sum.inr a:Key)=Sum.inr b:=λq=>e (Sum.inr.inj q);rw [za7 h,za7 e]
def qmF (a:Int) (b:Str):decide ((Sum.inl a:Key)=Sum.inr b)=false:=za7 (λq=>nomatch q)
def qkM (a:Str) (b:Int):decide ((Sum.inr a:Key)=Sum.inl b)=false:=za7 (λq=>nomatch q)
def TN (prog:Program) (w:World):PySem.KeyKind prog w Key where
 is:=qeB
 hash:=qrD w
 inj:=λv a b ha hb=>by
  rcases zw ha with ⟨i,t,rfl,rfl⟩|⟨x,t,rfl,rfl⟩
  ·rcases zw hb with ⟨j,u,rfl,e⟩|⟨y,u,rfl,e⟩
   ·injection e with e1 _;rw [e1]
   ·exact nomatch e
  ·rcases zw hb with ⟨j,u,rfl,e⟩|⟨y,u,rfl,e⟩
   ·exact nomatch e
   ·injection e with e1 _;rw [e1]
 byValue:=λk v h=>by
  rcases zw h with ⟨i,t,rfl,rfl⟩|⟨x,t,rfl,rfl⟩<;>rfl
 pyHash:=λhv h=>by
  rcases zw hv with ⟨i,t,rfl,rfl⟩|⟨x,t,rfl,rfl⟩
  ·exact wpAny_pyHash_int h
  ·exact wpAny_pyHash_str h
 eqBool:=λhu hv h=>by
  rcases zw hu with ⟨i,t,rfl,rfl⟩|⟨x,t,rfl,rfl⟩
  ·rcases zw hv with ⟨j,u,rfl,rfl⟩|⟨y,u,rfl,rfl⟩
   ·rw [qjt] at h;exact wpAny_eqBool_int h
   ·rw [qmF] at h;exact SeqAt.EqAt.int_str i t y u _ _ _ _ h
  ·rcases zw hv with ⟨j,u,rfl,rfl⟩|⟨y,u,rfl,rfl⟩
   ·rw [qkM] at h;exact SeqAt.EqAt.str_int x t j u _ _ _ _ h
   ·rw [qlc] at h;exact wpAny_eqBool_str h
 «strs»:=λk x t v h=>by
  rcases zw h with ⟨i,u,rfl,e⟩|⟨y,u,rfl,e⟩
  ·exact nomatch e
  ·injection e with e1 _;subst e1;cases v<;>rfl
set_option genInjectivity true in
inductive V where
 |non|bl (b:Bool)|int (i:Int)|str (x:Str)|byt (b:Array UInt8)|flt (b:UInt64)|ref (a:Addr)|ty (n:String)
 deriving DecidableEq
def jp:V->Value->Prop
 |.non,u=>u=Value.none
 |.bl b,u=>u=Value.bool b
 |.int i,u=>∃ t,u=Value.int i t
 |.str x,u=>∃ t,u=Value.str x t
 |.byt b,u=>∃ t,u=Value.bytes b t
 |.flt b,u=>∃ t,u=Value.float b t
 |.ref a,u=>u=Value.ref a
 |.ty n,u=>u=Value.type n
abbrev zo:List V->List Value->Prop:=Paired jp
theorem zo.length {xs:List V} {us:List Value} (r:zo xs us):xs.length=us.length:=Paired.length r
theorem zo.get:∀ {xs:List V} {us:List Value} {i:Nat} {x:V},zo xs us->xs[i]?=some x->∃ u,us[i]?=some u/\jp x u
 |_,_,_,_,.nil,e=>by simp at e
 |_,_,0,_,.cons r _,e=>by simp at e;subst e;exact ⟨_,rfl,r⟩
 |_,_,i+1,x,.cons _ t,e=>by
  obtain ⟨u,h1,h2⟩:=zo.get (i:=i) (x:=x) t (by simpa using e);exact ⟨u,by simpa using h1,h2⟩
theorem zo.set {x:V} {u:Value} (r:jp x u):∀ {xs:List V} {us:List Value} (i:Nat),zo xs us->zo (xs.set i x) (us.set i u)
 |_,_,_,.nil=>.nil
 |_,_,0,.cons _ t=>.cons r t
 |_,_,i+1,.cons q t=>.cons q (zo.set r i t)
theorem zo.append:∀ {xs ys:List V} {us ws:List Value},zo xs us->zo ys ws->zo (xs++ys) (us++ws)
 |_,_,_,_,.nil,s=>s
 |_,_,_,_,.cons r t,s=>.cons r (zo.append t s)
theorem zo.take:∀ {xs:List V} {us:List Value} (n:Nat),zo xs us->zo (xs.take n) (us.take n)
 |_,_,0,_=>.nil
 |_,_,_+1,.nil=>.nil
 |_,_,n+1,.cons r t=>.cons r (zo.take n t)
theorem zo.drop:∀ {xs:List V} {us:List Value} (n:Nat),zo xs us->zo (xs.drop n) (us.drop n)
 |_,_,0,r=>r
 |_,_,_+1,.nil=>.nil
 |_,_,n+1,.cons _ t=>zo.drop n t
def qqx:Option V->Option Value->Prop
 |some v,some u=>jp v u
 |none,none=>True
 |_,_=>False
def KV {κ:Type}:List (κ×V)->List (κ×Value)->Prop:=Paired λ(p:κ×V) (q:κ×Value)=>p.1=q.1/\jp p.2 q.2
def kV:Key->V
 |.inl i=>.int i
 |.inr x=>.str x
inductive HO where
 /-- a list -/
 |lst (xs:List V)
 /-- a tuple (never changes) -/
 |tup (xs:List V)
 /-- a dict whose keys are ints and texts;one whose keys are tuples of ints and texts (the empty one is both) -/
 |dK (kvs:List (Key×V))|dT (kvs:List (List Key×V))
 /-- a set of ints: its members,its size -/
 |set (S:Int->Bool) (n:Nat)
 /-- an instance of the class at C,its dict at dx,its attributes -/
 |ins (C dx:Addr) (fs:List (Str×V))
 /-- the dict of the instance at x -/
 |own (x:Addr)
 /-- the dict of an exception -/
 |xd (fs:List (Str×V))
 /-- a bound method,f of x -/
 |met (f x:Addr)
 /-- a range object lo,lo+1,.. below hi -/
 |rng (lo hi:Int)
 /-- a thing that is known to the object (the script;a dict while a loop walks it): read,never written while it is so -/
 |frz (o:Obj) (u:HO)
 /-- a code object's table -/
 |tbl (ps:Array Value)
 /-- any other thing,by what is true of its one object (a def of one's own: SetO a S n:=HO.ext λh=>..) -/
 |ext (φ:Heap->Prop)
abbrev Hp:=Addr->Option HO
def upd (H:Hp) (a:Addr) (o:HO):Hp:=λb=>if b=a then some o else H b
def qW {H:Hp} {a:Addr} {o:HO}:upd H a o a=some o:=by unfold upd;rw [if_pos rfl]
def qE {H:Hp} {a b:Addr} {o:HO} (h:b≠a):upd H a o b=H b:=by unfold upd;rw [if_neg h]
def qB {H:Hp} {a b:Addr} {o:HO} (h:H a=some o) (h':H b=none):a≠b:=by
 intro e;subst e;rw [h] at h';cases h'
def WC (h:Heap) (a:Addr) (items:Array Value):Prop:=∃ o,h.get? a=some o/\o.cls=.type "tuple"/\∃ n,o.data=.seq items n/\o.dict=none
def WC.tup {h:Heap} {a:Addr} {items:Array Value} (x:WC h a items):IsTup h a items:=let ⟨o,a,b,n,d,_⟩:=x;⟨o,a,b,n,d⟩
def WC.new (h:Heap) (items:Array Value):WC (h.push { cls:=.type "tuple",data:=.seq items }) h.objs.size items:=⟨_,v4 _ rfl,rfl,_,rfl,rfl⟩
section
variable (P:Program) (w:World)
def VM (H:Hp) (h:Heap) (a:Addr):HO->Prop
 |.lst xs=>xs.length<=sizeLine/\∃ (its:List Value) (n:Nat),zo xs its/\h.get? a=some { cls:=.type "list",data:=.seq its.toArray n }
 |.tup xs=>xs.length<=sizeLine/\∃ its:List Value,zo xs its/\WC h a its.toArray
 |.dK kvs=>kvs.length<=sizeLine/\(a==sysModules)=false/\∃ vs,KV kvs vs/\h.DictOf (TN P w) a vs
 |.dT kvs=>kvs.length<=sizeLine/\(a==sysModules)=false/\∃ xs:List (List Key×Addr×Value),
   Paired (λ(p:List Key×V) (q:List Key×Addr×Value)=>p.1=q.1/\H q.2.1=some (.tup (p.1.map kV))/\jp p.2 q.2.2) kvs xs /\
   ∃ o es ep,h.get? a=some o/\o.ExactDict/\o.data=.dict es ep/\es.toList=xs.map (entryOfKey (tupleKind (TN P w)))/\(xs.map (·.1)).Nodup
 |.set S n=>h.SetOf (intKind P w) a S n
 |.ins C dx fs=>H dx=some (.own a)/\fs.length<=1000/\dx≠a/\h.get? a=some (PySem.W.instObj C dx) /\
   ∃ mA,h.Ns1 dx mA/\(∀ f,qqx (fs.lookup f) (mA f))/\PySem.Within mA (fs.map (·.1))
 |.own _=>∃ o,h.get? a=some o
 |.xd fs=>∃ mA,h.Ns1 a mA/\∀ f,qqx (fs.lookup f) (mA f)
 |.rng lo hi=>∃ t u v,h.get? a=some { cls:=.type "range",data:=.fields #[.int lo t,.int hi u,.int 1 v] }
 |.frz o u=>h.get? a=some o/\VM H h a u
 |.tbl ps=>h.get? a=some { cls:=.none,data:=.fields ps }
 |.met f x=>h.get? a=some (PySem.W.methodObj (.ref f) (.ref x))
 |.ext φ=>φ h/\(∃ o,h.get? a=some o)/\∀ h1 h2:Heap,φ h1->(∀ o,h1.get? a=some o->h2.get? a=some o)->φ h2
def HOk (H:Hp) (h:Heap):Prop:=∀ a o,H a=some o->VM P w H h a o
end
section
variable {P:Program} {w:World} {H H':Hp} {h h':Heap} {a:Addr} {o:HO}
theorem VM.lt (x:VM P w H h a o):a<h.objs.size:=by
 cases o with
 |lst xs=>obtain ⟨_,_,_,_,e⟩:=x;exact v5 e
 |tup xs=>obtain ⟨_,_,_,p⟩:=x;exact p.tup.lt
 |dK kvs=>obtain ⟨_,_,_,_,o,_,_,e,_⟩:=x;exact v5 e
 |dT kvs=>obtain ⟨_,_,_,_,o,_,_,e,_⟩:=x;exact v5 e
 |set S n=>obtain ⟨o,_,_,_,e,_⟩:=x;exact v5 e
 |ins C dx fs=>obtain ⟨_,_,_,e,_⟩:=x;exact v5 e
 |own y=>obtain ⟨_,e⟩:=x;exact v5 e
 |xd fs=>obtain ⟨_,⟨_,_,_,e,_⟩,_⟩:=x;exact v5 e
 |rng lo hi=>obtain ⟨_,_,_,e⟩:=x;exact v5 e
 |frz ob u=>obtain ⟨e,_⟩:=x;exact v5 e
 |tbl ps=>exact v5 (show h.get? a=some _ from x)
 |met f y=>exact v5 (show h.get? a=some _ from x)
 |ext φ=>obtain ⟨_,⟨_,e⟩,_⟩:=x;exact v5 e
theorem Paired.mapP {α β:Type} {F G:α->β->Prop}:∀ {l₁:List α} {l₂:List β},Paired F l₁ l₂->(∀ a b,F a b->G a b)->Paired G l₁ l₂
 |_,_,.nil,_=>.nil
 |_,_,.cons r t,f=>.cons (f _ _ r) (Paired.mapP t f)
def VM.stay (x:VM P w H h a o) (k:∀ b u,(b=a\/H b=some (.own a))->h.get? b=some u->h'.get? b=some u)
  (ho:∀ b,H b=some (.own a)->H' b=some (.own a)) (ht:∀ b xs,H b=some (.tup xs)->H' b=some (.tup xs)):VM P w H' h' a o:=by
 induction o with
 |lst xs=>obtain ⟨z,its,n,r,e⟩:=x;exact ⟨z,its,n,r,k _ _ (.inl rfl) e⟩
 |tup xs=>obtain ⟨z,its,r,ob,e,c⟩:=x;exact ⟨z,its,r,ob,k _ _ (.inl rfl) e,c⟩
 |dK kvs=>obtain ⟨z,y,vs,r,ob,es,ep,e,c⟩:=x;exact ⟨z,y,vs,r,ob,es,ep,k _ _ (.inl rfl) e,c⟩
 |dT kvs=>
  obtain ⟨z,y,xs,r,ob,es,ep,e,c⟩:=x;exact ⟨z,y,xs,Paired.mapP r λp q z=>⟨z.1,ht _ _ z.2.1,z.2.2⟩,ob,es,ep,k _ _ (.inl rfl) e,c⟩
 |set S n=>obtain ⟨ob,es,ep,t,e,c⟩:=x;exact ⟨ob,es,ep,t,k _ _ (.inl rfl) e,c⟩
 |ins C dx fs=>
  obtain ⟨d,z,ne,e,mA,⟨od,es,ep,e2,c⟩,r⟩:=x;exact ⟨ho _ d,z,ne,k _ _ (.inl rfl) e,mA,⟨od,es,ep,k _ _ (.inr d) e2,c⟩,r⟩
 |own y=>obtain ⟨ob,e⟩:=x;exact ⟨ob,k _ _ (.inl rfl) e⟩
 |xd fs=>obtain ⟨mA,⟨od,es,ep,e,c⟩,r⟩:=x;exact ⟨mA,⟨od,es,ep,k _ _ (.inl rfl) e,c⟩,r⟩
 |rng lo hi=>obtain ⟨t,u,v,e⟩:=x;exact ⟨t,u,v,k _ _ (.inl rfl) e⟩
 |frz ob u ih=>obtain ⟨e,q⟩:=x;exact ⟨k _ _ (.inl rfl) e,ih q⟩
 |tbl ps=>
  have e:h.get? a=some { cls:=.none,data:=.fields ps }:=x;show h'.get? a=some { cls:=.none,data:=.fields ps };exact k a _ (.inl rfl) e
 |met f y=>
  have e:h.get? a=some (PySem.W.methodObj (.ref f) (.ref y)):=x;show h'.get? a=some (PySem.W.methodObj (.ref f) (.ref y));exact k a _ (.inl rfl) e
 |ext φ=>obtain ⟨p,⟨o,e⟩,st⟩:=x;exact ⟨st _ _ p λo q=>k _ _ (.inl rfl) q,⟨o,k _ _ (.inl rfl) e⟩,st⟩
theorem HOk.lt (x:HOk P w H h) (e:H a=some o):a<h.objs.size:=(x a o e).lt
def HOk.fresh (x:HOk P w H h) (e:h.objs.size<=a):H a=none:=by
 cases q:H a with
 |none=>rfl
 |some u=>exact absurd (za0 (x.lt q) e) (Nat.lt_irrefl _)
def HOk.kept (x:HOk P w H h) (k:∀ b u,h.get? b=some u->h'.get? b=some u):HOk P w H h':=λa o e=>
 (x a o e).stay (λb u _ q=>k b u q) (λ_ q=>q) λ_ _ q=>q
def HOk.laid (x:HOk P w H h) (k:∀ b u,h.get? b=some u->h'.get? b=some u) (hp:h.objs.size<=a) (new:VM P w (upd H a o) h' a o):HOk P w (upd H a o) h':=λb u e=>by
 have hn:=x.fresh hp;by_cases hb:b=a
 ·subst hb;rw [qW] at e;cases e;exact new
 ·rw [qE hb] at e;exact (x b u e).stay (λc v _ q=>k c v q) (λc q=>by rw [qE (qB q hn)];exact q) λc xs q=>by rw [qE (qB q hn)];exact q
end
def Rd (H:Hp) (a:Addr) (u:HO):Prop:=H a=some u\/∃ o,H a=some (.frz o u)
def Rd.ok {P:Program} {w:World} {H:Hp} {h:Heap} {a:Addr} {u:HO} (r:Rd H a u) (x:HOk P w H h):VM P w H h a u:=by
 rcases r with r|⟨o,r⟩
 ·exact x a u r
 ·obtain ⟨_,q⟩:=x a _ r;exact q
def Mut:Option HO->Prop
 |some (.lst _)=>True
 |some (.dK _)=>True
 |some (.dT _)=>True
 |some (.set _ _)=>True
 |some (.ins _ _ _)=>True
 |some (.ext _)=>True
 |_=>False
section
variable {P:Program} {w:World} {H:Hp} {h h':Heap} {x e:Addr} {o':HO}
def HOk.write (ok:HOk P w H h) (mu:Mut (H x)) (he:e=x\/H e=some (.own x)) (k:∀ b u,b≠e->h.get? b=some u->h'.get? b=some u) (heo:∃ u,h'.get? e=some u)
  (new:VM P w (upd H x o') h' x o'):HOk P w (upd H x o') h':=λb u q=>by
 have nown:∀ c y,H c=some (.own y)->c≠x:=λc y r z=>by subst z;rw [r] at mu;exact mu
 have ntup:∀ c xs,H c=some (.tup xs)->c≠x:=λc xs r z=>by subst z;rw [r] at mu;exact mu
 by_cases hb:b=x
 ·subst hb;rw [qW] at q;cases q;exact new
 ·rw [qE hb] at q;by_cases hbe:b=e
  ·have q':H b=some (.own x):=by
    rcases he with z|z
    ·exact absurd (hbe.trans z) hb
    ·rw [hbe];exact z
   rw [q] at q';cases q';obtain ⟨v,hv⟩:=heo;exact ⟨v,by rw [hbe];exact hv⟩
  ·refine (ok b u q).stay (λc v hc r=>k c v ?_ r) (λc r=>by rw [qE (nown c b r)];exact r) λc xs r=>by rw [qE (ntup c xs r)];exact r
   rcases hc with rfl|hc
   ·exact hbe
   ·rintro rfl;rcases he with z|z
    ·exact nown c b hc z
    ·rw [hc] at z;cases z;exact hb rfl
end
structure Un (fs ex:List Addr) (H H':Hp) (h h':Heap):Prop where
 keep:∀ b o,h.get? b=some o->H b=none->b∉fs->b∉ex->h'.get? b=some o
 slot:∀ b o,h.get? b=some o->H b=none->b∈fs->b∉ex->∃ sl,h'.get? b=some { o with slots:=sl }
 free:∀ b o,h.get? b=some o->H b=none->b∉ex->H' b=none
 there:∀ b o,h.get? b=some o->b∉ex->∃ o',h'.get? b=some o'
 tups:∀ b xs,H b=some (.tup xs)->H' b=some (.tup xs)
 frzs:∀ b o u,H b=some (.frz o u)->H' b=some (.frz o u)
 tbls:∀ b ps,H b=some (.tbl ps)->∃ more,H' b=some (.tbl (ps++more))
section
variable {fs fs' ex ex':List Addr} {H H1 H2:Hp} {h h1 h2 h':Heap} {a x e:Addr} {o:HO}
def Un.any (u:Un fs ex H H1 h h1) {b:Addr} {ob:Obj} (q:h.get? b=some ob) (n:H b=none) (hx:b∉ex):∃ sl,h1.get? b=some { ob with slots:=sl }:=by
 by_cases hb:b∈fs
 ·exact u.slot b ob q n hb hx
 ·exact ⟨ob.slots,u.keep b ob q n hb hx⟩
def Un.kept (k:∀ b u,h.get? b=some u->h'.get? b=some u):Un fs ex H H h h':=
 ⟨λb ob q _ _ _=>k b ob q,λb ob q _ _ _=>⟨ob.slots,k b ob q⟩,λ_ _ _ n _=>n,λb ob q _=>⟨ob,k b ob q⟩,λ_ _ q=>q,λ_ _ _ q=>q,λ_ ps q=>⟨#[],by rw [q];simp⟩⟩
def Un.refl:Un fs ex H H h h:=Un.kept λ_ _ q=>q
def Un.laid (k:∀ b u,h.get? b=some u->h'.get? b=some u) (hp:h.objs.size<=a) (hn:H a=none):Un fs ex H (upd H a o) h h' where
 keep:=λb u q _ _ _=>k b u q
 slot:=λb u q _ _ _=>⟨u.slots,k b u q⟩
 free:=λb u q n _=>by rw [qE (za3 (za0 (v5 q) hp))];exact n
 there:=λb u q _=>⟨u,k b u q⟩
 tups:=λb xs q=>by rw [qE (qB q hn)];exact q
 frzs:=λb u xs q=>by rw [qE (qB q hn)];exact q
 tbls:=λb ps q=>⟨#[],by rw [qE (qB q hn),q];simp⟩
def Un.write (mu:Mut (H x)) (he:e=x\/H e=some (.own x)) (k:∀ b u,b≠e->h.get? b=some u->h'.get? b=some u) (heo:∃ u,h'.get? e=some u):Un fs ex H (upd H x o) h h':=by
 have hx:∀ b,H b=none->b≠x:=λb n z=>by subst z;rw [n] at mu;exact mu
 have hb:∀ b,H b=none->b≠e:=λb n z=>by
  subst z;rcases he with r|r
  ·exact hx b n r
  ·rw [n] at r;cases r
 have hm:∀ b u,H b=some u->¬ Mut (some u)->b≠x:=λb u q nm z=>by subst z;rw [q] at mu;exact nm mu
 refine ⟨λb u q n _ _=>k b u (hb b n) q,λb u q n _ _=>⟨u.slots,k b u (hb b n) q⟩,λb u q n _=>by rw [qE (hx b n)];exact n,λb u q _=>?_,
  λb xs q=>by rw [qE (hm b _ q λz=>z)];exact q,λb u xs q=>by rw [qE (hm b _ q λz=>z)];exact q,λb ps q=>⟨#[],by rw [qE (hm b _ q λz=>z),q];simp⟩⟩
 by_cases hbe:b=e
 ·subst hbe;exact heo
 ·exact ⟨u,k b u hbe q⟩
end
def trk (h:Heap) (H:Hp):List Addr:=(List.range h.objs.size).filter λa=>(H a).isSome
def qd1 (h:Heap) (H:Hp):Heap:=PySem.W.hideAll h (trk h H)
def qaY (h:Heap) (H:Hp):(qd1 h H).objs.size=h.objs.size:=PySem.W.hideAll_size _ _
def qeG {h:Heap} {H:Hp} {b:Addr} {o:Obj} (e:h.get? b=some o) (n:H b=none):(qd1 h H).get? b=some o:=
 PySem.W.hideAll_get _ e λhm=>by
  have q:(H b).isSome=true:=(List.mem_filter.mp hm).2;rw [n] at q;simp at q
def qgX {h:Heap} {H:Hp} {b:Addr} {o:Obj} (e:(qd1 h H).get? b=some o):h.get? b=some o/\H b=none:=by
 have e':h.get? b=some o:=PySem.W.of_hideAll (trk h H) e;refine ⟨e',?_⟩;cases q:H b with
 |none=>rfl
 |some x=>
  have hm:b∈trk h H:=List.mem_filter.mpr ⟨mem_range.mpr (v5 e'),by simp [q]⟩;have z:(qd1 h H).get? b=none:=PySem.W.hideAll_none (trk h H) hm;rw [z] at e;cases e
def qib (g h:Heap) (L:Addr):List (Addr×Obj):=(List.range h.objs.size).filterMap λa=>if a=L\/(g.get? a).isSome=true then none else (h.get? a).map λo=>(a,o)
def QR (g h:Heap) (L d:Addr):List (Addr×Obj):=(qib g h L).filter λp=>decide (p.1≠d)
structure Mod (K:Frg) (mg:Str->Option Value) (base:Heap):Prop where
 kin:K.In base
 glob:base.Ns mainGlobals mg
 blt:∃ mb,base.Ns builtinsNs mb/\∀ x:Str,x≠"__name__" -> mb x=bootBuiltins x
 nolimit:base.NoLimit
structure Cx where
 prog:Program
 w:World
 K:PySem.W.Frag
 mg:Str->Option Value
 base:Heap
 A:Around
 N:List Str
 s₀:Shared
 H₀:Hp
 env:Env
 outer:List Env
 stack:List Env
 ex:List Addr
 fn:Str->Bool
 calm:Bool
 pn:List (Addr×Obj)
 xe:Value->Shared->Prop
def frs (l:List Env):List Addr:=l.filterMap (·.frame)
abbrev Cx.fs (X:Cx):List Addr:=frs X.outer
def Vis (sc:Scope) (x:Str):Prop:=sc.names.lookup x=some .local\/sc.names.lookup x=some .cell\/sc.names.lookup x=some .free
def Loc (sc:Scope) (x:Str):Prop:=sc.names.lookup x=some .local\/sc.names.lookup x=some .cell
def qrO (env:Env) (h:Heap) (m:Str->Option Value) (x:Str) (u:Value):Prop:=
 (env.kindOf x=some .local/\m x=some u)\/((env.kindOf x=some .cell\/env.kindOf x=some .free)/\∃ c,env.cells.lookup x=some c/\h.IsCell c (some u))
structure Cx.Ok (X:Cx):Prop where
 mod:Mod X.K X.mg X.base
 kind:X.env.scope.kind=.function
 glob:X.env.globals=mainGlobals
 blt:X.env.builtins=builtinsNs
 above:X.s₀.heap.objs.size<=X.env.locals
 inj:∀ x y c,X.env.cells.lookup x=some c->X.env.cells.lookup y=some c->x=y
 has:∀ x,(X.env.kindOf x=some .cell\/X.env.kindOf x=some .free)->∃ c,X.env.cells.lookup x=some c
 cab:∀ x c,X.fn x=true->X.env.cells.lookup x=some c->X.s₀.heap.objs.size<=c
 hd:X.calm=true->X.A.handled=none
 frames:X.A.frames=some X.stack
 stk:X.stack=X.outer\/(X.stack=X.env::X.outer/\X.env.frame=some X.env.locals)
 exf:∀ b∈X.ex,b≠X.env.locals/\∀ x c,X.env.cells.lookup x=some c->c≠b
 bs:∀ b o,X.base.get? b=some o->X.s₀.heap.get? b=some o/\X.H₀ b=none
 bsz:X.base.objs.size<=X.s₀.heap.objs.size
 noex:∀ b o,X.base.get? b=some o->b∉X.ex
 exfs:∀ b∈X.ex,b∉X.fs
 funs:X.s₀.heap.FunFrames X.base X.outer
 frf:∀ b∈X.fs,X.H₀ b=none
structure Inv (X:Cx) (pins:List (Addr×Obj)) (σ:List (Option V)) (H:Hp) (s:Shared):Prop where
 ok:X.Ok
 os:s.os=X.s₀.os
 bare:AllBare s.gens
 base:Un X.fs X.ex X.H₀ H X.s₀.heap s.heap
 loc:∃ m,s.heap.Ns X.env.locals m/\∀ (i:Nat) (x:Str) (v:V),X.N[i]?=some x->σ[i]?=some (some v)->Vis X.env.scope x->∃ u,jp v u/\qrO X.env s.heap m x u
 cell:∀ x c,X.env.cells.lookup x=some c->∃ v,s.heap.IsCell c v
 free:H X.env.locals=none
 freeC:∀ x c,X.env.cells.lookup x=some c->H c=none
 pin:∀ p∈X.pn++pins,s.heap.get? p.1=some p.2/\H p.1=none/\p.1≠X.env.locals/\p.1∉X.fs/\∀ v,p.2.data≠.cell v
 hok:HOk X.prog X.w H s.heap
 len:σ.length=X.N.length
section
variable {X:Cx} {pins:List (Addr×Obj)} {σ:List (Option V)} {H H':Hp} {s:Shared} {h':Heap}
def Cx.Ok.nofr (ok:X.Ok) {b:Addr} {o:Obj} (e:X.base.get? b=some o):b∉X.fs:=λhb=>by
 have:=(ok.funs.mem hb).1;rw [e] at this;cases this
theorem Inv.bs (I:Inv X pins σ H s):∀ b o,X.base.get? b=some o->s.heap.get? b=some o/\H b=none:=λb o e=>
 ⟨I.base.keep b o (I.ok.bs b o e).1 (I.ok.bs b o e).2 (I.ok.nofr e) (I.ok.noex b o e),I.base.free b o (I.ok.bs b o e).1 (I.ok.bs b o e).2 (I.ok.noex b o e)⟩
def Inv.bk (I:Inv X pins σ H s):∀ b o,X.base.get? b=some o->s.heap.get? b=some o:=λb o e=>(I.bs b o e).1
theorem Inv.mod (I:Inv X pins σ H s):Mod X.K X.mg X.base:=I.ok.mod
def Inv.kIn (I:Inv X pins σ H s):X.K.In s.heap:=I.ok.mod.kin.keeps I.bk
theorem Inv.nolimit (I:Inv X pins σ H s):s.heap.NoLimit:=I.ok.mod.nolimit.keeps I.bk
def Inv.fr (I:Inv X pins σ H s):∃ m,Fr X.base X.env.locals s.heap m:=
 let ⟨m,hn,_⟩:=I.loc
 ⟨m,hn,I.bk,za2 I.ok.bsz I.ok.above⟩
theorem Inv.lt (I:Inv X pins σ H s):X.env.locals<s.heap.objs.size:=let ⟨_,hn,_⟩:=I.loc;hn.lt
def Inv.sz (I:Inv X pins σ H s):X.s₀.heap.objs.size<=s.heap.objs.size:=za2 I.ok.above (Nat.le_of_lt I.lt)
def Inv.nofs (I:Inv X pins σ H s) {a:Addr} (h:s.heap.objs.size<=a):a∉X.fs:=λhb=>by
 obtain ⟨_,o,ho,_⟩:=I.ok.funs.mem hb;exact absurd (za0 (v5 ho) (za2 I.sz h)) (Nat.lt_irrefl _)
def Inv.cne (I:Inv X pins σ H s):∀ x c,X.env.cells.lookup x=some c->c≠X.env.locals:=λx c e z=>by
 obtain ⟨v,o,ho,hd⟩:=I.cell x c e;obtain ⟨m,⟨o',es,ep,ho',hd',_⟩,_⟩:=I.loc;rw [z,ho'] at ho;cases ho;rw [hd'] at hd;cases hd
theorem Inv.funs (I:Inv X pins σ H s):s.heap.FunFrames X.base X.outer:=by
 have all:∀ (l:List Env),(∀ b∈frs l,b∈X.fs)->X.s₀.heap.FunFrames X.base l->s.heap.FunFrames X.base l:=by
  intro l;induction l with
  |nil=>intro _ _;trivial
  |cons env r ih=>
   intro hs hl;obtain ⟨hk,⟨L,o,hf,hn,ho,hd⟩,hr⟩:=hl;have hL:L∈X.fs:=hs L (by unfold frs;rw [List.filterMap_cons,hf];exact za5);obtain ⟨sl,e⟩:=I.base.slot L o ho (I.ok.frf L hL) hL λz=>I.ok.exfs L z hL;exact ⟨hk,⟨L,_,hf,hn,e,hd⟩,ih (λb hb=>hs b (by unfold frs;rw [List.filterMap_cons,hf];exact u8 _ hb)) hr⟩
 exact all X.outer (λ_ hb=>hb) I.ok.funs
theorem Inv.stack (I:Inv X pins σ H s):s.heap.FunFrames X.base X.stack:=by
 rcases I.ok.stk with e|⟨e,hf⟩
 ·rw [e];exact I.funs
 ·rw [e];obtain ⟨m,hn,_⟩:=I.loc;refine .cons (by rw [I.ok.kind];decide) hf hn ?_ I.funs;exact Heap.get?_none_of_le (za2 I.ok.bsz I.ok.above)
def Inv.stkSub (I:Inv X pins σ H s):∀ b∈frs X.stack,b∈X.env.locals::X.fs:=λb hb=>by
 rcases I.ok.stk with e|⟨e,hf⟩
 ·rw [e] at hb;exact u8 _ hb
 ·rw [e] at hb;unfold frs at hb;rw [List.filterMap_cons,hf] at hb;exact hb
def Inv.stkFree (I:Inv X pins σ H s):∀ b∈frs X.stack,H b=none:=λb hb=>by
 rcases mem_cons.mp (I.stkSub b hb) with e|hb
 ·rw [e];exact I.free
 ·obtain ⟨_,o,ho,_⟩:=I.ok.funs.mem hb;exact I.base.free b o ho (I.ok.frf b hb) λz=>I.ok.exfs b z hb
def Inv.step {g':Array GenState} {t':Nat} {d':Drawn} {ch:List Addr} (I:Inv X pins σ H s)
  (hch:∀ b∈ch,(b∈X.ex\/X.s₀.heap.objs.size<=b)/\b≠X.env.locals/\(∀ x c,X.env.cells.lookup x=some c->c≠b)/\∀ p∈X.pn++pins,p.1≠b)
  (keep:∀ b o,b≠X.env.locals->b∉X.fs->b∉ch->s.heap.get? b=some o->H b=none->h'.get? b=some o)
  (slot:∀ b o,b≠X.env.locals->b∈X.fs->b∉ch->s.heap.get? b=some o->H b=none->∃ sl,h'.get? b=some { o with slots:=sl }) (free:∀ b o,b∉ch->s.heap.get? b=some o->H b=none->H' b=none)
  (there:∀ b o,b∉ch->s.heap.get? b=some o->∃ o',h'.get? b=some o')
  (tups:∀ b xs,H b=some (.tup xs)->H' b=some (.tup xs)) (frzs:∀ b o u,H b=some (.frz o u)->H' b=some (.frz o u)) (tbls:∀ b ps,H b=some (.tbl ps)->∃ more,H' b=some (.tbl (ps++more)))
  (ns:∀ m,s.heap.Ns X.env.locals m->h'.Ns X.env.locals m) (hok:HOk X.prog X.w H' h') (hg:AllBare g') :
  Inv X pins σ H' { s with heap:=h',gens:=g',drawn:=d',toks:=t' }:=by
 have neL:∀ b o,X.s₀.heap.get? b=some o->b≠X.env.locals:=λb o e=>za3 (za0 (v5 e) I.ok.above);have neC:∀ b o,X.s₀.heap.get? b=some o->b∉X.ex->b∉ch:=λb o e hx hb=>by
  rcases (hch b hb).1 with z|z
  ·exact hx z
  ·exact absurd (za0 (v5 e) z) (Nat.lt_irrefl _)
 have cellK:∀ x c,X.env.cells.lookup x=some c->∀ v,s.heap.IsCell c v->h'.IsCell c v:=λx c e v ⟨o,ho,hd⟩=>by
  have nch:c∉ch:=λz=>(hch c z).2.2.1 x c e rfl;by_cases hc:c∈X.fs
  ·obtain ⟨sl,q⟩:=slot c o (I.cne x c e) hc nch ho (I.freeC x c e);exact ⟨_,q,hd⟩
  ·exact ⟨o,keep c o (I.cne x c e) hc nch ho (I.freeC x c e),hd⟩
 refine ⟨I.ok,I.os,hg,⟨λb o e n hb hx=>?_,λb o e n hb hx=>?_,λb o e n hx=>?_,λb o e hx=>?_,λb xs e=>tups b xs (I.base.tups b xs e),λb o xs e=>frzs b o xs (I.base.frzs b o xs e),λb ps e=>?_⟩,?_,λx c e=>?_,?_,λx c e=>?_,λp hp=>?_,hok,I.len⟩
 ·exact keep b o (neL b o e) hb (neC b o e hx) (I.base.keep b o e n hb hx) (I.base.free b o e n hx)
 ·obtain ⟨sl,e1⟩:=I.base.slot b o e n hb hx;obtain ⟨sl',e2⟩:=slot b _ (neL b o e) hb (neC b o e hx) e1 (I.base.free b o e n hx);exact ⟨sl',e2⟩
 ·obtain ⟨o',e1⟩:=I.base.there b o e hx;exact free b o' (neC b o e hx) e1 (I.base.free b o e n hx)
 ·obtain ⟨o',e1⟩:=I.base.there b o e hx;exact there b o' (neC b o e hx) e1
 ·obtain ⟨m1,e1⟩:=I.base.tbls b ps e;obtain ⟨m2,e2⟩:=tbls b _ e1;exact ⟨m1++m2,by rw [e2,Array.append_assoc]⟩
 ·obtain ⟨m,hn,hl⟩:=I.loc;refine ⟨m,ns m hn,λi x v e1 e2 e3=>?_⟩;obtain ⟨u,r,l⟩:=hl i x v e1 e2 e3;refine ⟨u,r,?_⟩;rcases l with l|⟨k,c,e,z⟩
  ·exact .inl l
  ·exact .inr ⟨k,c,e,cellK x c e _ z⟩
 ·obtain ⟨v,z⟩:=I.cell x c e;exact ⟨v,cellK x c e v z⟩
 ·obtain ⟨m,⟨o,_,_,ho,_⟩,_⟩:=I.loc;exact free _ o (λz=>(hch _ z).2.1 rfl) ho I.free
 ·obtain ⟨v,o,ho,hd⟩:=I.cell x c e;exact free c o (λz=>(hch c z).2.2.1 x c e rfl) ho (I.freeC x c e)
 ·obtain ⟨e,n,ne,nf,d⟩:=I.pin p hp;have nch:p.1∉ch:=λz=>(hch p.1 z).2.2.2 p hp rfl;exact ⟨keep p.1 p.2 ne nf nch e n,free p.1 p.2 nch e n,ne,nf,d⟩
def Inv.un {t':Nat} (I:Inv X pins σ H s) (u:Un X.fs [] H H' s.heap h') (hok:HOk X.prog X.w H' h'):Inv X pins σ H' { s with heap:=h',toks:=t' }:=by
 obtain ⟨m,⟨o,es,ep,ho,r⟩,_⟩:=id I.loc;obtain ⟨sl,hL⟩:=u.any ho I.free (by simp);exact I.step (g':=s.gens) (d':=s.drawn) (ch:=[]) (λ_ z=>nomatch z) (λb o _ hb _ e n=>u.keep b o e n hb (by simp)) (λb o _ hb _ e n=>u.slot b o e n hb (by simp)) (λb o _ e n=>u.free b o e n (by simp)) (λb o _ e=>u.there b o e (by simp)) u.tups u.frzs u.tbls (λm' hm=>by
  obtain ⟨o',es',ep',ho',r'⟩:=hm;rw [ho] at ho';cases ho';exact ⟨_,es',ep',hL,r'⟩) hok I.bare
def Inv.call {g':Array GenState} {t':Nat} {d':Drawn} {ch:List Addr} (I:Inv X pins σ H s) (u:Un (frs X.stack) ch H H' s.heap h') (hok:HOk X.prog X.w H' h') (hg:AllBare g')
  (hch:∀ b∈ch,(b∈X.ex\/X.s₀.heap.objs.size<=b)/\b≠X.env.locals/\(∀ x c,X.env.cells.lookup x=some c->c≠b)/\∀ p∈X.pn++pins,p.1≠b) :
  Inv X pins σ H' { s with heap:=h',gens:=g',drawn:=d',toks:=t' }:=by
 obtain ⟨m,⟨o,es,ep,ho,r⟩,_⟩:=id I.loc;obtain ⟨sl,hL⟩:=u.any ho I.free λz=>(hch _ z).2.1 rfl;exact I.step (ch:=ch) hch (λb o hL hb hc e n=>u.keep b o e n (λz=>(mem_cons.mp (I.stkSub b z)).elim hL hb) hc) (λb o _ _ hc e n=>u.any e n hc) (λb o hc e n=>u.free b o e n hc) (λb o hc e=>u.there b o e hc) u.tups u.frzs u.tbls (λm' hm=>by
  obtain ⟨o',es',ep',ho',r'⟩:=hm;rw [ho] at ho';cases ho';exact ⟨_,es',ep',hL,r'⟩) hok hg
def Inv.turned {t':Nat} {it:Addr} (I:Inv X pins σ H s) (k:∀ b o,b≠it->s.heap.get? b=some o->h'.get? b=some o) (hn:H it=none) (hL:it≠X.env.locals)
  (h1:it∈X.ex\/X.s₀.heap.objs.size<=it) (h2:∀ x c,X.env.cells.lookup x=some c->c≠it) (h3:∀ p∈X.pn++pins,p.1≠it):Inv X pins σ H { s with heap:=h',toks:=t' }:=by
 have nit:∀ b u,H b=some u->b≠it:=λb u e z=>by rw [z,hn] at e;cases e
 refine I.step (g':=s.gens) (d':=s.drawn) (ch:=[it]) (λb hb=>?_) (λb o _ _ hc e _=>k b o (λz=>hc (by simp [z])) e) (λb o _ _ hc e _=>⟨o.slots,k b o (λz=>hc (by simp [z])) e⟩) (λ_ _ _ _ n=>n)
  (λb o hc e=>⟨o,k b o (λz=>hc (by simp [z])) e⟩) (λ_ _ e=>e) (λ_ _ _ e=>e) (λb ps e=>⟨#[],by rw [e];simp⟩) (λm hm=>?_) (λb u e=>?_) I.bare
 ·have e:b=it:=by simpa using hb
  subst e;exact ⟨h1,hL,h2,h3⟩
 ·obtain ⟨o,es,ep,ho,r⟩:=hm;exact ⟨o,es,ep,k _ o (Ne.symm hL) ho,r⟩
 ·refine (I.hok b u e).stay (λc v hc q=>k c v ?_ q) (λ_ q=>q) λ_ _ q=>q;rcases hc with z|z
  ·rw [z];exact nit b u e
  ·exact nit c _ z
def Inv.tok (I:Inv X pins σ H s) (t:Nat):Inv X pins σ H { s with toks:=t }:=I.un (h':=s.heap) (t':=t) Un.refl I.hok
theorem Inv.kept {t':Nat} (I:Inv X pins σ H s) (k:∀ b u,s.heap.get? b=some u->h'.get? b=some u):Inv X pins σ H { s with heap:=h',toks:=t' }:=I.un (Un.kept k) (I.hok.kept k)
theorem Inv.laid {a:Addr} {o:HO} {t':Nat} (I:Inv X pins σ H s) (k:∀ b u,s.heap.get? b=some u->h'.get? b=some u) (hp:s.heap.objs.size<=a) (new:VM X.prog X.w (upd H a o) h' a o) :
  Inv X pins σ (upd H a o) { s with heap:=h',toks:=t' }:=I.un (Un.laid k hp (I.hok.fresh hp)) (I.hok.laid k hp new)
theorem Inv.write {x e:Addr} {o:HO} {t':Nat} (I:Inv X pins σ H s) (mu:Mut (H x)) (he:e=x\/H e=some (.own x)) (k:∀ b u,b≠e->s.heap.get? b=some u->h'.get? b=some u) (heo:∃ u,h'.get? e=some u)
  (new:VM X.prog X.w (upd H x o) h' x o):Inv X pins σ (upd H x o) { s with heap:=h',toks:=t' }:=I.un (Un.write mu he k heo) (I.hok.write mu he k heo new)
def Inv.pins_of {pins':List (Addr×Obj)} (I:Inv X pins σ H s) (h:∀ p∈pins',s.heap.get? p.1=some p.2/\H p.1=none/\p.1≠X.env.locals/\p.1∉X.fs/\∀ v,p.2.data≠.cell v):Inv X pins' σ H s:=
 ⟨I.ok,I.os,I.bare,I.base,I.loc,I.cell,I.free,I.freeC,λp hp=>(List.mem_append.mp hp).elim (λz=>I.pin p (List.mem_append_left _ z)) (h p),I.hok,I.len⟩
def qac {N:List Str} (hN:N.Nodup) {i j:Nat} {x:Str} (a:N[i]?=some x) (b:N[j]?=some x):i=j:=by
 obtain ⟨h1,e1⟩:=zb0 a;obtain ⟨h2,e2⟩:=zb0 b;exact (List.getElem_inj hN).mp (e1.trans e2.symm)
def LK {M:Model} {A:Around} {E:Value->Shared->Prop} {i:Nat} {x:Str} {v:V} {u:Value} {Q:Unit->Shared->Prop} (I:Inv X pins σ H s) (hN:X.N.Nodup) (hi:X.N[i]?=some x) (hx:Loc X.env.scope x) (r:jp v u)
  (h:∀ s',Inv X pins (σ.set i (some v)) H s'->(∃ a,Heap.SameBut a s.heap s'.heap/\(a=X.env.locals\/X.env.cells.lookup x=some a))->Q () s') (hf:X.fn x=true\/X.env.scope.names.lookup x=some .local:=by first|exact .inl rfl|exact .inr rfl|assumption):wpAny M A (storeName X.env x u) Q E s:=by
 obtain ⟨m,hn,hl⟩:=id I.loc;have hcls:(X.env.scope.kind==.class||(X.env.scope.kind==.module&&X.env.locals != X.env.globals))=false:=by rw [I.ok.kind];rfl
 have hiσ:i<σ.length:=by rw [I.len];exact (zb0 hi).1
 have cne:=I.cne;have tracked:∀ {a:Addr} {h':Heap},(∃ o,s.heap.get? a=some o/\H a=none)->Heap.SameBut a s.heap h'->HOk X.prog X.w H h':=λ{a h'} ha hs b ob e=>by
  obtain ⟨_,_,hfree⟩:=ha;refine (I.hok b ob e).stay (λc w' hc q=>(hs.2 c ?_).trans q) (λ_ q=>q) λ_ _ q=>q;rintro rfl;rcases hc with rfl|hc
  ·rw [hfree] at e;cases e
  ·rw [hfree] at hc;cases hc
 rcases hx with hk|hk
 ·refine wpAny_storeName_local hk hn (λh' hn' hs=>?_) hcls;obtain ⟨oL,_,_,hoL,_⟩:=id hn;refine h _ ⟨I.ok,I.os,I.bare,⟨λb o e n hb hx=>?_,λb o e n hb hx=>?_,I.base.free,λb o e hx=>?_,I.base.tups,I.base.frzs,I.base.tbls⟩,⟨_,hn',λj y v' e1 e2 e3=>?_⟩,λy c e=>?_,I.free,I.freeC,λp hp=>?_,tracked ⟨oL,hoL,I.free⟩ hs,by simpa using I.len⟩ ⟨_,hs,.inl rfl⟩
  ·exact (hs.2 b (za3 (za0 (v5 e) I.ok.above))).trans (I.base.keep b o e n hb hx)
  ·obtain ⟨sl,e1⟩:=I.base.slot b o e n hb hx;exact ⟨sl,(hs.2 b (za3 (za0 (v5 e) I.ok.above))).trans e1⟩
  ·obtain ⟨o',e1⟩:=I.base.there b o e hx;exact ⟨o',(hs.2 b (za3 (za0 (v5 e) I.ok.above))).trans e1⟩
  ·by_cases hj:j=i
   ·subst hj;rw [hi] at e1;cases e1;rw [List.getElem?_set_self hiσ] at e2;cases e2;exact ⟨u,r,.inl ⟨hk,by simp⟩⟩
   ·rw [List.getElem?_set_ne (Ne.symm hj)] at e2;obtain ⟨u',r',q⟩:=hl j y v' e1 e2 e3;refine ⟨u',r',?_⟩;rcases q with ⟨k,e⟩|⟨k,c,e,z⟩
    ·refine .inl ⟨k,?_⟩;have:y≠x:=λe=>hj (qac hN e1 (e▸hi));simp [this,e]
    ·exact .inr ⟨k,c,e,z.sameBut hs (cne y c e)⟩
  ·obtain ⟨w',z⟩:=I.cell y c e;exact ⟨w',z.sameBut hs (cne y c e)⟩
  ·obtain ⟨e,n,ne,nf,d⟩:=I.pin p hp;exact ⟨(hs.2 p.1 ne).trans e,n,ne,nf,d⟩
 ·have hfn:X.fn x=true:=by
   rcases hf with z|z
   ·exact z
   ·rw [z] at hk;cases hk
  obtain ⟨c,hc⟩:=I.ok.has x (.inl hk);obtain ⟨w',z⟩:=I.cell x c hc;refine wpAny_storeName_cell I.ok.kind hk hc z (λh' hc' hs=>?_);obtain ⟨oc,hoc,hocd⟩:=id z;refine h { s with heap:=h' } ⟨I.ok,I.os,I.bare,⟨λb o e n hb hx=>?_,λb o e n hb hx=>?_,I.base.free,λb o e hx=>?_,I.base.tups,I.base.frzs,I.base.tbls⟩,⟨m,hn.sameBut hs (Ne.symm (cne x c hc)),λj y v' e1 e2 e3=>?_⟩,λy c' e=>?_,I.free,I.freeC,λp hp=>?_,tracked ⟨oc,hoc,I.freeC x c hc⟩ hs,by simpa using I.len⟩ ⟨c,hs,.inr hc⟩
  ·exact (hs.2 b (za3 (za0 (v5 e) (I.ok.cab x c hfn hc)))).trans (I.base.keep b o e n hb hx)
  ·obtain ⟨sl,e1⟩:=I.base.slot b o e n hb hx;exact ⟨sl,(hs.2 b (za3 (za0 (v5 e) (I.ok.cab x c hfn hc)))).trans e1⟩
  ·obtain ⟨o',e1⟩:=I.base.there b o e hx;exact ⟨o',(hs.2 b (za3 (za0 (v5 e) (I.ok.cab x c hfn hc)))).trans e1⟩
  ·by_cases hj:j=i
   ·subst hj;rw [hi] at e1;cases e1;rw [List.getElem?_set_self hiσ] at e2;cases e2;exact ⟨u,r,.inr ⟨.inl hk,c,hc,hc'⟩⟩
   ·rw [List.getElem?_set_ne (Ne.symm hj)] at e2;obtain ⟨u',r',q⟩:=hl j y v' e1 e2 e3;refine ⟨u',r',?_⟩;rcases q with q|⟨k,c',e,z'⟩
    ·exact .inl q
    ·refine .inr ⟨k,c',e,z'.sameBut hs ?_⟩;rintro rfl;exact hj (qac hN e1 (I.ok.inj _ _ _ e hc▸hi))
  ·by_cases hcc:c'=c
   ·subst hcc;exact ⟨_,hc'⟩
   ·obtain ⟨w2,z2⟩:=I.cell y c' e;exact ⟨w2,z2.sameBut hs hcc⟩
  ·obtain ⟨e,n,ne,nf,d⟩:=I.pin p hp;refine ⟨(hs.2 p.1 ?_).trans e,n,ne,nf,d⟩;intro q;rw [q,hoc] at e;have q':oc=p.2:=Option.some.inj e;exact d w' (by rw [← q'];exact hocd)
def EC {M:Model} {A:Around} {E:Value->Shared->Prop} {i:Nat} {x:Str} {v:V} {u:Value} {Q:Unit->Shared->Prop} (I:Inv X pins σ H s) (hN:X.N.Nodup) (hi:X.N[i]?=some x) (hx:Loc X.env.scope x) (r:jp v u)
  (h:∀ s',Inv X pins (σ.set i (some v)) H s'->Q () s') (hf:X.fn x=true\/X.env.scope.names.lookup x=some .local:=by first|exact .inl rfl|exact .inr rfl|assumption):wpAny M A (storeName X.env x u) Q E s:=
 LK I hN hi hx r (λs' I' _=>h s' I') hf
def Inv.call' {s':Shared} {ch:List Addr} (I:Inv X pins σ H s) (ho:s'.os=s.os) (u:Un (frs X.stack) ch H H' s.heap s'.heap) (hok:HOk X.prog X.w H' s'.heap) (hg:AllBare s'.gens)
  (hch:∀ b∈ch,(b∈X.ex\/X.s₀.heap.objs.size<=b)/\b≠X.env.locals/\(∀ x c,X.env.cells.lookup x=some c->c≠b)/\∀ p∈X.pn++pins,p.1≠b):Inv X pins σ H' s':=by
 obtain ⟨h',g',d',t',o'⟩:=s';have e:o'=s.os:=ho;subst e;exact I.call (g':=g') (t':=t') (d':=d') u hok hg hch
end
abbrev XK:=Value->Option Addr->Hp->Prop
abbrev St:=List (Option V)
abbrev VK:=V->Hp->Prop
abbrev TE:=St->Hp->VK->Prop
abbrev TT:=St->Hp->(Bool->Hp->Prop)->Prop
abbrev TA:=St->Hp->(List V->Hp->Prop)->Prop
structure Ends where
 nx:St->Hp->Prop
 rt:VK
 bk:St->Hp->Prop:=λ_ _=>False
 ct:St->Hp->Prop:=λ_ _=>False
abbrev TS:=Ends->St->Hp->Prop
def EP (X:Cx) (pins:List (Addr×Obj)) (σ:St) (Q:VK) (u:Value) (s':Shared):Prop:=∃ v H',Inv X pins σ H' s'/\jp v u/\Q v H'
def TP (X:Cx) (pins:List (Addr×Obj)) (σ:St) (Q:Bool->Hp->Prop) (b:Bool) (s':Shared):Prop:=∃ H',Inv X pins σ H' s'/\Q b H'
def AP (X:Cx) (pins:List (Addr×Obj)) (σ:St) (Q:List V->Hp->Prop) (us:List Value) (s':Shared):Prop:=∃ vs H',Inv X pins σ H' s'/\zo vs us/\Q vs H'
def SP (X:Cx) (pins:List (Addr×Obj)) (D:Ends) (f:Flow) (s':Shared):Prop:=
 match f with
 |.next=>∃ σ' H',Inv X pins σ' H' s'/\D.nx σ' H'
 |.brk=>∃ σ' H',Inv X pins σ' H' s'/\D.bk σ' H'
 |.cont=>∃ σ' H',Inv X pins σ' H' s'/\D.ct σ' H'
 |.ret u=>∃ v σ' H',Inv X pins σ' H' s'/\jp v u/\D.rt v H'
def PE (X:Cx) (e:Expr) (t:TE):Prop:=
 ∀ (pins:List (Addr×Obj)) (s:Shared) (σ:St) (H:Hp) (Q:VK),Inv X pins σ H s->t σ H Q->wpAny (model X.prog X.w) X.A (eval e X.env) (EP X pins σ Q) X.xe s
def PT (X:Cx) (e:Expr) (t:TT):Prop:=
 ∀ (pins:List (Addr×Obj)) (s:Shared) (σ:St) (H:Hp) (Q:Bool->Hp->Prop),Inv X pins σ H s->t σ H Q->wpAny (model X.prog X.w) X.A (isTrue e X.env (eval e X.env)) (TP X pins σ Q) X.xe s
def PW (X:Cx) (e:Expr) (t:TT):Prop:=
 ∀ (whole:Sem Value) (pins:List (Addr×Obj)) (s:Shared) (σ:St) (H:Hp) (Q:Bool->Hp->Prop),Inv X pins σ H s->t σ H Q->wpAny (model X.prog X.w) X.A (isTrue e X.env whole) (TP X pins σ Q) X.xe s
def PW.pt {X:Cx} {e:Expr} {t:TT} (h:PW X e t):PT X e t:=h _
def PA (X:Cx) (es:List Expr) (t:TA):Prop:=
 ∀ (pos:Pos) (pins:List (Addr×Obj)) (s:Shared) (σ:St) (H:Hp) (Q:List V->Hp->Prop),Inv X pins σ H s->t σ H Q->wpAny (model X.prog X.w) X.A (spliced (backTo pos (starEach es X.env))) (AP X pins σ Q) X.xe s
def PS (X:Cx) (st:Stmt) (t:TS):Prop:=
 ∀ (pins:List (Addr×Obj)) (s:Shared) (σ:St) (H:Hp) (D:Ends),Inv X pins σ H s->t D σ H->wpAny (model X.prog X.w) X.A (exec st X.env) (SP X pins D) X.xe s
def PSs (X:Cx) (st:List Stmt) (t:TS):Prop:=
 ∀ (pins:List (Addr×Obj)) (s:Shared) (σ:St) (H:Hp) (D:Ends),Inv X pins σ H s->t D σ H->wpAny (model X.prog X.w) X.A (execs st X.env) (SP X pins D) X.xe s
def thn {α:Type} {t:Sem α} {Q Q':α->Shared->Prop} {M:Model} {A:Around} {E:Value->Shared->Prop} {s:Shared} (h:wpAny M A t Q E s) (hQ:∀ a s,Q a s->Q' a s):wpAny M A t Q' E s:=y9 h hQ λ_ _ x=>x
section
variable {X:Cx}
def qq8 (i:Nat):TE:=λσ H Q=>∃ v,σ[i]?=some (some v)/\Q v H
def tC (v:V):TE:=λ_ H Q=>Q v H
def qlQ {i:Nat} {x:Str} {pos:Pos} (hN:X.N[i]?=some x) (hv:Vis X.env.scope x) (hd:(x==("__debug__" : Str))=false:=by decide) (hcd:(x==("__classdict__" : Str))=false:=by decide):PE X (.Name x pos) (qq8 i):=by
 intro pins s σ H Q I h;obtain ⟨v,e,h⟩:=h;obtain ⟨m,hn,hl⟩:=I.loc;obtain ⟨u,r,l⟩:=hl i x v hN e hv;have fin:EP X pins σ Q u s:=⟨v,H,I,r,h⟩
 rcases l with ⟨hk,hm⟩|⟨hk,c,hc,hcell⟩
 ·exact wpAny_Name (wpAny_loadName_local I.ok.kind hk hn hm fin) hd
 ·rcases hk with hk|hk
  ·exact wpAny_Name (wpAny_loadName_cell I.ok.kind hk hc hcell fin) hd
  ·exact wpAny_Name (wpAny_loadName_free I.ok.kind hk hc hcell fin hcd) hd
def qi7 {i j pos}:PE X (.Constant (.int i) j pos) (tC (.int i)):=λ_ _ _ H _ I h=>wpAny_Constant_int ⟨.int i,H,I.tok _,⟨_,rfl⟩,h⟩
def qpw {b j pos}:PE X (.Constant (.bool b) j pos) (tC (.bl b)):=λ_ _ _ H _ I h=>Constant_bool ⟨.bl b,H,I,rfl,h⟩
def qk3 {j pos}:PE X (.Constant .none j pos) (tC .non):=λ_ _ _ H _ I h=>Constant_none ⟨.non,H,I,rfl,h⟩
def qkQ {x j pos}:PE X (.Constant (.str x) j pos) (tC (.str x)):=λ_ _ _ H _ I h=>Calls.Constant_str ⟨.str x,H,I.tok _,⟨_,rfl⟩,h⟩
def Gl (X:Cx) (x:Str):Prop:=X.env.kindOf x=some .globalImplicit
def qh0 {E:Value->Shared->Prop} {pins:List (Addr×Obj)} {s:Shared} {σ:St} {H:Hp} {x:Str} {u:Value} {pos:Pos} {Q:Value->Shared->Prop} (I:Inv X pins σ H s) (hg:Gl X x) (hm:X.mg x=some u) (h:Q u s)
  (hd:(x==("__debug__" : Str))=false:=by decide):wpAny (model X.prog X.w) X.A (eval (.Name x pos) X.env) Q E s:=
 Calls.Name_function_global I.ok.kind hg (Calls.loadGlobal_global (by rw [I.ok.glob];exact I.mod.glob.keeps I.bk) hm h) hd
def CJ {E:Value->Shared->Prop} {pins:List (Addr×Obj)} {s:Shared} {σ:St} {H:Hp} {x:Str} {u:Value} {pos:Pos} {Q:Value->Shared->Prop} (I:Inv X pins σ H s) (hg:Gl X x) (hm:X.mg x=none) (hv:bootBuiltins x=some u) (h:Q u s)
  (hn:x≠"__name__" := by decide) (hd:(x==("__debug__" : Str))=false:=by decide):wpAny (model X.prog X.w) X.A (eval (.Name x pos) X.env) Q E s:=by
 obtain ⟨mb,h1,h2⟩:=I.mod.blt;exact Calls.Name_function_global I.ok.kind hg (Calls.loadGlobal_builtin (by rw [I.ok.glob];exact I.mod.glob.keeps I.bk) hm (by rw [I.ok.blt];exact h1.keeps I.bk) ((h2 x hn).trans hv) h) hd
def L8 {x:Str} {v:V} {u:Value} {pos:Pos} (hg:Gl X x) (hm:X.mg x=none) (hv:bootBuiltins x=some u) (r:jp v u) (hn:x≠"__name__" := by decide) (hd:(x==("__debug__" : Str))=false:=by decide):PE X (.Name x pos) (tC v):=
 λ_ _ _ H _ I h=>CJ I hg hm hv ⟨v,H,I,r,h⟩ hn hd
variable {a b:Expr} {ta tb:TE} {pos:Pos}
def tB (t:TE):TT:=λσ H Q=>t σ H λx H1=>∃ c,x=.bl c/\Q c H1
def qlN {e:Expr} {t:TE} (h:PE X e t) (he:∀ whole,isTrue e X.env whole=(do let v←whole;standAt e.pos;holding [v] (truthy v)):=by intro _;rfl):PT X e (tB t):=by
 intro pins s σ H Q I hw;refine isTrue_plain (thn (h pins s σ H _ I hw) λv s1 ⟨x,H1,I1,r1,q1⟩=>?_) (he _);obtain ⟨d,rfl,q⟩:=q1;cases r1;exact wpAny_truthy_bool ⟨H1,I1,q⟩
variable {tA tB':TT} {QR:List Expr}
def tOr (t u:TT):TT:=λσ H Q=>t σ H λc H1=>if c=true then Q true H1 else u σ H1 Q
def qrr (t:TT):TT:=λσ H Q=>t σ H λc H1=>Q (!c) H1
def qmY (ha:PT X a tA):PW X (.BoolOp .Or [a] pos) tA:=by
 intro wh pins s σ H Q I h;refine isTrue_or (thn (ha pins s σ H Q I h) λc s1 e=>?_);cases c with
 |false=>exact isTrue_or_nil e
 |true=>exact e
def qpA (ha:PT X a tA) (hb:PW X (.BoolOp .Or (b::QR) pos) tB'):PW X (.BoolOp .Or (a::b::QR) pos) (tOr tA tB'):=by
 intro wh pins s σ H Q I h;refine isTrue_or (thn (ha pins s σ H _ I h) λc s1 ⟨H1,I1,q1⟩=>?_);cases c with
 |true=>exact ⟨H1,I1,q1⟩
 |false=>exact hb wh pins s1 σ H1 Q I1 q1
def qi5 (ha:PT X a tA):PT X (.UnaryOp .Not a pos) (qrr tA):=by
 intro pins s σ H Q I h;exact isTrue_not (ha pins s σ H (λc H1=>Q (!c) H1) I h)
def qpJ (ta tb:TE):TE:=λσ H Q=>ta σ H λx H1=>∃ c,x=.bl c/\if c=true then tb σ H1 Q else Q (.bl false) H1
def qrV (ta tb:TE):TE:=λσ H Q=>ta σ H λx H1=>∃ c,x=.bl c/\if c=true then Q (.bl true) H1 else tb σ H1 Q
def qpb (ta:TE):TE:=λσ H Q=>ta σ H λx H1=>∃ c,x=.bl c/\Q (.bl (!c)) H1
def qkW {op} {t:TE} (h:PE X a t):PE X (.BoolOp op [a] pos) t:=λpins s σ H Q I hw=>BoolOp_one (h pins s σ H Q I hw)
def qjj (ha:PE X a ta) (hb:PE X (.BoolOp .And (b::QR) pos) tb):PE X (.BoolOp .And (a::b::QR) pos) (qpJ ta tb):=by
 intro pins s σ H Q I h;refine BoolOp_and (thn (ha pins s σ H _ I h) λv s1 ⟨x,H1,I1,r1,q1⟩=>?_);obtain ⟨c,rfl,q1⟩:=q1;cases r1;refine wpAny_truthy_bool ?_;cases c with
 |true=>exact hb pins s1 σ H1 Q I1 q1
 |false=>exact ⟨.bl false,H1,I1,rfl,q1⟩
def qp9 (ha:PE X a ta) (hb:PE X (.BoolOp .Or (b::QR) pos) tb):PE X (.BoolOp .Or (a::b::QR) pos) (qrV ta tb):=by
 intro pins s σ H Q I h;refine BoolOp_or (thn (ha pins s σ H _ I h) λv s1 ⟨x,H1,I1,r1,q1⟩=>?_);obtain ⟨c,rfl,q1⟩:=q1;cases r1;refine wpAny_truthy_bool ?_;cases c with
 |false=>exact hb pins s1 σ H1 Q I1 q1
 |true=>exact ⟨.bl true,H1,I1,rfl,q1⟩
def qnf (ha:PE X a ta):PE X (.UnaryOp .Not a pos) (qpb ta):=by
 intro pins s σ H Q I h;refine UnaryOp_ (thn (ha pins s σ H _ I h) λv s1 ⟨x,H1,I1,r1,q1⟩=>?_);obtain ⟨c,rfl,q1⟩:=q1;cases r1;exact not_of (wpAny_truthy_bool ⟨.bl (!c),H1,I1,rfl,q1⟩)
def tIf (t:TT) (ta tb:TE):TE:=λσ H Q=>t σ H λc H1=>if c=true then ta σ H1 Q else tb σ H1 Q
def qez {c:Expr} (hc:PT X c tA) (ha:PE X a ta) (hb:PE X b tb):PE X (.IfExp c a b pos) (tIf tA ta tb):=by
 intro pins s σ H Q I h;refine wpAny_IfExp (thn (hc pins s σ H _ I h) λd s1 ⟨H1,I1,q1⟩=>?_);cases d with
 |true=>exact ha pins s1 σ H1 Q I1 q1
 |false=>exact hb pins s1 σ H1 Q I1 q1
end
def SqL (K:Frg) (H:Hp) (a:Addr) (xs:List V):Prop:=
 Rd H a (.lst xs) ∨
  ∃ (o:Obj) (its:Array Value) (n:Nat),K.lookup a=some o/\o.cls=.type "list"/\o.dict=none/\o.data=.seq its n/\its.size<=sizeLine/\zo xs its.toList
def SqT (K:Frg) (H:Hp) (a:Addr) (xs:List V):Prop:=
 Rd H a (.tup xs) ∨
  ∃ (o:Obj) (its:Array Value) (n:Nat),K.lookup a=some o/\o.cls=.type "tuple"/\o.data=.seq its n/\its.size<=sizeLine/\zo xs its.toList/\o.dict=none
def qrA:Value->Option V
 |.none=>some .non
 |.bool b=>some (.bl b)
 |.int i _=>some (.int i)
 |.str x _=>some (.str x)
 |.bytes b _=>some (.byt b)
 |.float b _=>some (.flt b)
 |.ref a=>some (.ref a)
 |.type n=>some (.ty n)
 |_=>none
def jp.abs {x:V} {u:Value} (r:jp x u):qrA u=some x:=by
 cases x with
 |non=>cases r;rfl
 |bl _=>cases r;rfl
 |int _=>obtain ⟨t,rfl⟩:=r;rfl
 |str _=>obtain ⟨t,rfl⟩:=r;rfl
 |byt _=>obtain ⟨t,rfl⟩:=r;rfl
 |flt _=>obtain ⟨t,rfl⟩:=r;rfl
 |ref _=>cases r;rfl
 |ty _=>cases r;rfl
theorem jp.inj {x y:V} {u:Value} (r:jp x u) (q:jp y u):x=y:=Option.some.inj (r.abs.symm.trans q.abs)
theorem zo.inj:∀ {xs ys:List V} {us:List Value},zo xs us->zo ys us->xs=ys
 |_,_,_,.nil,.nil=>rfl
 |_,_,_,.cons r t,.cons r' t'=>by rw [r.inj r',zo.inj t t']
section
variable {X:Cx} {pins:List (Addr×Obj)} {σ:St} {H:Hp} {s:Shared} {a:Addr} {xs ys:List V}
def SqL.of {K:Frg} (h:H a=some (.lst xs)):SqL K H a xs:=.inl (.inl h)
def SqT.of {K:Frg} (h:H a=some (.tup xs)):SqT K H a xs:=.inl (.inl h)
def Inv.list (I:Inv X pins σ H s) (h:SqL X.K H a xs):∃ its:List Value,zo xs its/\PlainL s.heap a its.toArray/\xs.length<=sizeLine:=by
 rcases h with h|⟨o,its,n,hk,hc,hd,hs,hz,r⟩
 ·obtain ⟨z,its,n,r,e⟩:=h.ok I.hok;exact ⟨its,r,⟨_,n,e,rfl,rfl,rfl⟩,z⟩
 ·refine ⟨its.toList,r,⟨o,n,I.kIn a o hk,hc,hd,by simpa using hs⟩,?_⟩;have e:=r.length;simp only [Array.length_toList] at e;omega
def Inv.tuple (I:Inv X pins σ H s) (h:SqT X.K H a xs):∃ its:List Value,zo xs its/\IsTup s.heap a its.toArray/\xs.length<=sizeLine:=by
 rcases h with h|⟨o,its,n,hk,hc,hs,hz,r,_⟩
 ·obtain ⟨z,its,r,p⟩:=h.ok I.hok;exact ⟨its,r,p.tup,z⟩
 ·refine ⟨its.toList,r,⟨o,I.kIn a o hk,hc,n,by simpa using hs⟩,?_⟩;have e:=r.length;simp only [Array.length_toList] at e;omega
def Inv.list_inj (I:Inv X pins σ H s) (h:SqL X.K H a xs) (h':SqL X.K H a ys):xs=ys:=by
 obtain ⟨its,r,⟨o,n,e,_,_,d⟩,_⟩:=I.list h;obtain ⟨its',r',⟨o',n',e',_,_,d'⟩,_⟩:=I.list h';rw [e] at e';cases e';rw [d] at d';injection d' with d1 _;have:its=its':=by simpa using congrArg Array.toList d1
 subst this;exact r.inj r'
def Inv.tuple_inj (I:Inv X pins σ H s) (h:SqT X.K H a xs) (h':SqT X.K H a ys):xs=ys:=by
 obtain ⟨its,r,⟨o,e,_,n,d⟩,_⟩:=I.tuple h;obtain ⟨its',r',⟨o',e',_,n',d'⟩,_⟩:=I.tuple h';rw [e] at e';cases e';rw [d] at d';injection d' with d1 _;have:its=its':=by simpa using congrArg Array.toList d1
 subst this;exact r.inj r'
end
abbrev Cx.wish (X:Cx) (E:Value->Shared->Prop):Cx:={ X with xe:=E }
abbrev Cx.nox (X:Cx):Cx:=X.wish λ_ _=>False
theorem Cx.Ok.wish {X:Cx} (ok:X.Ok) (E:Value->Shared->Prop):(X.wish E).Ok:=
 ⟨ok.mod,ok.kind,ok.glob,ok.blt,ok.above,ok.inj,ok.has,ok.cab,ok.hd,ok.frames,ok.stk,ok.exf,ok.bs,ok.bsz,ok.noex,ok.exfs,ok.funs,ok.frf⟩
def Cx.Ok.unwish {X:Cx} {E:Value->Shared->Prop} (ok:(X.wish E).Ok):X.Ok:=
 ⟨ok.mod,ok.kind,ok.glob,ok.blt,ok.above,ok.inj,ok.has,ok.cab,ok.hd,ok.frames,ok.stk,ok.exf,ok.bs,ok.bsz,ok.noex,ok.exfs,ok.funs,ok.frf⟩
section
variable {X:Cx} {pins:List (Addr×Obj)} {σ:St} {H:Hp} {s:Shared} {E:Value->Shared->Prop}
theorem Inv.wish (I:Inv X pins σ H s) (E:Value->Shared->Prop):Inv (X.wish E) pins σ H s:=⟨I.ok.wish E,I.os,I.bare,I.base,I.loc,I.cell,I.free,I.freeC,I.pin,I.hok,I.len⟩
theorem Inv.unwish (I:Inv (X.wish E) pins σ H s):Inv X pins σ H s:=⟨I.ok.unwish,I.os,I.bare,I.base,I.loc,I.cell,I.free,I.freeC,I.pin,I.hok,I.len⟩
theorem SP.unwish {D:Ends} {f:Flow} {s':Shared} (h:SP (X.wish E) pins D f s'):SP X pins D f s':=by
 cases f with
 |next=>obtain ⟨σ',H',I,q⟩:=h;exact ⟨σ',H',I.unwish,q⟩
 |brk=>obtain ⟨σ',H',I,q⟩:=h;exact ⟨σ',H',I.unwish,q⟩
 |cont=>obtain ⟨σ',H',I,q⟩:=h;exact ⟨σ',H',I.unwish,q⟩
 |ret u=>obtain ⟨v,σ',H',I,r,q⟩:=h;exact ⟨v,σ',H',I.unwish,r,q⟩
theorem PSs.nox {st:List Stmt} {t:TS} (h:PSs X.nox st t):PSs X st t:=λpins s σ H D I hw=>
 y9 (h pins s σ H D (I.wish _) hw) (λ_ _ q=>q.unwish) λ_ _ z=>False.elim z
end
section
variable {X:Cx} {st:Stmt} {QR:List Stmt} {t u:TS} {e:Expr} {te:TE} {pos:Pos}
def qpg:TS:=λD σ H=>D.nx σ H
def qrM (t u:TS):TS:=λD σ H=>t { D with nx:=u D } σ H
def qiO:PSs X [] qpg:=λ_ _ σ H _ I h=>wpAny_execs_nil ⟨σ,H,I,h⟩
def qdR (h1:PS X st t) (h2:PSs X QR u):PSs X (st::QR) (qrM t u):=by
 intro pins s σ H D I h;refine wpAny_execs_cons (thn (h1 pins s σ H { D with nx:=u D } I h) λf s1 q=>?_);cases f with
 |next=>
  obtain ⟨σ',H',I',q⟩:=q;exact h2 pins s1 σ' H' D I' q
 |ret v=>exact q
 |brk=>exact q
 |cont=>exact q
def qh9 (h1:PS X st t):PSs X [st] t:=by
 intro pins s σ H D I h;refine wpAny_execs_cons (thn (h1 pins s σ H D I h) λf s1 q=>?_);cases f with
 |next=>exact wpAny_execs_nil q
 |ret v=>exact q
 |brk=>exact q
 |cont=>exact q
def Inv.quiet {pins:List (Addr×Obj)} {σ:St} {H:Hp} {s:Shared} (I:Inv X pins σ H s):interactive X.env=false:=by simp [interactive,I.ok.kind]
def qpn (te:TE):TS:=λD σ H=>te σ H λ_ H1=>D.nx σ H1
def qiC (he:PE X e te) (hs:swapsWith e none pos.line X.env=pure false:=by rfl):PS X (.Expr e pos) (qpn te):=by
 intro pins s σ H D I h;exact wpAny_Expr_any (thn (he pins s σ H _ I h) λv s1 ⟨x,H1,I1,r1,q1⟩=>⟨σ,H1,I1,q1⟩) I.quiet hs
def qrl (te:TE):TS:=λD σ H=>te σ H D.rt
def qnE (he:PE X e te):PS X (.Return (some e) pos) (qrl te):=by
 intro pins s σ H D I h;exact wpAny_Return_some (thn (he pins s σ H _ I h) λv s1 ⟨x,H1,I1,r1,q1⟩=>⟨x,σ,H1,I1,r1,q1⟩)
def qrf (c:TT) (t u:TS):TS:=λD σ H=>c σ H λb H1=>if b=true then t D σ H1 else u D σ H1
def qow {c:Expr} {a b:List Stmt} {tc:TT} (hc:PT X c tc) (ha:PSs X a t) (hb:PSs X b u):PS X (.If c a b pos) (qrf tc t u):=by
 intro pins s σ H D I h;refine wpAny_If (thn (hc pins s σ H _ I h) λd s1 ⟨H1,I1,q1⟩=>?_);cases d with
 |true=>exact ha pins s1 σ H1 D I1 q1
 |false=>exact hb pins s1 σ H1 D I1 q1
end
abbrev TG:=V->St->Hp->(St->Hp->Prop)->Prop
abbrev TGs:=List V->St->Hp->(St->Hp->Prop)->Prop
def PG (X:Cx) (target:Expr) (t:TG):Prop:=
 ∀ (pins:List (Addr×Obj)) (s:Shared) (σ:St) (H:Hp) (v:V) (u:Value) (Q:St->Hp->Prop),Inv X pins σ H s->jp v u->t v σ H Q ->
  wpAny (model X.prog X.w) X.A (assign target X.env u) (λ_ s'=>∃ σ' H',Inv X pins σ' H' s'/\Q σ' H') X.xe s
def PGs (X:Cx) (ts:List Expr) (t:TGs):Prop:=
 ∀ (pins:List (Addr×Obj)) (s:Shared) (σ:St) (H:Hp) (vs:List V) (us:List Value) (Q:St->Hp->Prop),Inv X pins σ H s->zo vs us->t vs σ H Q ->
  wpAny (model X.prog X.w) X.A (assignInOrder ((assignEach ts X.env).map (·.2)) us) (λ_ s'=>∃ σ' H',Inv X pins σ' H' s'/\Q σ' H') X.xe s
abbrev qn4:=V->V->V->Hp->(Hp->Prop)->Prop
def qpr (X:Cx) (t:qn4):Prop:=
 ∀ (pins:List (Addr×Obj)) (s:Shared) (σ:St) (H:Hp) (o i v:V) (ov iv u:Value) (Q:Hp->Prop),Inv X pins σ H s->jp o ov->jp i iv->jp v u->t o i v H Q ->
  wpAny (model X.prog X.w) X.A (setItem ov iv u) (λ_ s'=>∃ H',Inv X pins σ H' s'/\Q H') X.xe s
abbrev TIp:=V->V->Hp->VK->Prop
def PIp (X:Cx) (op:Operator) (t:TIp):Prop:=
 ∀ (pins:List (Addr×Obj)) (s:Shared) (σ:St) (H:Hp) (x y:V) (v u:Value) (Q:VK),Inv X pins σ H s->jp x v->jp y u->t x y H Q ->
  wpAny (model X.prog X.w) X.A (inplaceOp op v u) (EP X pins σ Q) X.xe s
section
variable {X:Cx} {pos:Pos}
def qid (i:Nat):TG:=λv σ H Q=>Q (σ.set i (some v)) H
def qhr {i:Nat} {x:Str} (hN:X.N.Nodup) (hi:X.N[i]?=some x) (hx:Loc X.env.scope x) (hf:X.fn x=true\/X.env.scope.names.lookup x=some .local:=by first|exact .inl rfl|exact .inr rfl|assumption):PG X (.Name x pos) (qid i):=by
 intro pins s σ H v u Q I r h;exact wpAny_assign_Name (EC I hN hi hx r (λs' I'=>⟨_,H,I',h⟩) hf)
def MC:TGs:=λvs σ H Q=>vs=[]/\Q σ H
def jg (t:TG) (u:TGs):TGs:=λvs σ H Q=>∃ v r,vs=v::r/\t v σ H λσ' H'=>u r σ' H' Q
def qh8:PGs X [] MC:=by
 intro pins s σ H vs us Q I r h;obtain ⟨e,h⟩:=h;subst e;cases r;exact assignInOrder_nil ⟨σ,H,I,h⟩
def qd4 {e:Expr} {es:List Expr} {t:TG} {u:TGs} (h1:PG X e t) (h2:PGs X es u)
  (hs:(assignEach (e::es) X.env).map (·.2)=assign e X.env::(assignEach es X.env).map (·.2):=by rfl):PGs X (e::es) (jg t u):=by
 intro pins s σ H vs us Q I r h;obtain ⟨v,vr,e1,h⟩:=h;subst e1;cases r with
 |cons r rr=>
  rw [hs];refine assignInOrder_cons (thn (h1 pins s σ H _ _ _ I r h) λ_ s1 ⟨σ1,H1,I1,q1⟩=>?_);exact h2 pins s1 σ1 H1 _ _ Q I1 rr q1
def LW (K:Frg) (n:Nat) (t:TGs):TG:=λv σ H Q=>∃ a xs,v=.ref a/\SqT K H a xs/\xs.length=n/\t xs σ H Q
def qlG {es:List Expr} {k:Nat} {t:TGs} {n:Nat} (hc:X.calm=true) (h:PGs X es t)
  (hn:(assignEach es X.env).length=n:=by rfl) (hst:(assignEach es X.env).findIdx? (·.1)=none:=by rfl):PG X (.Tuple es k pos) (LW X.K n t):=by
 intro pins s σ H v u Q I r hw;obtain ⟨a,xs,e1,hq,hl,hw⟩:=hw;subst e1;cases r;obtain ⟨its,rv,ht,hz⟩:=I.tuple hq;refine assign_Tuple_tuple (I.ok.hd hc) ht (by simp [hn,← hl,rv.length]) hst λh' hx=>?_;have I1:Inv X pins σ H { s with heap:=h' }:=I.kept (t':=s.toks) λb o e=>hx b o (za3 (v5 e)) e;exact h pins _ σ H xs _ Q I1 (by simpa using rv) hw
def qrP (to ti:TE) (t:qn4):TG:=λv σ H Q=>to σ H λo H1=>ti σ H1 λi H2=>t o i v H2 λH3=>Q σ H3
def qeX {o i:Expr} {to ti:TE} {t:qn4} (ho:PE X o to) (hi:PE X i ti) (hs:qpr X t)
  (ha:∀ v,assign (.Subscript o i pos) X.env v=(do
   let ov←holding [v] (eval o X.env)
   let iv←holding [v,ov] (eval i X.env)
   standAt pos
   holding [v,ov,iv] (setItem ov iv v)
   release [v,ov,iv] []):=by intro _;rfl):PG X (.Subscript o i pos) (qrP to ti t):=by
 intro pins s σ H v u Q I r h;rw [ha];refine y6 (wpAny_holding (thn (ho pins s σ H _ I h) λov s1 ⟨x,H1,I1,r1,q1⟩=>?_));refine y6 (wpAny_holding (thn (hi pins s1 σ H1 _ I1 q1) λiv s2 ⟨y,H2,I2,r2,q2⟩=>?_));refine y6 (wpAny_standAt (y6 (wpAny_holding (thn (hs pins s2 σ H2 x y v ov iv u _ I2 r1 r2 r q2) λ_ s3 ⟨H3,I3,q3⟩=>?_))));exact wpAny_release ⟨σ,H3,I3,q3⟩
def qqn (te:TE) (g:TG):TS:=λD σ H=>te σ H λx H1=>g x σ H1 D.nx
def qnr {tg e:Expr} {te:TE} {g:TG} (he:PE X e te) (hg:PG X tg g) (hs:swapsWithSole [tg] e pos.line X.env=pure false:=by rfl) (hw:swappedStores [tg] e X.env=pure none:=by rfl)
  (h1:(assignEach [tg] X.env).map (·.2)=[assign tg X.env]:=by rfl):PS X (.Assign [tg] e pos) (qqn te g):=by
 intro pins s σ H D I h;refine wpAny_Assign_stores (thn (he pins s σ H _ I h) λv s1 ⟨x,H1,I1,r1,q1⟩=>?_) hs hw;rw [h1];exact thn (hg pins s1 σ H1 x v _ I1 r1 q1) λ_ s2 q=>q
def qmS {i:Nat} {x:Str} {e:Expr} {te:TE} {pos':Pos} (hN:X.N.Nodup) (hi:X.N[i]?=some x) (hx:Loc X.env.scope x) (he:PE X e te) (hs:swapsWith e (some (.Name x pos')) pos.line X.env=pure false:=by rfl) (hf:X.fn x=true\/X.env.scope.names.lookup x=some .local:=by first|exact .inl rfl|exact .inr rfl|assumption) :
  PS X (.Assign [.Name x pos'] e pos) (qqn te (qid i)):=by
 intro pins s σ H D I h;refine wpAny_Assign_Name (thn (he pins s σ H _ I h) λv s1 ⟨y,H1,I1,r1,q1⟩=>?_) hs;exact EC I1 hN hi hx r1 (λs2 I2=>⟨_,H1,I2,q1⟩) hf
def qru (i j:Nat) (ta:TA):TS:=λD σ H=>ta σ H λvs H1=>∃ v w,vs=[v,w]/\D.nx ((σ.set i (some v)).set j (some w)) H1
def qkm {i j:Nat} {x y:Str} {a b:Expr} {ta:TA} {px py pt:Pos} {kt k2 pt2} (hc:X.calm=true) (hN:X.N.Nodup) (hi:X.N[i]?=some x) (hj:X.N[j]?=some y) (hij:i≠j)
  (hx:X.env.scope.names.lookup x=some .local) (hy:X.env.scope.names.lookup y=some .local) (ha:PA X [a,b] ta)
  (hw:swappedStores [.Tuple [.Name x px,.Name y py] kt pt] (.Tuple [a,b] k2 pt2) X.env=pure (some [x,y]))
  (hs:swapsWithSole [.Tuple [.Name x px,.Name y py] kt pt] (.Tuple [a,b] k2 pt2) pos.line X.env=pure false:=by rfl) :
  PS X (.Assign [.Tuple [.Name x px,.Name y py] kt pt] (.Tuple [a,b] k2 pt2) pos) (qru i j ta):=by
 intro pins s σ H D I h;rw [exec_Assign_arm];refine y6 (wpAny_standAt ?_);rw [hs];refine y6 (y8 ?_);rw [if_neg (by decide)];refine y6 (Tuple_ (thn (ha _ pins s σ H _ I h) λus s1 ⟨vs,H1,I1,r1,q1⟩=>?_));obtain ⟨v,w,e1,q1⟩:=q1;subst e1;obtain ⟨u1,u2,rfl,rv,rw'⟩:∃ u1 u2,us=[u1,u2]/\jp v u1/\jp w u2:=by
  cases r1 with
  |cons p q=>
   cases q with
   |cons p' q'=>
    cases q';exact ⟨_,_,rfl,p,p'⟩
 refine wpAny_newObj_type ?_ (by show 2<=sizeLine;decide);have I2:Inv X pins σ H1 { s1 with heap:=s1.heap.push { cls:=.type "tuple",data:=.seq [u1,u2].toArray } }:=I1.kept (t':=s1.toks) λb o e=>v0 _ e;rw [hw];refine y6 (y8 ?_);show wpAny (model X.prog X.w) X.A (do rule "assign.swapped-stores";let items←unpackItems (.ref s1.heap.objs.size) 2 none;assignInOrder [λv=>bindName X.env y v,λv=>bindName X.env x v] items.reverse;pure Flow.next) _ _ _;refine y6 (wpAny_rule (y6 (unpackItems_tuple (items:=#[u1,u2]) (I.ok.hd hc) (IsTup.new s1.heap _) λh' hx'=>?_)));have I3:=I2.kept (h':=h') (t':=s1.toks) λb o e=>hx' b o (za3 (v5 e)) e;show wpAny _ _ (assignInOrder [λv=>bindName X.env y v,λv=>bindName X.env x v] [u2,u1] >>= λ_=>pure Flow.next) _ _ _;refine y6 (assignInOrder_cons (wpAny_bindName (EC I3 hN hj (.inl hy) rw' (λs2 I4=>?_) (.inr hy))));refine assignInOrder_cons (wpAny_bindName (EC I4 hN hi (.inl hx) rv (λs3 I5=>assignInOrder_nil (y8 ?_)) (.inr hx)));rw [List.set_comm _ _ (Ne.symm hij)] at I5;exact ⟨_,H1,I5,q1⟩
def qrQ (i:Nat) (te:TE) (ti:TIp):TS:=λD σ H=>∃ x,σ[i]?=some (some x)/\te σ H λy H1=>ti x y H1 λz H2=>D.nx (σ.set i (some z)) H2
def qmp {i:Nat} {x:Str} {e:Expr} {te:TE} {op:Operator} {ti:TIp} {pos':Pos} (hN:X.N.Nodup) (hi:X.N[i]?=some x) (hx:Loc X.env.scope x) (he:PE X e te) (ho:PIp X op ti) (hf:X.fn x=true\/X.env.scope.names.lookup x=some .local:=by first|exact .inl rfl|exact .inr rfl|assumption) :
  PS X (.AugAssign (.Name x pos') op e pos) (qrQ i te ti):=by
 intro pins s σ H D I h;obtain ⟨v,e1,h⟩:=h;obtain ⟨m,hn,hl⟩:=I.loc;have vis:Vis X.env.scope x:=by rcases hx with k|k;exact .inl k;exact .inr (.inl k)
 obtain ⟨u,r,l⟩:=hl i x v hi e1 vis;refine wpAny_AugAssign_Name ?_;have go:wpAny (model X.prog X.w) X.A (eval e X.env) (λw s₂=>wpAny (model X.prog X.w) X.A (inplaceOp op u w) (λr s₃=>wpAny (model X.prog X.w) X.A (storeName X.env x r) (λ_=>SP X pins D .next) X.xe s₃) X.xe s₂) X.xe s:=by
  refine thn (he pins s σ H _ I h) λw s1 ⟨y,H1,I1,r1,q1⟩=>?_;refine thn (ho pins s1 σ H1 v y u w _ I1 r r1 q1) λz s2 ⟨zv,H2,I2,r2,q2⟩=>?_;exact EC I2 hN hi hx r2 (λs3 I3=>⟨_,H2,I3,q2⟩) hf
 rcases l with ⟨hk,hm⟩|⟨hk,c,hc,hcell⟩
 ·exact wpAny_loadName_local I.ok.kind hk hn hm go
 ·rcases hk with hk|hk
  ·exact wpAny_loadName_cell I.ok.kind hk hc hcell go
  ·rcases hx with k|k
   ·have:X.env.scope.names.lookup x=some .free:=hk;rw [k] at this;cases this
   ·have:X.env.scope.names.lookup x=some .free:=hk;rw [k] at this;cases this
def ipI (f:Int->Int->Int):TIp:=λx y H Q=>∃ i j,x=.int i/\y=.int j/\Q (.int (f i j)) H
def qnd:PIp X .Add (ipI λi j=>i+j):=by
 intro pins s σ H x y v u Q I r1 r2 h;obtain ⟨i,j,e1,e2,q⟩:=h;subst e1;subst e2;obtain ⟨t,rfl⟩:=r1;obtain ⟨t',rfl⟩:=r2;exact iadd_int ⟨.int _,H,I.tok _,⟨_,rfl⟩,q⟩
end
section
variable {X:Cx} {pos:Pos}
def qkL (c:TT) (tb:TS):TS:=λD σ H=>∃ W:Nat->St->Hp->Prop,(∃ m,W m σ H)/\∀ m σ H,W m σ H ->
 c σ H λb H1=>if b=true then ∃ N:St->Hp->Prop,(∀ σ' H',N σ' H'->∃ m',m'<m/\W m' σ' H')/\tb { D with nx:=N,ct:=N,bk:=D.nx } σ H1 else D.nx σ H1
def qd2 {c:Expr} {body:List Stmt} {tc:TT} {tb:TS} (hp:PassesOwn (model X.prog X.w) X.A X.env X.xe) (hc:PT X c tc) (hb:PSs X body tb):PS X (.While c body [] pos) (qkL tc tb):=by
 intro pins s σ H D I h;obtain ⟨W,⟨m0,w0⟩,turn⟩:=h;refine wpAny_While (codeAny_whileLoop (λn s'=>∃ σ' H',Inv X pins σ' H' s'/\W n σ' H') ?_ m0 ⟨σ,H,I,w0⟩);rintro n s1 ⟨σ1,H1,I1,w1⟩;refine wpAny_passesOwn hp (thn (hc pins s1 σ1 H1 _ I1 (turn n σ1 H1 w1)) λb s2 ⟨H2,I2,q2⟩=>?_);cases b with
 |true=>
  obtain ⟨N,hN,q2⟩:=q2;rw [if_pos rfl];refine wpAny_passesOwn hp (thn (hb pins s2 σ1 H2 _ I2 q2) λf s3 q3=>?_);cases f with
  |next=>
   obtain ⟨σ3,H3,I3,n3⟩:=q3;obtain ⟨m',hm,w3⟩:=hN σ3 H3 n3;exact ⟨m',hm,σ3,H3,I3,w3⟩
  |cont=>
   obtain ⟨σ3,H3,I3,n3⟩:=q3;obtain ⟨m',hm,w3⟩:=hN σ3 H3 n3;exact ⟨m',hm,σ3,H3,I3,w3⟩
  |brk=>exact q3
  |ret v=>exact q3
 |false=>
  rw [if_neg v6];exact wpAny_execs_nil ⟨σ1,H2,I2,q2⟩
end
structure It where
 go:Nat->Hp->Prop
 yld:Nat->Hp->V->Hp->Prop
 stop:Nat->Hp->Prop
def LB (X:Cx) (pins:List (Addr×Obj)) (H:Hp) (b:Addr):Prop:=
 H b=none/\b≠X.env.locals/\b∉X.fs/\(b∈X.ex\/X.s₀.heap.objs.size<=b)/\(∀ x c,X.env.cells.lookup x=some c->c≠b)/\∀ p∈X.pn++pins,p.1≠b
def Inv.fpOk {X:Cx} {pins:List (Addr×Obj)} {σ:St} {H H':Hp} {s:Shared} {b:Addr} (I:Inv X pins σ H s) (hb:s.heap.objs.size<=b) (hn:H' b=none):LB X pins H' b:=by
 refine ⟨hn,Nat.ne_of_gt (za0 I.lt hb),I.nofs hb,.inr (za2 I.sz hb),λx c e z=>?_,λp hp z=>?_⟩
 ·obtain ⟨v,q⟩:=I.cell x c e;exact absurd (za0 q.lt (by rw [z];exact hb)) (Nat.lt_irrefl _)
 ·exact absurd (za0 (v5 (I.pin p hp).1) (by rw [z];exact hb)) (Nat.lt_irrefl _)
structure Turn (P:Program) (w:World) (K:Frg) (tg:Expr) (J:It) (fp:List Addr) (it:Addr) (tn:Nat->Heap->Prop):Prop where
 mem:it∈fp
 obj:∀ i h,tn i h->∀ b∈fp,∃ o,h.get? b=some o/\∀ v,o.data≠.cell v
 keep:∀ i h h',tn i h->(∀ b∈fp,∀ o,h.get? b=some o->h'.get? b=some o)->tn i h'
 item:∀ (X:Cx),X.prog=P->X.w=w->X.K=K->X.calm=true->∀ (i:Nat) (pins:List (Addr×Obj)) (s:Shared) (σ:St) (H:Hp) (E:Value->Shared->Prop),Inv X pins σ H s->(∀ b∈fp,LB X pins H b)->tn i s.heap->J.go i H ->
  wpAny (model P w) X.A (pyNext (.ref it)) (λr s1=>∃ u,r=some u /\
   wpAny (model P w) X.A (letOwnedTupleGo tg (.ref it) u) (λ_ s2=>∃ x H',Inv X pins σ H' s2/\jp x u/\J.yld i H x H'/\tn (i+1) s2.heap/\∀ b∈fp,H' b=none) E s1) E s
 done:∀ (X:Cx),X.prog=P->X.w=w->X.K=K->X.calm=true->∀ (i:Nat) (pins:List (Addr×Obj)) (s:Shared) (σ:St) (H:Hp) (E:Value->Shared->Prop),Inv X pins σ H s->(∀ b∈fp,LB X pins H b)->tn i s.heap->J.stop i H ->
  wpAny (model P w) X.A (pyNext (.ref it)) (λr s1=>r=none/\Inv X pins σ H s1) E s
 self:∀ (A:Around) (i:Nat) (s:Shared) (Q:Value->Shared->Prop) (E:Value->Shared->Prop),tn i s.heap->Q (.ref it) s->wpAny (model P w) A (pyIter (.ref it)) Q E s
abbrev TI:=St->Hp->(It->Hp->Prop)->Prop
def PIE (X:Cx) (pins:List (Addr×Obj)) (σ:St) (tg:Expr) (R:It->Hp->Prop) (itv:Value) (s2:Shared):Prop:=
 ∃ (it:Addr) (fp:List Addr) (tn:Nat->Heap->Prop) (J:It) (H':Hp),itv=.ref it/\Inv X pins σ H' s2/\Turn X.prog X.w X.K tg J fp it tn/\tn 0 s2.heap/\(∀ b∈fp,LB X pins H' b)/\R J H'
def PI (X:Cx) (tg iter:Expr) (wi:TI):Prop:=
 ∀ (pins:List (Addr×Obj)) (s:Shared) (σ:St) (H:Hp) (R:It->Hp->Prop),Inv X pins σ H s->wi σ H R ->
  wpAny (model X.prog X.w) X.A (eval iter X.env) (λv s1=>wpAny (model X.prog X.w) X.A (pyIter v) (PIE X pins σ tg R) X.xe s1) X.xe s
def qh2 {M:Model} {A:Around} {E:Value->Shared->Prop} {s:Shared} {tg:Expr} {it:Addr} {u:Value} {o:Obj} {n:String} {vs:Array Value} {Q:Unit->Shared->Prop} (ho:s.heap.get? it=some o) (hc:o.cls=.type n) (hd:o.data=.fields vs)
    (hn:["enumerate","zip","dict_itemiterator","dict_reverseitemiterator","odict_iterator","itertools.zip_longest","itertools.pairwise"].contains n=false) (hQ:Q () s):wpAny M A (letOwnedTupleGo tg (.ref it) u) Q E s:=by
  unfold letOwnedTupleGo;cases tg<;>first
    |exact y8 hQ
    | (cases u<;>first
        |exact y8 hQ
        | (refine y6 (wpAny_load ho ?_)
           rw [hc,hd];show wpAny M A (if (["enumerate","zip","dict_itemiterator","dict_reverseitemiterator","odict_iterator","itertools.zip_longest","itertools.pairwise"].contains n&&vs[0]?==some (rawInt _))=true then _ else _) Q E s;rw [if_neg (by intro h;rw [hn,Bool.false_and] at h;cases h)];exact y8 hQ))
def Itl (K:Frg) (a:Addr):It:=
 ⟨λi H=>∃ xs x,SqL K H a xs/\xs[i]?=some x,λi H x H'=>H'=H/\∀ xs,SqL K H a xs->xs[i]?=some x,λi H=>∃ xs,SqL K H a xs/\xs.length<=i⟩
def Itt (K:Frg) (a:Addr):It:=
 ⟨λi H=>∃ xs x,SqT K H a xs/\xs[i]?=some x,λi H x H'=>H'=H/\∀ xs,SqT K H a xs->xs[i]?=some x,λi H=>∃ xs,SqT K H a xs/\xs.length<=i⟩
def Itr (lo:Int) (n:Nat):It:=⟨λi _=>i<n,λi H x H'=>H'=H/\x=.int (lo+i),λi _=>n<=i⟩
def qcZ {P:Program} {w:World} {K:Frg} {tg:Expr} (a it:Addr):Turn P w K tg (Itl K a) [it] it (λi h=>h.IsListIter it a i) where
 mem:=by simp
 obj:=λi h st b hb=>by
  have e:b=it:=by simpa using hb
  subst e;obtain ⟨o,e,c,d⟩:=st;exact ⟨o,e,λv z=>by rw [d] at z;cases z⟩
 keep:=λi h h' st k=>st.at λo e=>k it (by simp) o e
 item:=by
  intro X hP hw hK hc i pins s σ H E I hf st hg;subst hP hw hK;obtain ⟨xs,x,hq,hx⟩:=hg;obtain ⟨its,rv,p,hz⟩:=I.list hq;obtain ⟨u,hu,ru⟩:=rv.get hx;obtain ⟨f0,f1,f2,f3,f4,f5⟩:=hf it (by simp);refine wpAny_pyNext_list_item st p.isList (x:=u) (by simpa using hu) λh' st' sb=>?_;have I1:Inv X pins σ H { s with heap:=h' }:=I.turned (t':=s.toks) (λb o hb e=>(sb.2 b hb).trans e) f0 f1 f3 f4 f5;obtain ⟨o,e,c,d⟩:=id st';exact ⟨u,rfl,qh2 (s:={ s with heap:=h' }) e c d (by decide) ⟨x,H,I1,ru,⟨rfl,λys hy=>by rw [I.list_inj hy hq];exact hx⟩,st',λb hb=>(hf b hb).1⟩⟩
 done:=by
  intro X hP hw hK hc i pins s σ H E I hf st hg;subst hP hw hK;obtain ⟨xs,hq,hx⟩:=hg;obtain ⟨its,rv,p,hz⟩:=I.list hq;obtain ⟨f0,f1,f2,f3,f4,f5⟩:=hf it (by simp);have hl:=rv.length;exact wpAny_pyNext_list_end (I.ok.hd hc) st p.isList (by simp;omega) λh' eb=>⟨rfl,I.turned (t':=s.toks) (λb o hb e=>eb b o hb e) f0 f1 f3 f4 f5⟩
 self:=λ_ _ _ _ _ st h=>wpAny_pyIter_listiter st h
def qas {P:Program} {w:World} {K:Frg} {tg:Expr} (a it:Addr):Turn P w K tg (Itt K a) [it] it (λi h=>h.IsTupleIter it a i) where
 mem:=by simp
 obj:=λi h st b hb=>by
  have e:b=it:=by simpa using hb
  subst e;obtain ⟨o,e,c,d⟩:=st;exact ⟨o,e,λv z=>by rw [d] at z;cases z⟩
 keep:=λi h h' st k=>st.at λo e=>k it (by simp) o e
 item:=by
  intro X hP hw hK hc i pins s σ H E I hf st hg;subst hP hw hK;obtain ⟨xs,x,hq,hx⟩:=hg;obtain ⟨its,rv,p,hz⟩:=I.tuple hq;obtain ⟨u,hu,ru⟩:=rv.get hx;obtain ⟨f0,f1,f2,f3,f4,f5⟩:=hf it (by simp);refine wpAny_pyNext_tuple_item st (show s.heap.IsTuple a its.toArray from p) (x:=u) (by simpa using hu) λh' st' sb=>?_;have I1:Inv X pins σ H { s with heap:=h' }:=I.turned (t':=s.toks) (λb o hb e=>(sb.2 b hb).trans e) f0 f1 f3 f4 f5;obtain ⟨o,e,c,d⟩:=id st';exact ⟨u,rfl,qh2 (s:={ s with heap:=h' }) e c d (by decide) ⟨x,H,I1,ru,⟨rfl,λys hy=>by rw [I.tuple_inj hy hq];exact hx⟩,st',λb hb=>(hf b hb).1⟩⟩
 done:=by
  intro X hP hw hK hc i pins s σ H E I hf st hg;subst hP hw hK;obtain ⟨xs,hq,hx⟩:=hg;obtain ⟨its,rv,p,hz⟩:=I.tuple hq;obtain ⟨f0,f1,f2,f3,f4,f5⟩:=hf it (by simp);have hl:=rv.length;exact wpAny_pyNext_tuple_end (I.ok.hd hc) st (show s.heap.IsTuple a its.toArray from p) (by simp;omega) λh' eb=>⟨rfl,I.turned (t':=s.toks) (λb o hb e=>eb b o hb e) f0 f1 f3 f4 f5⟩
 self:=λ_ _ _ _ _ st h=>wpAny_pyIter_tupleiter st h
def qaA {P:Program} {w:World} {K:Frg} {tg:Expr} (it:Addr) (lo:Int) (n:Nat):Turn P w K tg (Itr lo n) [it] it (λi h=>IsRangeIter h it (lo+(i:Nat)*1) ((n:Int)-(i:Nat)) 1) where
 mem:=by simp
 obj:=λi h st b hb=>by
  have e:b=it:=by simpa using hb
  subst e;exact ⟨_,st,λv z=>by
   have z':Data.fields _=Data.cell v:=z;cases z'⟩
 keep:=λi h h' st k=>k it (by simp) _ st
 item:=by
  intro X hP hw hK hc i pins s σ H E I hf st hg;subst hP hw hK;obtain ⟨f0,f1,f2,f3,f4,f5⟩:=hf it (by simp);have W:=Walks.range (prog:=X.prog) (w:=X.w) (I.ok.hd hc) it lo 1 n;refine W.item i s _ _ hg st λv h' tk hv st' kk=>?_;obtain ⟨t,rfl⟩:=hv;have I1:Inv X pins σ H { s with heap:=h',toks:=tk }:=I.turned (λb o hb e=>kk b o (by simpa using hb) e) f0 f1 f3 f4 f5;refine ⟨_,rfl,qh2 (s:={ s with heap:=h',toks:=tk }) (n:="range_iterator") st' rfl rfl (by decide) ⟨.int (lo+i),H,I1,⟨t,?_⟩,⟨rfl,rfl⟩,st',λb hb=>(hf b hb).1⟩⟩;rw [Int.mul_one]
 done:=by
  intro X hP hw hK hc i pins s σ H E I hf st hg;subst hP hw hK;obtain ⟨f0,f1,f2,f3,f4,f5⟩:=hf it (by simp);exact wpAny_pyNext_range_end (I.ok.hd hc) st (by have:n<=i:=hg;omega) λh' eb=>⟨rfl,I.turned (t':=s.toks) (λb o hb e=>eb b o hb e) f0 f1 f3 f4 f5⟩
 self:=λ_ _ _ _ _ st h=>wpAny_pyIter_rangeiter st h
section
variable {X:Cx} {tg:Expr}
def NO {pins:List (Addr×Obj)} {σ:St} {H:Hp} {s:Shared} {R:It->Hp->Prop} {E:Value->Shared->Prop} {lo hi:Int} {t u v:Tok} {tk:Nat} (I:Inv X pins σ H s) (h1:-(2 ^ 62)<=lo) (h2:lo<2 ^ 62) (h3:-(2 ^ 62)<=hi) (h4:hi<2 ^ 62)
  (q:R (Itr lo (hi-lo).toNat) H):wpAny (model X.prog X.w) X.A (pyIter (.ref s.heap.objs.size)) (PIE X pins σ tg R) E { s with heap:=s.heap.push { cls:=.type "range",data:=.fields #[.int lo t,.int hi u,.int 1 v] },toks:=tk }:=by
 refine wpAny_pyIter_range (IsRange.new ..) (small_one h1 h2 h3 h4) ?_;have I1:Inv X pins σ H { s with heap:=s.heap.push { cls:=.type "range",data:=.fields #[.int lo t,.int hi u,.int 1 v] },toks:=tk }:=I.kept λb o e=>v0 _ e;refine ⟨(s.heap.push { cls:=.type "range",data:=.fields #[.int lo t,.int hi u,.int 1 v] }).objs.size,[(s.heap.push { cls:=.type "range",data:=.fields #[.int lo t,.int hi u,.int 1 v] }).objs.size],_,_,H,rfl,
  I1.kept (t':=tk) λb o e=>v0 _ e,qaA _ lo (hi-lo).toNat,?_,λb hb=>?_,q⟩
 ·have e1:lo+((0:Nat):Int)*1=lo:=by simp
  have e2:(((hi-lo).toNat:Nat):Int)-((0:Nat):Int)=Builtin.Range.rangeSize lo hi 1:=by rw [rangeSize_one];split<;>omega
  show IsRangeIter _ _ (lo+((0:Nat):Int)*1) ((((hi-lo).toNat:Nat):Int)-((0:Nat):Int)) 1;rw [e1,e2];exact v4 _ rfl
 ·have e:b=(s.heap.push { cls:=.type "range",data:=.fields #[.int lo t,.int hi u,.int 1 v] }).objs.size:=by simpa using hb
  subst e;exact I1.fpOk (u7 _) (I1.hok.fresh (u7 _))
def qoV (ta:TA):TI:=λσ H R=>ta σ H λvs H1=>∃ j:Int,vs=[.int j]/\-(2 ^ 62)<=j/\j<2 ^ 62/\R (Itr 0 j.toNat) H1
def qpp (ta:TA):TI:=λσ H R=>ta σ H λvs H1=>∃ i j:Int,vs=[.int i,.int j]/\(-(2 ^ 62)<=i/\i<2 ^ 62/\-(2 ^ 62)<=j/\j<2 ^ 62)/\R (Itr i (j-i).toNat) H1
def qbe {a:Expr} {ta:TA} {p pos:Pos} (hg:Gl X "range") (hm:X.mg "range" = none) (ha:PA X [a] ta) (hs:starEach [a] X.env=[(false,eval a X.env)]:=by rfl):PI X tg (.Call (.Name "range" p) [a] [] pos) (qoV ta):=by
 intro pins s σ H R I h;refine Call_ (CJ I hg hm boot_range (PyProof.Rows.callWith_type1 (thn (ha pos pins s σ H _ I h) λus s1 ⟨vs,H1,I1,r1,q1⟩=>?_) hs rfl));obtain ⟨j,e,q1,q2,q⟩:=q1;subst e;cases r1 with
 |cons r rr=>
  cases rr;obtain ⟨t,rfl⟩:=r;exact call_range_1 (NO I1 (by omega) (by omega) q1 q2 (by simpa using q))
def qcn {a b:Expr} {ta:TA} {p pos:Pos} (hg:Gl X "range") (hm:X.mg "range" = none) (ha:PA X [a,b] ta) (hs:starEach [a,b] X.env=[(false,eval a X.env),(false,eval b X.env)]:=by rfl) (hs2:starEach [b] X.env=[(false,eval b X.env)]:=by rfl) :
  PI X tg (.Call (.Name "range" p) [a,b] [] pos) (qpp ta):=by
 intro pins s σ H R I h;refine Call_ (CJ I hg hm boot_range (PyProof.Rows.callWith_type1 (thn (ha pos pins s σ H _ I h) λus s1 ⟨vs,H1,I1,r1,q1⟩=>?_) (by rw [hs,hs2]) (by rw [hs2];rfl)));obtain ⟨i,j,e,⟨q1,q2,q3,q4⟩,q⟩:=q1;subst e;cases r1 with
 |cons r rr=>
  cases rr with
  |cons r' rr=>
   cases rr;obtain ⟨t,rfl⟩:=r;obtain ⟨t',rfl⟩:=r';exact call_range_2 (NO I1 q1 q2 q3 q4 q)
def qrg (wi:TI) (g:TG) (tb:TS):TS:=λD σ H=>wi σ H λJ H1=>∃ W:Nat->Nat->St->Hp->Prop,(∃ m,W 0 m σ H1)/\∀ i m σ H,W i m σ H ->
 (J.stop i H/\D.nx σ H)\/(J.go i H/\∃ N:St->Hp->Prop,(∀ σ' H',N σ' H'->∃ m',m'<m/\W (i+1) m' σ' H')/\∀ x H',J.yld i H x H'->g x σ H' λσ2 H2=>tb { D with nx:=N,ct:=N,bk:=D.nx } σ2 H2)
def WG (fp:List Addr) (h:Heap):List (Addr×Obj):=fp.filterMap λb=>(h.get? b).map λo=>(b,o)
def zK {fp:List Addr} {h:Heap} {b:Addr} {o:Obj} (hb:b∈fp) (e:h.get? b=some o):(b,o)∈WG fp h:=List.mem_filterMap.mpr ⟨b,hb,by rw [e];rfl⟩
def qbg {fp:List Addr} {h:Heap} {p:Addr×Obj} (hp:p∈WG fp h):p.1∈fp/\h.get? p.1=some p.2:=by
 obtain ⟨b,hb,e⟩:=List.mem_filterMap.mp hp;cases q:h.get? b with
 |none=>rw [q] at e;cases e
 |some o=>
  rw [q] at e;have e':(b,o)=p:=Option.some.inj e;subst e';exact ⟨hb,q⟩
def Inv.pinned {pins:List (Addr×Obj)} {σ:St} {H:Hp} {s:Shared} {fp:List Addr} (I:Inv X pins σ H s) (hf:∀ b∈fp,LB X pins H b) (ho:∀ b∈fp,∃ o,s.heap.get? b=some o/\∀ v,o.data≠.cell v):Inv X (pins++WG fp s.heap) σ H s:=
 I.pins_of λp hp=>(List.mem_append.mp hp).elim (λz=>I.pin p (u9 _ z)) λz=>by
  obtain ⟨hb,e⟩:=qbg z;obtain ⟨f0,f1,f2,_⟩:=hf p.1 hb;obtain ⟨o,e',d⟩:=ho p.1 hb;rw [e] at e';cases e';exact ⟨e,f0,f1,f2,d⟩
def Inv.unpinned {pins pl:List (Addr×Obj)} {σ:St} {H:Hp} {s:Shared} (I:Inv X (pins++pl) σ H s):Inv X pins σ H s:=I.pins_of λp hp=>I.pin p (u9 _ (List.mem_append_left _ hp))
def qlr {iter:Expr} {body:List Stmt} {wi:TI} {g:TG} {tb:TS} {pos:Pos} (hp:PassesOwn (model X.prog X.w) X.A X.env X.xe) (hc:X.calm=true) (hi:PI X tg iter wi) (hg:PG X tg g) (hb:PSs X body tb)
  (hs:∀ x,foldedSetIterable iter X.env x=pure x:=by intro _;rfl):PS X (.For tg iter body [] pos) (qrg wi g tb):=by
 intro pins s σ H D I h;refine wpAny_For (thn (hi pins s σ H _ I h) λv s1 h1=>thn h1 λitv s2 h2=>?_) hs;obtain ⟨it,fp,tn,J,H2,e,I2,T,st2,f2,W,⟨m0,w0⟩,turn⟩:=h2;subst e
 -- what stays true of the iterator's objects through the loop
 have stat:∀ {H':Hp},(∀ b∈fp,H' b=none)->∀ b∈fp,LB X pins H' b:=λhn b hb=>⟨hn b hb,(f2 b hb).2⟩
 refine codeAny_forLoop_any (λn s'=>∃ i σ' H',Inv X pins σ' H' s'/\tn i s'.heap/\(∀ b∈fp,H' b=none)/\W i n σ' H') ?_ m0 ⟨0,σ,H2,I2,st2,λb hb=>(f2 b hb).1,w0⟩;rintro n s3 ⟨i,σ3,H3,I3,st3,fr3,w3⟩;rcases turn i n σ3 H3 w3 with ⟨stop,qn⟩|⟨go,N,hN,step⟩
 ·refine wpAny_passesOwn hp (thn (T.done X rfl rfl rfl hc i pins s3 σ3 H3 X.xe I3 (stat fr3) st3 stop) λr s4 ⟨hr,I4⟩=>?_);subst hr;exact wpAny_execs_nil ⟨σ3,H3,I4,qn⟩
 ·refine wpAny_passesOwn hp (thn (T.item X rfl rfl rfl hc i pins s3 σ3 H3 X.xe I3 (stat fr3) st3 go) λr s4 ⟨u,hr,h4⟩=>?_);subst hr;refine wpAny_passesOwn hp (thn h4 λ_ s5 ⟨x,H5,I5,r5,y5,st5,fr5⟩=>?_);have I5':=I5.pinned (stat fr5) (T.obj _ _ st5);refine wpAny_passesOwn hp (thn (hg _ s5 σ3 H5 x u _ I5' r5 (step x H5 y5)) λ_ s6 ⟨σ6,H6,I6,q6⟩=>?_);refine wpAny_passesOwn hp (thn (hb _ s6 σ6 H6 _ I6 q6) λf s7 q7=>?_);have again:∀ {σ7:St} {H7:Hp},Inv X (pins++WG fp s5.heap) σ7 H7 s7->N σ7 H7->∃ m,m<n/\∃ i σ' H',Inv X pins σ' H' s7/\tn i s7.heap/\(∀ b∈fp,H' b=none)/\W i m σ' H':=λ{σ7 H7} I7 n7=>by
   obtain ⟨m',hm,w7⟩:=hN σ7 H7 n7;refine ⟨m',hm,i+1,σ7,H7,I7.unpinned,T.keep _ _ _ st5 λb hb o e=>(I7.pin (b,o) (u9 _ (u9 _ (zK hb e)))).1,λb hb=>?_,w7⟩;obtain ⟨o,e,d⟩:=T.obj _ _ st5 b hb;exact (I7.pin (b,o) (u9 _ (u9 _ (zK hb e)))).2.1
  cases f with
  |next=>obtain ⟨σ7,H7,I7,n7⟩:=q7;exact again I7 n7
  |cont=>obtain ⟨σ7,H7,I7,n7⟩:=q7;exact again I7 n7
  |brk=>obtain ⟨σ7,H7,I7,q7⟩:=q7;exact ⟨σ7,H7,I7.unpinned,q7⟩
  |ret v=>obtain ⟨x7,σ7,H7,I7,r7,q7⟩:=q7;exact ⟨x7,σ7,H7,I7.unpinned,r7,q7⟩
end
abbrev R2:=V->V->Hp->VK->Prop
def OpR (X:Cx) (f:Value->Value->Sem Value) (r:R2):Prop:=
 ∀ (pins:List (Addr×Obj)) (s:Shared) (σ:St) (H:Hp) (x y:V) (v u:Value) (Q:VK),Inv X pins σ H s->jp x v->jp y u->r x y H Q ->
  wpAny (model X.prog X.w) X.A (f v u) (EP X pins σ Q) X.xe s
def UnR (X:Cx) (f:Value->Sem Value) (r:V->Hp->VK->Prop):Prop:=
 ∀ (pins:List (Addr×Obj)) (s:Shared) (σ:St) (H:Hp) (x:V) (v:Value) (Q:VK),Inv X pins σ H s->jp x v->r x H Q ->
  wpAny (model X.prog X.w) X.A (f v) (EP X pins σ Q) X.xe s
def YK (X:Cx) (f:Value) (r:List V->Hp->VK->Prop):Prop:=
 ∀ (pins:List (Addr×Obj)) (s:Shared) (σ:St) (H:Hp) (xs:List V) (us:List Value) (Q:VK),Inv X pins σ H s->zo xs us->r xs H Q ->
  wpAny (model X.prog X.w) X.A (call f us) (EP X pins σ Q) X.xe s
def tOp (r:R2) (ta tb:TE):TE:=λσ H Q=>ta σ H λx H1=>tb σ H1 λy H2=>r x y H2 Q
def tUn (r:V->Hp->VK->Prop) (ta:TE):TE:=λσ H Q=>ta σ H λx H1=>r x H1 Q
def rI (C:Int->Int->Prop) (g:Int->Int->V):R2:=λx y H Q=>∃ i j,x=.int i/\y=.int j/\C i j/\Q (g i j) H
def rI0 (g:Int->Int->V):R2:=λx y H Q=>∃ i j,x=.int i/\y=.int j/\Q (g i j) H
def rU (g:Int->V):V->Hp->VK->Prop:=λx H Q=>∃ i,x=.int i/\Q (g i) H
section
variable {X:Cx} {a b c:Expr} {ta tb tc:TE} {pos:Pos}
def qp0 (ha:PE X a ta) (hb:PE X b tb) {pins:List (Addr×Obj)} {s:Shared} {σ:St} {H:Hp} {R:V->V->Hp->Prop} (I:Inv X pins σ H s)
  (h:ta σ H λx H1=>tb σ H1 λy H2=>R x y H2) {Q:Value->Shared->Prop} {f:Value->Value->Sem Value}
  (hf:∀ v u s2 x y H2,Inv X pins σ H2 s2->jp x v->jp y u->R x y H2->wpAny (model X.prog X.w) X.A (f v u) Q X.xe s2) :
  wpAny (model X.prog X.w) X.A (eval a X.env) (λv s₁=>wpAny (model X.prog X.w) X.A (eval b X.env) (λu s₂=>wpAny (model X.prog X.w) X.A (f v u) Q X.xe s₂) X.xe s₁) X.xe s:=by
 refine thn (ha pins s σ H _ I h) λv s1 ⟨x,H1,I1,r1,q1⟩=>?_;refine thn (hb pins s1 σ H1 _ I1 q1) λu s2 ⟨y,H2,I2,r2,q2⟩=>?_;exact hf v u s2 x y H2 I2 r1 r2 q2
def qpF {op:Operator} {r:R2} (ho:OpR X (binaryOp op) r) (ha:PE X a ta) (hb:PE X b tb):PE X (.BinOp a op b pos) (tOp r ta tb):=by
 intro pins s σ H Q I h;exact wpAny_BinOp (qp0 ha hb I h λv u s2 x y H2 I2 rx ry q=>ho pins s2 σ H2 x y v u Q I2 rx ry q)
def qos {op:UnaryOp} {r:V->Hp->VK->Prop} (ho:UnR X (unaryOp op) r) (ha:PE X a ta):PE X (.UnaryOp op a pos) (tUn r ta):=by
 intro pins s σ H Q I h;exact UnaryOp_ (thn (ha pins s σ H _ I h) λv s1 ⟨x,H1,I1,r1,q1⟩=>ho pins s1 σ H1 x v Q I1 r1 q1)
def opI {f:Value->Value->Sem Value} {C:Int->Int->Prop} {g:Int->Int->Int}
  (rule:∀ (i j:Int) (t u:Tok) (s:Shared) (Q:Value->Shared->Prop) (E:Value->Shared->Prop),C i j->Q (.int (g i j) s.toks) { s with toks:=s.toks+1 }->wpAny (model X.prog X.w) X.A (f (.int i t) (.int j u)) Q E s) :
  OpR X f (rI C λi j=>.int (g i j)):=by
 intro pins s σ H x y v u Q I rx ry h;obtain ⟨i,j,rfl,rfl,hc,q⟩:=h;obtain ⟨t,rfl⟩:=rx;obtain ⟨t',rfl⟩:=ry;exact rule i j t t' s _ _ hc ⟨.int (g i j),H,I.tok _,⟨_,rfl⟩,q⟩
def qpD {f:Value->Value->Sem Value} {g:Int->Int->Int}
  (rule:∀ (i j:Int) (t u:Tok) (s:Shared) (Q:Value->Shared->Prop) (E:Value->Shared->Prop),Q (.int (g i j) s.toks) { s with toks:=s.toks+1 }->wpAny (model X.prog X.w) X.A (f (.int i t) (.int j u)) Q E s) :
  OpR X f (rI0 λi j=>.int (g i j)):=by
 intro pins s σ H x y v u Q I rx ry h;obtain ⟨i,j,rfl,rfl,q⟩:=h;obtain ⟨t,rfl⟩:=rx;obtain ⟨t',rfl⟩:=ry;exact rule i j t t' s _ _ ⟨.int (g i j),H,I.tok _,⟨_,rfl⟩,q⟩
def qpC {f:Value->Value->Sem Value} {g:Int->Int->Bool}
  (rule:∀ (i j:Int) (t u:Tok) (s:Shared) (Q:Value->Shared->Prop) (E:Value->Shared->Prop),Q (.bool (g i j)) s->wpAny (model X.prog X.w) X.A (f (.int i t) (.int j u)) Q E s) :
  OpR X f (rI0 λi j=>.bl (g i j)):=by
 intro pins s σ H x y v u Q I rx ry h;obtain ⟨i,j,rfl,rfl,q⟩:=h;obtain ⟨t,rfl⟩:=rx;obtain ⟨t',rfl⟩:=ry;exact rule i j t t' s _ _ ⟨.bl (g i j),H,I,rfl,q⟩
def RY (i j:Int):Prop:=0<j/\j<1073741824
def RP (i j:Int):Prop:=0<=j/\j<=1000000/\i.natAbs<2 ^ 64
def QT (i j:Int):Prop:=(-(2 ^ 64)<i/\i<2 ^ 64)\/(-(2 ^ 64)<j/\j<2 ^ 64)
def QT.ok {i j:Int} (h:QT i j):IntMulOk i j:=by
 rcases h with ⟨h1,h2⟩|⟨h1,h2⟩
 ·exact .of_left (intBits_le_64 h1 h2)
 ·exact .of_right (intBits_le_64 h1 h2)
def qai (k:Nat):(0:Int)<=2 ^ k:=by
 rw [two_pow_cast];exact Int.natCast_nonneg _
def ql3:OpR X (binaryOp .Add) (rI0 λi j=>.int (i+j)):=qpD λ_ _ _ _ _ _ _ q=>add_int q
def qm7:OpR X (binaryOp .Sub) (rI0 λi j=>.int (i-j)):=qpD λ_ _ _ _ _ _ _ q=>sub_int q
def qnP:OpR X (binaryOp .Mult) (rI QT λi j=>.int (i*j)):=opI λ_ _ _ _ _ _ _ hc q=>mul_int q hc.ok
def qha:OpR X (binaryOp .FloorDiv) (rI RY λi j=>.int (i/j)):=opI λi j _ _ _ _ _ hc q=>by
 have h1:(0:Int)<j:=hc.1;have h2:j<1073741824:=hc.2;exact floordiv_int (by omega) (by rw [Int.fdiv_eq_ediv_of_nonneg i (by omega)];exact q) (.inl (PyProof.noPylong_small (by omega)))
def qlx:OpR X (binaryOp .Mod) (rI (λ_ j=>0<j) λi j=>.int (i%j)):=opI λi j _ _ _ _ _ hc q=>by
 have h1:(0:Int)<j:=hc;exact mod_int' (by omega) (by rw [Int.fmod_eq_emod_of_nonneg i (by omega)];exact q)
def qjK:OpR X (binaryOp .Pow) (rI RP λi j=>.int (i ^ j.toNat)):=opI λ_ _ _ _ _ _ _ hc q=>pow_int_small hc.1 hc.2.1 hc.2.2 q
def qnM:OpR X (binaryOp .LShift) (rI RP λi j=>.int (i*2 ^ j.toNat)):=opI λ_ _ _ _ _ _ _ hc q=>lshift_int_small hc.1 hc.2.1 hc.2.2 q
def qlt:OpR X (binaryOp .RShift) (rI (λ_ j=>0<=j) λi j=>.int (i/2 ^ j.toNat)):=opI λi j _ _ _ _ _ hc q=>
 rshift_int hc (by rw [Int.fdiv_eq_ediv_of_nonneg i (qai _)];exact q)
def qjU:OpR X (binaryOp .BitAnd) (rI0 λi j=>.int (Builtin.bitAnd i j)):=qpD λ_ _ _ _ _ _ _ q=>and_int q
def unI {f:Value->Sem Value} {g:Int->Int}
  (rule:∀ (i:Int) (t:Tok) (s:Shared) (Q:Value->Shared->Prop) (E:Value->Shared->Prop),Q (.int (g i) s.toks) { s with toks:=s.toks+1 }->wpAny (model X.prog X.w) X.A (f (.int i t)) Q E s) :
  UnR X f (rU λi=>.int (g i)):=by
 intro pins s σ H x v Q I rx h;obtain ⟨i,rfl,q⟩:=h;obtain ⟨t,rfl⟩:=rx;exact rule i t s _ _ ⟨.int (g i),H,I.tok _,⟨_,rfl⟩,q⟩
def qjA:UnR X (unaryOp .USub) (rU λi=>.int (-i)):=unI λ_ _ _ _ _ q=>neg_int q
end
def qoZ:V->V->Bool
 |.non,.non=>true|.non,.int _=>true|.int _,.non=>true|.non,.bl _=>true|.bl _,.non=>true|.non,.str _=>true|.str _,.non=>true
 |.int _,.int _=>true|.bl _,.bl _=>true|.str _,.str _=>true|.byt _,.byt _=>true
 |.int _,.str _=>true|.str _,.int _=>true|.bl _,.str _=>true|.str _,.bl _=>true
 |_,_=>false
def rEq:R2:=λx y H Q=>qoZ x y=true/\Q (.bl (decide (x=y))) H
def rNe:R2:=λx y H Q=>qoZ x y=true/\Q (.bl (!decide (x=y))) H
def qa6 {i j:Int}:decide (V.int i=V.int j)=(i==j):=by
 rw [Bool.eq_iff_iff];simp
def qgd {i j:Bool}:decide (V.bl i=V.bl j)=(i==j):=by
 rw [Bool.eq_iff_iff];simp
def qcL {i j:Str}:decide (V.str i=V.str j)=(i==j):=by
 rw [Bool.eq_iff_iff];simp
def qcE {i j:Array UInt8}:decide (V.byt i=V.byt j)=(i.toList==j.toList):=by
 rw [Bool.eq_iff_iff];cases i;cases j;simp
section
variable {X:Cx} {a b c:Expr} {ta tb tc:TE} {pos:Pos}
def za {pins:List (Addr×Obj)} {σ:St} {H:Hp} {s:Shared} {Q:VK} {k k':Bool} (I:Inv X pins σ H s) (q:Q (.bl k) H) (e:k=k'):EP X pins σ Q (.bool k') s:=by
 subst e;exact ⟨.bl k,H,I,rfl,q⟩
def qpS:OpR X (compareOp .Eq) rEq:=by
 intro pins s σ H x y v u Q I rx ry h;obtain ⟨hs,q⟩:=h;cases x with
 |non=>
  cases rx;cases y with
  |non=>cases ry;exact PySem.EqNone.eq_none_none (za I q (by simp))
  |bl j=>cases ry;exact PySem.EqNone.eq_none_bool (za I q (by simp))
  |int j=>obtain ⟨t',rfl⟩:=ry;exact PySem.EqNone.eq_none_int (za I q (by simp))
  |str j=>obtain ⟨t',rfl⟩:=ry;exact PySem.EqNone.eq_none_str (za I q (by simp))
  |_=>exact absurd (show false=true from hs) v6
 |bl i=>
  cases rx;cases y with
  |non=>cases ry;exact PySem.EqNone.eq_bool_none (za I q (by simp))
  |bl j=>cases ry;exact eq_bool (za I q qgd)
  |str j=>obtain ⟨t',rfl⟩:=ry;exact PySem.EqMixed.eq_bool_str (za I q (by simp))
  |_=>exact absurd (show false=true from hs) v6
 |int i=>
  obtain ⟨t,rfl⟩:=rx;cases y with
  |non=>cases ry;exact PySem.EqNone.eq_int_none (za I q (by simp))
  |int j=>obtain ⟨t',rfl⟩:=ry;exact eq_int (za I q qa6)
  |str j=>obtain ⟨t',rfl⟩:=ry;exact PySem.EqMixed.eq_int_str (za I q (by simp))
  |_=>exact absurd (show false=true from hs) v6
 |str i=>
  obtain ⟨t,rfl⟩:=rx;cases y with
  |non=>cases ry;exact PySem.EqNone.eq_str_none (za I q (by simp))
  |bl j=>cases ry;exact PySem.EqMixed.eq_str_bool (za I q (by simp))
  |int j=>obtain ⟨t',rfl⟩:=ry;exact PySem.EqMixed.eq_str_int (za I q (by simp))
  |str j=>obtain ⟨t',rfl⟩:=ry;exact eq_str (za I q qcL)
  |_=>exact absurd (show false=true from hs) v6
 |byt i=>
  obtain ⟨t,rfl⟩:=rx;cases y with
  |byt j=>obtain ⟨t',rfl⟩:=ry;exact PySem.W.eq_bytes (za I q qcE)
  |_=>exact absurd (show false=true from hs) v6
 |_=>cases y<;>exact absurd (show false=true from hs) v6
def qpM:OpR X (compareOp .NotEq) rNe:=by
 intro pins s σ H x y v u Q I rx ry h;obtain ⟨hs,q⟩:=h;cases x with
 |non=>
  cases rx;cases y with
  |non=>cases ry;exact PySem.EqNone.ne_none_none (za I q (by simp))
  |bl j=>cases ry;exact PySem.EqNone.ne_none_bool (za I q (by simp))
  |int j=>obtain ⟨t',rfl⟩:=ry;exact PySem.EqNone.ne_none_int (za I q (by simp))
  |str j=>obtain ⟨t',rfl⟩:=ry;exact PySem.EqNone.ne_none_str (za I q (by simp))
  |_=>exact absurd (show false=true from hs) v6
 |bl i=>
  cases rx;cases y with
  |non=>cases ry;exact PySem.EqNone.ne_bool_none (za I q (by simp))
  |bl j=>cases ry;exact ne_bool (za I q (congrArg not qgd))
  |str j=>obtain ⟨t',rfl⟩:=ry;exact PySem.EqMixed.ne_bool_str (za I q (by simp))
  |_=>exact absurd (show false=true from hs) v6
 |int i=>
  obtain ⟨t,rfl⟩:=rx;cases y with
  |non=>cases ry;exact PySem.EqNone.ne_int_none (za I q (by simp))
  |int j=>obtain ⟨t',rfl⟩:=ry;exact ne_int (za I q (congrArg not qa6))
  |str j=>obtain ⟨t',rfl⟩:=ry;exact PySem.EqMixed.ne_int_str (za I q (by simp))
  |_=>exact absurd (show false=true from hs) v6
 |str i=>
  obtain ⟨t,rfl⟩:=rx;cases y with
  |non=>cases ry;exact PySem.EqNone.ne_str_none (za I q (by simp))
  |bl j=>cases ry;exact PySem.EqMixed.ne_str_bool (za I q (by simp))
  |int j=>obtain ⟨t',rfl⟩:=ry;exact PySem.EqMixed.ne_str_int (za I q (by simp))
  |str j=>obtain ⟨t',rfl⟩:=ry;exact ne_str (za I q (congrArg not qcL))
  |_=>exact absurd (show false=true from hs) v6
 |byt i=>
  obtain ⟨t,rfl⟩:=rx;cases y with
  |byt j=>obtain ⟨t',rfl⟩:=ry;exact PySem.W.ne_bytes (za I q (congrArg not qcE))
  |_=>exact absurd (show false=true from hs) v6
 |_=>cases y<;>exact absurd (show false=true from hs) v6
def qg9:OpR X (compareOp .Lt) (rI0 λi j=>.bl (decide (i<j))):=qpC λ_ _ _ _ _ _ _ q=>lt_int q
def qdN:OpR X (compareOp .Gt) (rI0 λi j=>.bl (decide (j<i))):=qpC λ_ _ _ _ _ _ _ q=>gt_int q
def qqi:OpR X (compareOp .GtE) (rI0 λi j=>.bl (decide (j<=i))):=qpC λ_ _ _ _ _ _ _ q=>ge_int q
def qbV:OpR X (compareOp .Is) (λx y H Q=>y=.non/\Q (.bl (decide (x=.non))) H):=by
 intro pins s σ H x y v u Q I rx ry h;obtain ⟨rfl,q⟩:=h;cases ry;refine is_none_gen (za I q ?_);cases x<;>first
  | (cases rx;rfl)
  | (obtain ⟨t,rfl⟩:=rx;rfl)
def OpR.or {f:Value->Value->Sem Value} {r r':R2} (h:OpR X f r) (h':OpR X f r'):OpR X f (λx y H Q=>r x y H Q\/r' x y H Q):=by
 intro pins s σ H x y v u Q I rx ry q;rcases q with q|q
 ·exact h pins s σ H x y v u Q I rx ry q
 ·exact h' pins s σ H x y v u Q I rx ry q
def qG (b:Expr) {op:CmpOp} (h:op≠.In:=by decide) (h2:op≠.NotIn:=by decide):behindInMarks op b=false:=by
 have e1:(op==CmpOp.In)=false:=by cases op<;>first|rfl|exact absurd rfl h
 have e2:(op==CmpOp.NotIn)=false:=by cases op<;>first|rfl|exact absurd rfl h2
 cases b<;>simp [behindInMarks,e1,e2]
def qh7 {op:CmpOp} {r:R2} (ho:OpR X (compareOp op) r) (ha:PE X a ta) (hb:PE X b tb) (hm:behindInMarks op b=false):PE X (.Compare a [op] [b] pos) (tOp r ta tb):=by
 intro pins s σ H Q I h;exact wpAny_Compare1 (qp0 ha hb I h λv u s2 x y H2 I2 rx ry q=>ho pins s2 σ H2 x y v u Q I2 rx ry q) hm
def qmm (t:TE):TT:=λσ H Q=>t σ H λx H'=>∃ k,x=.bl k/\Q k H'
def qhd {op:CmpOp} {r:R2} (ho:OpR X (compareOp op) r) (ha:PE X a ta) (hb:PE X b tb) (hm:behindInMarks op b=false):PT X (.Compare a [op] [b] pos) (qmm (tOp r ta tb)):=by
 intro pins s σ H Q I h;refine wpAny_isTrue_Compare1 (thn (ha pins s σ H _ I h) λv s1 ⟨x,H1,I1,r1,q1⟩=>thn (hb pins s1 σ H1 _ I1 q1) λu s2 ⟨y,H2,I2,r2,q2⟩=>
  thn (ho pins s2 σ H2 x y v u _ I2 r1 r2 q2) λc s3 ⟨z,H3,I3,r3,k,e,q3⟩=>?_) hm
 subst e;cases r3;exact wpAny_truthy_bool ⟨H3,I3,q3⟩
def K0:(sizeLine:Nat)<2 ^ 63:=by rw [v7];decide
def XM {x:V} {us:List Value} (r:zo [x] us):∃ u,us=[u]/\jp x u:=by
 cases r with
 |cons r1 r2=>cases r2;exact ⟨_,rfl,r1⟩
def qbc {x y:V} {us:List Value} (r:zo [x,y] us):∃ u w',us=[u,w']/\jp x u/\jp y w':=by
 cases r with
 |cons r1 r2=>
  cases r2 with
  |cons r3 r4=>cases r4;exact ⟨_,_,rfl,r1,r3⟩
def NR:YK X (.builtin "abs") (λxs H Q=>∃ i,xs=[.int i]/\Q (.int (if i<0 then -i else i)) H):=by
 intro pins s σ H xs us Q I r h;obtain ⟨i,rfl,q⟩:=h;obtain ⟨u,rfl,t,rfl⟩:=XM r;exact call_abs_int λu tk=>⟨.int (if i<0 then -i else i),H,I.tok _,⟨_,rfl⟩,q⟩
def qbP (hc:X.calm=true):YK X (.builtin "min") (λxs H Q=>∃ i j,xs=[.int i,.int j]/\Q (.int (if j<i then j else i)) H):=by
 intro pins s σ H xs us Q I r h;obtain ⟨i,j,rfl,q⟩:=h;obtain ⟨u,w',rfl,⟨t,rfl⟩,⟨t',rfl⟩⟩:=qbc r;refine min_two_ints (I.ok.hd hc) λh' tk k=>⟨_,H,I.kept k,?_,q⟩
 by_cases hj:j<i
 ·rw [if_pos hj,if_pos hj];exact ⟨_,rfl⟩
 ·rw [if_neg hj,if_neg hj];exact ⟨_,rfl⟩
def qqK (K:Frg) (x:V) (H:Hp) (n:Nat):Prop:=
 match x with
 |.str y=>y.length<=sizeLine/\n=y.length
 |.byt y=>y.size<=sizeLine/\n=y.size
 |.ref p=>(∃ xs,SqL K H p xs/\n=xs.length)\/∃ xs,SqT K H p xs/\n=xs.length
 |_=>False
def zc:YK X (.builtin "len") (λxs H Q=>∃ x n,xs=[x]/\qqK X.K x H n/\Q (.int n) H):=by
 intro pins s σ H xs us Q I r h;obtain ⟨x,n,rfl,e,q⟩:=h;obtain ⟨u,rfl,rx⟩:=XM r;have hl:=K0;have hs:sizeLine=16777216:=v7;cases x with
 |str y=>
  obtain ⟨t,rfl⟩:=rx;obtain ⟨hy,e'⟩:y.length<=sizeLine/\n=y.length:=e;subst e';exact len_str (by omega) ⟨.int _,H,I.tok _,⟨_,rfl⟩,q⟩
 |byt y=>
  obtain ⟨t,rfl⟩:=rx;obtain ⟨hy,e'⟩:y.size<=sizeLine/\n=y.size:=e;subst e';exact PySem.W.len_bytes (by omega) ⟨.int _,H,I.tok _,⟨_,rfl⟩,q⟩
 |ref p=>
  cases rx;have e':(∃ xs,SqL X.K H p xs/\n=xs.length)\/∃ xs,SqT X.K H p xs/\n=xs.length:=e;rcases e' with ⟨xs,hx,e'⟩|⟨xs,hx,e'⟩
  ·subst e';obtain ⟨its,r',pl,hz⟩:=I.list hx;have hlen:=r'.length;exact Calls.call_len_list pl.isList (by simp only [size_toArray];omega) ⟨.int xs.length,H,I.tok _,⟨_,by simp only [size_toArray];rw [hlen]⟩,q⟩
  ·subst e';obtain ⟨its,r',pl,hz⟩:=I.tuple hx;have hlen:=r'.length;exact len_tuple pl (by simp only [size_toArray];omega) ⟨.int xs.length,H,I.tok _,⟨_,by simp only [size_toArray];rw [hlen]⟩,q⟩
 |_=>exact (show False from e).elim
end
section
variable {prog:Program} {w:World} {A:Around} {E:Value->Shared->Prop} {s:Shared} {K:Frg} {x dx C f:Addr} {mA:Str->Option Value} {name:Str} {v:Value}
end
section
variable {P:Program} {w:World} {H H':Hp} {h h':Heap} {a C dx:Addr} {fs fs':List (Str×V)}
end
section
variable {X:Cx} {pins:List (Addr×Obj)} {σ:St} {H:Hp} {s:Shared} {a C dx:Addr} {fs:List (Str×V)} {f:Str} {v:V} {A:Around} {E:Value->Shared->Prop}
end
section
variable {X:Cx} {o e value:Expr} {f:Str} {pos pos' tpos:Pos} {ta tv:TE}
end
section
variable {X:Cx} {pins:List (Addr×Obj)} {σ:St} {H:Hp} {s:Shared} {A:Around} {E:Value->Shared->Prop} {Q:Value->Shared->Prop} {c:Value} {b:Bool}
end
structure Room (k:Nat) (A:Around):Prop where
 hd:A.handled=none
 dp:A.depth+3*k+5<recursionLimit
 un:A.units+16*k+200<cLine
 gd:A.guards=some []
def Room.mono {j k:Nat} {A:Around} (r:Room k A) (h:j<=k):Room j A:=⟨r.hd,by have:=r.dp;omega,by have:=r.un;omega,r.gd⟩
theorem Room.deeper {k:Nat} {A:Around} (r:Room (k+1) A) (env:Env):Room k (A.deeper env):=
 ⟨r.hd,by have:=r.dp;show A.depth+1+3*k+5<_;omega,by have:=r.un;show A.units+3+16*k+200<_;omega,r.gd⟩
theorem Room.in1 {k:Nat} {A:Around} (r:Room (k+1) A):Room k A.in1:=
 ⟨r.hd,by have:=r.dp;show A.depth+3*k+5<_;omega,by have:=r.un;show A.units+1+16*k+200<_;omega,r.gd⟩
theorem Room.depth {k:Nat} {A:Around} (r:Room k A):A.depth<recursionLimit:=by have:=r.dp;omega
theorem Room.units {k:Nat} {A:Around} (r:Room k A):A.units+64<cLine:=by have:=r.un;omega
def qrK:TA:=λ_ H Q=>Q [] H
def qp8 (ta:TE) (tr:TA):TA:=λσ H Q=>ta σ H λx H1=>tr σ H1 λxs H2=>Q (x::xs) H2
section
variable {X:Cx} {e:Expr} {es:List Expr} {te:TE} {t:TA} {pos:Pos}
def RJ:PA X [] qrK:=λ_ _ _ _ H Q I h=>Calls.spliced_nil ⟨[],H,I,.nil,h⟩
def J4 (ha:PE X e te) (hr:PA X es t) (hs:starEach (e::es) X.env=(false,eval e X.env)::starEach es X.env:=by rfl):PA X (e::es) (qp8 te t):=by
 intro pos pins s σ H Q I h;rw [hs];show wpAny _ _ (spliced ((false,eval e X.env)::backTo pos (starEach es X.env))) _ _ s;refine Calls.spliced_cons (thn (ha pins s σ H _ I h) λu s1 ⟨x,H1,I1,r1,q1⟩=>?_);exact thn (hr pos pins s1 σ H1 _ I1 q1) λus s2 ⟨xs,H2,I2,r2,q2⟩=>⟨x::xs,H2,I2,.cons r1 r2,q2⟩
def qrB (t:TA):TE:=λσ H Q=>t σ H λxs H1=>xs.length<=sizeLine/\∀ p,H1 p=none->Q (.ref p) (upd H1 p (.tup xs))
def qrp (t:TA):TE:=λσ H Q=>t σ H λxs H1=>xs.length<=sizeLine/\∀ p,H1 p=none->Q (.ref p) (upd H1 p (.lst xs))
def qgg {x1} (h:PA X es t):PE X (.Tuple es x1 pos) (qrB t):=by
 intro pins s σ H Q I hq;refine wpAny_Tuple_spliced (thn (h pos pins s σ H _ I hq) λus s1 ⟨xs,H1,I1,r,z,q⟩=>⟨by rw [← r.length];exact z,?_⟩);have hf:H1 s1.heap.objs.size=none:=I1.hok.fresh (u7 _);refine ⟨.ref s1.heap.objs.size,upd H1 s1.heap.objs.size (.tup xs),I1.laid (t':=s1.toks) (λb u e=>v0 _ e) (u7 _) ?_,rfl,q _ hf⟩;exact ⟨z,us,r,⟨_,v4 _ rfl,rfl,_,rfl,rfl⟩⟩
def qkr (h:PA X es t):PE X (.List es pos) (qrp t):=by
 intro pins s σ H Q I hq;refine wpAny_List_spliced (thn (h pos pins s σ H _ I hq) λus s1 ⟨xs,H1,I1,r,z,q⟩=>⟨by rw [← r.length];exact z,?_⟩);have hf:H1 s1.heap.objs.size=none:=I1.hok.fresh (u7 _);refine ⟨.ref s1.heap.objs.size,upd H1 s1.heap.objs.size (.lst xs),I1.laid (t':=s1.toks) (λb u e=>v0 _ e) (u7 _) ?_,rfl,q _ hf⟩;exact ⟨z,us,0,r,v4 _ rfl⟩
end
abbrev Sp:=List V->Hp->VK->XK->Prop
abbrev CXT:=List Env->Hp->Shared->XK->Value->Shared->Prop
structure Env0 (P:Program) (w:World) (K:Frg) (mg:Str->Option Value) (base:Heap) (A:Around) (outer:List Env) (s:Shared) (H:Hp):Prop where
 frames:A.frames=some outer
 mod:Mod K mg base
 bs:∀ b o,base.get? b=some o->s.heap.get? b=some o/\H b=none
 bsz:base.objs.size<=s.heap.objs.size
 funs:s.heap.FunFrames base outer
 frf:∀ b∈frs outer,H b=none
 hok:HOk P w H s.heap
 bare:AllBare s.gens
def CE (outer:List Env) (P:Program) (w:World) (H:Hp) (s:Shared) (Q:VK) (u:Value) (s':Shared):Prop:=
 ∃ v H',s'.os=s.os/\AllBare s'.gens/\Un (frs outer) [] H H' s.heap s'.heap/\HOk P w H' s'.heap/\jp v u/\Q v H'
def CR (CX:CXT) (outer:List Env) (P:Program) (w:World) (H:Hp) (s:Shared) (Q:VK) (E:XK) (r:Result) (s':Shared):Prop:=
 match r with
 |.ok (.ret u)=>CE outer P w H s Q u s'
 |.ok _=>False
 |.error e=>CX outer H s E e s'
structure FnOk (P:Program) (w:World) (K:Frg) (mg:Str->Option Value) (base:Heap) (CX:CXT) (k:Nat) (f:Addr) (fd:FuncData) (ps:List Str) (sp:Sp):Prop where
 len:∀ vs H Q E,sp vs H Q E->vs.length=ps.length
 run:∀ (A:Around) (outer:List Env) (s:Shared) (H:Hp) (args:Args) (us:List Value) (vs:List V) (Q:VK) (E:XK),Room k A->Env0 P w K mg base A outer s H->BindsTo s fd args (ps.zip us)->zo vs us->sp vs H Q E ->
  codeAny (model P w) A (.call (.ref f) args) (CR CX outer P w H s Q E) s
theorem FnOk.mono {P:Program} {w:World} {K:Frg} {mg:Str->Option Value} {base:Heap} {CX:CXT} {j k:Nat} {f:Addr} {fd:FuncData} {ps:List Str} {sp:Sp} (F:FnOk P w K mg base CX j f fd ps sp) (h:j<=k) :
  FnOk P w K mg base CX k f fd ps sp:=⟨F.len,λA outer s H args us vs Q E hr=>F.run A outer s H args us vs Q E (hr.mono h)⟩
def FnOk.imp {P:Program} {w:World} {K:Frg} {mg:Str->Option Value} {base:Heap} {CX:CXT} {k:Nat} {f:Addr} {fd:FuncData} {ps:List Str} {sp sp':Sp} (F:FnOk P w K mg base CX k f fd ps sp)
  (h:∀ vs H Q E,sp' vs H Q E->sp vs H Q E):FnOk P w K mg base CX k f fd ps sp':=
 ⟨λvs H Q E q=>F.len vs H Q E (h _ _ _ _ q),λA outer s H args us vs Q E hr he hb hv hs=>F.run A outer s H args us vs Q E hr he hb hv (h _ _ _ _ hs)⟩
theorem Env0.in1 {P:Program} {w:World} {K:Frg} {mg:Str->Option Value} {base:Heap} {A:Around} {outer:List Env} {s:Shared} {H:Hp} (e:Env0 P w K mg base A outer s H) :
  Env0 P w K mg base A.in1 outer s H:=⟨e.frames,e.mod,e.bs,e.bsz,e.funs,e.frf,e.hok,e.bare⟩
section
variable {X:Cx} {pins:List (Addr×Obj)} {σ:St} {H:Hp} {s s':Shared}
def Inv.env0 (I:Inv X pins σ H s):Env0 X.prog X.w X.K X.mg X.base X.A X.stack s H:=
 ⟨I.ok.frames,I.ok.mod,I.bs,za2 I.ok.bsz I.sz,I.stack,I.stkFree,I.hok,I.bare⟩
def Inv.after {Q:VK} {u:Value} (I:Inv X pins σ H s) (h:CE X.stack X.prog X.w H s Q u s'):EP X pins σ Q u s':=by
 obtain ⟨v,H',os,bare,un,hok,r,q⟩:=h;obtain ⟨hh,g,d,t,os'⟩:=s';obtain rfl:os'=s.os:=os;exact ⟨v,H',I.call (h':=hh) (g':=g) (d':=d) (t':=t) (ch:=[]) un hok bare (λb z=>absurd z (by simp)),r,q⟩
end
def qot (sp:Sp) (dvs:List V) (E:XK) (t:TA):TE:=λσ H Q=>t σ H λvs H1=>sp (vs++dvs) H1 Q E
def CS (K:Frg) (fd:FuncData) (ps:List Str) (ds:List Value):Prop:=
 ∀ (s:Shared) (us:List Value),K.In s.heap->(us++ds).length=ps.length->BindsTo s fd ⟨us,[]⟩ (ps.zip (us++ds))
def CS.all {K:Frg} {fd:FuncData} {ps:List Str} (h:∀ us:List Value,us.length=ps.length->bindArgs fd ⟨us,[]⟩=pure (ps.zip us)):CS K fd ps []:=λs us _ hl=>by
 rw [List.append_nil] at hl ⊢;exact .of_eq (h us hl)
def qco (CX:CXT) (X:Cx) (E:XK):Prop:=∀ (pins:List (Addr×Obj)) (σ:St) (H:Hp) (s:Shared) (e:Value) (s':Shared),Inv X pins σ H s->CX X.stack H s E e s'->X.xe e s'
section
variable {X:Cx} {CX:CXT} {k:Nat} {f C:Addr} {fd:FuncData} {ps:List Str} {sp:Sp} {dvs:List V} {ds:List Value} {E:XK} {x m:Str} {p pos apos:Pos} {e o:Expr} {es:List Expr} {ta:TE} {t:TA}
def qnS {pins:List (Addr×Obj)} {σ:St} {H:Hp} {s:Shared} {Q:VK} {us:List Value} {vs:List V} (F:FnOk X.prog X.w X.K X.mg X.base CX k f fd ps sp) (hr:Room k X.A) (hb:CS X.K fd ps ds) (hd:zo dvs ds) (hx:qco CX X E)
  (I:Inv X pins σ H s) (r:zo vs us) (h:sp (vs++dvs) H Q E):wpAny (model X.prog X.w) X.A (call (.ref f) us) (EP X pins σ Q) X.xe s:=by
 have r2:zo (vs++dvs) (us++ds):=r.append hd;have hl:(us++ds).length=ps.length:=by rw [← r2.length];exact F.len _ _ _ _ h
 refine wpAny_call (codeAny_mono (F.run X.A X.stack s H ⟨us,[]⟩ (us++ds) (vs++dvs) Q E hr I.env0 (hb s us I.kIn hl) r2 h) λr s' hq=>?_);cases r with
 |error e=>exact hx pins σ H s e s' I hq
 |ok fl=>
  cases fl with
  |ret u=>exact I.after hq
  |next=>exact False.elim hq
  |brk=>exact False.elim hq
  |cont=>exact False.elim hq
def qhH (F:FnOk X.prog X.w X.K X.mg X.base CX k f fd ps sp) (hr:Room k X.A) (hg:Gl X x) (hm:X.mg x=some (.ref f)) (hk:PySem.W.keepIn X.K (.ref f)=true) (hb:CS X.K fd ps ds) (hd:zo dvs ds) (hx:qco CX X E)
  (ha:PA X (e::es) t) (hdb:(x==("__debug__" : Str))=false:=by decide) (he:starEach (e::es) X.env=(false,eval e X.env)::starEach es X.env:=by rfl) (hpl:(backTo pos (starEach es X.env)).any (·.1)=false:=by rfl) :
  PE X (.Call (.Name x p) (e::es) [] pos) (qot sp dvs E t):=by
 intro pins s σ H Q I h;refine wpAny_Call_Name_kw (qh0 I hg hm ?_ hdb);refine PySem.W.callWith_K (h₀:=X.base) I.ok.mod.kin hk (thn (ha pos pins s σ H _ I h) λus s1 ⟨vs,H1,I1,r,q⟩=>⟨I1.kIn,?_⟩) he hpl;exact qnS F hr hb hd hx I1 r q
end
section
variable {X:Cx} {CX:CXT} {k:Nat} {f C:Addr} {fd:FuncData} {ps ks:List Str} {sp:Sp} {E:XK} {x m:Str} {p pos apos kpos:Pos} {e o:Expr} {es:List Expr} {kws:List Keyword} {te ta:TE} {t tk:TA} {nm:Option Str}
variable {g:List Value->List Value->List Value} {gV:List V->List V->List V}
end
structure FnScope (N P:List Str) (sc:Scope):Prop where
 kind:sc.kind=.function
 co:sc.isCoroutine=false
 gen:sc.isGenerator=false
 nd:N.Nodup
 pre:N.take P.length=P
 par:∀ x∈P,sc.names.lookup x=some .local\/sc.names.lookup x=some .cell
 nofree:∀ y∈sc.names,y.2≠.free
theorem T4 {kindOf:Str->Option NameKind} {x:Str}:∀ {binds:List (Str×Value)} {m:Str->Option Value},(∀ v,(x,v)∉binds)->bindL kindOf binds m x=m x
 |[],_,_=>rfl
 | (n,v)::r,m,h=>by
  unfold bindL;rw [T4 λw hw=>h w (u8 _ hw)];split
  ·have:x≠n:=by rintro rfl;exact h v za5
   simp [this]
  ·rfl
theorem LG {kindOf:Str->Option NameKind} {x:Str}:∀ {binds:List (Str×Value)} {m:Str->Option Value},(∀ v,(x,v)∉binds)->bindC kindOf binds m x=m x
 |[],_,_=>rfl
 | (n,v)::r,m,h=>by
  unfold bindC;rw [LG λw hw=>h w (u8 _ hw)];split
  ·rfl
  ·have:x≠n:=by rintro rfl;exact h v za5
   simp [this]
theorem KL {kindOf:Str->Option NameKind} {x:Str} {v:Value}:∀ {P:List Str} {vs:List Value} {i:Nat} {m:Str->Option Value},P.Nodup->P[i]?=some x->vs[i]?=some v->kindOf x=some .local ->
  bindL kindOf (P.zip vs) m x=some v
 |[],_,_,_,_,h,_,_=>by simp at h
 |_::_,[],_,_,_,_,h,_=>by simp at h
 |p::P,w::vs,0,m,nd,h1,h2,hk=>by
  simp at h1 h2;subst h1;subst h2;show bindL kindOf ((p,w)::P.zip vs) m p=_;unfold bindL;rw [T4 λv hv=>(List.nodup_cons.mp nd).1 (List.of_mem_zip hv).1,if_pos hk];simp
 |p::P,w::vs,i+1,m,nd,h1,h2,hk=>by
  show bindL kindOf ((p,w)::P.zip vs) m x=_;unfold bindL;exact KL (i:=i) (List.nodup_cons.mp nd).2 (by simpa using h1) (by simpa using h2) hk
theorem T2 {kindOf:Str->Option NameKind} {x:Str} {v:Value}:∀ {P:List Str} {vs:List Value} {i:Nat} {m:Str->Option Value},P.Nodup->P[i]?=some x->vs[i]?=some v->kindOf x≠some .local ->
  bindC kindOf (P.zip vs) m x=some v
 |[],_,_,_,_,h,_,_=>by simp at h
 |_::_,[],_,_,_,_,h,_=>by simp at h
 |p::P,w::vs,0,m,nd,h1,h2,hk=>by
  simp at h1 h2;subst h1;subst h2;show bindC kindOf ((p,w)::P.zip vs) m p=_;unfold bindC;rw [LG λv hv=>(List.nodup_cons.mp nd).1 (List.of_mem_zip hv).1,if_neg hk];simp
 |p::P,w::vs,i+1,m,nd,h1,h2,hk=>by
  show bindC kindOf ((p,w)::P.zip vs) m x=_;unfold bindC;exact T2 (i:=i) (List.nodup_cons.mp nd).2 (by simpa using h1) (by simpa using h2) hk
def X5 (N:List Str) (vs:List V):St:=vs.map some++List.replicate (N.length-vs.length) none
def qcO (CX:CXT) (P:Program) (w:World) (K:Frg) (mg:Str->Option Value) (base:Heap) (N:List Str) (qual:Str) (scope:Scope) (f:Addr) (cd:Value) (A:Around) (outer:List Env) (s:Shared) (H:Hp) (E:XK):Cx where
 prog:=P
 w:=w
 K:=K
 mg:=mg
 base:=base
 A:=A.deeper (envOfC qual scope s.heap.objs.size f cd)
 N:=N
 s₀:=s
 H₀:=H
 env:=envOfC qual scope s.heap.objs.size f cd
 outer:=outer
 stack:=envOfC qual scope s.heap.objs.size f cd::outer
 ex:=[]
 calm:=true
 fn:=λ_=>true
 pn:=[]
 xe:=λe s'=>wpAny (model P w) (A.deeper (envOfC qual scope s.heap.objs.size f cd)) (leaving (envOfC qual scope s.heap.objs.size f cd) e) (λ_ s''=>CX outer H s E e s'') (λe' s''=>CX outer H s E e' s'') s'
def NH {sc:Scope} {n:Nat} {x:Str} (h:sc.names.lookup x=some .cell):∃ c,(cellsFrom n sc.names []).lookup x=some c:=by
 have q:=PySem.W.cellsFrom_some sc.names n [] (.inl h);exact Option.isSome_iff_exists.mp q
def qbA {CX:CXT} {P:Program} {w:World} {K:Frg} {mg:Str->Option Value} {base:Heap} {N ps:List Str} {qual:Str} {scope:Scope} {f:Addr} {cd:Value} {A:Around} {outer:List Env} {s s1:Shared} {H:Hp} {E:XK} {us:List Value} {vs:List V}
  (S:FnScope N ps scope) (hd:A.handled=none) (e0:Env0 P w K mg base A outer s H) (hl:vs.length=ps.length) (r:zo vs us)
  (x:InCallC s s.heap.objs.size (bindL (envOfC qual scope s.heap.objs.size f cd).kindOf (ps.zip us) λ_=>none) (cellsFrom (s.heap.objs.size+1) scope.names []) (bindC (envOfC qual scope s.heap.objs.size f cd).kindOf (ps.zip us) λ_=>none) s1) :
  Inv (qcO CX P w K mg base N qual scope f cd A outer s H E) [] (X5 N vs) H s1:=by
 have hpl:ps.length<=N.length:=by have:=congrArg List.length S.pre;rw [List.length_take] at this;omega
 obtain ⟨h1,tk,rfl,hk⟩:=x.done;have noA:∀ b:Addr,b∉(qcO CX P w K mg base N qual scope f cd A outer s H E).ex:=λb z=>absurd (show b∈([]:List Addr) from z) (by simp);refine ⟨⟨e0.mod,S.kind,rfl,rfl,u7 _,λy z c h1 h2=>?_,λy hy=>?_,λy c _ h=>?_,λ_=>hd,Around.frames_deeper e0.frames,.inr ⟨rfl,rfl⟩,λb z=>absurd z (noA b),e0.bs,e0.bsz,λb _ _=>noA b,λb z=>absurd z (noA b),e0.funs,e0.frf⟩,
  rfl,e0.bare,Un.kept hk,⟨_,x.toInCall.ns,λi y v h1 h2 h3=>?_⟩,λy c h=>⟨_,x.cell y c h⟩,e0.hok.fresh (u7 _),λy c h=>?_,λp hp=>absurd (show p∈([]:List (Addr×Obj)) from hp) (by simp),e0.hok.kept hk,?_⟩
 ·exact name_of_addr x.apart (PySem.mem_of_lookup h1) (PySem.mem_of_lookup h2)
 ·have hy:scope.names.lookup y=some .cell\/scope.names.lookup y=some .free:=hy;rcases hy with hy|hy
  ·exact NH hy
  ·exact absurd rfl (S.nofree _ (PySem.mem_of_lookup hy))
 ·exact Nat.le_of_lt (x.above y c (PySem.mem_of_lookup h))
 ·have hi:i<vs.length:=by
   unfold X5 at h2;by_cases hi:i<vs.length
   ·exact hi
   ·rw [List.getElem?_append_right (by simpa using hi)] at h2;rw [List.getElem?_replicate] at h2;split at h2<;>cases h2
  have ha:vs[i]?=some v:=by
   unfold X5 at h2;rw [List.getElem?_append_left (by simpa using hi),getElem?_map] at h2;cases e:vs[i]? with
   |none=>rw [e] at h2;cases h2
   |some a=>rw [e] at h2;cases h2;rfl
  obtain ⟨u,hu,rv⟩:=r.get ha;have hp:ps[i]?=some y:=by
   rw [← S.pre,List.getElem?_take_of_lt (by omega)];exact h1
  have ndP:ps.Nodup:=by rw [← S.pre];exact S.nd.sublist (List.take_sublist _ _)
  refine ⟨u,rv,?_⟩;rcases S.par y (za1 hp) with k|k
  ·exact .inl ⟨k,KL ndP hp hu k⟩
  ·obtain ⟨c,e⟩:=NH (n:=s.heap.objs.size+1) k;refine .inr ⟨.inl k,c,e,?_⟩;have q:=x.cell y c e;rw [T2 ndP hp hu (by show scope.names.lookup y≠_;rw [k];decide)] at q;exact q
 ·exact e0.hok.fresh (Nat.le_of_lt (x.above y c (PySem.mem_of_lookup h)))
 ·unfold X5;show _=N.length;rw [length_append,length_map,List.length_replicate];omega
def qoI {CX:CXT} {P:Program} {w:World} {K:Frg} {mg:Str->Option Value} {base:Heap} {k:Nat} {f:Addr} {name qual:Str} {params:Arguments} {body:List Stmt} {scope:Scope} {dV kV doc pm cdv ct oc:Value} {an od:Option Addr}
  {osl:Array (Option Value)} {N ps:List Str} {sp:Sp} (lk:K.lookup f=some ⟨oc,od,.func (PySem.W.fnOf name qual params body scope dV kV doc pm an cdv ct),osl⟩) (hcd:PySem.W.codeIn K cdv qual=true) (S:FnScope N ps scope)
  (len:∀ vs H Q E,sp vs H Q E->vs.length=ps.length)
  (hbody:∀ (A:Around) (outer:List Env) (s:Shared) (H:Hp) (vs:List V) (Q:VK) (E:XK),Room k (A.deeper (envOfC qual scope s.heap.objs.size f cdv))->sp vs H Q E ->
   ∃ t,PSs (qcO CX P w K mg base N qual scope f cdv A outer s H E) body t/\t { nx:=λ_ H'=>Q .non H',rt:=Q } (X5 N vs) H) :
  FnOk P w K mg base CX (k+1) f (PySem.W.fnOf name qual params body scope dV kV doc pm an cdv ct) ps sp:=by
 refine ⟨len,λA outer s H args us vs Q E hr e0 hb r hsp=>?_⟩;have hl:=len _ _ _ _ hsp;have KX:K.In s.heap:=e0.mod.kin.keeps λb o e=>(e0.bs b o e).1;have lim:s.heap.NoLimit:=e0.mod.nolimit.keeps λb o e=>(e0.bs b o e).1;have hkind:∀ y∈ps.zip us,scope.names.lookup y.1=some .local\/(scope.names.lookup y.1=some .cell/\((cellsFrom (s.heap.objs.size+1) scope.names []).lookup y.1).isSome=true):=λ⟨n,v⟩ hy=>by
  rcases S.par n (List.of_mem_zip hy).1 with q|q
  ·exact .inl q
  ·exact .inr ⟨q,PySem.W.cellsFrom_some _ _ _ (.inl q)⟩
 refine codeAny_call_function hr.depth (KX _ _ lk) rfl S.co S.gen rfl (PySem.W.codeRec_of KX hcd) (hb _ _ _ _ ?_);refine wpAny_newFunctionEnv_cells S.kind hkind λenv he s1 x=>?_;subst he;refine ⟨lim.keeps x.toInCall.keep,codeAny_func ?_⟩;obtain ⟨t,ht,hq⟩:=hbody A outer s H vs Q E (hr.deeper _) hsp;have I:Inv (qcO CX P w K mg base N qual scope f cdv A outer s H E) [] (X5 N vs) H s1:=qbA S hr.hd e0 hl r x;refine y9 (ht [] s1 (X5 N vs) H _ I hq) (λfl s' hs=>?_) λe s' hs=>hs;have fin:∀ {σ':St} {H':Hp} {v:V} {u:Value},Inv (qcO CX P w K mg base N qual scope f cdv A outer s H E) [] σ' H' s'->jp v u->Q v H'->CE outer P w H s Q u s':=
  λ{σ' H' v u} J rv q=>⟨v,H',J.os,J.bare,J.base,J.hok,rv,q⟩
 cases fl with
 |ret u=>
  obtain ⟨v,σ',H',J,rv,q⟩:=hs;exact fin J rv q
 |next=>
  obtain ⟨σ',H',J,q⟩:=hs;exact fin (v:=V.non) (u:=Value.none) J rfl q
 |brk=>
  obtain ⟨_,_,_,q⟩:=hs;exact False.elim q
 |cont=>
  obtain ⟨_,_,_,q⟩:=hs;exact False.elim q
section
variable {X:Cx} {x:Str} {p pos:Pos} {e:Expr} {es:List Expr} {t:TA} {id T:String} {r:List V->Hp->VK->Prop}
def tCB (r:List V->Hp->VK->Prop) (t:TA):TE:=λσ H Q=>t σ H λvs H1=>r vs H1 Q
def W9 (hc:YK X (.builtin id) r) (hg:Gl X x) (hm:X.mg x=none) (hv:bootBuiltins x=some (.builtin id)) (ha:PA X (e::es) t) (hn:x≠"__name__" := by decide) (hdb:(x==("__debug__" : Str))=false:=by decide)
  (he:starEach (e::es) X.env=(false,eval e X.env)::starEach es X.env:=by rfl) (hpl:(backTo pos (starEach es X.env)).any (·.1)=false:=by rfl):PE X (.Call (.Name x p) (e::es) [] pos) (tCB r t):=by
 intro pins s σ H Q I h;refine wpAny_Call_Name_kw (CJ I hg hm hv ?_ hn hdb);exact PyProof.Rows.callWith_builtin1 (thn (ha pos pins s σ H _ I h) λus s1 ⟨vs,H1,I1,r1,q1⟩=>hc pins s1 σ H1 vs us Q I1 r1 q1) he hpl
def K1 (hc:YK X (.type T) r) (hg:Gl X x) (hm:X.mg x=none) (hv:bootBuiltins x=some (.type T)) (ha:PA X (e::es) t) (hn:x≠"__name__" := by decide) (hdb:(x==("__debug__" : Str))=false:=by decide)
  (he:starEach (e::es) X.env=(false,eval e X.env)::starEach es X.env:=by rfl) (hpl:(backTo pos (starEach es X.env)).any (·.1)=false:=by rfl):PE X (.Call (.Name x p) (e::es) [] pos) (tCB r t):=by
 intro pins s σ H Q I h;refine wpAny_Call_Name_kw (CJ I hg hm hv ?_ hn hdb);exact PyProof.Rows.callWith_type1 (thn (ha pos pins s σ H _ I h) λus s1 ⟨vs,H1,I1,r1,q1⟩=>hc pins s1 σ H1 vs us Q I1 r1 q1) he hpl
end
end L2
namespace HT
open PySem PyProof.Rows
section
open PySem.SeqAt
open PySem.MeetsSeq PySem.MeetsSeq2 PySem.MeetsSeq3
end
section
variable {prog:Program} {w:World} {A:Around} {E:Value->Shared->Prop} {s:Shared}
def qiJ {t b:Addr} {vs ws:List Value} {Q:Value->Shared->Prop} (ht:IsTup s.heap t vs.toArray) (hb:IsTup s.heap b ws.toArray) (hv:vs≠[])
  (h1:ws=[]->Q (.ref t) s) (h2:ws≠[]->Q (.ref s.heap.objs.size) { s with heap:=s.heap.push { cls:=.type "tuple",data:=.seq (vs++ws).toArray } })
  (hsz:vs.length+ws.length<=sizeLine):wpAny (model prog w) A (binaryOp .Add (.ref t) (.ref b)) Q E s:=by
 obtain ⟨⟨cls,dd,data,sl⟩,ho,hc,n,hd⟩:=id ht;obtain ⟨⟨cls2,dd2,data2,sl2⟩,ho2,hc2,n2,hd2⟩:=id hb;simp only at hc hd hc2 hd2;subst hc hd hc2 hd2;have e:vs.toArray++ws.toArray=(vs++ws).toArray:=by simp
 by_cases hw:ws=[]
 ·exact concat_meets ⟨_,ho,rfl⟩ ⟨_,ho2,rfl⟩ noFill_tuple_add seq_tuple_add PySem.F.slot_tuple_add PySem.F.entry_tuple_add (PySem.F.args_tuple_add_2 _ _)
   (tuple_addW1 t b vs.toArray ws.toArray n n2 dd dd2 sl sl2 (by simpa using hv) (by simp [hw])) ⟨ho,ho2,h1 hw⟩
 ·refine concat_meets ⟨_,ho,rfl⟩ ⟨_,ho2,rfl⟩ noFill_tuple_add seq_tuple_add PySem.F.slot_tuple_add PySem.F.entry_tuple_add (PySem.F.args_tuple_add_2 _ _)
   (tuple_addW2 t b vs.toArray ws.toArray n n2 dd dd2 sl sl2 (by simpa using hv) (by simpa using hw) (by rw [size_toArray,size_toArray];exact hsz)) ⟨ho,ho2,?_⟩
  rw [e];exact h2 hw
def sIx (n d:Nat):Option Int->Nat
 |none=>d
 |some v=>if v<0 then (v+(n:Int)).toNat else min v.toNat n
def qjM (n d:Nat) (hd:d<=n) (o:Option Int):sIx n d o<=n:=by
 cases o with
 |none=>exact hd
 |some v=>
  show (if v<0 then (v+(n:Int)).toNat else min v.toNat n)<=n;by_cases hv:v<0
  ·rw [if_pos hv];omega
  ·rw [if_neg hv];exact Nat.min_le_right _ _
def qcY (v:Int) (n d:Nat):(if v<0 then max (v+(n:Int)) 0 else min v (n:Int))=((sIx n d (some v):Nat):Int):=by
 show (if v<0 then max (v+(n:Int)) 0 else min v (n:Int))=(((if v<0 then (v+(n:Int)).toNat else min v.toNat n):Nat):Int);by_cases hv:v<0
 ·simp only [if_pos hv];omega
 ·simp only [if_neg hv];omega
def qaN (lo hi:Option Int) (n:Nat):Builtin.Slice.sliceAdjust lo hi 1 (n:Int)=(((sIx n 0 lo:Nat):Int),((sIx n n hi:Nat):Int)):=by
 have h1:¬ ((1:Int)<0):=by omega
 unfold Builtin.Slice.sliceAdjust;simp only [h1,if_false];refine Prod.ext ?_ ?_
 ·cases lo with
  |none=>rfl
  |some v=>exact qcY v n 0
 ·cases hi with
  |none=>rfl
  |some v=>exact qcY v n n
def qag (i j:Nat):Builtin.Slice.slicePlaces (i:Int) (j:Int) 1=j-i:=by
 unfold Builtin.Slice.slicePlaces;have h1:(1:Int) > 0:=by omega
 simp only [h1,if_true,Int.ediv_one];split<;>omega
def RM {v:Value} {o:Option Int} {Q:Option Int->Shared->Prop} (p:IsPart v o) (h:Q o s):wpAny (model prog w) A (Builtin.Slice.slicePartIndex v) Q E s:=by
 cases p with
 |none=>exact slicePart_none h
 |int i t=>exact slicePart_int h
def W5 {sl:Addr} {vl vu:Value} {lo hi:Option Int} {n:Nat} {Q:Int×Int×Nat->Shared->Prop} (hs:s.heap.IsSliceOf sl vl vu .none) (pl:IsPart vl lo) (pu:IsPart vu hi)
  (h:Q (((sIx n 0 lo:Nat):Int),1,sIx n n hi-sIx n 0 lo) s):wpAny (model prog w) A (Builtin.Slice.sliceApplied (.ref sl) (pure (n:Int))) Q E s:=by
 obtain ⟨os,hos,hcs,hds⟩:=id hs;unfold Builtin.Slice.sliceApplied Builtin.Slice.sliceFields;refine y6 (y6 (wpAny_field hos hds (x:=vl) rfl (y6 (wpAny_field hos hds (x:=vu) rfl (y6 (wpAny_field hos hds (x:=.none) rfl (y8 ?_)))))));refine y6 (slicePart_none ?_);show wpAny _ _ (if ((1:Int)==0)=true then _ else _) _ _ s;rw [if_neg (by decide)];refine y6 (RM pl (y6 (RM pu (y6 (y8 ?_)))));show wpAny _ _ (match Builtin.Slice.sliceAdjust lo hi 1 (n:Int) with|(lo,hi)=>pure (lo,(1:Int),Builtin.Slice.slicePlaces lo hi 1)) _ _ s;rw [qaN lo hi n];show wpAny _ _ (pure (((sIx n 0 lo:Nat):Int),(1:Int),Builtin.Slice.slicePlaces ((sIx n 0 lo:Nat):Int) ((sIx n n hi:Nat):Int) 1)) _ _ s;rw [qag];exact y8 h
def qek (xs:Array Value) (i k:Nat):((List.range k).filterMap λ(m:Nat)=>xs[((i:Int)+(m:Int)*1).toNat]?).toArray=((xs.toList.drop i).take k).toArray:=by
 have e:(λ(m:Nat)=>xs[((i:Int)+(m:Int)*1).toNat]?)=λm=>xs[i+m]?:=by
  funext m;have:((i:Int)+(m:Int)*1).toNat=i+m:=by omega
  rw [this]
 rw [e];have:=pick_run xs i k;rw [List.filterMap_map] at this;have e2:((λx=>xs[x]?)∘λx=>i+x)=λm=>xs[i+m]?:=rfl;rw [e2] at this;rw [this]
def DF {t sl:Addr} {items:Array Value} {vl vu:Value} {lo hi:Option Int} {Q:Value->Shared->Prop} (ht:IsTup s.heap t items) (hs:s.heap.IsSliceOf sl vl vu .none) (pl:IsPart vl lo) (pu:IsPart vu hi)
  (hw:¬ (sIx items.size 0 lo=0/\sIx items.size items.size hi=items.size))
  (h:Q (.ref s.heap.objs.size) { s with heap:=s.heap.push { cls:=.type "tuple",data:=.seq ((items.toList.drop (sIx items.size 0 lo)).take (sIx items.size items.size hi-sIx items.size 0 lo)).toArray } })
  (hsz:items.size<=sizeLine):wpAny (model prog w) A (getItem (.ref t) (.ref sl)) Q E s:=by
 have htake:sizeOk (.seq ((items.toList.drop (sIx items.size 0 lo)).take (sIx items.size items.size hi-sIx items.size 0 lo)).toArray):=by
  show ((items.toList.drop (sIx items.size 0 lo)).take (sIx items.size items.size hi-sIx items.size 0 lo)).toArray.size<=sizeLine;rw [size_toArray,List.length_take,List.length_drop,Array.length_toList];omega
 have hj:sIx items.size items.size hi<=items.size:=qjM _ _ (u7 _) hi;obtain ⟨os,hos,hcs,hds⟩:=id hs;have hTs:s.TypeIs (.ref sl) "slice" := ⟨os,hos,hcs⟩
 unfold getItem
 try with_reducible refine wpAny_holding ?_
 first|refine y6 (y8 ?_)|skip
 refine y6 (wpAny_sequenceKey ht.typeIs (by decide) ?_);refine y6 (wpAny_callSpecial?_slot (name:=Str.ofString "__getitem__") ht.typeIs PyProof.Rows.slot_tuple_getitem
  (wpAny_call_entry PyProof.Rows.slot_tuple_getitem ht.typeIs entry_tuple_getitem ?_ (args_tuple_getitem _ _)))
 show wpAny _ _ (Builtin.Tuple.tupleItemsOf (.ref t) >>= _) _ _ s;refine y6 (tupleItemsOf_ ht ?_);refine y6 (wpAny_typeOf hTs ?_);rw [if_pos (by decide)];refine y6 (W5 hs pl pu ?_);have hno:¬ ((((sIx items.size 0 lo:Nat):Int)==0&&(1:Int)==1&&(sIx items.size items.size hi-sIx items.size 0 lo)==items.size)=true):=by
  intro q;rw [Bool.and_eq_true,Bool.and_eq_true] at q;have q1:((sIx items.size 0 lo:Nat):Int)=0:=eq_of_beq q.1.1;have q2:sIx items.size items.size hi-sIx items.size 0 lo=items.size:=eq_of_beq q.2;exact hw ⟨by omega,by omega⟩
 show wpAny _ _ (if (((sIx items.size 0 lo:Nat):Int)==0&&(1:Int)==1&&(sIx items.size items.size hi-sIx items.size 0 lo)==items.size)=true then _ else _) _ _ s;rw [if_neg hno,qek]
 first
  |exact y6 (m:=Builtin.Tuple.tupleExact _) (wpAny_newObj_type (y8 ⟨_,rfl,y8 h⟩) htake)
  |exact y6 (m:=Builtin.Tuple.tupleExact _) (wpAny_newObj_type (y6 (y8 (y8 ⟨_,rfl,y8 h⟩))) htake)
  |exact y6 (y6 (m:=Builtin.Tuple.tupleExact _) (wpAny_newObj_type (y8 (y8 ⟨_,rfl,y8 h⟩)) htake))
  |exact y6 (y6 (m:=Builtin.Tuple.tupleExact _) (wpAny_newObj_type (y8 ⟨_,rfl,y8 h⟩) htake))
end
end HT
namespace L2
open PySem PySem.Spec PyProof.Rows
abbrev TO:=St->Hp->(Option Int->Hp->Prop)->Prop
def PO (X:Cx) (e:Option Expr) (t:TO):Prop:=
 ∀ (pins:List (Addr×Obj)) (s:Shared) (σ:St) (H:Hp) (Q:Option Int->Hp->Prop),Inv X pins σ H s->t σ H Q ->
  wpAny (model X.prog X.w) X.A (evalPart e X.env) (λu s'=>∃ o H',Inv X pins σ H' s'/\IsPart u o/\Q o H') X.xe s
def qik:TO:=λ_ H Q=>Q none H
def qol (t:TE):TO:=λσ H Q=>t σ H λx H1=>∃ i,x=.int i/\Q (some i) H1
section
variable {X:Cx} {e:Expr} {te:TE} {lo hi:Option Expr} {tl th:TO} {pos p2:Pos}
def qhC:PO X none qik:=by
 intro pins s σ H Q I h;rw [evalPart_none];exact y8 ⟨none,H,I,.none,h⟩
def qgP (h:PE X e te):PO X (some e) (qol te):=by
 intro pins s σ H Q I hw;rw [evalPart_some];refine thn (h pins s σ H _ I hw) λu s1 ⟨x,H1,I1,r1,q1⟩=>?_;obtain ⟨i,rfl,q⟩:=q1;obtain ⟨t,rfl⟩:=r1;exact ⟨some i,H1,I1,.int i t,q⟩
def SlR (X:Cx) (r:V->Option Int->Option Int->Hp->VK->Prop):Prop:=
 ∀ (pins:List (Addr×Obj)) (s:Shared) (σ:St) (H:Hp) (x:V) (v vl vu:Value) (lo hi:Option Int) (sl:Addr) (Q:VK),Inv X pins σ H s->jp x v->s.heap.IsSliceOf sl vl vu .none->IsPart vl lo->IsPart vu hi->r x lo hi H Q ->
  ∃ T id,typeLookup (.type T) "__getitem__" = pure (some (.builtin id))/\s.TypeIs v T/\wpAny (model X.prog X.w) X.A (getItem v (.ref sl)) (EP X pins σ Q) X.xe s
def SlR.or {r r':V->Option Int->Option Int->Hp->VK->Prop} (h:SlR X r) (h':SlR X r'):SlR X (λx lo hi H Q=>r x lo hi H Q\/r' x lo hi H Q):=by
 intro pins s σ H x v vl vu lo hi sl Q I rx hs pl pu q;rcases q with q|q
 ·exact h pins s σ H x v vl vu lo hi sl Q I rx hs pl pu q
 ·exact h' pins s σ H x v vl vu lo hi sl Q I rx hs pl pu q
def tSl (r:V->Option Int->Option Int->Hp->VK->Prop) (te:TE) (tl th:TO):TE:=λσ H Q=>te σ H λx H1=>tl σ H1 λl H2=>th σ H2 λu H3=>r x l u H3 Q
def qdL {r:V->Option Int->Option Int->Hp->VK->Prop} (hr:SlR X r) (he:PE X e te) (hl:PO X lo tl) (hu:PO X hi th):PE X (.Subscript e (.Slice lo hi none p2) pos) (tSl r te tl th):=by
 intro pins s σ H Q I h;refine Subscript_ (thn (he pins s σ H _ I h) λv s1 ⟨x,H1,I1,r1,q1⟩=>?_);refine wpAny_Slice (thn (hl pins s1 σ H1 _ I1 q1) λvl s2 ⟨l,H2,I2,pl,q2⟩=>thn (hu pins s2 σ H2 _ I2 q2) λvu s3 ⟨u,H3,I3,pu,q3⟩=>?_);rw [evalPart_none];refine y8 ?_;have I4:Inv X pins σ H3 { s3 with heap:=s3.heap.push { cls:=.type "slice",data:=.fields #[vl,vu,.none] } }:=I3.kept (t':=s3.toks) λb ob q=>v0 _ q;obtain ⟨T,id,hT,ht,hg⟩:=hr pins { s3 with heap:=s3.heap.push { cls:=.type "slice",data:=.fields #[vl,vu,.none] } } σ H3 x v vl vu l u s3.heap.objs.size Q I4 r1 (Heap.IsSliceOf.new ..) pl pu q3;show wpAny (model X.prog X.w) X.A (subscriptTail e (.Slice lo hi none p2) v (.ref s3.heap.objs.size)) (EP X pins σ Q) X.xe { s3 with heap:=s3.heap.push { cls:=.type "slice",data:=.fields #[vl,vu,.none] } };exact tail_any (ops:=[.ref s3.heap.objs.size,v]) ht hT hg (by with_unfolding_all rfl)
def qe5 (xs:List V) (lo hi:Option Int):List V:=(xs.drop (HT.sIx xs.length 0 lo)).take (HT.sIx xs.length xs.length hi-HT.sIx xs.length 0 lo)
def XZ (xs:List V) (lo hi:Option Int):(qe5 xs lo hi).length<=xs.length:=by
 unfold qe5;rw [List.length_take,List.length_drop];omega
def qro (K:Frg):V->Option Int->Option Int->Hp->VK->Prop:=λx lo hi H Q=>∃ a xs,x=.ref a/\SqT K H a xs /\
 ¬ (HT.sIx xs.length 0 lo=0/\HT.sIx xs.length xs.length hi=xs.length)/\∀ p,H p=none->Q (.ref p) (upd H p (.tup (qe5 xs lo hi)))
def qju:SlR X (qro X.K):=by
 intro pins s σ H x v vl vu lo hi sl Q I rx hs pl pu h;obtain ⟨a,xs,rfl,hx,hw,q⟩:=h;cases rx;obtain ⟨its,r,ht,hz⟩:=I.tuple hx;have hlen:its.toArray.size=xs.length:=by rw [size_toArray];exact r.length.symm
 refine ⟨"tuple",_,PyProof.Rows.slot_tuple_getitem.lookup,ht.typeIs,?_⟩;refine HT.DF ht hs pl pu (by rw [hlen];exact hw) ?_ (by rw [hlen];exact hz);rw [hlen];refine ⟨.ref s.heap.objs.size,_,I.laid (t':=s.toks) (o:=.tup (qe5 xs lo hi)) (λb ob q=>v0 _ q) (u7 _) ?_,rfl,q _ (I.hok.fresh (u7 _))⟩;exact ⟨za2 (XZ xs lo hi) hz,_,(r.drop (HT.sIx xs.length 0 lo)).take (HT.sIx xs.length xs.length hi-HT.sIx xs.length 0 lo),WC.new _ _⟩
def qnD (K:Frg):R2:=λx y H Q=>∃ a b xs ys,x=.ref a/\y=.ref b/\SqT K H a xs/\SqT K H b ys/\xs≠[]/\xs.length+ys.length<=sizeLine /\
 (ys=[]->Q (.ref a) H)/\(ys≠[]->∀ p,H p=none->Q (.ref p) (upd H p (.tup (xs++ys))))
def zo.nil_iff {xs:List V} {us:List Value} (r:zo xs us):us=[]↔xs=[]:=by
 cases r with
 |nil=>simp
 |cons _ _=>simp
def qgU:OpR X (binaryOp .Add) (qnD X.K):=by
 intro pins s σ H x y v u Q I rx ry h;obtain ⟨a,b,xs,ys,rfl,rfl,ha,hb,hx,hz,q1,q2⟩:=h;cases rx;cases ry;obtain ⟨its,r1,p1,_⟩:=I.tuple ha;obtain ⟨its2,r2,p2,_⟩:=I.tuple hb;refine HT.qiJ p1 p2 (λz=>hx (r1.nil_iff.mp z)) (λz=>⟨.ref a,H,I,rfl,q1 (r2.nil_iff.mp z)⟩) (λz=>?_) (by rw [← r1.length,← r2.length];exact hz);refine ⟨.ref s.heap.objs.size,_,I.laid (t':=s.toks) (o:=.tup (xs++ys)) (λb ob q=>v0 _ q) (u7 _) ?_,rfl,q2 (λw=>z (r2.nil_iff.mpr w)) _ (I.hok.fresh (u7 _))⟩;exact ⟨by rw [length_append];exact hz,_,r1.append r2,WC.new _ _⟩
end
def ixN (n:Nat) (i:Int):Option Nat:=if 0<=i then (if i<n then some i.toNat else none) else if -(n:Int)<=i then some (i+n).toNat else none
def atI {α:Type} (xs:List α) (i:Int):Option α:=(ixN xs.length i).bind λj=>xs[j]?
def qc4 {n:Nat} {i:Int} {j:Nat} (h:ixN n i=some j):seqIndex? i n=some j/\j<n/\-(n:Int)<=i/\i<n:=by
 unfold ixN at h;by_cases h0:0<=i
 ·rw [if_pos h0] at h;by_cases h1:i<n
  ·rw [if_pos h1] at h;have e:i.toNat=j:=Option.some.inj h;exact ⟨by rw [seqIndex_of h0 h1,e],by omega,by omega,h1⟩
  ·rw [if_neg h1] at h;cases h
 ·rw [if_neg h0] at h;by_cases h1:-(n:Int)<=i
  ·rw [if_pos h1] at h;have e:(i+n).toNat=j:=Option.some.inj h;exact ⟨by rw [seqIndex_neg (by omega) h1,e],by omega,h1,by omega⟩
  ·rw [if_neg h1] at h;cases h
def MO {α:Type} {xs:List α} {i:Int} {v:α} (h:atI xs i=some v):∃ j,seqIndex? i xs.length=some j/\xs[j]?=some v/\j<xs.length/\-(xs.length:Int)<=i/\i<xs.length:=by
 unfold atI at h;cases e:ixN xs.length i with
 |none=>rw [e] at h;cases h
 |some j=>
  rw [e] at h;obtain ⟨h1,h2,h3,h4⟩:=qc4 e;exact ⟨j,h1,h,h2,h3,h4⟩
def MP (b:Expr):Prop:=∀ o i,subscripted b false o i=operate [o,i] (getItem o i)
def IxR (X:Cx) (r:R2):Prop:=
 ∀ (value slice:Expr) (pins:List (Addr×Obj)) (s:Shared) (σ:St) (H:Hp) (x y:V) (v u:Value) (Q:VK),Inv X pins σ H s->jp x v->jp y u->r x y H Q ->
  subscripted slice false v u=operate [v,u] (getItem v u)->wpAny (model X.prog X.w) X.A (subscriptTail value slice v u) (EP X pins σ Q) X.xe s
def MtR (X:Cx) (id:String) (r:V->List V->Hp->VK->Prop):Prop:=
 ∀ (pins:List (Addr×Obj)) (s:Shared) (σ:St) (H:Hp) (x:V) (xs:List V) (v:Value) (us:List Value) (Q:VK),Inv X pins σ H s->jp x v->zo xs us->r x xs H Q ->
  wpAny (model X.prog X.w) X.A (call (.builtin id) (v::us)) (EP X pins σ Q) X.xe s
section
variable {X:Cx} {a b:Expr} {ta tb:TE} {pos:Pos}
def IxR.or {r r':R2} (h:IxR X r) (h':IxR X r'):IxR X (λx y H Q=>r x y H Q\/r' x y H Q):=by
 intro value slice pins s σ H x y v u Q I rx ry q hs;rcases q with q|q
 ·exact h value slice pins s σ H x y v u Q I rx ry q hs
 ·exact h' value slice pins s σ H x y v u Q I rx ry q hs
def qo9 {r:R2} (hr:IxR X r) (ha:PE X a ta) (hb:PE X b tb) (hs:MP b):PE X (.Subscript a b pos) (tOp r ta tb):=by
 intro pins s σ H Q I h;exact Subscript_ (qp0 ha hb I h λv u s2 x y H2 I2 rx ry q=>hr a b pins s2 σ H2 x y v u Q I2 rx ry q (hs _ _))
def qq0 (K:Frg):R2:=λx y H Q=>∃ p xs i v,x=.ref p/\y=.int i/\SqL K H p xs/\atI xs i=some v/\Q v H
def qqF (K:Frg):R2:=λx y H Q=>∃ p xs i v,x=.ref p/\y=.int i/\SqT K H p xs/\atI xs i=some v/\Q v H
def qqD:R2:=λx y H Q=>∃ z i c,x=.str z/\y=.int i/\z.length<=sizeLine/\atI z.cps.toList i=some c/\Q (.str ⟨#[c]⟩) H
def qhB:IxR X (qq0 X.K):=by
 intro value slice pins s σ H x y v u Q I rx ry h hs;obtain ⟨p,xs,i,z,rfl,rfl,hq,he,q⟩:=h;cases rx;obtain ⟨t,rfl⟩:=ry;obtain ⟨its,r,pl,hz⟩:=I.list hq;obtain ⟨j,h1,h2,h3,h4,h5⟩:=MO he;obtain ⟨w,ew,rw'⟩:=r.get h2;have hl:=r.length;have hn:=K0;have fin:EP X pins σ Q w s:=⟨z,H,I,rw',q⟩
 by_cases h0:0<=i
 ·have hj:i.toNat=j:=by
   rw [seqIndex_of h0 h5] at h1;exact Option.some.inj h1
  exact item_listR pl.isList h0 (by omega) (by rw [hj];simpa using ew) fin hs
 ·have hj:(i+(its.toArray.size:Int)).toNat=j:=by
   rw [seqIndex_neg (by omega) h4] at h1;rw [size_toArray,← hl];exact Option.some.inj h1
  exact subscriptTail_builtinR (x:=w) pl.isList.typeIs slot_list_getitem.lookup
   (wpAny_getItem_list_neg (Q:=λr s'=>r=w/\EP X pins σ Q r s') pl.isList (by omega) (by rw [size_toArray]<;>omega) (by omega) (by rw [hj];simpa using ew) ⟨rfl,fin⟩) hs
def qlL:IxR X (qqF X.K):=by
 intro value slice pins s σ H x y v u Q I rx ry h hs;obtain ⟨p,xs,i,z,rfl,rfl,hq,he,q⟩:=h;cases rx;obtain ⟨t,rfl⟩:=ry;obtain ⟨its,r,pl,hz⟩:=I.tuple hq;obtain ⟨j,h1,h2,h3,h4,h5⟩:=MO he;obtain ⟨w,ew,rw'⟩:=r.get h2;have hl:=r.length;have hn:=K0;have fin:EP X pins σ Q w s:=⟨z,H,I,rw',q⟩
 exact subscriptTail_builtinR (x:=w) pl.typeIs slot_tuple_getitem.lookup
  (getItem_tuple (j:=j) (Q:=λr s'=>r=w/\EP X pins σ Q r s') pl (by omega) (by omega) (by rw [size_toArray,← hl];exact h1) (by simpa using ew) ⟨rfl,fin⟩) hs
def qka:IxR X qqD:=by
 intro value slice pins s σ H x y v u Q I rx ry h hs;obtain ⟨z,i,c,rfl,rfl,hz,he,q⟩:=h;obtain ⟨t,rfl⟩:=rx;obtain ⟨t',rfl⟩:=ry;obtain ⟨j,h1,h2,h3,h4,h5⟩:=MO he;have hl:z.cps.toList.length=z.length:=by simp [Str.length]
 rw [hl] at h1 h4 h5;have hn:=K0;exact tail_any (typeIs_str s z t) slot_str_getitem.lookup (getItem_str (c:=c) (by
  have e1:decide (i < -(2 ^ 63:Int))=false:=za7 (by omega);have e2:decide (i ≥ 2 ^ 63)=false:=za7 (by omega);rw [e1,e2,Bool.or_false]) (by rw [h1];simpa using h2) ⟨.str ⟨#[c]⟩,H,I.tok _,⟨_,rfl⟩,q⟩) hs
def rIx (K:Frg):R2:=λx y H Q=>qq0 K x y H Q\/qqF K x y H Q\/qqD x y H Q
def qkg:IxR X (rIx X.K):=qhB.or (qlL.or qka)
def qap (its:List Value) (n j:Nat) (u:Value):Obj.mapSeq (·.setIfInBounds j u) { cls:=.type "list",data:=.seq its.toArray n }={ cls:=.type "list",data:=.seq (its.set j u).toArray n }:=by
 simp [Obj.mapSeq]
theorem Inv.lst {pins:List (Addr×Obj)} {σ:St} {H:Hp} {s:Shared} {p:Addr} {xs:List V} (I:Inv X pins σ H s) (h:H p=some (.lst xs)) :
  ∃ (its:List Value) (n:Nat),zo xs its/\s.heap.get? p=some { cls:=.type "list",data:=.seq its.toArray n }/\xs.length<=sizeLine:=by
 obtain ⟨z,its,n,r,e⟩:=I.hok p _ h;exact ⟨its,n,r,e,z⟩
def Inv.lstUpd {pins:List (Addr×Obj)} {σ:St} {H:Hp} {s:Shared} {p:Addr} {xs ys:List V} {its its':List Value} {n n':Nat} {f:Obj->Obj} (I:Inv X pins σ H s) (h:H p=some (.lst xs))
  (ho:s.heap.get? p=some { cls:=.type "list",data:=.seq its.toArray n }) (hf:f { cls:=.type "list",data:=.seq its.toArray n }={ cls:=.type "list",data:=.seq its'.toArray n' }) (r:zo ys its') (hz:ys.length<=sizeLine) (t:Nat) :
  Inv X pins σ (upd H p (.lst ys)) { s with heap:=s.heap.update p f,toks:=t }:=by
 have e:(s.heap.update p f).get? p=some { cls:=.type "list",data:=.seq its'.toArray n' }:=by
  rw [Heap.get?_update_self f ho (by rw [hf]<;>rfl),hf]
 refine I.write (x:=p) (e:=p) (by rw [h];trivial) (.inl rfl) (λb u hb q=>(Heap.get?_update_other _ _ (Ne.symm hb)).trans q) ⟨_,e⟩ ?_;exact ⟨hz,its',n',r,e⟩
def qpZ:V->V->V->Hp->(Hp->Prop)->Prop:=λo i v H Q=>∃ p xs k j,o=.ref p/\i=.int k/\H p=some (.lst xs)/\ixN xs.length k=some j/\Q (upd H p (.lst (xs.set j v)))
def qeI:qpr X qpZ:=by
 intro pins s σ H o i v ov iv u Q I ro ri rv h;obtain ⟨p,xs,k,j,rfl,rfl,hp,hj,q⟩:=h;cases ro;obtain ⟨t,rfl⟩:=ri;obtain ⟨its,n,r,ho,hz⟩:=I.lst hp;obtain ⟨h1,h2,h3,h4⟩:=qc4 hj;have hl:=r.length;have hn:=K0;have I':Inv X pins σ (upd H p (.lst (xs.set j v))) { s with heap:=s.heap.update p (Obj.mapSeq (·.setIfInBounds j u)) }:=
  I.lstUpd hp ho (qap its n j u) (r.set rv j) (by rw [List.length_set];exact hz) s.toks
 by_cases h0:0<=k
 ·have hk:k.toNat=j:=by
   rw [seqIndex_of h0 h4] at h1;exact Option.some.inj h1
  exact PySem.W.ki_setAt ho h0 (by omega) (by rw [size_toArray,← hl];exact h4) (by rw [hk];exact ⟨_,I',q⟩)
 ·have hk:(k+(its.toArray.size:Int)).toNat=j:=by
   rw [seqIndex_neg (by omega) h3] at h1;rw [size_toArray,← hl];exact Option.some.inj h1
  exact PySem.W.ki_setBack ho (by omega) (by rw [size_toArray,← hl];exact h3) (by omega) (by rw [hk];exact ⟨_,I',q⟩)
def KO (lo hi:Option Int) (n:Nat):(sliceBounds lo hi none n).1=((HT.sIx n 0 lo:Nat):Int)/\(sliceBounds lo hi none n).2.1=((HT.sIx n n hi:Nat):Int)/\(sliceBounds lo hi none n).2.2=1:=by
 refine ⟨?_,?_,rfl⟩
 ·cases lo with
  |none=>simp [sliceBounds,HT.sIx]
  |some i=>
   simp only [sliceBounds,HT.sIx,Option.getD_none,show (1:Int) > 0 by decide,if_true];by_cases h:i<0
   ·simp only [h,if_true]<;>omega
   ·simp only [h,if_false]<;>omega
 ·cases hi with
  |none=>simp [sliceBounds,HT.sIx]
  |some i=>
   simp only [sliceBounds,HT.sIx,Option.getD_none,show (1:Int) > 0 by decide,if_true];by_cases h:i<0
   ·simp only [h,if_true]<;>omega
   ·simp only [h,if_false]<;>omega
def TL (its:List Value) (lo hi:Option Int):slicePick its.toArray lo hi none=((its.drop (HT.sIx its.length 0 lo)).take (HT.sIx its.length its.length hi-HT.sIx its.length 0 lo)).toArray:=by
 obtain ⟨h1,h2,h3⟩:=KO lo hi its.toArray.size;unfold slicePick;rw [h1,h2,h3];simp only [sliceRange_one,pick_run,size_toArray]<;>rfl
def qrH (K:Frg):V->Option Int->Option Int->Hp->VK->Prop:=λx lo hi H Q=>∃ a xs,x=.ref a/\SqL K H a xs/\∀ p,H p=none->Q (.ref p) (upd H p (.lst (qe5 xs lo hi)))
def qg6:SlR X (qrH X.K):=by
 intro pins s σ H x v vl vu lo hi sl Q I rx hs pl pu h;obtain ⟨a,xs,rfl,hx,q⟩:=h;cases rx;obtain ⟨its,r,ht,hz⟩:=I.list hx;have hlen:=r.length;refine ⟨"list",_,slot_list_getitem.lookup,ht.isList.typeIs,?_⟩;refine wpAny_getItem_list_slice ht.isList hs pl pu .none (by simp) ?_ (by rw [size_toArray]<;>omega);rw [TL,← hlen];refine ⟨.ref s.heap.objs.size,_,I.laid (t':=s.toks) (o:=.lst (qe5 xs lo hi)) (λb ob q=>v0 _ q) (u7 _) ?_,rfl,q _ (I.hok.fresh (u7 _))⟩;exact ⟨za2 (XZ xs lo hi) hz,_,0,(r.drop (HT.sIx xs.length 0 lo)).take (HT.sIx xs.length xs.length hi-HT.sIx xs.length 0 lo),v4 _ rfl⟩
def CU:V->Bool
 |.non=>true
 |.bl _=>true
 |.int _=>true
 |.str _=>true
 |_=>false
def eqV:V->V->Bool
 |.non,.non=>true
 |.bl a,.bl b=>a==b
 |.bl a,.int b=>(if a then 1 else 0)==b
 |.int a,.bl b=>a==(if b then 1 else 0)
 |.int a,.int b=>a==b
 |.str a,.str b=>a==b
 |_,_=>false
def qmL {A:Around} {s:Shared} {y x:V} {u v:Value} (ry:jp y u) (rx:jp x v) (fy:CU y=true) (fx:CU x=true):SeqAt.EqAt A s u v (eqV y x):=by
 cases y with
 |non=>
  cases ry;cases x with
  |non=>cases rx;exact SeqAt.EqAt.same _
  |bl b=>cases rx;exact SeqAt.EqAt.none_bool b
  |int b=>obtain ⟨t,rfl⟩:=rx;exact SeqAt.EqAt.none_int b t
  |str b=>obtain ⟨t,rfl⟩:=rx;exact SeqAt.EqAt.none_str b t
  |_=>exact absurd (show false=true from fx) v6
 |bl a=>
  cases ry;cases x with
  |non=>cases rx;exact SeqAt.EqAt.bool_none a
  |bl b=>cases rx;exact SeqAt.EqAt.bool_bool a b
  |int b=>obtain ⟨t,rfl⟩:=rx;exact SeqAt.EqAt.bool_int a b t
  |str b=>obtain ⟨t,rfl⟩:=rx;exact SeqAt.EqAt.bool_str a b t
  |_=>exact absurd (show false=true from fx) v6
 |int a=>
  obtain ⟨t',rfl⟩:=ry;cases x with
  |non=>cases rx;exact SeqAt.EqAt.int_none a t'
  |bl b=>cases rx;exact SeqAt.EqAt.int_bool a t' b
  |int b=>obtain ⟨t,rfl⟩:=rx;exact SeqAt.EqAt.int_int a t' b t
  |str b=>obtain ⟨t,rfl⟩:=rx;exact SeqAt.EqAt.int_str a t' b t
  |_=>exact absurd (show false=true from fx) v6
 |str a=>
  obtain ⟨t',rfl⟩:=ry;cases x with
  |non=>cases rx;exact SeqAt.EqAt.str_none a t'
  |bl b=>cases rx;exact SeqAt.EqAt.str_bool a t' b
  |int b=>obtain ⟨t,rfl⟩:=rx;exact SeqAt.EqAt.str_int a t' b t
  |str b=>obtain ⟨t,rfl⟩:=rx;exact SeqAt.EqAt.str_str a t' b t
  |_=>exact absurd (show false=true from fx) v6
 |_=>exact absurd (show false=true from fy) v6
def eqU (x:V) (u:Value):Bool:=match u with
 |.none=>eqV .non x
 |.bool b=>eqV (.bl b) x
 |.int i _=>eqV (.int i) x
 |.str z _=>eqV (.str z) x
 |_=>false
def qgj {x y:V} {u:Value} (r:jp y u) (f:CU y=true):eqU x u=eqV y x:=by
 cases y with
 |non=>cases r;rfl
 |bl b=>cases r;rfl
 |int i=>obtain ⟨t,rfl⟩:=r;rfl
 |str z=>obtain ⟨t,rfl⟩:=r;rfl
 |_=>exact absurd (show false=true from f) v6
theorem MS {x:V}:∀ {xs:List V} {us:List Value},zo xs us->xs.all CU=true->us.any (eqU x)=xs.any λy=>eqV y x
 |_,_,.nil,_=>rfl
 |y::xs,u::us,.cons r t,f=>by
  rw [List.all_cons,Bool.and_eq_true] at f;rw [List.any_cons,List.any_cons,qgj r f.1,MS t f.2]
theorem SV {A:Around} {s:Shared} {x:V} {v:Value} (rx:jp x v) (fx:CU x=true):∀ {xs:List V} {us:List Value},zo xs us->xs.all CU=true->∀ u∈us,SeqAt.EqAt A s u v (eqU x u)
 |_,_,.nil,_=>λu hu=>by cases hu
 |y::xs,u::us,.cons r t,f=>λu' hu=>by
  rw [List.all_cons,Bool.and_eq_true] at f;rcases mem_cons.mp hu with rfl|hu
  ·rw [qgj r f.1];exact qmL r rx f.1 fx
  ·exact SV rx fx t f.2 u' hu
def inV (x:V) (xs:List V):Bool:=xs.any λy=>eqV y x
def rIn (K:Frg) (neg:Bool):R2:=λx y H Q=>∃ p xs,y=.ref p/\(SqL K H p xs\/SqT K H p xs)/\CU x=true/\xs.all CU=true/\Q (.bl (if neg then !inV x xs else inV x xs)) H
def qck:OpR X (compareOp .In) (rIn X.K false):=by
 intro pins s σ H x y v u Q I rx ry h;obtain ⟨p,xs,rfl,hq,fx,fs,q⟩:=h;cases ry;rcases hq with hq|hq
 ·obtain ⟨its,r,pl,hz⟩:=I.list hq;refine SeqAt.in_listAt (eqU x) pl.isList (λw hw=>SV rx fx r fs w (by simpa using hw)) ⟨.bl _,H,I,rfl,?_⟩;rw [show its.toArray.any (eqU x)=its.any (eqU x) by simp,MS r fs];exact q
 ·obtain ⟨its,r,pl,hz⟩:=I.tuple hq;refine SeqAt.in_tupleAt (eqU x) pl (λw hw=>SV rx fx r fs w (by simpa using hw)) ⟨.bl _,H,I,rfl,?_⟩;rw [show its.toArray.any (eqU x)=its.any (eqU x) by simp,MS r fs];exact q
def WI:YK X (.type "list") (λxs H Q=>∃ p ys,xs=[.ref p]/\(SqL X.K H p ys\/SqT X.K H p ys)/\∀ l,H l=none->Q (.ref l) (upd H l (.lst ys))):=by
 intro pins s σ H xs us Q I r h;obtain ⟨p,ys,rfl,hq,q⟩:=h;obtain ⟨u,rfl,rx⟩:=XM r;cases rx;have fin:∀ (its:List Value),zo ys its->ys.length<=sizeLine->∀ (h':Heap) (c':Nat),(∀ b o',s.heap.get? b=some o'->h'.get? b=some o') ->
   h'.get? s.heap.objs.size=some { cls:=.type "list",dict:=none,data:=.seq its.toArray c',slots:=#[] }->EP X pins σ Q (.ref s.heap.objs.size) { s with heap:=h' }:=λits r' hz h' c' kp e=>
  ⟨.ref s.heap.objs.size,_,I.laid (t':=s.toks) kp (u7 _) (show VM X.prog X.w _ h' _ (.lst ys) from ⟨hz,its,c',r',e⟩),rfl,q _ (I.hok.fresh (u7 _))⟩
 rcases hq with hq|hq
 ·obtain ⟨its,r',pl,hz⟩:=I.list hq;have hlen:=r'.length;obtain ⟨o,ho,hc,n,hd⟩:=pl.isList;exact call_list_seq p (.inl rfl) ho hc hd (λh' c' kp e=>fin its r' hz h' c' kp e) (by simp only [size_toArray]<;>omega)
 ·obtain ⟨its,r',pl,hz⟩:=I.tuple hq;have hlen:=r'.length;obtain ⟨o,ho,hc,n,hd⟩:=pl;exact call_list_seq p (.inr rfl) ho hc hd (λh' c' kp e=>fin its r' hz h' c' kp e) (by simp only [size_toArray]<;>omega)
def QL:YK X (.type "tuple") (λxs H Q=>∃ p ys,xs=[.ref p]/\((SqL X.K H p ys/\∀ l,H l=none->Q (.ref l) (upd H l (.tup ys)))\/(SqT X.K H p ys/\Q (.ref p) H))):=by
 intro pins s σ H xs us Q I r h;obtain ⟨p,ys,rfl,h⟩:=h;obtain ⟨u,rfl,rx⟩:=XM r;cases rx;rcases h with ⟨hq,q⟩|⟨hq,q⟩
 ·obtain ⟨its,r',pl,hz⟩:=I.list hq;have hlen:=r'.length;refine call_tuple_list pl.isList (λh' kp=>?_) (by simp only [size_toArray]<;>omega);have I1:Inv X pins σ H { s with heap:=h' }:=I.kept (t':=s.toks) kp;have I2:Inv X pins σ (upd H h'.objs.size (.tup ys)) { s with heap:=h'.push { cls:=.type "tuple",data:=.seq its.toArray } }:=
   I1.laid (t':=s.toks) (λb o e=>v0 _ e) (u7 _) (show VM X.prog X.w _ _ _ (.tup ys) from ⟨hz,its,r',WC.new _ _⟩)
  exact ⟨.ref h'.objs.size,_,I2,rfl,q _ (I1.hok.fresh (u7 _))⟩
 ·obtain ⟨its,r',pl,hz⟩:=I.tuple hq;exact call_tuple_same pl ⟨.ref p,H,I,rfl,q⟩
def tyV (K:Frg) (T:String) (x:V) (H:Hp):Prop:=match x with
 |.str _=>T="str"
 |.int _=>T="int"
 |.ref p=>(T="list"/\∃ xs,SqL K H p xs)\/(T="tuple"/\∃ o,K.lookup p=some o/\o.cls=.type "tuple"/\o.dict=none) ∨
   (T="dict"/\((∃ kvs,H p=some (.dK kvs))\/∃ kvs,H p=some (.dT kvs)))\/(T="set"/\∃ S n,H p=some (.set S n))
 |_=>False
def qfi {pins:List (Addr×Obj)} {σ:St} {H:Hp} {s:Shared} {T:String} {x:V} {v:Value} (I:Inv X pins σ H s) (r:jp x v) (ty:tyV X.K T x H) :
  s.TypeIs v T/\∀ a,v=.ref a->∃ ob,s.heap.get? a=some ob/\ob.dict=none:=by
 cases x with
 |str z=>
  obtain ⟨t,rfl⟩:=r;cases (show T="str" from ty);exact ⟨typeIs_str s z t,λ_ e=>nomatch e⟩
 |int i=>
  obtain ⟨t,rfl⟩:=r;cases (show T="int" from ty);exact ⟨typeIs_int s i t,λ_ e=>nomatch e⟩
 |ref p=>
  cases r;rcases ty with ⟨rfl,xs,hq⟩|⟨rfl,o,hk,hc,hd⟩|⟨rfl,hk⟩|⟨rfl,S,n,hk⟩
  ·obtain ⟨its,_,pl,_⟩:=I.list hq;refine ⟨pl.isList.typeIs,λa e=>?_⟩;cases e;obtain ⟨o,n,e,c,hd,_⟩:=pl;exact ⟨o,e,hd⟩
  ·refine ⟨⟨o,I.kIn p o hk,hc⟩,λa e=>?_⟩;cases e;exact ⟨o,I.kIn _ o hk,hd⟩
  ·have z:∃ o,s.heap.get? p=some o/\o.ExactDict:=by
    rcases hk with ⟨kvs,hk⟩|⟨kvs,hk⟩
    ·obtain ⟨_,_,_,_,o,_,_,e,ex,_⟩:=I.hok p _ hk;exact ⟨o,e,ex⟩
    ·obtain ⟨_,_,_,_,o,_,_,e,ex,_⟩:=I.hok p _ hk;exact ⟨o,e,ex⟩
   obtain ⟨o,e,ex⟩:=z;refine ⟨⟨o,e,ex.1⟩,λa e2=>?_⟩;cases e2;exact ⟨o,e,ex.2.1⟩
  ·obtain ⟨o,_,_,_,e,ex,_⟩:=I.hok p _ hk;refine ⟨⟨o,e,ex.1⟩,λa e2=>?_⟩;cases e2;exact ⟨o,e,ex.2.1⟩
 |_=>exact False.elim ty
def qra (K:Frg) (T:String) (r:V->List V->Hp->VK->Prop) (to:TE):TE:=λσ H Q=>to σ H λx H1=>tyV K T x H1/\r x [] H1 Q
def tBM (K:Frg) (T:String) (r:V->List V->Hp->VK->Prop) (to:TE) (t:TA):TE:=λσ H Q=>to σ H λx H1=>tyV K T x H1/\t σ H1 λxs H2=>r x xs H2 Q
variable {o e:Expr} {es:List Expr} {to:TE} {t:TA} {name:Str} {apos cpos:Pos} {T id:String} {r:V->List V->Hp->VK->Prop}
def qlk (pa:PlainAttrs T) (slot:Slot T name id) (hty:typeOf (.builtin id)=pure (.type "method_descriptor")) (hm:MtR X id r) (ho:PE X o to)
  (hbase:attributeBase o name X.env (eval o X.env)=eval o X.env:=by rfl) (hline:(apos.endLine==cpos.line)=true:=by rfl):PE X (.Call (.Attribute o name apos) [] [] cpos) (qra X.K T r to):=by
 intro pins s σ H Q I h;refine wpAny_Call_method0_late hbase hline (thn (ho pins s σ H _ I h) λv s1 ⟨x,H1,I1,r1,ty,q1⟩=>?_);obtain ⟨h1,h2⟩:=qfi I1 r1 ty;exact ⟨T,id,pa,slot,hty,h1,h2,Calls.callWith_builtin rfl (PySem.evalArgs_none (hm pins s1 σ H1 x [] v [] Q I1 r1 .nil q1))⟩
def qkA (pa:PlainAttrs T) (slot:Slot T name id) (hty:typeOf (.builtin id)=pure (.type "method_descriptor")) (hm:MtR X id r) (ho:PE X o to) (ha:PA X (e::es) t)
  (hbase:attributeBase o name X.env (eval o X.env)=eval o X.env:=by rfl)
  (hfew:((backTo cpos (starEach (e::es) X.env)).all (λx=>!x.1)&&(backToKw cpos (keywordEach [] X.env)).all (λx=>x.1.isSome)
   && decide ((e::es).length+([]:List Keyword).length+(if ([]:List Keyword).isEmpty then 0 else 1)<30))=true:=by rfl)
  (hline:(apos.endLine==cpos.line)=true:=by rfl) (hs:starEach (e::es) X.env=(false,eval e X.env)::starEach es X.env:=by rfl) (hplain:(backTo cpos (starEach es X.env)).any (·.1)=false:=by rfl) :
  PE X (.Call (.Attribute o name apos) (e::es) [] cpos) (tBM X.K T r to t):=by
 intro pins s σ H Q I h;refine wpAny_Call_method_late hbase hfew hline rfl (thn (ho pins s σ H _ I h) λv s1 ⟨x,H1,I1,r1,ty,q1⟩=>?_);obtain ⟨h1,h2⟩:=qfi I1 r1 ty;refine ⟨T,id,pa,slot,hty,h1,h2,?_⟩;have hA:=ha cpos pins s1 σ H1 _ I1 q1;rw [hs] at hA ⊢;refine Calls.callWith_builtin (by show (false||(backTo cpos (starEach es X.env)).any (·.1))=false;rw [hplain]<;>rfl) (Calls.evalArgs_plain ?_);exact thn hA λus s2 ⟨vs,H2,I2,r2,q2⟩=>hm pins s2 σ H2 x vs v us Q I2 r1 r2 q2
end
def MtM (X:Cx) (id:String) (r:V->List V->Hp->VK->Prop):Prop:=
 ∀ (pins:List (Addr×Obj)) (s:Shared) (σ:St) (H:Hp) (x:V) (xs:List V) (v:Value) (us:List Value) (Q:VK),Inv X pins σ H s->jp x v->zo xs us->r x xs H Q ->
  wpAny (model X.prog X.w) X.A (call (.builtin id) (v::us)) (EP X pins σ Q) X.xe s
def zo.one:∀ {x:V} {us:List Value},zo [x] us->∃ u,us=[u]/\jp x u
 |_,_,.cons r .nil=>⟨_,rfl,r⟩
def zo.two:∀ {x y:V} {us:List Value},zo [x,y] us->∃ u v,us=[u,v]/\jp x u/\jp y v
 |_,_,_,.cons r (.cons q .nil)=>⟨_,_,rfl,r,q⟩
def zo.zero:∀ {us:List Value},zo [] us->us=[]
 |_,.nil=>rfl
theorem zo.eraseIdx:∀ {xs:List V} {us:List Value} (i:Nat),zo xs us->zo (xs.eraseIdx i) (us.eraseIdx i)
 |_,_,_,.nil=>.nil
 |_,_,0,.cons _ t=>t
 |_,_,i+1,.cons r t=>.cons r (zo.eraseIdx i t)
theorem zo.reverse {xs:List V} {us:List Value} (h:zo xs us):zo xs.reverse us.reverse:=by
 induction h with
 |nil=>exact .nil
 |cons r t ih=>rw [List.reverse_cons,List.reverse_cons];exact zo.append ih (.cons r .nil)
theorem zo.rep {xs:List V} {us:List Value} (h:zo xs us):∀ k:Nat,zo (List.replicate k xs).flatten (List.replicate k us).flatten
 |0=>.nil
 |k+1=>by
  rw [List.replicate_succ,List.replicate_succ,List.flatten_cons,List.flatten_cons];exact zo.append h (zo.rep h k)
theorem KH (its:List Value):∀ (k:Nat) (acc:List Value),
  List.foldl (λx1 x2=>x1++x2) acc.toArray (List.replicate k its.toArray)=(acc++(List.replicate k its).flatten).toArray
 |0,acc=>by simp
 |k+1,acc=>by
  have e:acc.toArray++its.toArray=(acc++its).toArray:=by simp
  have e2:(acc++its)++(List.replicate k its).flatten=acc++(List.replicate (k+1) its).flatten:=by
   rw [List.replicate_succ,List.flatten_cons,List.append_assoc]
  rw [← e2,← KH its k (acc++its),← e,List.replicate_succ,List.foldl_cons]
section
variable {X:Cx} {pins:List (Addr×Obj)} {σ:St} {H:Hp} {s:Shared} {l b:Addr} {xs ys zs:List V}
def Inv.lset {its its':List Value} {n:Nat} {f:Array Value->Array Value} {t':Nat} (I:Inv X pins σ H s) (hH:H l=some (.lst xs))
  (e:s.heap.get? l=some { cls:=.type "list",data:=.seq its.toArray n }) (hf:f its.toArray=its'.toArray) (hv:zo ys its') (hz:ys.length<=sizeLine) :
  Inv X pins σ (upd H l (.lst ys)) { s with heap:=s.heap.update l (Obj.mapSeq f),toks:=t' }:=by
 have q:=PySem.IsL.update e f;rw [hf] at q;refine I.write (x:=l) (e:=l) (by rw [hH];exact trivial) (.inl rfl) (λb' u hb hu=>(Heap.get?_update_other s.heap (Obj.mapSeq f) (Ne.symm hb)).trans hu) ⟨_,q⟩ ?_;exact ⟨hz,its',_,hv,q⟩
def Inv.lnew {its:List Value} {t':Nat} (I:Inv X pins σ H s) (hv:zo ys its) (hz:ys.length<=sizeLine) :
  Inv X pins σ (upd H s.heap.objs.size (.lst ys)) { s with heap:=s.heap.push { cls:=.type "list",data:=.seq its.toArray },toks:=t' }:=
 I.laid (λ_ _ q=>v0 _ q) (u7 _) ⟨hz,its,0,hv,v4 _ rfl⟩
theorem Inv.fresh (I:Inv X pins σ H s):H s.heap.objs.size=none:=I.hok.fresh (u7 _)
def Inv.lstM (I:Inv X pins σ H s) (hH:H l=some (.lst xs)):xs.length<=sizeLine/\∃ (its:List Value) (n:Nat),zo xs its/\xs.length=its.length/\s.heap.get? l=some { cls:=.type "list",data:=.seq its.toArray n }:=by
 obtain ⟨z,its,n,r,e⟩:=I.hok l _ hH;exact ⟨z,its,n,r,r.length,e⟩
def NG {n:Nat} (h:n<=sizeLine):Builtin.List.listTooLong n=false:=by
 unfold Builtin.List.listTooLong;exact za7 (by omega)
end
section
variable {X:Cx}
def qcV:V->List V->Hp->VK->Prop:=λx vs H Q=>∃ l xs y,x=.ref l/\vs=[y]/\H l=some (.lst xs)/\xs.length<sizeLine/\Q .non (upd H l (.lst (xs++[y])))
def EI:MtM X "list.append" qcV:=by
 intro pins s σ H x vs v us Q I rx rv h;obtain ⟨l,xs,y,rfl,rfl,hH,hz,q⟩:=h;cases rx;obtain ⟨u,rfl,ru⟩:=rv.one;obtain ⟨z,its,n,r,hl,e⟩:=I.lstM hH;refine call_meets F.slot_list_append ⟨_,e,rfl⟩ F.entry_list_append (F.args_list_append_2 _ _) (PySem.list_append l its.toArray n u (by rw [size_toArray];omega)) ⟨e,?_⟩;refine ⟨.non,_,I.lset (its':=its++[u]) hH e (by simp) (r.append (.cons ru .nil)) ?_,rfl,q⟩;rw [length_append,List.length_singleton];omega
def qcI:V->List V->Hp->VK->Prop:=λx vs H Q=>∃ l b xs zs,x=.ref l/\vs=[.ref b]/\H l=some (.lst xs)/\H b=some (.lst zs)/\xs.length+zs.length<=sizeLine/\Q .non (upd H l (.lst (xs++zs)))
def qbq:MtM X "list.extend" qcI:=by
 intro pins s σ H x vs v us Q I rx rv h;obtain ⟨l,b,xs,zs,rfl,rfl,hH,hB,hz,q⟩:=h;cases rx;obtain ⟨u,rfl,ru⟩:=rv.one;cases ru;obtain ⟨z,its,n,r,hl,e⟩:=I.lstM hH;obtain ⟨z2,its2,n2,r2,hl2,e2⟩:=I.lstM hB;have hsz:its.toArray.size+its2.toArray.size<=sizeLine:=by rw [size_toArray,size_toArray];omega
 have hlong:¬ (!its.toArray.isEmpty&&Builtin.List.listTooLong (its.toArray.size+its2.toArray.size))=true:=by
  rw [NG hsz,Bool.and_false];exact v6
 refine call_meets F.slot_list_extend ⟨_,e,rfl⟩ F.entry_list_extend (F.args_list_extend_2 _ _)
  (AutoSeq1.list_extend_list_list_0 l its.toArray n b its2.toArray n2 hlong (by rw [size_toArray];omega) (by omega)) ⟨e,e2,?_⟩
 refine ⟨.non,_,I.lset (its':=its++its2) hH e (by simp) (r.append r2) ?_,rfl,q⟩;rw [length_append];omega
def NY:V->List V->Hp->VK->Prop:=λx vs H Q=>∃ l xs,x=.ref l/\vs=[]/\H l=some (.lst xs)/\Q .non (upd H l (.lst xs.reverse))
def qao:MtM X "list.reverse" NY:=by
 intro pins s σ H x vs v us Q I rx rv h;obtain ⟨l,xs,rfl,rfl,hH,q⟩:=h;cases rx;have hus:=rv.zero;subst hus;obtain ⟨z,its,n,r,hl,e⟩:=I.lstM hH;refine call_meets F.slot_list_reverse ⟨_,e,rfl⟩ F.entry_list_reverse (F.args_list_reverse_1 _) (AutoSeq1.list_reverse_list_0 l its.toArray n (by rw [size_toArray];omega)) ⟨e,?_⟩;refine ⟨.non,_,I.lset (its':=its.reverse) hH e (by simp) r.reverse ?_,rfl,q⟩;rw [List.length_reverse];omega
def qqV:R2:=λx y H Q=>∃ l b xs zs,x=.ref l/\y=.ref b/\H l=some (.lst xs)/\H b=some (.lst zs)/\xs.length+zs.length<=sizeLine/\∀ p,H p=none->Q (.ref p) (upd H p (.lst (xs++zs)))
def qjE:OpR X (binaryOp .Add) qqV:=by
 intro pins s σ H x y v u Q I rx ry h;obtain ⟨l,b,xs,zs,rfl,rfl,hH,hB,hz,q⟩:=h;cases rx;cases ry;obtain ⟨z,its,n,r,hl,e⟩:=I.lstM hH;obtain ⟨z2,its2,n2,r2,hl2,e2⟩:=I.lstM hB;refine PySem.P.add_list e e2 ?_ (by rw [size_toArray,size_toArray];omega);have ea:its.toArray++its2.toArray=(its++its2).toArray:=by simp
 rw [ea];exact ⟨.ref _,_,I.lnew (t':=s.toks) (r.append r2) (by rw [length_append];omega),rfl,q _ I.fresh⟩
def qqG:R2:=λx y H Q=>∃ l k xs,x=.ref l/\y=.int k/\H l=some (.lst xs)/\-(2 ^ 63)<=k/\k<2 ^ 63/\xs.length*k.toNat<=sizeLine /\
 ∀ p,H p=none->Q (.ref p) (upd H p (.lst (List.replicate k.toNat xs).flatten))
def qhm {α:Type} (xs:List α) (k:Nat):(List.replicate k xs).flatten.length=k*xs.length:=by
 induction k with
 |zero=>simp
 |succ k ih=>rw [List.replicate_succ,List.flatten_cons,length_append,ih,Nat.succ_mul,Nat.add_comm]
def qkG:OpR X (binaryOp .Mult) qqG:=by
 intro pins s σ H x y v u Q I rx ry h;obtain ⟨l,k,xs,rfl,rfl,hH,h1,h2,hz,q⟩:=h;cases rx;obtain ⟨t,rfl⟩:=ry;obtain ⟨z,its,n,r,hl,e⟩:=I.lstM hH;have hlen:its.toArray.size*k.toNat<=sizeLine:=by rw [size_toArray,← hl];exact hz
 have hcap:¬ its.toArray.size*k.toNat > (2 ^ 63-1)/8:=by
  have:(sizeLine:Nat)<=(2 ^ 63-1)/8:=by decide
  omega
 have hfit:¬ (!Builtin.List.listFitsIndex k)=true:=by
  rw [fitsIndex_both h1 h2];exact v6
 have hlong:¬ Builtin.List.listTooLong (its.toArray.size*k.toNat)=true:=by
  rw [NG hlen];exact v6
 have hnew:List.foldl (λx1 x2=>x1++x2) #[] (List.replicate (if its.toArray.isEmpty=true then 0 else k.toNat) its.toArray)=(List.replicate k.toNat its).flatten.toArray:=by
  have f0:∀ m:Nat,List.foldl (λx1 x2=>x1++x2) #[] (List.replicate m its.toArray)=(List.replicate m its).flatten.toArray:=λm=>by
   have:=KH its m [];rw [List.nil_append] at this;exact this
  rw [f0];cases its with
  |nil=>simp
  |cons a r'=>rw [if_neg (by simp)]
 refine wpAny_binaryOp_repeat_ref (T:="list") (U:="int") (by decide) ⟨_,e,rfl⟩ (λs'=>typeIs_int s' k t) noFill_list_mul F.fills_int_mul F.slot_int_rmul repeat_list F.slot_int_index.lookup
  (call_meets F.slot_int_rmul (typeIs_int s k t) F.entry_int_rmul (F.args_int_rmul_2 _ _) (int___rmul___int_list k t l its.toArray n)
   ⟨e,rfl,⟨_,e,rfl⟩,call_meets F.slot_list_mul ⟨_,e,rfl⟩ F.entry_list_mul (F.args_list_mul_2 _ _) (AutoListH.list___mul___list_int_3 l its.toArray n k t hfit hcap hlong) ⟨e,?_⟩⟩)
 rw [hnew];exact ⟨.ref _,_,I.lnew (t':=s.toks) (r.rep k.toNat) (by rw [qhm,Nat.mul_comm];exact hz),rfl,q _ I.fresh⟩
end
section
variable {prog:Program} {w:World} {A:Around} {E:Value->Shared->Prop} {s:Shared}
end
section
variable {X:Cx}
end
end L2
namespace Att
open PySem PySem.W PySem.Calls PyProof.Rows
def XE {P:Params} {h:Heap}:∀ (ns:List Int) (vs:List Value),WellAll P h vs (ns.map WData.int)->IntsAre vs ns:=by
 intro ns;induction ns with
 |nil=>
  intro vs w;rw [List.map_nil] at w;cases w;exact .nil
 |cons n ns ih=>
  intro vs w;rw [map_cons] at w;cases w with
  |cons a b=>
   cases a;exact .cons _ _ (ih _ b)
def qbT {l:OpenLaw} {n:Nat} (hn:l.most=some n) {P:Params} {h:Heap} {args:List WData} {vals:List Value}
  (hpre:l.row.toRowW.claim.pre args=true) (hwl:WellAll P h vals args) :
  ∃ a vs ns,vals=[Value.ref a]/\args=[WData.list (ns.map WData.int)]/\h.get? a=some { cls:=.type "list",data:=.seq vs.toArray }/\IntsAre vs ns/\ns.length<=n:=by
 have hsh:WShape.hasAll [] args [.list .int]=true:=(pre_splitW hpre).1;have hc:l.pre.holds [] { args:=args }=true:=(pre_splitW hpre).2;obtain ⟨d,r,rfl,h1,h2⟩:=hasAllW_cons hsh;obtain rfl:=hasAllW_nil h2;obtain ⟨xs,rfl,h3⟩:=hasW_list h1;obtain ⟨ns,rfl⟩:=items_int h3;have hlen:ns.length<=n:=by
  unfold OpenLaw.pre at hc;have h4:(WTm.not (.lt (.lit (.int (n:Int))) (.len (.arg 0)))).holds [] { args:=[.list (ns.map .int)] }=true:=by
   have h4:=(holds_andW hc).1;rw [hn] at h4;exact h4
  have h5:=condW_of h4 (w_not (w_lt w_lit (w_len_list (w_arg rfl))));rw [length_map] at h5;refine Nat.le_of_not_lt λq=>?_;have q':(n:Int)<((ns.length:Nat):Int):=by omega
  first
   | (rw [za8 q'] at h5;exact absurd h5 (by decide))
   | (simp at h5;omega)
 cases hwl with
 |cons w1 w2=>
  cases w2;cases w1 with
  |list ho hall=>exact ⟨_,_,ns,rfl,rfl,ho,XE ns _ hall,hlen⟩
def qcS (l:OpenLaw) (args:List WData):l.row.toRowW.claim.post args (.bool true) args=true:=
 postW_of (r:=l.row.toRowW) (X:=(true==true))
  (show WShape.has [] (.bool true) .bool=true by first|rfl|decide|simp [WShape.has,WShape.arms,WShape.armsAll])
  (show (WTm.eq .res (.lit (.bool true))).value [] { args:=args,res:=some (.bool true),after:=args }=some (.bool (true==true)) from w_eq_bool (w_res rfl) w_lit) rfl
def MJ {l:OpenLaw} {n:Nat} {q:Program} {loose:List Str} {XP:(Str->Option Value)->Heap->Prop} {YP:World->Heap->Prop} {d:DefRec}
  (hn:l.most=some n) (hdf:d.params.defaults=[])
  (call:∀ (w:World) (s₀ s₁:Shared) (mg mb:Str->Option Value) (fa:Addr) (o:Obj) (pm cd doc:Value) (a:Addr) (vs:List Value) (ns:List Int),
   Ground q loose [] XP w s₀ mg mb s₁.heap->YP w s₁.heap ->
   s₁.heap.get? fa=some o->o.data=.func (docDef d.name d.params d.body d.scope pm cd doc)->s₁.heap.CodeRec cd d.name->mg d.name=some (.ref fa) ->
   s₁.heap.get? a=some { cls:=.type "list",data:=.seq vs.toArray }->IntsAre vs ns->ns.length<=n->s₁.gens=#[] ->
   codeAny (model l.prog w) callerA (.call (.ref fa) ⟨[.ref a],[]⟩) (λr s'=>r=.ok (.ret (.bool true))/\OldK s₁.heap s'.heap/\s'.os=s₁.os/\AllBare s'.gens) s₁) :
  WalkO q loose XP YP l.row.toRowW d [] (λf vs=>PySem.call f vs):=by
 intro w s₀ s₁ mg mb G Y fa o pm cd doc dV kV ho hd hcd hD hmg hg args vals as hpre hlay hrd hwl hlo;obtain rfl:dV=.none:=Dflts.none hD hdf;obtain rfl:kV=.none:=Dflts.noKw hD;obtain ⟨a,vs,ns,rfl,rfl,hobj,hints,hlen⟩:=qbT hn hpre hwl;refine enter_call (codeAny_mono (call w s₀ s₁ mg mb fa o pm cd doc a vs ns G Y ho (fd_plain hd) hcd hmg hobj hints hlen hg) λr s' hq=>?_);obtain ⟨rfl,h2,h3,h4⟩:=hq;exact ⟨.inl ⟨.bool true,.bool true,[],rfl,λ_=>rfl,.bool true,qcS l _,λ_=>⟨List.Pairwise.nil,λ_ hm=>(nomatch hm)⟩⟩,h2,h3,h4⟩
section
variable {prog:Program} {w:World} {A:Around} {E:Value->Shared->Prop} {s:Shared} {K:Frag}
end
end Att
namespace L2
open PySem PySem.Spec PyProof.Rows
theorem KS:∀ {vs:List Value} {ns:List Int},IntsAre vs ns->zo (ns.map V.int) vs
 |_,_,.nil=>.nil
 |_,_,.cons n t h=>.cons ⟨t,rfl⟩ (KS h)
def qoc (H:Hp):Prop:=∀ b,H b=none\/∃ o xs,H b=some (.frz o (.lst xs))
def qeO {P:Program} {w:World} {K:Frg} {mg mb:Str->Option Value} {CX:CXT} {k:Nat} {fa a:Addr} {fd:FuncData} {x:Str} {sp:Sp} {s₁:Shared} {vs:List Value} {ns:List Int}
  (KX:K.In s₁.heap) (hns:s₁.heap.Ns mainGlobals mg) (hb:s₁.heap.Ns builtinsNs mb) (hbb:∀ x:Str,x≠"__name__" -> mb x=bootBuiltins x) (hlim:s₁.heap.NoLimit) (hg:s₁.gens=#[])
  (ha:s₁.heap.get? a=some { cls:=.type "list",data:=.seq vs.toArray }) (hi:IntsAre vs ns) (hl:ns.length<=sizeLine) (hr:Room k callerA)
  (F:∀ base:Heap,K.In base->base.Ns mainGlobals mg->FnOk P w K mg base CX k fa fd [x] sp) (hbind:∀ (s:Shared) (u:Value),BindsTo s fd ⟨[u],[]⟩ [(x,u)])
  (hsp:∀ H:Hp,qoc H->SqL K H a (ns.map V.int)->sp [.ref a] H (λv _=>v=.bl true) λ_ _ _=>False)
  (hCX:∀ H e s',CX [] H s₁ (λ_ _ _=>False) e s'->False) :
  codeAny (model P w) callerA (.call (.ref fa) ⟨[.ref a],[]⟩) (λr s'=>r=.ok (.ret (.bool true))/\OldK s₁.heap s'.heap/\s'.os=s₁.os/\AllBare s'.gens) s₁:=by
 have rv:=KS hi;have lenV:=hi.length
 -- from an abstract heap in which nothing but the script may be tracked
 have core:∀ H:Hp,qoc H->SqL K H a (ns.map V.int)->HOk P w H s₁.heap->(∀ b,H b≠none->b=a)->(H a≠none->K.lookup a=none) ->
   codeAny (model P w) callerA (.call (.ref fa) ⟨[.ref a],[]⟩) (λr s'=>r=.ok (.ret (.bool true))/\OldK s₁.heap s'.heap/\s'.os=s₁.os/\AllBare s'.gens) s₁:=by
  intro H hO hS hok hA hK;have base_of:∀ {b:Addr} {o:Obj},s₁.heap.get? b=some o->H b=none->(qd1 s₁.heap H).get? b=some o:=λe n=>qeG e n;have noA:∀ {b:Addr} {o:Obj} {es:Array DictEntry} {ep:Nat},s₁.heap.get? b=some o->o.data=.dict es ep->H b=none:=λ{b o es ep} e d=>by
   cases q:H b with
   |none=>rfl
   |some u=>
    have e':b=a:=hA b (by rw [q];simp);subst e';rw [ha] at e;cases e;have d':Data.seq vs.toArray _=Data.dict es ep:=d;cases d'
  have nsK:∀ {b:Addr} {m:Str->Option Value},s₁.heap.Ns b m->(qd1 s₁.heap H).Ns b m:=λ{b m} ⟨o,es,ep,e,d,r⟩=>⟨o,es,ep,base_of e (noA e d),d,r⟩
  have hKb:K.In (qd1 s₁.heap H):=λb o e=>base_of (KX b o e) (by
   cases q:H b with
   |none=>rfl
   |some u=>
    have e':b=a:=hA b (by rw [q];simp);subst e';rw [hK (by rw [q];simp)] at e;cases e)
  have hM:Mod K mg (qd1 s₁.heap H):=⟨hKb,nsK hns,⟨mb,nsK hb,hbb⟩,let ⟨mc,h1,h2⟩:=hlim;⟨mc,nsK h1,h2⟩⟩
  have e0:Env0 P w K mg (qd1 s₁.heap H) callerA [] s₁ H:=⟨rfl,hM,λb o e=>qgX e,Nat.le_of_eq (qaY _ _),trivial,λb hb=>absurd (show b∈([]:List Addr) from hb) (by simp),hok,.of_eq hg⟩
  refine codeAny_mono ((F _ hKb (nsK hns)).run callerA [] s₁ H ⟨[.ref a],[]⟩ [.ref a] [.ref a] _ _ hr e0 (hbind s₁ (.ref a)) (.cons rfl .nil) (hsp H hO hS)) λr s' h=>?_;cases r with
  |error e=>exact (hCX H e s' h).elim
  |ok fl=>
   cases fl with
   |next=>exact False.elim h
   |brk=>exact False.elim h
   |cont=>exact False.elim h
   |ret u=>
    obtain ⟨v,H',os,bare,un,hok',r',q⟩:=h;have q':v=.bl true:=q;subst q';obtain rfl:u=Value.bool true:=r';refine ⟨rfl,OldK.of_keep λb o e=>?_,os,bare⟩;cases q:H b with
    |none=>exact un.keep b o e q (by intro z;exact absurd (show b∈([]:List Addr) from z) (by simp)) (by simp)
    |some u=>
     rcases hO b with z|⟨ob,xs,z⟩
     ·rw [q] at z;cases z
     ·have z2:=un.frzs b ob _ z;obtain ⟨e1,_⟩:=hok b _ z;obtain ⟨e2,_⟩:=hok' b _ z2;rw [e] at e1;cases e1;exact e2
 cases hk:K.lookup a with
 |some o=>
  -- the script is one of the module's own objects
  have e:=KX a o hk;rw [ha] at e;cases e;refine core (λ_=>none) (λ_=>.inl rfl) (.inr ⟨_,vs.toArray,_,hk,rfl,rfl,rfl,by rw [size_toArray,lenV];exact hl,by simpa using rv⟩) (λb u z=>by have z':(none:Option HO)=some u:=z;cases z') (λb z=>absurd rfl z) λz=>absurd rfl z
 |none=>
  refine core (λb=>if b=a then some (.frz { cls:=.type "list",data:=.seq vs.toArray } (.lst (ns.map V.int))) else none) (λb=>?_) (.inl (.inr ⟨{ cls:=.type "list",data:=.seq vs.toArray },if_pos rfl⟩)) (λb u z=>?_) (λb z=>?_) λ_=>hk
  ·by_cases hb:b=a
   ·exact .inr ⟨_,_,if_pos hb⟩
   ·exact .inl (if_neg hb)
  ·by_cases hb:b=a
   ·have z':=(if_pos hb).symm.trans z;cases z';subst hb;exact ⟨ha,by rw [length_map];exact hl,vs,_,rv,ha⟩
   ·have z':=(if_neg hb).symm.trans z;cases z'
  ·by_cases hb:b=a
   ·exact hb
   ·exact absurd (if_neg hb) z
def qhx {l:PySem.W.OpenLaw} {n k:Nat} {q:Program} {loose:List Str} {XP:(Str->Option Value)->Heap->Prop} {YP:World->Heap->Prop} {d:DefRec} {K:Params->PySem.W.Frag} {CX:World->CXT} {sp:World->Sp} {x:Str}
  (hn:l.most=some n) (hn2:n<=sizeLine) (hdf:d.params.defaults=[]) (hr:Room k callerA)
  (hY:∀ (w:World) (h:Heap),YP w h->(K w.params).In h)
  (F:∀ (w:World) (mg:Str->Option Value) (fa:Addr) (h:Heap),(K w.params).In h->h.Ns mainGlobals mg->mg d.name=some (.ref fa) ->
   ∃ fd:FuncData,(∀ (s:Shared) (u:Value),BindsTo s fd ⟨[u],[]⟩ [(x,u)]) /\
    ∀ base:Heap,(K w.params).In base->base.Ns mainGlobals mg->FnOk l.prog w (K w.params) mg base (CX w) k fa fd [x] (sp w))
  (hsp:∀ (w:World) (H:Hp) (a:Addr) (ns:List Int),ns.length<=n->qoc H->SqL (K w.params) H a (ns.map V.int)->sp w [.ref a] H (λv _=>v=.bl true) λ_ _ _=>False)
  (hCX:∀ (w:World) (H:Hp) (s:Shared) (e:Value) (s':Shared),CX w [] H s (λ_ _ _=>False) e s'->False) :
  PySem.W.WalkO q loose XP YP l.row.toRowW d [] (λf vs=>PySem.call f vs):=by
 refine Att.MJ hn hdf λw s₀ s₁ mg mb fa o pm cd doc a vs ns G Y ho hd hcd hmg hobj hints hlen hg=>?_;have KX:=hY w _ Y;obtain ⟨fd,hb,hF⟩:=F w mg fa _ KX G.T.g hmg;exact qeO KX G.T.g G.T.b G.T.builtins G.T.nolimit hg hobj hints (za2 hlen hn2) hr hF hb (λH hO hS=>hsp w H a ns hlen hO hS) λH e s'=>hCX w H s₁ e s'
def QW (s:Stmt):Arguments:=match s with
 |.FunctionDef _ a _ _ _ _ _ _ _ _=>a
 |_=>{ posonlyargs:=[],args:=[],vararg:=none,kwonlyargs:=[],kw_defaults:=[],kwarg:=none,defaults:=[] }
def zW (s:Stmt):List Stmt:=match s with
 |.FunctionDef _ _ b _ _ _ _ _ _ _=>b
 |_=>[]
def ql (s:Stmt):Scope:=match s with
 |.FunctionDef _ _ _ _ _ _ sc _ _ _=>sc
 |_=>{ kind:=.function,names:=[],isGenerator:=false,isCoroutine:=false }
abbrev CX0:CXT:=λ_ _ _ _ _ _=>False
abbrev E0:XK:=λ_ _ _=>False
def qok {X:Cx}:qco CX0 X E0:=λ_ _ _ _ _ _ _ h=>h.elim
structure Fun (K:Frg) (x qual:Str) (st:Stmt) (f:Addr) (fd:FuncData):Prop where
 ex:∃ (oc:Value) (od:Option Addr) (kV doc pm:Value) (an:Option Addr) (cdv ct:Value) (osl:Array (Option Value)),
  fd=PySem.W.fnOf x qual (QW st) (zW st) (ql st) .none kV doc pm an cdv ct/\K.lookup f=some ⟨oc,od,.func fd,osl⟩/\PySem.W.codeIn K cdv qual=true
 kp:PySem.W.keepIn K (.ref f)=true
section
variable {P:Program} {w:World} {K:Frg} {mg:Str->Option Value} {base:Heap}
def Fun.ok {x qual:Str} {st:Stmt} {f:Addr} {fd:FuncData} {N ps:List Str} {k:Nat} {sp:Sp} (F:Fun K x qual st f fd) (S:FnScope N ps (ql st)) (len:∀ vs H Q E,sp vs H Q E->vs.length=ps.length)
  (hbody:∀ (cdv:Value) (A:Around) (outer:List Env) (s:Shared) (H:Hp) (vs:List V) (Q:VK) (E:XK),Room k (A.deeper (envOfC qual (ql st) s.heap.objs.size f cdv))->sp vs H Q E ->
   ∃ t,PSs (qcO CX0 P w K mg base N qual (ql st) f cdv A outer s H E).nox (zW st) t/\t { nx:=λ_ H'=>Q .non H',rt:=Q } (X5 N vs) H):FnOk P w K mg base CX0 (k+1) f fd ps sp:=by
 obtain ⟨oc,od,kV,doc,pm,an,cdv,ct,osl,rfl,lk,hcd⟩:=F.ex;refine qoI lk hcd S len λA outer s H vs Q E hr hsp=>?_;obtain ⟨t,h,q⟩:=hbody cdv A outer s H vs Q E hr hsp;exact ⟨t,h.nox,q⟩
def Fun.binds {x qual:Str} {st:Stmt} {f:Addr} {fd:FuncData} {ps:List Str} (F:Fun K x qual st f fd)
  (h:∀ (kV doc pm:Value) (an:Option Addr) (cdv ct:Value) (us:List Value),us.length=ps.length->bindArgs (PySem.W.fnOf x qual (QW st) (zW st) (ql st) .none kV doc pm an cdv ct) ⟨us,[]⟩=pure (ps.zip us)):CS K fd ps []:=by
 obtain ⟨oc,od,kV,doc,pm,an,cdv,ct,osl,rfl,lk,hcd⟩:=F.ex;exact .all (h kV doc pm an cdv ct)
def qcF {x qual:Str} {st:Stmt} {f:Addr} {oc:Value} {od an:Option Addr} {osl:Array (Option Value)} {kV doc pm cdv ct:Value} (l:K.lookup f=some ⟨oc,od,.func (PySem.W.fnOf x qual (QW st) (zW st) (ql st) .none kV doc pm an cdv ct),osl⟩)
  (c:PySem.W.codeIn K cdv qual=true) (k:PySem.W.keepIn K (.ref f)=true):Fun K x qual st f (PySem.W.fnOf x qual (QW st) (zW st) (ql st) .none kV doc pm an cdv ct):=⟨⟨oc,od,kV,doc,pm,an,cdv,ct,osl,rfl,l,c⟩,k⟩
end
section
variable {X:Cx}
end
def qnW {A B:Prop} (h:B):if false=true then A else B:=by
 rw [if_neg v6];exact h
def qnX {A B:Prop} (h:A):if true=true then A else B:=by
 rw [if_pos rfl];exact h
end L2
set_option maxHeartbeats 4000000
namespace L3
open PySem PySem.Spec PyProof.Rows L2
set_option genInjectivity true in
inductive T where
 |non|bl (b:Bool)|int (i:Int)|str (x:Str)|tup (xs:List T)|ref (a:Addr)
inductive O where
 |lst (xs:List T)
 |frz (xs:List T)
 |dct (kvs:List (Int×T))
 |exn (C:Addr)
 |tab (ks:List Str) (xs:List T)
abbrev Gp:=Addr->Option O
def gu (G:Gp) (a:Addr) (o:O):Gp:=λb=>if b=a then some o else G b
def qy {G:Gp} {a:Addr} {o:O}:gu G a o a=some o:=by unfold gu;rw [if_pos rfl]
def zj {G:Gp} {a b:Addr} {o:O} (h:b≠a):gu G a o b=G b:=by unfold gu;rw [if_neg h]
mutual
inductive Rp (K:Frg) (H:Hp):T->V->Prop
 |non:Rp K H .non .non
 |bl (b:Bool):Rp K H (.bl b) (.bl b)
 |int (i:Int):Rp K H (.int i) (.int i)
 |str (x:Str):Rp K H (.str x) (.str x)
 |ref (a:Addr):Rp K H (.ref a) (.ref a)
 |tup {xs:List T} {a:Addr} {vs:List V}:SqT K H a vs->Rps K H xs vs->Rp K H (.tup xs) (.ref a)
inductive Rps (K:Frg) (H:Hp):List T->List V->Prop
 |nil:Rps K H [] []
 |cons {x:T} {v:V} {xs:List T} {vs:List V}:Rp K H x v->Rps K H xs vs->Rps K H (x::xs) (v::vs)
end
def IsX (a C:Addr) (h:Heap):Prop:=∃ o vs,h.get? a=some o/\o.cls=.ref C/\o.data=.fields vs
def OR (K:Frg) (H:Hp) (a:Addr):O->Prop
 |.lst xs=>∃ vs,H a=some (.lst vs)/\Rps K H xs vs
 |.frz xs=>∃ vs,(∃ o,H a=some (.frz o (.lst vs)))/\Rps K H xs vs
 |.dct kvs=>∃ vs,H a=some (.dK ((kvs.map λp=>(Sum.inl p.1:Key)).zip vs))/\Rps K H (kvs.map λp=>p.2) vs
 |.exn C=>H a=some (.ext (IsX a C))
 |.tab ks xs=>∃ vs,H a=some (.dK ((ks.map λk=>(Sum.inr k:Key)).zip vs))/\Rps K H xs vs
def HR (K:Frg) (G:Gp) (H:Hp):Prop:=∀ a o,G a=some o->OR K H a o
def Kp (G:Gp) (H:Hp) (G':Gp) (H':Hp):Prop:=∀ a o,H a=some o->G a=none->H' a=some o/\G' a=none
def Kp.refl {G:Gp} {H:Hp}:Kp G H G H:=λ_ _ h g=>⟨h,g⟩
def Kp.trans {G G1 G2:Gp} {H H1 H2:Hp} (a:Kp G H G1 H1) (b:Kp G1 H1 G2 H2):Kp G H G2 H2:=λx o h g=>
 let ⟨h1,g1⟩:=a x o h g;b x o h1 g1
section
variable {K:Frg} {G G':Gp} {H H':Hp}
def HR.noneT (hr:HR K G H) {a:Addr} {vs:List V} (h:Rd H a (.tup vs)):G a=none:=by
 cases e:G a with
 |none=>rfl
 |some o=>
  have q:=hr a o e;cases o with
  |lst xs=>
   obtain ⟨us,q1,_⟩:=q;rcases h with h|⟨ob,h⟩<;>(rw [q1] at h;cases h)
  |frz xs=>
   obtain ⟨us,⟨o1,q1⟩,_⟩:=q;rcases h with h|⟨ob,h⟩<;>(rw [q1] at h;cases h)
  |dct kvs=>
   obtain ⟨us,q1,_⟩:=q;rcases h with h|⟨ob,h⟩<;>(rw [q1] at h;cases h)
  |exn C=>
   have q1:H a=some (.ext (IsX a C)):=q;rcases h with h|⟨ob,h⟩<;>(rw [q1] at h;cases h)
  |tab ks xs=>
   obtain ⟨us,q1,_⟩:=q;rcases h with h|⟨ob,h⟩<;>(rw [q1] at h;cases h)
def TV (hr:HR K G H) (k:Kp G H G' H') {a:Addr} {vs:List V} (h:SqT K H a vs):SqT K H' a vs:=by
 rcases h with h|h
 ·have g:=hr.noneT h;rcases h with h|⟨o,h⟩
  ·exact .inl (.inl (k a _ h g).1)
  ·exact .inl (.inr ⟨o,(k a _ h g).1⟩)
 ·exact .inr h
mutual
theorem Rp.keep (hr:HR K G H) (k:Kp G H G' H'):∀ {x:T} {v:V},Rp K H x v->Rp K H' x v
 |_,_,.non=>.non
 |_,_,.bl b=>.bl b
 |_,_,.int i=>.int i
 |_,_,.str x=>.str x
 |_,_,.ref a=>.ref a
 |_,_,.tup h hs=>.tup (TV hr k h) (Rps.keep hr k hs)
theorem Rps.keep (hr:HR K G H) (k:Kp G H G' H'):∀ {x:List T} {v:List V},Rps K H x v->Rps K H' x v
 |_,_,.nil=>.nil
 |_,_,.cons a b=>.cons (Rp.keep hr k a) (Rps.keep hr k b)
end
theorem Rps.length:∀ {xs:List T} {vs:List V},Rps K H xs vs->xs.length=vs.length
 |_,_,.nil=>rfl
 |_,_,.cons _ b=>by simp [Rps.length b]
theorem Rps.get:∀ {xs:List T} {vs:List V} {i:Nat} {x:T},Rps K H xs vs->xs[i]?=some x->∃ v,vs[i]?=some v/\Rp K H x v
 |_,_,_,_,.nil,e=>by simp at e
 |_,_,0,_,.cons r _,e=>by simp at e;subst e;exact ⟨_,rfl,r⟩
 |_,_,i+1,x,.cons _ t,e=>by
  obtain ⟨u,h1,h2⟩:=Rps.get (i:=i) (x:=x) t (by simpa using e);exact ⟨u,by simpa using h1,h2⟩
theorem Rps.append:∀ {xs ys:List T} {vs us:List V},Rps K H xs vs->Rps K H ys us->Rps K H (xs++ys) (vs++us)
 |_,_,_,_,.nil,s=>s
 |_,_,_,_,.cons r t,s=>.cons r (Rps.append t s)
theorem Rps.take:∀ {xs:List T} {vs:List V} (n:Nat),Rps K H xs vs->Rps K H (xs.take n) (vs.take n)
 |_,_,0,_=>.nil
 |_,_,_+1,.nil=>.nil
 |_,_,n+1,.cons r t=>.cons r (Rps.take n t)
theorem Rps.drop:∀ {xs:List T} {vs:List V} (n:Nat),Rps K H xs vs->Rps K H (xs.drop n) (vs.drop n)
 |_,_,0,r=>r
 |_,_,_+1,.nil=>.nil
 |_,_,n+1,.cons _ t=>Rps.drop n t
theorem Rps.set {x:T} {v:V} (r:Rp K H x v):∀ {xs:List T} {vs:List V} (i:Nat),Rps K H xs vs->Rps K H (xs.set i x) (vs.set i v)
 |_,_,_,.nil=>.nil
 |_,_,0,.cons _ t=>.cons r t
 |_,_,i+1,.cons q t=>.cons q (Rps.set r i t)
theorem Rps.ints:∀ (ns:List Int),Rps K H (ns.map T.int) (ns.map V.int)
 |[]=>.nil
 |n::r=>.cons (.int n) (Rps.ints r)
def Kp.laid {p:Addr} {ho:HO} (hp:H p=none):Kp G H G (upd H p ho):=λa o h g=>⟨by rw [qE (qB h hp)];exact h,g⟩
def HR.free (hr:HR K G H) {p:Addr} (hp:H p=none):G p=none:=by
 cases e:G p with
 |none=>rfl
 |some o=>
  have q:=hr p o e;cases o with
  |lst xs=>obtain ⟨us,q1,_⟩:=q;rw [hp] at q1;cases q1
  |frz xs=>obtain ⟨us,⟨o1,q1⟩,_⟩:=q;rw [hp] at q1;cases q1
  |dct kvs=>obtain ⟨us,q1,_⟩:=q;rw [hp] at q1;cases q1
  |exn C=>have q1:H p=some (.ext (IsX p C)):=q;rw [hp] at q1;cases q1
  |tab ks xs=>obtain ⟨us,q1,_⟩:=q;rw [hp] at q1;cases q1
theorem OR.keep (hr:HR K G H) (k:Kp G H G' H') {a:Addr} {o:O} (h:OR K H a o) (e:∀ u,H a=some u->H' a=some u):OR K H' a o:=by
 cases o with
 |lst xs=>obtain ⟨vs,h1,h2⟩:=h;exact ⟨vs,e _ h1,h2.keep hr k⟩
 |frz xs=>obtain ⟨vs,⟨o,h1⟩,h2⟩:=h;exact ⟨vs,⟨o,e _ h1⟩,h2.keep hr k⟩
 |dct kvs=>obtain ⟨vs,h1,h2⟩:=h;exact ⟨vs,e _ h1,h2.keep hr k⟩
 |exn C=>exact e _ h
 |tab ks xs=>obtain ⟨vs,h1,h2⟩:=h;exact ⟨vs,e _ h1,h2.keep hr k⟩
theorem HR.laid (hr:HR K G H) {p:Addr} {ho:HO} (hp:H p=none):HR K G (upd H p ho):=λa o e=>
 (hr a o e).keep hr (Kp.laid hp) λu h=>by rw [qE (qB h hp)];exact h
def Kp.newL {p:Addr} {ho:HO} {o':O} (hp:H p=none):Kp G H (gu G p o') (upd H p ho):=λa o h g=>
 ⟨by rw [qE (qB h hp)];exact h,by rw [zj (qB h hp)];exact g⟩
def HR.newL (hr:HR K G H) {p:Addr} {xs:List T} {vs:List V} (hp:H p=none) (r:Rps K H xs vs):HR K (gu G p (.lst xs)) (upd H p (.lst vs)):=λa o e=>by
 by_cases ha:a=p
 ·subst ha;rw [qy] at e;cases e;exact ⟨vs,qW,r.keep hr (Kp.laid hp)⟩
 ·rw [zj ha] at e;exact (hr a o e).keep hr (Kp.laid hp) λu h=>by rw [qE ha];exact h
def Kp.wr {p:Addr} {ho:HO} {o o':O} (g:G p=some o):Kp G H (gu G p o') (upd H p ho):=λa ob h ga=>by
 have ha:a≠p:=by intro e;subst e;rw [g] at ga;cases ga
 exact ⟨by rw [qE ha];exact h,by rw [zj ha];exact ga⟩
theorem HR.wr (hr:HR K G H) {p:Addr} {ys xs:List T} {vs:List V} (g:G p=some (.lst ys)) (r:Rps K H xs vs):HR K (gu G p (.lst xs)) (upd H p (.lst vs)):=λa o e=>by
 have k:Kp G H (gu G p (.lst xs)) (upd H p (.lst vs)):=Kp.wr g;by_cases ha:a=p
 ·subst ha;rw [qy] at e;cases e;exact ⟨vs,qW,r.keep hr k⟩
 ·rw [zj ha] at e;exact (hr a o e).keep hr k λu h=>by rw [qE ha];exact h
end
abbrev St3:=List (Option T)
structure Rel (K:Frg) (τ:St3) (G:Gp) (σ:L2.St) (H:Hp):Prop where
 hp:HR K G H
 len:τ.length=σ.length
 st:∀ (i:Nat) (t:T),τ[i]?=some (some t)->∃ v,σ[i]?=some (some v)/\Rp K H t v
def Rel.next {K:Frg} {τ:St3} {G G':Gp} {σ:L2.St} {H H':Hp} (r:Rel K τ G σ H) (hr:HR K G' H') (k:Kp G H G' H'):Rel K τ G' σ H':=
 ⟨hr,r.len,λi t e=>let ⟨v,h1,h2⟩:=r.st i t e;⟨v,h1,h2.keep r.hp k⟩⟩
theorem Rel.set {K:Frg} {τ:St3} {G:Gp} {σ:L2.St} {H:Hp} {t:T} {v:V} (r:Rel K τ G σ H) (i:Nat) (h:Rp K H t v):Rel K (τ.set i (some t)) G (σ.set i (some v)) H:=by
 refine ⟨r.hp,by simp [r.len],λj u e=>?_⟩;by_cases hij:i=j
 ·subst hij;rw [List.getElem?_set_self'] at e;have hl:i<τ.length:=by
   cases q:τ[i]? with
   |none=>rw [q] at e;cases e
   |some z=>exact (zb0 q).1
  rw [v8 hl] at e;have e':t=u:=by simpa using e
  subst e';exact ⟨v,by rw [List.getElem?_set_self (by rw [← r.len];exact hl)],h⟩
 ·rw [List.getElem?_set_ne hij] at e;obtain ⟨w,h1,h2⟩:=r.st j u e;exact ⟨w,by rw [List.getElem?_set_ne hij];exact h1,h2⟩
abbrev Q3:=T->Gp->Prop
abbrev TE3:=St3->Gp->Q3->Prop
abbrev TT3:=St3->Gp->(Bool->Gp->Prop)->Prop
abbrev TA3:=St3->Gp->(List T->Gp->Prop)->Prop
def Aft (K:Frg) (G:Gp) (H:Hp) (q:Q3) (Q:VK):Prop:=∀ x G',q x G'->∀ v H',Rp K H' x v->HR K G' H'->Kp G H G' H'->Q v H'
def qnV (K:Frg) (G:Gp) (H:Hp) (q:Bool->Gp->Prop) (Q:Bool->Hp->Prop):Prop:=∀ x G',q x G'->∀ H',HR K G' H'->Kp G H G' H'->Q x H'
def qrW (K:Frg) (G:Gp) (H:Hp) (q:List T->Gp->Prop) (Q:List V->Hp->Prop):Prop:=∀ x G',q x G'->∀ v H',Rps K H' x v->HR K G' H'->Kp G H G' H'->Q v H'
def lE (K:Frg) (t:TE3):TE:=λσ H Q=>∃ τ G q,Rel K τ G σ H/\t τ G q/\Aft K G H q Q
def lT (K:Frg) (t:TT3):TT:=λσ H Q=>∃ τ G q,Rel K τ G σ H/\t τ G q/\qnV K G H q Q
def lA (K:Frg) (t:TA3):TA:=λσ H Q=>∃ τ G q,Rel K τ G σ H/\t τ G q/\qrW K G H q Q
abbrev E3 (X:Cx) (e:Expr) (t:TE3):Prop:=PE X e (lE X.K t)
abbrev C3 (X:Cx) (e:Expr) (t:TT3):Prop:=PT X e (lT X.K t)
abbrev W3 (X:Cx) (e:Expr) (t:TT3):Prop:=PW X e (lT X.K t)
abbrev A3 (X:Cx) (es:List Expr) (t:TA3):Prop:=PA X es (lA X.K t)
def Aft.back {K:Frg} {G G1:Gp} {H H1:Hp} {q:Q3} {Q:VK} (a:Aft K G H q Q) (k:Kp G H G1 H1):Aft K G1 H1 q Q:=λx G' h v H' r hr k'=>a x G' h v H' r hr (k.trans k')
def qnV.back {K:Frg} {G G1:Gp} {H H1:Hp} {q:Bool->Gp->Prop} {Q:Bool->Hp->Prop} (a:qnV K G H q Q) (k:Kp G H G1 H1):qnV K G1 H1 q Q:=λx G' h H' hr k'=>a x G' h H' hr (k.trans k')
def W0 {X:Cx} {e:Expr} {t t':TE} (h:PE X e t) (w:∀ σ H Q,t' σ H Q->t σ H Q):PE X e t':=λpins s σ H Q I q=>h pins s σ H Q I (w σ H Q q)
def qpQ {X:Cx} {e:Expr} {t t':TT} (h:PT X e t) (w:∀ σ H Q,t' σ H Q->t σ H Q):PT X e t':=λpins s σ H Q I q=>h pins s σ H Q I (w σ H Q q)
def qrE {X:Cx} {e:Expr} {t t':TT} (h:PW X e t) (w:∀ σ H Q,t' σ H Q->t σ H Q):PW X e t':=λwh pins s σ H Q I q=>h wh pins s σ H Q I (w σ H Q q)
def qqo {X:Cx} {e:List Expr} {t t':TA} (h:PA X e t) (w:∀ σ H Q,t' σ H Q->t σ H Q):PA X e t':=λpos pins s σ H Q I q=>h pos pins s σ H Q I (w σ H Q q)
def zG {K:Frg} {ta:TE3} {τ:St3} {G:Gp} {σ:L2.St} {H:Hp} {q:Q3} {Q:VK} (r:Rel K τ G σ H) (h:ta τ G q)
  (n:∀ x G1,q x G1->∀ v H1,Rp K H1 x v->HR K G1 H1->Kp G H G1 H1->Rel K τ G1 σ H1->Q v H1):lE K ta σ H Q:=
 ⟨τ,G,q,r,h,λx G1 hq v H1 rx hr k=>n x G1 hq v H1 rx hr k (r.next hr k)⟩
def LL {K:Frg} {ta:TT3} {τ:St3} {G:Gp} {σ:L2.St} {H:Hp} {q:Bool->Gp->Prop} {Q:Bool->Hp->Prop} (r:Rel K τ G σ H) (h:ta τ G q)
  (n:∀ x G1,q x G1->∀ H1,HR K G1 H1->Kp G H G1 H1->Rel K τ G1 σ H1->Q x H1):lT K ta σ H Q:=
 ⟨τ,G,q,r,h,λx G1 hq H1 hr k=>n x G1 hq H1 hr k (r.next hr k)⟩
def YM {K:Frg} {ta:TA3} {τ:St3} {G:Gp} {σ:L2.St} {H:Hp} {q:List T->Gp->Prop} {Q:List V->Hp->Prop} (r:Rel K τ G σ H) (h:ta τ G q)
  (n:∀ x G1,q x G1->∀ v H1,Rps K H1 x v->HR K G1 H1->Kp G H G1 H1->Rel K τ G1 σ H1->Q v H1):lA K ta σ H Q:=
 ⟨τ,G,q,r,h,λx G1 hq v H1 rx hr k=>n x G1 hq v H1 rx hr k (r.next hr k)⟩
section
variable {X:Cx} {a b c:Expr} {ta tb tc:TE3} {pos:Pos}
def v3 (i:Nat):TE3:=λτ G q=>match τ[i]? with|some (some t)=>q t G|_=>False
def qoz (i:Nat) {x:Str} {pos:Pos} (hN:X.N[i]?=some x:=by rfl) (hv:Vis X.env.scope x:=by first|exact Or.inl rfl|exact Or.inr (Or.inl rfl)|exact Or.inr (Or.inr rfl)) (hd:(x==("__debug__" : Str))=false:=by decide)
  (hcd:(x==("__classdict__" : Str))=false:=by decide):E3 X (.Name x pos) (v3 i):=by
 refine W0 (qlQ (i:=i) hN hv hd hcd) λσ H Q ⟨τ,G,q,r,h,af⟩=>?_;unfold v3 at h;split at h
 ·rename_i t e;obtain ⟨v,e2,rv⟩:=r.st i t e;exact ⟨v,e2,af t G h v H rv r.hp Kp.refl⟩
 ·exact h.elim
def c3 (t:T):TE3:=λ_ G q=>q t G
def e_c {t:T} {v:V} {e:Expr} (h:PE X e (tC v)) (hr:∀ H,Rp X.K H t v):E3 X e (c3 t):=W0 h λσ H Q ⟨τ,G,q,r,h,af⟩=>af t G h v H (hr H) r.hp Kp.refl
def qo4 {i:Int} {j pos}:E3 X (.Constant (.int i) j pos) (c3 (.int i)):=e_c qi7 λ_=>.int i
def qrs {b:Bool} {j pos}:E3 X (.Constant (.bool b) j pos) (c3 (.bl b)):=e_c qpw λ_=>.bl b
def qpE {j pos}:E3 X (.Constant .none j pos) (c3 .non):=e_c qk3 λ_=>.non
def qpz {x:Str} {j pos}:E3 X (.Constant (.str x) j pos) (c3 (.str x)):=e_c qkQ λ_=>.str x
def n3:TE3:=λ_ _ _=>False
abbrev R3:=T->T->Gp->Q3->Prop
def LS (K:Frg) (r3:R3) (r:R2):Prop:=∀ x y v u G H q Q,HR K G H->Rp K H x v->Rp K H y u->r3 x y G q->Aft K G H q Q->r v u H Q
def o3 (r:R3) (ta tb:TE3):TE3:=λτ G q=>ta τ G λx G1=>tb τ G1 λy G2=>r x y G2 q
def qei {K:Frg} {r3:R3} {r:R2} (hr:LS K r3 r) {σ:L2.St} {H:Hp} {Q:VK} (h:lE K (o3 r3 ta tb) σ H Q):tOp r (lE K ta) (lE K tb) σ H Q:=by
 obtain ⟨τ,G,q,rl,h,af⟩:=h;refine zG rl h λx G1 h1 v H1 rx hr1 k1 rl1=>zG rl1 h1 λy G2 h2 u H2 ry hr2 k2 rl2=>?_;exact hr x y v u G2 H2 q Q hr2 (rx.keep hr1 k2) ry h2 (af.back (k1.trans k2))
def qdv {op:Operator} {r3:R3} {r:R2} (ho:OpR X (binaryOp op) r) (hr:LS X.K r3 r) (ha:E3 X a ta) (hb:E3 X b tb):E3 X (.BinOp a op b pos) (o3 r3 ta tb):=
 W0 (qpF ho ha hb) λ_ _ _ h=>qei hr h
def qpU {op:CmpOp} {r3:R3} {r:R2} (ho:OpR X (compareOp op) r) (hr:LS X.K r3 r) (ha:E3 X a ta) (hb:E3 X b tb) (hm:behindInMarks op b=false):E3 X (.Compare a [op] [b] pos) (o3 r3 ta tb):=
 W0 (qh7 ho ha hb hm) λ_ _ _ h=>qei hr h
def tb3 (t:TE3):TT3:=λτ G q=>t τ G λx G'=>match x with|.bl k=>q k G'|_=>False
def qlw {K:Frg} {t:TE3} {t2:TE} (hw:∀ σ H Q,lE K t σ H Q->t2 σ H Q) {σ:L2.St} {H:Hp} {Q:Bool->Hp->Prop} (h:lT K (tb3 t) σ H Q):qmm t2 σ H Q:=by
 obtain ⟨τ,G,q,rl,h,af⟩:=h;refine hw _ _ _ (zG rl h λx G1 h1 v H1 rx hr1 k1 rl1=>?_);cases x with
 |bl k=>cases rx;exact ⟨k,rfl,af k G1 h1 H1 hr1 k1⟩
 |_=>exact h1.elim
def qon {op:CmpOp} {r3:R3} {r:R2} (ho:OpR X (compareOp op) r) (hr:LS X.K r3 r) (ha:E3 X a ta) (hb:E3 X b tb) (hm:behindInMarks op b=false):C3 X (.Compare a [op] [b] pos) (tb3 (o3 r3 ta tb)):=
 qpQ (qhd ho ha hb hm) λ_ _ _ h=>qlw (λ_ _ _=>qei hr) h
def ch3 (r r':R3) (ta tb tc:TE3):TE3:=λτ G q=>ta τ G λx G1=>tb τ G1 λy G2=>r x y G2 λz G3=>match z with
 |.bl k=>if k=true then tc τ G3 λw G4=>r' y w G4 q else q (.bl false) G3
 |_=>False
def qq4 (K:Frg) (r3:T->Gp->Q3->Prop) (r:V->Hp->VK->Prop):Prop:=∀ x v G H q Q,HR K G H->Rp K H x v->r3 x G q->Aft K G H q Q->r v H Q
def u3 (r:T->Gp->Q3->Prop) (ta:TE3):TE3:=λτ G q=>ta τ G λx G1=>r x G1 q
def qrk {op:UnaryOp} {r3:T->Gp->Q3->Prop} {r:V->Hp->VK->Prop} (ho:UnR X (unaryOp op) r) (hr:qq4 X.K r3 r) (ha:E3 X a ta):E3 X (.UnaryOp op a pos) (u3 r3 ta):=
 W0 (qos ho ha) λ_ _ _ ⟨τ,G,q,rl,h,af⟩=>zG rl h λx G1 h1 v H1 rx hr1 k1 rl1=>hr x v G1 H1 q _ hr1 rx h1 (af.back k1)
def VV:T->Gp->Q3->Prop:=λx G q=>match x with|.int i=>q (.int (-i)) G|_=>False
def qiD {K:Frg}:qq4 K VV (rU λi=>.int (-i)):=λx v G H q Q hr rx h af=>by
 cases x with
 |int i=>cases rx;exact ⟨i,rfl,af _ G h _ H (.int _) hr Kp.refl⟩
 |_=>exact h.elim
def iI (f:Int->Int->Int):R3:=λx y G q=>match x,y with|.int i,.int j=>q (.int (f i j)) G|_,_=>False
def iC (C:Int->Int->Prop) (f:Int->Int->Int):R3:=λx y G q=>match x,y with|.int i,.int j=>C i j/\q (.int (f i j)) G|_,_=>False
def iB (f:Int->Int->Bool):R3:=λx y G q=>match x,y with|.int i,.int j=>q (.bl (f i j)) G|_,_=>False
def qgc {K:Frg} {f:Int->Int->Int}:LS K (iI f) (rI0 λi j=>.int (f i j)):=λx y v u G H q Q hr rx ry h af=>by
 cases x<;>try exact h.elim
 cases y<;>try exact h.elim
 cases rx;cases ry;exact ⟨_,_,rfl,rfl,af _ G h _ H (.int _) hr Kp.refl⟩
def RD {K:Frg} {C:Int->Int->Prop} {f:Int->Int->Int}:LS K (iC C f) (rI C λi j=>.int (f i j)):=λx y v u G H q Q hr rx ry h af=>by
 cases x<;>try exact h.elim
 cases y<;>try exact h.elim
 cases rx;cases ry;exact ⟨_,_,rfl,rfl,h.1,af _ G h.2 _ H (.int _) hr Kp.refl⟩
def WP {K:Frg} {f:Int->Int->Bool}:LS K (iB f) (rI0 λi j=>.bl (f i j)):=λx y v u G H q Q hr rx ry h af=>by
 cases x<;>try exact h.elim
 cases y<;>try exact h.elim
 cases rx;cases ry;exact ⟨_,_,rfl,rfl,af _ G h _ H (.bl _) hr Kp.refl⟩
def qpN (ha:E3 X a ta) (hb:E3 X b tb):E3 X (.BinOp a .Sub b pos) (o3 (iI (·-·)) ta tb):=qdv qm7 qgc ha hb
def qp3 (ha:E3 X a ta) (hb:E3 X b tb):E3 X (.BinOp a .Mult b pos) (o3 (iC QT (·*·)) ta tb):=qdv qnP RD ha hb
def qou (ha:E3 X a ta) (hb:E3 X b tb):E3 X (.BinOp a .Mod b pos) (o3 (iC (λ_ j=>0<j) (·%·)) ta tb):=qdv qlx RD ha hb
def qpX (ha:E3 X a ta) (hb:E3 X b tb):E3 X (.BinOp a .FloorDiv b pos) (o3 (iC RY (·/·)) ta tb):=qdv qha RD ha hb
def qpI (ha:E3 X a ta) (hb:E3 X b tb):E3 X (.BinOp a .Pow b pos) (o3 (iC RP (λi j=>i ^ j.toNat)) ta tb):=qdv qjK RD ha hb
def qlO (ha:E3 X a ta) (hb:E3 X b tb):E3 X (.BinOp a .BitAnd b pos) (o3 (iI Builtin.bitAnd) ta tb):=qdv qjU qgc ha hb
def qpj (ha:E3 X a ta) (hb:E3 X b tb):E3 X (.BinOp a .LShift b pos) (o3 (iC RP (λi j=>i*2 ^ j.toNat)) ta tb):=qdv qnM RD ha hb
def qqf (ha:E3 X a ta) (hb:E3 X b tb):E3 X (.BinOp a .RShift b pos) (o3 (iC (λ_ j=>0<=j) (λi j=>i/2 ^ j.toNat)) ta tb):=qdv qlt RD ha hb
def qpk (ha:E3 X a ta):E3 X (.UnaryOp .USub a pos) (u3 VV ta):=qrk qjA qiD ha
def zg:T->T->Option Bool
 |.non,.non=>some true|.non,.int _=>some false|.int _,.non=>some false|.non,.bl _=>some false|.bl _,.non=>some false|.non,.str _=>some false|.str _,.non=>some false
 |.int i,.int j=>some (decide (i=j))|.bl i,.bl j=>some (decide (i=j))|.str i,.str j=>some (decide (i=j))
 |.int _,.str _=>some false|.str _,.int _=>some false|.bl _,.str _=>some false|.str _,.bl _=>some false
 |_,_=>none
def N4 {K:Frg} {H:Hp} {x y:T} {v u:V} {k:Bool} (rx:Rp K H x v) (ry:Rp K H y u) (h:zg x y=some k):qoZ v u=true/\decide (v=u)=k:=by
 cases rx<;>cases ry<;>simp [zg] at h<;>subst h<;>refine ⟨rfl,?_⟩<;>simp
def UJ (neg:Bool):R3:=λx y G q=>match y with|.non=>q (.bl (match x with|.non=>!neg|_=>neg)) G|_=>False
def qmj {K:Frg} {H:Hp} {x:T} {v:V} (rx:Rp K H x v):decide (v=.non)=(match x with|.non=>true|_=>false):=by
 cases rx<;>simp
def MA {K:Frg}:LS K (UJ false) (λx y H Q=>y=.non/\Q (.bl (decide (x=.non))) H):=λx y v u G H q Q hr rx ry h af=>by
 cases y<;>try exact h.elim
 cases ry;refine ⟨rfl,?_⟩;rw [qmj rx];refine af _ G h _ H ?_ hr Kp.refl;cases x<;>exact .bl _
variable {tA tB:TT3} {QR:List Expr}
def EU (t u:TT3):TT3:=λτ G q=>t τ G λk G1=>if k=true then u τ G1 q else q false G1
def or3 (t u:TT3):TT3:=λτ G q=>t τ G λk G1=>if k=true then q true G1 else u τ G1 q
def YN (t:TT3):TT3:=λτ G q=>t τ G λk G1=>q (!k) G1
def qo5 (ha:C3 X a tA):W3 X (.BoolOp .Or [a] pos) tA:=qmY ha
def qrv (ha:C3 X a tA) (hb:W3 X (.BoolOp .Or (b::QR) pos) tB):W3 X (.BoolOp .Or (a::b::QR) pos) (or3 tA tB):=
 qrE (qpA ha hb) λ_ _ _ ⟨τ,G,q,rl,h,af⟩=>LL rl h λk G1 h1 H1 hr1 k1 rl1=>by
  cases k with
  |true=>rw [if_pos rfl] at h1 ⊢;exact af _ G1 h1 H1 hr1 k1
  |false=>rw [if_neg v6] at h1 ⊢;exact ⟨τ,G1,q,rl1,h1,af.back k1⟩
def qpP (ha:C3 X a tA):C3 X (.UnaryOp .Not a pos) (YN tA):=
 qpQ (qi5 ha) λ_ _ _ ⟨τ,G,q,rl,h,af⟩=>LL rl h λk G1 h1 H1 hr1 k1 rl1=>af _ G1 h1 H1 hr1 k1
def qop {e:Expr} {t:TE3} (h:E3 X e t) (he:∀ whole,isTrue e X.env whole=(do let v←whole;standAt e.pos;holding [v] (truthy v)):=by intro _;rfl):C3 X e (tb3 t):=
 qpQ (qlN h he) λ_ _ _ h=>qlw (λ_ _ _ h=>h) h
def zL (ta tb:TE3):TE3:=λτ G q=>ta τ G λx G1=>match x with|.bl k=>if k=true then tb τ G1 q else q (.bl false) G1|_=>False
def UG (ta tb:TE3):TE3:=λτ G q=>ta τ G λx G1=>match x with|.bl k=>if k=true then q (.bl true) G1 else tb τ G1 q|_=>False
def ju (ta:TE3):TE3:=λτ G q=>ta τ G λx G1=>match x with|.bl k=>q (.bl (!k)) G1|_=>False
def qoo {op} (h:E3 X a ta):E3 X (.BoolOp op [a] pos) ta:=qkW h
def qoY (ha:E3 X a ta) (hb:E3 X (.BoolOp .And (b::QR) pos) tb):E3 X (.BoolOp .And (a::b::QR) pos) (zL ta tb):=
 W0 (qjj ha hb) λ_ _ _ ⟨τ,G,q,rl,h,af⟩=>zG rl h λx G1 h1 v H1 rx hr1 k1 rl1=>by
  cases x with
  |bl k=>
   cases rx;refine ⟨k,rfl,?_⟩;cases k with
   |true=>rw [if_pos rfl];exact ⟨τ,G1,q,rl1,(show tb τ G1 q from by simpa using h1),af.back k1⟩
   |false=>rw [if_neg v6];exact af _ G1 (by simpa using h1) _ H1 (.bl false) hr1 k1
  |_=>exact h1.elim
def qrx (ha:E3 X a ta) (hb:E3 X (.BoolOp .Or (b::QR) pos) tb):E3 X (.BoolOp .Or (a::b::QR) pos) (UG ta tb):=
 W0 (qp9 ha hb) λ_ _ _ ⟨τ,G,q,rl,h,af⟩=>zG rl h λx G1 h1 v H1 rx hr1 k1 rl1=>by
  cases x with
  |bl k=>
   cases rx;refine ⟨k,rfl,?_⟩;cases k with
   |true=>rw [if_pos rfl];exact af _ G1 (by simpa using h1) _ H1 (.bl true) hr1 k1
   |false=>rw [if_neg v6];exact ⟨τ,G1,q,rl1,(show tb τ G1 q from by simpa using h1),af.back k1⟩
  |_=>exact h1.elim
def qov (ha:E3 X a ta):E3 X (.UnaryOp .Not a pos) (ju ta):=
 W0 (qnf ha) λ_ _ _ ⟨τ,G,q,rl,h,af⟩=>zG rl h λx G1 h1 v H1 rx hr1 k1 rl1=>by
  cases x with
  |bl k=>cases rx;exact ⟨k,rfl,af _ G1 h1 _ H1 (.bl _) hr1 k1⟩
  |_=>exact h1.elim
def if3 (t:TT3) (ta tb:TE3):TE3:=λτ G q=>t τ G λk G1=>if k=true then ta τ G1 q else tb τ G1 q
def qrm {c:Expr} (hc:C3 X c tA) (ha:E3 X a ta) (hb:E3 X b tb):E3 X (.IfExp c a b pos) (if3 tA ta tb):=
 W0 (qez hc ha hb) λ_ _ _ ⟨τ,G,q,rl,h,af⟩=>LL rl h λk G1 h1 H1 hr1 k1 rl1=>by
  cases k with
  |true=>rw [if_pos rfl] at h1 ⊢;exact ⟨τ,G1,q,rl1,h1,af.back k1⟩
  |false=>rw [if_neg v6] at h1 ⊢;exact ⟨τ,G1,q,rl1,h1,af.back k1⟩
variable {e:Expr} {es:List Expr} {te:TE3} {t:TA3}
def qk:TA3:=λ_ G q=>q [] G
def qf (ta:TE3) (tr:TA3):TA3:=λτ G q=>ta τ G λx G1=>tr τ G1 λxs G2=>q (x::xs) G2
def qoP:A3 X [] qk:=qqo RJ λ_ H _ ⟨τ,G,q,rl,h,af⟩=>af _ G h _ H .nil rl.hp Kp.refl
def qkU (ha:E3 X e te) (hr:A3 X es t) (hs:starEach (e::es) X.env=(false,eval e X.env)::starEach es X.env:=by rfl):A3 X (e::es) (qf te t):=
 qqo (J4 ha hr hs) λ_ _ _ ⟨τ,G,q,rl,h,af⟩=>zG rl h λx G1 h1 v H1 rx hr1 k1 rl1=>YM rl1 h1 λxs G2 h2 vs H2 rs hr2 k2 rl2=>
  af _ G2 h2 _ H2 (.cons (rx.keep hr1 k2) rs) hr2 (k1.trans k2)
def jo (t:TA3):TE3:=λτ G q=>t τ G λxs G1=>xs.length<=sizeLine/\q (.tup xs) G1
def je (t:TA3):TE3:=λτ G q=>t τ G λxs G1=>xs.length<=sizeLine/\∀ p,G1 p=none->q (.ref p) (gu G1 p (.lst xs))
def qpm {x1} (h:A3 X es t):E3 X (.Tuple es x1 pos) (jo t):=
 W0 (qgg h) λ_ _ _ ⟨τ,G,q,rl,h,af⟩=>YM rl h λxs G1 h1 vs H1 rs hr1 k1 rl1=>⟨by rw [← rs.length];exact h1.1,λp hp=>
  af _ G1 h1.2 _ _ (.tup (SqT.of qW) (rs.keep hr1 (Kp.laid hp))) (hr1.laid hp) (k1.trans (Kp.laid hp))⟩
def qo8 (h:A3 X es t):E3 X (.List es pos) (je t):=
 W0 (qkr h) λ_ _ _ ⟨τ,G,q,rl,h,af⟩=>YM rl h λxs G1 h1 vs H1 rs hr1 k1 rl1=>⟨by rw [← rs.length];exact h1.1,λp hp=>
  af _ _ (h1.2 p (hr1.free hp)) _ _ (.ref p) (hr1.newL hp rs) (k1.trans (Kp.newL hp))⟩
def qah (K:Frg) (r3:List T->Gp->Q3->Prop) (r:List V->Hp->VK->Prop):Prop:=∀ xs vs G H q Q,HR K G H->Rps K H xs vs->r3 xs G q->Aft K G H q Q->r vs H Q
def cb3 (r:List T->Gp->Q3->Prop) (t:TA3):TE3:=λτ G q=>t τ G λxs G1=>r xs G1 q
def qmC {K:Frg} {r3:List T->Gp->Q3->Prop} {r:List V->Hp->VK->Prop} (hr:qah K r3 r) {σ:L2.St} {H:Hp} {Q:VK} (h:lE K (cb3 r3 t) σ H Q):tCB r (lA K t) σ H Q:=by
 obtain ⟨τ,G,q,rl,h,af⟩:=h;exact YM rl h λxs G1 h1 vs H1 rs hr1 k1 rl1=>hr xs vs G1 H1 q Q hr1 rs h1 (af.back k1)
def qgN {x:Str} {p:Pos} {id:String} {r3:List T->Gp->Q3->Prop} {r:List V->Hp->VK->Prop} (hc:YK X (.builtin id) r) (hr:qah X.K r3 r) (hg:Gl X x) (hm:X.mg x=none) (hv:bootBuiltins x=some (.builtin id)) (ha:A3 X (e::es) t) (hn:x≠"__name__" := by decide) (hdb:(x==("__debug__" : Str))=false:=by decide)
  (he:starEach (e::es) X.env=(false,eval e X.env)::starEach es X.env:=by rfl) (hpl:(backTo pos (starEach es X.env)).any (·.1)=false:=by rfl):E3 X (.Call (.Name x p) (e::es) [] pos) (cb3 r3 t):=
 W0 (W9 hc hg hm hv ha hn hdb he hpl) λ_ _ _ h=>qmC hr h
def qdQ {x:Str} {p:Pos} {ty:String} {r3:List T->Gp->Q3->Prop} {r:List V->Hp->VK->Prop} (hc:YK X (.type ty) r) (hr:qah X.K r3 r) (hg:Gl X x) (hm:X.mg x=none) (hv:bootBuiltins x=some (.type ty)) (ha:A3 X (e::es) t) (hn:x≠"__name__" := by decide) (hdb:(x==("__debug__" : Str))=false:=by decide)
  (he:starEach (e::es) X.env=(false,eval e X.env)::starEach es X.env:=by rfl) (hpl:(backTo pos (starEach es X.env)).any (·.1)=false:=by rfl):E3 X (.Call (.Name x p) (e::es) [] pos) (cb3 r3 t):=
 W0 (K1 hc hg hm hv ha hn hdb he hpl) λ_ _ _ h=>qmC hr h
end
def getL (G:Gp) (p:Addr):Option (List T):=match G p with|some (.lst xs)=>some xs|some (.frz xs)=>some xs|_=>none
section
variable {K:Frg} {G G':Gp} {H H':Hp}
def jd (hr:HR K G H) {p:Addr} {xs:List T} (h:getL G p=some xs):∃ vs,SqL K H p vs/\Rps K H xs vs:=by
 unfold getL at h;split at h
 ·rename_i ys e;cases h;obtain ⟨vs,h1,h2⟩:=hr p _ e;exact ⟨vs,SqL.of h1,h2⟩
 ·rename_i ys e;cases h;obtain ⟨vs,⟨o,h1⟩,h2⟩:=hr p _ e;exact ⟨vs,.inl (.inr ⟨o,h1⟩),h2⟩
 ·cases h
theorem HR.lst (hr:HR K G H) {p:Addr} {xs:List T} (h:G p=some (.lst xs)):∃ vs,H p=some (.lst vs)/\Rps K H xs vs:=hr p _ h
theorem Rps.atI {xs:List T} {vs:List V} {i:Int} {x:T} (r:Rps K H xs vs) (h:atI xs i=some x):∃ v,L2.atI vs i=some v/\Rp K H x v:=by
 unfold L2.atI at h ⊢;rw [← r.length];cases e:ixN xs.length i with
 |none=>rw [e] at h;cases h
 |some j=>
  rw [e] at h;exact r.get (by simpa using h)
end
def ix3:R3:=λx y G q=>match x,y with
 |.tup xs,.int i=>(match atI xs i with|some z=>q z G|none=>False)
 |.ref p,.int i=>(match getL G p with|some xs=>(match atI xs i with|some z=>q z G|none=>False)|none=>False)
 |_,_=>False
section
variable {X:Cx} {a b c e:Expr} {es:List Expr} {ta tb tc te:TE3} {t:TA3} {pos:Pos}
def qmy {K:Frg}:LS K ix3 (rIx K):=λx y v u G H q Q hr rx ry h af=>by
 cases x<;>try exact h.elim
 case tup xs=>
  cases y<;>try exact h.elim
  case int i=>
   unfold ix3 at h;simp only at h;split at h
   ·rename_i z e;cases ry;cases rx with
    |tup hs rs=>
     obtain ⟨w,e2,rw'⟩:=rs.atI e;exact .inr (.inl ⟨_,_,i,w,rfl,rfl,hs,e2,af z G h w H rw' hr Kp.refl⟩)
   ·exact h.elim
 case ref p=>
  cases y<;>try exact h.elim
  case int i=>
   unfold ix3 at h;simp only at h;split at h
   ·rename_i xs e0;split at h
    ·rename_i z e;cases ry;cases rx;obtain ⟨vs,hs,rs⟩:=jd hr e0;obtain ⟨w,e2,rw'⟩:=rs.atI e;exact .inl ⟨p,vs,i,w,rfl,rfl,hs,e2,af z G h w H rw' hr Kp.refl⟩
    ·exact h.elim
   ·exact h.elim
def qrj (ha:E3 X a ta) (hb:E3 X b tb) (hs:MP b:=by intro _ _;rfl):E3 X (.Subscript a b pos) (o3 ix3 ta tb):=W0 (qo9 qkg ha hb hs) λ_ _ _ h=>qei qmy h
def JZ {α:Type} (xs:List α) (lo hi:Option Int):List α:=(xs.drop (HT.sIx xs.length 0 lo)).take (HT.sIx xs.length xs.length hi-HT.sIx xs.length 0 lo)
def Rps.cut {K:Frg} {H:Hp} {xs:List T} {vs:List V} (r:Rps K H xs vs) (lo hi:Option Int):Rps K H (JZ xs lo hi) (qe5 vs lo hi):=by
 unfold JZ qe5;rw [r.length];exact (r.drop _).take _
abbrev TO3:=St3->Gp->(Option Int->Gp->Prop)->Prop
def lO (K:Frg) (t:TO3):TO:=λσ H Q=>∃ τ G q,Rel K τ G σ H/\t τ G q/\∀ x G',q x G'->∀ H',HR K G' H'->Kp G H G' H'->Q x H'
abbrev P3 (X:Cx) (e:Option Expr) (t:TO3):Prop:=PO X e (lO X.K t)
def np3:TO3:=λ_ G q=>q none G
def sp3 (t:TE3):TO3:=λτ G q=>t τ G λx G1=>match x with|.int i=>q (some i) G1|_=>False
def qqr {X:Cx} {e:Option Expr} {t t':TO} (h:PO X e t) (w:∀ σ H Q,t' σ H Q->t σ H Q):PO X e t':=λpins s σ H Q I q=>h pins s σ H Q I (w σ H Q q)
def qkX:P3 X none np3:=qqr qhC λ_ H _ ⟨τ,G,q,rl,h,af⟩=>af none G h H rl.hp Kp.refl
def qne (h:E3 X e te):P3 X (some e) (sp3 te):=qqr (qgP h) λ_ _ _ ⟨τ,G,q,rl,h,af⟩=>zG rl h λx G1 h1 v H1 rx hr1 k1 rl1=>by
 cases x<;>try exact h1.elim
 cases rx;exact ⟨_,rfl,af _ G1 h1 H1 hr1 k1⟩
def sl3:T->Option Int->Option Int->Gp->Q3->Prop:=λx lo hi G q=>match x with
 |.tup xs=>¬ (HT.sIx xs.length 0 lo=0/\HT.sIx xs.length xs.length hi=xs.length)/\q (.tup (JZ xs lo hi)) G
 |.ref p=>(match getL G p with|some xs=>∀ a,G a=none->q (.ref a) (gu G a (.lst (JZ xs lo hi)))|none=>False)
 |_=>False
def VO (te:TE3) (tl th:TO3):TE3:=λτ G q=>te τ G λx G1=>tl τ G1 λl G2=>th τ G2 λu G3=>sl3 x l u G3 q
def qif {lo hi:Option Expr} {tl th:TO3} {p2:Pos} (he:E3 X e te) (hl:P3 X lo tl) (hu:P3 X hi th):E3 X (.Subscript e (.Slice lo hi none p2) pos) (VO te tl th):=
 W0 (qdL (qju.or qg6) he hl hu) λ_ _ _ ⟨τ,G,q,rl,h,af⟩=>zG rl h λx G1 h1 v H1 rx hr1 k1 rl1=>
  ⟨τ,G1,_,rl1,h1,λl G2 h2 H2 hr2 k2=>⟨τ,G2,_,rl1.next hr2 k2,h2,λu G3 h3 H3 hr3 k3=>by
   have kk:=(k1.trans k2).trans k3;have rx3:=(rx.keep hr1 k2).keep hr2 k3;cases x<;>try exact h3.elim
   case tup xs=>
    cases rx3 with
    |tup hs rs=>
     refine .inl ⟨_,_,rfl,hs,by rw [← rs.length];exact h3.1,λp hp=>?_⟩;exact af _ G3 h3.2 _ _ (.tup (SqT.of qW) ((rs.cut _ _).keep hr3 (Kp.laid hp))) (hr3.laid hp) (kk.trans (Kp.laid hp))
   case ref p=>
    unfold sl3 at h3;simp only at h3;split at h3
    ·rename_i xs e0;cases rx3;obtain ⟨vs,hs,rs⟩:=jd hr3 e0;refine .inr ⟨p,vs,rfl,hs,λa ha=>?_⟩;exact af _ _ (h3 a (hr3.free ha)) _ _ (.ref a) (hr3.newL ha (rs.cut _ _)) (kk.trans (Kp.newL ha))
    ·exact h3.elim⟩⟩
def qdh {K:Frg} {H:Hp} {xs:List T} {vs:List V} (r:Rps K H xs vs):vs=[]↔xs=[]:=by
 cases r<;>simp
def zB:R3:=λx y G q=>match x,y with
 |.tup xs,.tup ys=>xs≠[]/\xs.length+ys.length<=sizeLine/\q (.tup (xs++ys)) G
 |.ref a,.ref b=>(match G a,G b with|some (.lst xs),some (.lst ys)=>xs.length+ys.length<=sizeLine/\∀ p,G p=none->q (.ref p) (gu G p (.lst (xs++ys)))|_,_=>False)
 |.int i,.int j=>q (.int (i+j)) G
 |_,_=>False
def qiL {K:Frg}:LS K zB (λx y H Q=>(rI0 (λi j=>.int (i+j)) x y H Q\/qnD K x y H Q)\/qqV x y H Q):=λx y v u G H q Q hr rx ry h af=>by
 cases x<;>try exact h.elim
 case int i=>
  cases y<;>try exact h.elim
  cases rx;cases ry;exact .inl (.inl ⟨_,_,rfl,rfl,af _ G h _ H (.int _) hr Kp.refl⟩)
 case tup xs=>
  cases y<;>try exact h.elim
  case tup ys=>
   obtain ⟨h1,h2,h3⟩:=h;cases rx with
   |tup hs rs=>
    cases ry with
    |tup hs' rs'=>
     refine .inl (.inr ⟨_,_,_,_,rfl,rfl,hs,hs',λz=>h1 ((qdh rs).mp z),by rw [← rs.length,← rs'.length];exact h2,λz=>?_,λz p hp=>?_⟩)
     ·have e:=(qdh rs').mp z;subst e;rw [List.append_nil] at h3;exact af _ G h3 _ H (.tup hs rs) hr Kp.refl
     ·exact af _ G h3 _ _ (.tup (SqT.of qW) ((rs.append rs').keep hr (Kp.laid hp))) (hr.laid hp) (Kp.laid hp)
 case ref a=>
  cases y<;>try exact h.elim
  case ref b=>
   unfold zB at h;simp only at h;split at h
   ·rename_i xs ys e1 e2;cases rx;cases ry;obtain ⟨vs,g1,r1⟩:=hr.lst e1;obtain ⟨us,g2,r2⟩:=hr.lst e2;refine .inr ⟨a,b,vs,us,rfl,rfl,g1,g2,by rw [← r1.length,← r2.length];exact h.1,λp hp=>?_⟩;exact af _ _ (h.2 p (hr.free hp)) _ _ (.ref p) (hr.newL hp (r1.append r2)) (Kp.newL hp)
   ·exact h.elim
def qke (ha:E3 X a ta) (hb:E3 X b tb):E3 X (.BinOp a .Add b pos) (o3 zB ta tb):=qdv ((ql3.or qgU).or qjE) qiL ha hb
def zp:T->Bool
 |.non=>true|.bl _=>true|.int _=>true|.str _=>true|_=>false
def eqF:T->T->Bool
 |.non,.non=>true
 |.bl a,.bl b=>a==b
 |.bl a,.int b=>(if a then 1 else 0)==b
 |.int a,.bl b=>a==(if b then 1 else 0)
 |.int a,.int b=>a==b
 |.str a,.str b=>a==b
 |_,_=>false
def L9 {K:Frg} {H:Hp} {x:T} {v:V} (r:Rp K H x v) (h:zp x=true):CU v=true:=by
 cases r<;>first|rfl|(cases h)
theorem R0 {K:Frg} {H:Hp}:∀ {x:List T} {v:List V},Rps K H x v->x.all zp=true->v.all CU=true
 |_,_,.nil,_=>rfl
 |_,_,.cons a b,h=>by
  rw [List.all_cons,Bool.and_eq_true] at h ⊢;exact ⟨L9 a h.1,R0 b h.2⟩
def qnq {K:Frg} {H:Hp} {x y:T} {v u:V} (r:Rp K H x v) (s:Rp K H y u) (h:zp x=true) (h':zp y=true):eqV v u=eqF x y:=by
 cases r<;>first|(cases h;done)|(cases s<;>first|rfl|(cases h';done))
theorem qcR {K:Frg} {H:Hp} {x:T} {v:V} (r:Rp K H x v) (h:zp x=true):∀ {ys:List T} {us:List V},Rps K H ys us->ys.all zp=true->inV v us=ys.any λy=>eqF y x
 |_,_,.nil,_=>rfl
 |_,_,.cons a b,h'=>by
  rw [List.all_cons,Bool.and_eq_true] at h';unfold inV;rw [List.any_cons,List.any_cons,qnq a r h'.1 h];congr 1;exact qcR r h b h'.2
def in3 (neg:Bool):R3:=λx y G q=>zp x=true/\match y with
 |.tup ys=>ys.all zp=true/\q (.bl (if neg then !(ys.any λy=>eqF y x) else (ys.any λy=>eqF y x))) G
 |.ref p=>(match getL G p with|some ys=>ys.all zp=true/\q (.bl (if neg then !(ys.any λy=>eqF y x) else (ys.any λy=>eqF y x))) G|none=>False)
 |_=>False
def qmD {K:Frg} {neg:Bool}:LS K (in3 neg) (rIn K neg):=λx y v u G H q Q hr rx ry h af=>by
 obtain ⟨hf,h⟩:=h;cases y<;>try exact h.elim
 case tup ys=>
  cases ry with
  |tup hs rs=>
   refine ⟨_,_,rfl,.inr hs,L9 rx hf,R0 rs h.1,?_⟩;rw [qcR rx hf rs h.1];exact af _ G h.2 _ H (.bl _) hr Kp.refl
 case ref p=>
  simp only at h;split at h
  ·rename_i ys e;cases ry;obtain ⟨us,hs,rs⟩:=jd hr e;refine ⟨_,_,rfl,.inl hs,L9 rx hf,R0 rs h.1,?_⟩;rw [qcR rx hf rs h.1];exact af _ G h.2 _ H (.bl _) hr Kp.refl
  ·exact h.elim
def jC:List T->Gp->Q3->Prop:=λxs G q=>match xs with
 |[.tup ys]=>q (.int ys.length) G
 |[.str y]=>y.length<=sizeLine/\q (.int y.length) G
 |[.ref p]=>(match getL G p with|some ys=>q (.int ys.length) G|none=>False)
 |_=>False
def LR {K:Frg} {H:Hp} {x:T} {vs:List V} (r:Rps K H [x] vs):∃ v,vs=[v]/\Rp K H x v:=by
 cases r with
 |cons a b=>cases b;exact ⟨_,rfl,a⟩
def qn7 {K:Frg} {H:Hp} {x y:T} {vs:List V} (r:Rps K H [x,y] vs):∃ v u,vs=[v,u]/\Rp K H x v/\Rp K H y u:=by
 cases r with
 |cons a b=>cases b with|cons c d=>cases d;exact ⟨_,_,rfl,a,c⟩
def zM {K:Frg}:qah K jC (λxs H Q=>∃ x n,xs=[x]/\qqK K x H n/\Q (.int n) H):=λxs vs G H q Q hr rs h af=>by
 unfold jC at h;split at h
 ·obtain ⟨v,rfl,r⟩:=LR rs;cases r with
  |tup hs r2=>exact ⟨_,_,rfl,.inr ⟨_,hs,rfl⟩,by rw [← r2.length];exact af _ G h _ H (.int _) hr Kp.refl⟩
 ·obtain ⟨v,rfl,r⟩:=LR rs;cases r;exact ⟨_,_,rfl,⟨h.1,rfl⟩,af _ G h.2 _ H (.int _) hr Kp.refl⟩
 ·obtain ⟨v,rfl,r⟩:=LR rs;split at h
  ·rename_i ys e;cases r;obtain ⟨us,hs,r2⟩:=jd hr e;exact ⟨_,_,rfl,.inl ⟨_,hs,rfl⟩,by rw [← r2.length];exact af _ G h _ H (.int _) hr Kp.refl⟩
  ·exact h.elim
 ·exact h.elim
def UD:List T->Gp->Q3->Prop:=λxs G q=>match xs with|[.int i]=>q (.int (if i<0 then -i else i)) G|_=>False
def qcz {K:Frg}:qah K UD (λxs H Q=>∃ i,xs=[.int i]/\Q (.int (if i<0 then -i else i)) H):=λxs vs G H q Q hr rs h af=>by
 unfold UD at h;split at h
 ·obtain ⟨v,rfl,r⟩:=LR rs;cases r;exact ⟨_,rfl,af _ G h _ H (.int _) hr Kp.refl⟩
 ·exact h.elim
def V2:List T->Gp->Q3->Prop:=λxs G q=>match xs with|[.int i,.int j]=>q (.int (if j<i then j else i)) G|_=>False
def qiz {K:Frg}:qah K V2 (λxs H Q=>∃ i j,xs=[.int i,.int j]/\Q (.int (if j<i then j else i)) H):=λxs vs G H q Q hr rs h af=>by
 unfold V2 at h;split at h
 ·obtain ⟨v,u,rfl,r,r'⟩:=qn7 rs;cases r;cases r';exact ⟨_,_,rfl,af _ G h _ H (.int _) hr Kp.refl⟩
 ·exact h.elim
def EX:List T->Gp->Q3->Prop:=λxs G q=>match xs with|[.int i,.int j]=>q (.int (if j > i then j else i)) G|_=>False
def EW:List T->Gp->Q3->Prop:=λxs G q=>match xs with|[.int i]=>q (.int i) G|[.bl k]=>q (.int (if k then 1 else 0)) G|_=>False
def qV:List T->Gp->Q3->Prop:=λxs G q=>match xs with
 |[.tup ys]=>q (.tup ys) G
 |[.ref p]=>(match getL G p with|some ys=>q (.tup ys) G|none=>False)
 |_=>False
def EA {K:Frg}:qah K qV (λxs H Q=>∃ p ys,xs=[.ref p]/\((SqL K H p ys/\∀ l,H l=none->Q (.ref l) (upd H l (.tup ys)))\/(SqT K H p ys/\Q (.ref p) H))):=λxs vs G H q Q hr rs h af=>by
 unfold qV at h;split at h
 ·obtain ⟨v,rfl,r⟩:=LR rs;cases r with
  |tup hs r2=>exact ⟨_,_,rfl,.inr ⟨hs,af _ G h _ H (.tup hs r2) hr Kp.refl⟩⟩
 ·obtain ⟨v,rfl,r⟩:=LR rs;split at h
  ·rename_i ys e;cases r;obtain ⟨us,hs,r2⟩:=jd hr e;exact ⟨_,_,rfl,.inl ⟨hs,λl hl=>af _ G h _ _ (.tup (SqT.of qW) (r2.keep hr (Kp.laid hl))) (hr.laid hl) (Kp.laid hl)⟩⟩
  ·exact h.elim
 ·exact h.elim
def jb:List T->Gp->Q3->Prop:=λxs G q=>match xs with
 |[.tup ys]=>∀ p,G p=none->q (.ref p) (gu G p (.lst ys))
 |[.ref p]=>(match getL G p with|some ys=>∀ p,G p=none->q (.ref p) (gu G p (.lst ys))|none=>False)
 |_=>False
def NZ {K:Frg}:qah K jb (λxs H Q=>∃ p ys,xs=[.ref p]/\(SqL K H p ys\/SqT K H p ys)/\∀ l,H l=none->Q (.ref l) (upd H l (.lst ys))):=λxs vs G H q Q hr rs h af=>by
 unfold jb at h;split at h
 ·obtain ⟨v,rfl,r⟩:=LR rs;cases r with
  |tup hs r2=>exact ⟨_,_,rfl,.inr hs,λl hl=>af _ _ (h l (hr.free hl)) _ _ (.ref l) (hr.newL hl r2) (Kp.newL hl)⟩
 ·obtain ⟨v,rfl,r⟩:=LR rs;split at h
  ·rename_i ys e;cases r;obtain ⟨us,hs,r2⟩:=jd hr e;exact ⟨_,_,rfl,.inl hs,λl hl=>af _ _ (h l (hr.free hl)) _ _ (.ref l) (hr.newL hl r2) (Kp.newL hl)⟩
  ·exact h.elim
 ·exact h.elim
def JW:T->List T->Gp->Q3->Prop:=λx xs G q=>match x,xs with
 |.ref l,[.ref b]=>(match G l,G b with|some (.lst ys),some (.lst zs)=>ys.length+zs.length<=sizeLine/\q .non (gu G l (.lst (ys++zs)))|_,_=>False)
 |_,_=>False
def QI:T->List T->Gp->Q3->Prop:=λx xs G q=>match x,xs with
 |.ref l,[y]=>(match G l with|some (.lst ys)=>ys.length<sizeLine/\q .non (gu G l (.lst (ys++[y])))|_=>False)
 |_,_=>False
def qih (K:Frg) (r3:T->List T->Gp->Q3->Prop) (r:V->List V->Hp->VK->Prop):Prop:=∀ x xs v vs G H q Q,HR K G H->Rp K H x v->Rps K H xs vs->r3 x xs G q->Aft K G H q Q->r v vs H Q
def qie {K:Frg}:qih K JW qcI:=λx xs v vs G H q Q hr rx rs h af=>by
 unfold JW at h;split at h
 ·rename_i l b;split at h
  ·rename_i ys zs e1 e2;cases rx;obtain ⟨u,rfl,r⟩:=LR rs;cases r;obtain ⟨vs,g1,r1⟩:=hr.lst e1;obtain ⟨us,g2,r2⟩:=hr.lst e2;exact ⟨l,b,vs,us,rfl,rfl,g1,g2,by rw [← r1.length,← r2.length];exact h.1,af _ _ h.2 _ _ .non (hr.wr e1 (r1.append r2)) (Kp.wr e1)⟩
  ·exact h.elim
 ·exact h.elim
def qgV {K:Frg}:qih K QI qcV:=λx xs v vs G H q Q hr rx rs h af=>by
 unfold QI at h;split at h
 ·rename_i l y;split at h
  ·rename_i ys e1;cases rx;obtain ⟨u,rfl,r⟩:=LR rs;obtain ⟨vs,g1,r1⟩:=hr.lst e1;exact ⟨l,vs,u,rfl,rfl,g1,by rw [← r1.length];exact h.1,af _ _ h.2 _ _ .non (hr.wr e1 (r1.append (.cons r .nil))) (Kp.wr e1)⟩
  ·exact h.elim
 ·exact h.elim
def bm3 (r:T->List T->Gp->Q3->Prop) (to:TE3) (t:TA3):TE3:=λτ G q=>to τ G λx G1=>(match x with|.ref p=>(getL G1 p).isSome=true|_=>False)/\t τ G1 λxs G2=>r x xs G2 q
def qpV {o:Expr} {to:TE3} {name:Str} {apos cpos:Pos} {id:String} {r3:T->List T->Gp->Q3->Prop} {r:V->List V->Hp->VK->Prop} (slot:Slot "list" name id) (hty:typeOf (.builtin id)=pure (.type "method_descriptor")) (hm:MtR X id r) (hr:qih X.K r3 r) (ho:E3 X o to) (ha:A3 X (e::es) t)
  (hbase:attributeBase o name X.env (eval o X.env)=eval o X.env:=by rfl)
  (hfew:((backTo cpos (starEach (e::es) X.env)).all (λx=>!x.1)&&(backToKw cpos (keywordEach [] X.env)).all (λx=>x.1.isSome)
   && decide ((e::es).length+([]:List Keyword).length+(if ([]:List Keyword).isEmpty then 0 else 1)<30))=true:=by rfl)
  (hline:(apos.endLine==cpos.line)=true:=by rfl) (hs:starEach (e::es) X.env=(false,eval e X.env)::starEach es X.env:=by rfl) (hplain:(backTo cpos (starEach es X.env)).any (·.1)=false:=by rfl) :
  E3 X (.Call (.Attribute o name apos) (e::es) [] cpos) (bm3 r3 to t):=
 W0 (qkA PySem.F.plainAttrs_list slot hty hm ho ha hbase hfew hline hs hplain) λ_ _ _ ⟨τ,G,q,rl,h,af⟩=>zG rl h λx G1 h1 v H1 rx hr1 k1 rl1=>by
  obtain ⟨hp,h1⟩:=h1;cases x<;>try exact hp.elim
  case ref p=>
   cases rx;have hp':(getL G1 p).isSome=true:=hp;obtain ⟨ys,e⟩:=Option.isSome_iff_exists.mp hp';obtain ⟨us,hs,r2⟩:=jd hr1 e;exact ⟨.inl ⟨rfl,us,hs⟩,YM rl1 h1 λxs G2 h2 vs H2 rs hr2 k2 rl2=>hr _ xs _ vs G2 H2 q _ hr2 (.ref p) rs h2 (af.back (k1.trans k2))⟩
def qeg {o:Expr} {to:TE3} {apos cpos:Pos} (ho:E3 X o to) (ha:A3 X [e] t)
  (hbase:attributeBase o "append" X.env (eval o X.env)=eval o X.env:=by rfl)
  (hfew:((backTo cpos (starEach [e] X.env)).all (λx=>!x.1)&&(backToKw cpos (keywordEach [] X.env)).all (λx=>x.1.isSome)
   && decide (([e]:List Expr).length+([]:List Keyword).length+(if ([]:List Keyword).isEmpty then 0 else 1)<30))=true:=by rfl)
  (hline:(apos.endLine==cpos.line)=true:=by rfl) (hs:starEach [e] X.env=(false,eval e X.env)::starEach [] X.env:=by rfl) (hplain:(backTo cpos (starEach [] X.env)).any (·.1)=false:=by rfl) :
  E3 X (.Call (.Attribute o "append" apos) [e] [] cpos) (bm3 QI to t):=qpV PySem.F.slot_list_append PySem.F.type_list_append EI qgV ho ha hbase hfew hline hs hplain
def qd9 {o:Expr} {to:TE3} {apos cpos:Pos} (ho:E3 X o to) (ha:A3 X [e] t)
  (hbase:attributeBase o "extend" X.env (eval o X.env)=eval o X.env:=by rfl)
  (hfew:((backTo cpos (starEach [e] X.env)).all (λx=>!x.1)&&(backToKw cpos (keywordEach [] X.env)).all (λx=>x.1.isSome)
   && decide (([e]:List Expr).length+([]:List Keyword).length+(if ([]:List Keyword).isEmpty then 0 else 1)<30))=true:=by rfl)
  (hline:(apos.endLine==cpos.line)=true:=by rfl) (hs:starEach [e] X.env=(false,eval e X.env)::starEach [] X.env:=by rfl) (hplain:(backTo cpos (starEach [] X.env)).any (·.1)=false:=by rfl) :
  E3 X (.Call (.Attribute o "extend" apos) [e] [] cpos) (bm3 JW to t):=qpV PySem.F.slot_list_extend PySem.F.type_list_extend qbq qie ho ha hbase hfew hline hs hplain
end
def tyT (G:Gp):T->Option String
 |.non=>some "NoneType" |.bl _=>some "bool" |.int _=>some "int" |.str _=>some "str" |.tup _=>some "tuple"
 |.ref p=>if (getL G p).isSome then some "list" else none
def jT (t c:String):Bool:=t==c||(t == "bool" && c == "int")
def R9 (K:Frg):∀ t∈["NoneType","bool","int","str","tuple","list"],∀ c∈["bool","int","str","tuple","list"],PySem.W.kitOne K (.type t) (.type c)=some (jT t c):=by
 intro t ht c hc;simp only [mem_cons,not_mem_nil,or_false] at ht hc;rcases ht with rfl|rfl|rfl|rfl|rfl|rfl<;>rcases hc with rfl|rfl|rfl|rfl|rfl<;>kernel_rfl
section
variable {X:Cx} {a b c e:Expr} {es:List Expr} {ta tb tc te:TE3} {t:TA3} {pos:Pos}
def TyS (K:Frg) (H:Hp) (x:V) (t:String):Prop:=match x with
 |.non=>t="NoneType" |.bl _=>t="bool" |.int _=>t="int" |.str _=>t="str"
 |.ref a=>(t="tuple"/\∃ vs,SqT K H a vs)\/(t="list"/\∃ vs,SqL K H a vs)
 |_=>False
def TyS.mem {K:Frg} {H:Hp} {x:V} {t:String} (h:TyS K H x t):t∈["NoneType","bool","int","str","tuple","list"]:=by
 cases x<;>simp [TyS] at h<;>first|(subst h;decide)|(rcases h with ⟨rfl,_⟩|⟨rfl,_⟩<;>decide)
def TyS.kitx {pins:List (Addr×Obj)} {σ:L2.St} {H:Hp} {s:Shared} {x:V} {u:Value} {t:String} (I:Inv X pins σ H s) (rx:jp x u) (h:TyS X.K H x t) :
  ∃ HH:Heap->Prop,PySem.W.KitX X.K u (.type t) HH/\HH s.heap/\u≠.builtin "__main__.__loader__#opaque" := by
 cases x with
 |non=>cases (show u=Value.none from rx);cases (show t=_ from h);exact ⟨_,PySem.W.kitx_none,True.intro,λz=>nomatch z⟩
 |bl y=>cases (show u=Value.bool y from rx);cases (show t=_ from h);exact ⟨_,PySem.W.kitx_bool,True.intro,λz=>nomatch z⟩
 |int i=>obtain ⟨tk,q⟩:=(show ∃ t,u=Value.int i t from rx);cases q;cases (show t=_ from h);exact ⟨_,PySem.W.kitx_int,True.intro,λz=>nomatch z⟩
 |str y=>obtain ⟨tk,q⟩:=(show ∃ t,u=Value.str y t from rx);cases q;cases (show t=_ from h);exact ⟨_,PySem.W.kitx_str,True.intro,λz=>nomatch z⟩
 |ref a=>
  cases (show u=Value.ref a from rx);rcases (show (t="tuple"/\∃ vs,SqT X.K H a vs)\/(t="list"/\∃ vs,SqL X.K H a vs) from h) with ⟨rfl,vs,hs⟩|⟨rfl,vs,hs⟩
  ·obtain ⟨its,_,p,_⟩:=I.tuple hs;obtain ⟨o,h1,h2,_⟩:=p;exact ⟨_,PySem.W.kitx_tuple,⟨o,h1,h2⟩,λz=>nomatch z⟩
  ·obtain ⟨its,_,p,_⟩:=I.list hs;obtain ⟨o,n,h1,h2,_⟩:=p;exact ⟨_,PySem.W.kitx_list,⟨o,h1,h2⟩,λz=>nomatch z⟩
 |_=>exact False.elim h
abbrev Q4:List String:=["bool","int","str","tuple","list"]
def qeu:YK X (.builtin "isinstance") (λxs H Q=>∃ x t c,xs=[x,.ty c]/\TyS X.K H x t/\c∈Q4/\Q (.bl (jT t c)) H):=by
 intro pins s σ H xs us Q I r h;obtain ⟨x,t,c,rfl,ht,hc,q⟩:=h;obtain ⟨u,w,rfl,rx,rc⟩:=qbc r;cases (show w=Value.type c from rc);obtain ⟨HH,kx,hh,ne⟩:=ht.kitx I rx;exact PySem.W.kia_one kx I.kIn hh (R9 X.K t ht.mem c hc) ne λtk=>⟨.bl _,H,I.tok tk,rfl,q⟩
def qeh (K:Frg) {t c d:String} (ht:t∈["NoneType","bool","int","str","tuple","list"]) (hc:c∈Q4) (hd:d∈Q4):PySem.W.kitAny K (.type t) [.type c,.type d]=some (jT t c||jT t d):=by
 unfold PySem.W.kitAny;rw [R9 K t ht c hc];cases jT t c with
 |true=>rfl
 |false=>
  show PySem.W.kitAny K (.type t) [.type d]=_;unfold PySem.W.kitAny;rw [R9 K t ht d hd];cases jT t d<;>rfl
def qbi:YK X (.builtin "isinstance") (λxs H Q=>∃ x t c d p,xs=[x,.ref p]/\H p=some (.tup [.ty c,.ty d])/\TyS X.K H x t/\c∈Q4/\d∈Q4/\Q (.bl (jT t c||jT t d)) H):=by
 intro pins s σ H xs us Q I r h;obtain ⟨x,t,c,d,p,rfl,hp,ht,hc,hd,q⟩:=h;obtain ⟨u,w,rfl,rx,rc⟩:=qbc r;cases (show w=Value.ref p from rc);obtain ⟨HH,kx,hh,ne⟩:=ht.kitx I rx;obtain ⟨_,its,rv,⟨o,ho,hcl,n,hda,_⟩⟩:=(show VM X.prog X.w H s.heap p (.tup [.ty c,.ty d]) from I.hok p _ hp)
 obtain ⟨u1,u2,rfl,r1,r2⟩:=qbc rv;cases (show u1=Value.type c from r1);cases (show u2=Value.type d from r2);obtain ⟨cl,dd,da,sl⟩:=o;cases (show cl=_ from hcl);cases (show da=_ from hda);exact PySem.W.kia_tup kx I.kIn hh ho (qeh X.K ht.mem hc hd) ne λtk=>⟨.bl _,H,I.tok tk,rfl,q⟩
def qfu {K:Frg} {G:Gp} {H:Hp} (hr:HR K G H) {x:T} {v:V} {t:String} (r:Rp K H x v) (h:tyT G x=some t):TyS K H v t:=by
 cases r with
 |non=>cases h;rfl
 |bl _=>cases h;rfl
 |int _=>cases h;rfl
 |str _=>cases h;rfl
 |tup hs rs=>cases h;exact .inl ⟨rfl,_,hs⟩
 |ref a=>
  have h:(if (getL G a).isSome then some "list" else none)=some t:=h;split at h
  ·rename_i e;cases h;obtain ⟨ys,e⟩:=Option.isSome_iff_exists.mp e;obtain ⟨us,hs,_⟩:=jd hr e;exact .inr ⟨rfl,us,hs⟩
  ·cases h
def ZX (f:String->Bool) (te:TE3):TE3:=λτ G q=>te τ G λx G1=>match tyT G1 x with|some t=>q (.bl (f t)) G1|none=>False
def qps {tn:Str} {ty:String} {p p2:Pos} (he:E3 X e te) (hg:Gl X "isinstance") (hm:X.mg "isinstance" = none) (hg2:Gl X tn) (hm2:X.mg tn=none) (hv:bootBuiltins tn=some (.type ty)) (hmem:ty∈Q4:=by decide) (hn:tn≠"__name__" := by decide) (hdb:(tn==("__debug__" : Str))=false:=by decide)
  (hs:starEach [e,.Name tn p2] X.env=(false,eval e X.env)::starEach [.Name tn p2] X.env:=by rfl) (hs2:starEach [.Name tn p2] X.env=(false,eval (.Name tn p2) X.env)::starEach [] X.env:=by rfl) (hpl:(backTo pos (starEach [.Name tn p2] X.env)).any (·.1)=false:=by rfl) :
  E3 X (.Call (.Name "isinstance" p) [e,.Name tn p2] [] pos) (ZX (λt=>jT t ty) te):=
 W0 (W9 qeu hg hm PyProof.Rows.boot_isinstance (J4 he (J4 (L8 (v:=.ty ty) hg2 hm2 hv rfl hn hdb) RJ hs2) hs) (by decide) (by decide) hs hpl)
  λ_ _ _ ⟨τ,G,q,rl,h,af⟩=>zG rl h λx G1 h1 v H1 rx hr1 k1 rl1=>by
   split at h1
   ·rename_i t e1;exact ⟨_,t,ty,rfl,qfu hr1 rx e1,hmem,af _ G1 h1 _ H1 (.bl _) hr1 k1⟩
   ·exact h1.elim
def qjQ {tn tn':Str} {ty ty':String} {p p2 p3 p4:Pos} {x1} (he:E3 X e te) (hg:Gl X "isinstance") (hm:X.mg "isinstance" = none) (hg2:Gl X tn) (hm2:X.mg tn=none) (hv:bootBuiltins tn=some (.type ty)) (hg3:Gl X tn') (hm3:X.mg tn'=none) (hv3:bootBuiltins tn'=some (.type ty'))
  (hmem:ty∈Q4:=by decide) (hn:tn≠"__name__" := by decide) (hdb:(tn==("__debug__" : Str))=false:=by decide) (hmem3:ty'∈Q4:=by decide) (hn3:tn'≠"__name__" := by decide) (hdb3:(tn'==("__debug__" : Str))=false:=by decide)
  (hs:starEach [e,.Tuple [.Name tn p2,.Name tn' p3] x1 p4] X.env=(false,eval e X.env)::starEach [.Tuple [.Name tn p2,.Name tn' p3] x1 p4] X.env:=by rfl) (hs2:starEach [.Tuple [.Name tn p2,.Name tn' p3] x1 p4] X.env=(false,eval (.Tuple [.Name tn p2,.Name tn' p3] x1 p4) X.env)::starEach [] X.env:=by rfl)
  (hs3:starEach [.Name tn p2,.Name tn' p3] X.env=(false,eval (.Name tn p2) X.env)::starEach [.Name tn' p3] X.env:=by rfl) (hs4:starEach [.Name tn' p3] X.env=(false,eval (.Name tn' p3) X.env)::starEach [] X.env:=by rfl)
  (hpl:(backTo pos (starEach [.Tuple [.Name tn p2,.Name tn' p3] x1 p4] X.env)).any (·.1)=false:=by rfl) :
  E3 X (.Call (.Name "isinstance" p) [e,.Tuple [.Name tn p2,.Name tn' p3] x1 p4] [] pos) (ZX (λt=>jT t ty||jT t ty') te):=
 W0 (W9 qbi hg hm PyProof.Rows.boot_isinstance (J4 he (J4 (qgg (J4 (L8 (v:=.ty ty) hg2 hm2 hv rfl hn hdb) (J4 (L8 (v:=.ty ty') hg3 hm3 hv3 rfl hn3 hdb3) RJ hs4) hs3)) RJ hs2) hs) (by decide) (by decide) hs hpl)
  λ_ _ _ ⟨τ,G,q,rl,h,af⟩=>zG rl h λx G1 h1 v H1 rx hr1 k1 rl1=>by
   refine ⟨by show 2<=sizeLine;decide,λpp hp=>?_⟩;split at h1
   ·rename_i t e1;have hr2:=hr1.laid (ho:=.tup [.ty ty,.ty ty']) hp;have kk:Kp G1 H1 G1 (upd H1 pp (.tup [.ty ty,.ty ty'])):=Kp.laid hp;exact ⟨_,t,ty,ty',pp,rfl,qW,qfu hr2 (rx.keep hr1 kk) e1,hmem,hmem3,af _ G1 h1 _ _ (.bl _) hr2 (k1.trans kk)⟩
   ·exact h1.elim
structure Ends3 where
 nx:St3->Gp->Prop
 rt:Q3
 bk:St3->Gp->Prop:=λ_ _=>False
 ct:St3->Gp->Prop:=λ_ _=>False
abbrev TS3:=Ends3->St3->Gp->Prop
def qgL (K:Frg) (G:Gp) (H:Hp) (q:St3->Gp->Prop) (Q:L2.St->Hp->Prop):Prop:=∀ τ G',q τ G'->∀ σ H',Rel K τ G' σ H'->Kp G H G' H'->Q σ H'
structure AftD (K:Frg) (G:Gp) (H:Hp) (d:Ends3) (D:Ends):Prop where
 nx:qgL K G H d.nx D.nx
 rt:Aft K G H d.rt D.rt
 bk:qgL K G H d.bk D.bk
 ct:qgL K G H d.ct D.ct
def qgL.back {K:Frg} {G G1:Gp} {H H1:Hp} {q:St3->Gp->Prop} {Q:L2.St->Hp->Prop} (a:qgL K G H q Q) (k:Kp G H G1 H1):qgL K G1 H1 q Q:=λx G' h v H' r k'=>a x G' h v H' r (k.trans k')
theorem AftD.back {K:Frg} {G G1:Gp} {H H1:Hp} {d:Ends3} {D:Ends} (a:AftD K G H d D) (k:Kp G H G1 H1):AftD K G1 H1 d D:=⟨a.nx.back k,a.rt.back k,a.bk.back k,a.ct.back k⟩
def lS (K:Frg) (t:TS3):TS:=λD σ H=>∃ τ G d,Rel K τ G σ H/\t d τ G/\AftD K G H d D
abbrev S3 (X:Cx) (st:Stmt) (t:TS3):Prop:=PS X st (lS X.K t)
abbrev B3 (X:Cx) (st:List Stmt) (t:TS3):Prop:=PSs X st (lS X.K t)
def qdA {X:Cx} {st:Stmt} {t t':TS} (h:PS X st t) (w:∀ D σ H,t' D σ H->t D σ H):PS X st t':=λpins s σ H D I q=>h pins s σ H D I (w D σ H q)
def qni {X:Cx} {st:List Stmt} {t t':TS} (h:PSs X st t) (w:∀ D σ H,t' D σ H->t D σ H):PSs X st t':=λpins s σ H D I q=>h pins s σ H D I (w D σ H q)
variable {st:Stmt} {QR:List Stmt} {t1 t2:TS3} {tA:TT3}
def qD:TS3:=λd τ G=>d.nx τ G
def qx (t u:TS3):TS3:=λd τ G=>t { d with nx:=u d } τ G
def qo2:B3 X [] qD:=qni qiO λ_ σ H ⟨τ,G,d,rl,h,af⟩=>af.nx τ G h σ H rl Kp.refl
def qkb (h1:S3 X st t1) (h2:B3 X QR t2):B3 X (st::QR) (qx t1 t2):=qni (qdR h1 h2) λD σ H ⟨τ,G,d,rl,h,af⟩=>
 ⟨τ,G,{ d with nx:=t2 d },rl,h,⟨λτ' G' h' σ' H' rl' k'=>⟨τ',G',d,rl',h',af.back k'⟩,af.rt,af.bk,af.ct⟩⟩
def qog (h1:S3 X st t1):B3 X [st] t1:=qh9 h1
def qH (te:TE3):TS3:=λd τ G=>te τ G λ_ G1=>d.nx τ G1
def qi4 (he:E3 X e te) (hs:swapsWith e none pos.line X.env=pure false:=by rfl):S3 X (.Expr e pos) (qH te):=qdA (qiC he hs) λ_ σ H ⟨τ,G,d,rl,h,af⟩=>
 zG rl h λx G1 h1 v H1 rx hr1 k1 rl1=>af.nx τ G1 h1 σ H1 rl1 k1
def qP (te:TE3):TS3:=λd τ G=>te τ G d.rt
def qoL (he:E3 X e te):S3 X (.Return (some e) pos) (qP te):=qdA (qnE he) λ_ σ H ⟨τ,G,d,rl,h,af⟩=>⟨τ,G,d.rt,rl,h,af.rt⟩
def jR:TS3:=λd _ G=>d.rt .non G
def zD (c:TT3) (t u:TS3):TS3:=λd τ G=>c τ G λk G1=>if k=true then t d τ G1 else u d τ G1
def qrF {c:Expr} {ba bb:List Stmt} (hc:C3 X c tA) (ha:B3 X ba t1) (hb:B3 X bb t2):S3 X (.If c ba bb pos) (zD tA t1 t2):=qdA (qow hc ha hb) λ_ σ H ⟨τ,G,d,rl,h,af⟩=>
 LL rl h λk G1 h1 H1 hr1 k1 rl1=>by
  cases k with
  |true=>rw [if_pos rfl] at h1 ⊢;exact ⟨τ,G1,d,rl1,h1,af.back k1⟩
  |false=>rw [if_neg v6] at h1 ⊢;exact ⟨τ,G1,d,rl1,h1,af.back k1⟩
def UF:TS3:=λ_ _ _=>False
def qhy {sts:List Stmt}:B3 X sts UF:=λ_ _ _ _ _ _ ⟨_,_,_,_,h,_⟩=>h.elim
abbrev TG3:=T->St3->Gp->(St3->Gp->Prop)->Prop
abbrev LP:=List T->St3->Gp->(St3->Gp->Prop)->Prop
def lG (K:Frg) (t:TG3):TG:=λv σ H Q=>∃ x τ G q,Rp K H x v/\Rel K τ G σ H/\t x τ G q/\qgL K G H q Q
def lGs (K:Frg) (t:LP):TGs:=λv σ H Q=>∃ x τ G q,Rps K H x v/\Rel K τ G σ H/\t x τ G q/\qgL K G H q Q
abbrev G3 (X:Cx) (e:Expr) (t:TG3):Prop:=PG X e (lG X.K t)
abbrev Gs3 (X:Cx) (es:List Expr) (t:LP):Prop:=PGs X es (lGs X.K t)
def qof {X:Cx} {e:Expr} {t t':TG} (h:PG X e t) (w:∀ v σ H Q,t' v σ H Q->t v σ H Q):PG X e t':=λpins s σ H v u Q I r q=>h pins s σ H v u Q I r (w v σ H Q q)
def qll {X:Cx} {e:List Expr} {t t':TGs} (h:PGs X e t) (w:∀ v σ H Q,t' v σ H Q->t v σ H Q):PGs X e t':=λpins s σ H v u Q I r q=>h pins s σ H v u Q I r (w v σ H Q q)
def gn3 (i:Nat):TG3:=λx τ G q=>q (τ.set i (some x)) G
def qmA {i:Nat} {x:Str} (hN:X.N.Nodup) (hi:X.N[i]?=some x:=by rfl) (hx:Loc X.env.scope x:=by first|exact Or.inl rfl|exact Or.inr rfl) (hf:X.fn x=true\/X.env.scope.names.lookup x=some .local:=by first|exact .inl rfl|exact .inr rfl):G3 X (.Name x pos) (gn3 i):=
 qof (qhr hN hi hx hf) λv σ H Q ⟨x,τ,G,q,rx,rl,h,af⟩=>af _ G h _ H (rl.set i rx) Kp.refl
def qO:LP:=λxs τ G q=>match xs with|[]=>q τ G|_=>False
def qo (t:TG3) (u:LP):LP:=λxs τ G q=>match xs with|x::r=>t x τ G λτ' G'=>u r τ' G' q|[]=>False
def qp2:Gs3 X [] qO:=qll qh8 λv σ H Q ⟨x,τ,G,q,rx,rl,h,af⟩=>by
 cases rx with
 |nil=>exact ⟨rfl,af _ G h _ H rl Kp.refl⟩
 |cons _ _=>exact h.elim
def qnb {tg:TG3} {tgs:LP} (h1:G3 X e tg) (h2:Gs3 X es tgs) (hs:(assignEach (e::es) X.env).map (·.2)=assign e X.env::(assignEach es X.env).map (·.2):=by rfl):Gs3 X (e::es) (qo tg tgs):=qll (qd4 h1 h2 hs) λv σ H Q ⟨x,τ,G,q,rx,rl,h,af⟩=>by
 cases rx with
 |nil=>exact h.elim
 |cons r rs=>exact ⟨_,_,rfl,_,τ,G,_,r,rl,h,λτ' G' h' σ' H' rl' k'=>⟨_,τ',G',q,rs.keep rl.hp k',rl',h',af.back k'⟩⟩
def qK (n:Nat) (t:LP):TG3:=λx τ G q=>match x with|.tup xs=>xs.length=n/\t xs τ G q|_=>False
def qpL {k:Nat} {tgs:LP} {n:Nat} (hc:X.calm=true) (h:Gs3 X es tgs) (hn:(assignEach es X.env).length=n:=by rfl) (hst:(assignEach es X.env).findIdx? (·.1)=none:=by rfl):G3 X (.Tuple es k pos) (qK n tgs):=
 qof (qlG hc h hn hst) λv σ H Q ⟨x,τ,G,q,rx,rl,h,af⟩=>by
  cases x<;>try exact h.elim
  case tup xs=>
   cases rx with
   |tup hs rs=>exact ⟨_,_,rfl,hs,by rw [← rs.length];exact h.1,_,τ,G,q,rs,rl,h.2,af⟩
def YO:T->T->T->Gp->(Gp->Prop)->Prop:=λo i v G q=>match o,i with
 |.ref p,.int k=>(match G p with|some (.lst xs)=>(match ixN xs.length k with|some j=>q (gu G p (.lst (xs.set j v)))|none=>False)|_=>False)
 |_,_=>False
def ze (to ti:TE3):TG3:=λx τ G q=>to τ G λo G1=>ti τ G1 λi G2=>YO o i x G2 λG3=>q τ G3
def qo0 {o i : Expr} {to ti : TE3} (ho : E3 X o to) (hi : E3 X i ti) (ha : ∀ v,assign (.Subscript o i pos) X.env v = (do
      let ov←holding [v] (eval o X.env)
      let iv←holding [v,ov] (eval i X.env)
      standAt pos
      holding [v,ov,iv] (setItem ov iv v)
      release [v,ov,iv] []):=by intro _;rfl):G3 X (.Subscript o i pos) (ze to ti):=
  qof (qeX ho hi qeI ha) λv σ H Q ⟨x,τ,G,q,rx,rl,h,af⟩=>zG rl h λy G1 h1 u H1 ry hr1 k1 rl1=>zG rl1 h1 λz G2 h2 w H2 rz hr2 k2 rl2=>by
    have rx2:=(rx.keep rl.hp k1).keep hr1 k2;have ry2:=ry.keep hr1 k2;unfold YO at h2;split at h2
    · rename_i p k;split at h2
      · rename_i xs e;split at h2
        · rename_i j ej;cases ry2;cases rz;obtain ⟨vs,g1,r1⟩:=hr2.lst e;have kk:Kp G2 H2 (gu G2 p (.lst (xs.set j x))) (upd H2 p (.lst (vs.set j v))):=Kp.wr e;exact ⟨p,vs,k,j,rfl,rfl,g1,by rw [← r1.length];exact ej,af τ _ h2 σ _ (rl2.next (hr2.wr e (r1.set rx2 j)) kk) ((k1.trans k2).trans kk)⟩
        · exact h2.elim
      · exact h2.elim
    · exact h2.elim
def qF (te:TE3) (g:TG3):TS3:=λd τ G=>te τ G λx G1=>g x τ G1 d.nx
def qpW {tg e:Expr} {g:TG3} (he:E3 X e te) (hg:G3 X tg g) (hs:swapsWithSole [tg] e pos.line X.env=pure false:=by rfl) (hw:swappedStores [tg] e X.env=pure none:=by rfl)
  (h1:(assignEach [tg] X.env).map (·.2)=[assign tg X.env]:=by rfl):S3 X (.Assign [tg] e pos) (qF te g):=qdA (qnr he hg hs hw h1) λ_ σ H ⟨τ,G,d,rl,h,af⟩=>
 zG rl h λx G1 h1 v H1 rx hr1 k1 rl1=>⟨x,τ,G1,d.nx,rx,rl1,h1,af.nx.back k1⟩
def qqm (i:Nat) {x:Str} {e:Expr} {pos':Pos} (hN:X.N.Nodup) (he:E3 X e te) (hi:X.N[i]?=some x:=by rfl) (hx:Loc X.env.scope x:=by first|exact Or.inl rfl|exact Or.inr rfl) (hs:swapsWith e (some (.Name x pos')) pos.line X.env=pure false:=by rfl) (hf:X.fn x=true\/X.env.scope.names.lookup x=some .local:=by first|exact .inl rfl|exact .inr rfl) :
  S3 X (.Assign [.Name x pos'] e pos) (qF te (gn3 i)):=qdA (qmS hN hi hx he hs hf) λ_ σ H ⟨τ,G,d,rl,h,af⟩=>
 zG rl h λx G1 h1 v H1 rx hr1 k1 rl1=>af.nx _ G1 h1 _ H1 (rl1.set i rx) k1
def YQ (i j:Nat) (ta:TA3):TS3:=λd τ G=>ta τ G λxs G1=>match xs with|[x,y]=>d.nx ((τ.set i (some x)).set j (some y)) G1|_=>False
def qqd {i j:Nat} {x y:Str} {a b:Expr} {tt:TA3} {px py pt:Pos} {kt k2 pt2} (hc:X.calm=true) (hN:X.N.Nodup) (hi:X.N[i]?=some x) (hj:X.N[j]?=some y) (hij:i≠j)
  (hx:X.env.scope.names.lookup x=some .local) (hy:X.env.scope.names.lookup y=some .local) (ha:A3 X [a,b] tt)
  (hw:swappedStores [.Tuple [.Name x px,.Name y py] kt pt] (.Tuple [a,b] k2 pt2) X.env=pure (some [x,y]):=by rfl)
  (hs:swapsWithSole [.Tuple [.Name x px,.Name y py] kt pt] (.Tuple [a,b] k2 pt2) pos.line X.env=pure false:=by rfl) :
  S3 X (.Assign [.Tuple [.Name x px,.Name y py] kt pt] (.Tuple [a,b] k2 pt2) pos) (YQ i j tt):=qdA (qkm hc hN hi hj hij hx hy ha hw hs) λ_ σ H ⟨τ,G,d,rl,h,af⟩=>
 YM rl h λxs G1 h1 vs H1 rs hr1 k1 rl1=>by
  split at h1
  ·obtain ⟨v,u,rfl,r,r'⟩:=qn7 rs;exact ⟨v,u,rfl,af.nx _ G1 h1 _ H1 ((rl1.set i r).set j r') k1⟩
  ·exact h1.elim
end
abbrev TI3:=St3->Gp->(List T->(Gp->Prop)->Gp->Prop)->Prop
def qiU (K:Frg) (J:It) (items:List T) (stay:Gp->Prop) (G0:Gp) (H0:Hp):Prop:=∀ G H,HR K G H->Kp G0 H0 G H->stay G ->
 (∀ i x,items[i]?=some x->J.go i H)/\(∀ i x v H',items[i]?=some x->J.yld i H v H'->Rp K H' x v/\HR K G H'/\Kp G H G H')/\J.stop items.length H
def lI (K:Frg) (wi:TI3):TI:=λσ H R=>∃ τ G r,Rel K τ G σ H/\wi τ G r/\∀ items stay G',r items stay G'->∀ J H',HR K G' H'->Kp G H G' H'->qiU K J items stay G' H'->R J H'
abbrev I3 (X:Cx) (tg iter:Expr) (wi:TI3):Prop:=PI X tg iter (lI X.K wi)
def qmQ {X:Cx} {tg e:Expr} {t t':TI} (h:PI X tg e t) (w:∀ σ H R,t' σ H R->t σ H R):PI X tg e t':=λpins s σ H R I q=>h pins s σ H R I (w σ H R q)
section
variable {X:Cx} {a b c e l tg:Expr} {es:List Expr} {ta tb tc te:TE3} {t:TA3} {pos:Pos}
def qmB {tl:TE} (hl:PE X l tl):PI X tg l (λσ H R=>tl σ H λx H1=>∃ a,x=.ref a/\(((∃ xs,SqL X.K H1 a xs)/\R (Itl X.K a) H1)\/((∃ xs,SqT X.K H1 a xs)/\R (Itt X.K a) H1))):=by
 intro pins s σ H R I h;refine thn (hl pins s σ H _ I h) λv s1 ⟨x,H1,I1,r1,q1⟩=>?_;obtain ⟨a,e,⟨⟨xs,hq⟩,q⟩|⟨⟨xs,hq⟩,q⟩⟩:=q1
 ·subst e;cases r1;obtain ⟨its,rv,p,hz⟩:=I1.list hq;refine wpAny_pyIter_list p.isList ?_;refine ⟨s1.heap.objs.size,[s1.heap.objs.size],_,_,H1,rfl,I1.kept (t':=s1.toks) λb o e=>v0 _ e,qcZ a _,⟨_,v4 _ rfl,rfl,rfl⟩,λb hb=>?_,q⟩;have e:b=s1.heap.objs.size:=by simpa using hb
  subst e;exact I1.fpOk (u7 _) (I1.hok.fresh (u7 _))
 ·subst e;cases r1;obtain ⟨its,rv,p,hz⟩:=I1.tuple hq;refine wpAny_pyIter_tuple (show s1.heap.IsTuple a its.toArray from p) ?_;refine ⟨s1.heap.objs.size,[s1.heap.objs.size],_,_,H1,rfl,I1.kept (t':=s1.toks) λb o e=>v0 _ e,qas a _,⟨_,v4 _ rfl,rfl,rfl⟩,λb hb=>?_,q⟩;have e:b=s1.heap.objs.size:=by simpa using hb
  subst e;exact I1.fpOk (u7 _) (I1.hok.fresh (u7 _))
def VI (tl:TE3):TI3:=λτ G r=>tl τ G λx G1=>match x with
 |.tup xs=>r xs (λ_=>True) G1
 |.ref p=>(match getL G1 p with|some xs=>r xs (λG=>getL G p=some xs) G1|none=>False)
 |_=>False
def qj1 {K:Frg} {p:Addr} {xs:List T} {G0:Gp} {H0:Hp}:qiU K (Itl K p) xs (λG=>getL G p=some xs) G0 H0:=by
 intro G H hr _ hs;obtain ⟨vs,sq,rs⟩:=jd hr hs;refine ⟨λi x hi=>?_,λi x v H' hi y=>?_,⟨vs,sq,by rw [rs.length];exact u7 _⟩⟩
 ·obtain ⟨v,hv,_⟩:=rs.get hi;exact ⟨vs,v,sq,hv⟩
 ·obtain ⟨e,y⟩:=y;subst e;obtain ⟨w,hw,rw'⟩:=rs.get hi;have e2:=(y vs sq).symm.trans hw;cases e2;exact ⟨rw',hr,Kp.refl⟩
def qla {K:Frg} {p:Addr} {xs:List T} {vs:List V} {G0:Gp} {H0:Hp} (hr0:HR K G0 H0) (sq0:SqT K H0 p vs) (rs0:Rps K H0 xs vs):qiU K (Itt K p) xs (λ_=>True) G0 H0:=by
 intro G H hr k _;have sq:=TV hr0 k sq0;have rs:=rs0.keep hr0 k;refine ⟨λi x hi=>?_,λi x v H' hi y=>?_,⟨vs,sq,by rw [rs.length];exact u7 _⟩⟩
 ·obtain ⟨v,hv,_⟩:=rs.get hi;exact ⟨vs,v,sq,hv⟩
 ·obtain ⟨e,y⟩:=y;subst e;obtain ⟨w,hw,rw'⟩:=rs.get hi;have e2:=(y vs sq).symm.trans hw;cases e2;exact ⟨rw',hr,Kp.refl⟩
def qoO (hl:E3 X l te):I3 X tg l (VI te):=qmQ (qmB hl) λσ H R ⟨τ,G,r,rl,h,af⟩=>zG rl h λx G1 h1 v H1 rx hr1 k1 rl1=>by
 cases x<;>try exact h1.elim
 case tup xs=>
  cases rx with
  |tup hs rs=>exact ⟨_,rfl,.inr ⟨⟨_,hs⟩,af _ _ G1 h1 _ H1 hr1 k1 (qla hr1 hs rs)⟩⟩
 case ref p=>
  simp only at h1;split at h1
  ·rename_i xs e0;cases rx;obtain ⟨vs,hs,rs⟩:=jd hr1 e0;exact ⟨_,rfl,.inl ⟨⟨_,hs⟩,af _ _ G1 h1 _ H1 hr1 k1 qj1⟩⟩
  ·exact h1.elim
def qaB (lo:Int) (n:Nat):List T:=(List.range n).map λ(i:Nat)=>T.int (lo+(i:Int))
def qfE {K:Frg} {lo:Int} {n:Nat} {G0:Gp} {H0:Hp}:qiU K (Itr lo n) (qaB lo n) (λ_=>True) G0 H0:=by
 intro G H hr k _;have hl:(qaB lo n).length=n:=by simp [qaB]
 refine ⟨λi x hi=>?_,λi x v H' hi y=>?_,(show n<=(qaB lo n).length by rw [hl];exact u7 n)⟩
 ·have:=(zb0 hi).1;rw [hl] at this;exact this
 ·obtain ⟨e,y⟩:=y;subst e;subst y;have h1:=(zb0 hi).1;rw [hl] at h1;unfold qaB at hi;rw [getElem?_map,List.getElem?_range h1] at hi;have e:T.int (lo+(i:Int))=x:=by simpa using hi
  subst e;exact ⟨.int _,hr,Kp.refl⟩
def jf (ta:TA3):TI3:=λτ G r=>ta τ G λxs G1=>match xs with
 |[.int j]=>(-(2 ^ 62)<=j/\j<2 ^ 62)/\r (qaB 0 j.toNat) (λ_=>True) G1
 |[.int i,.int j]=>(-(2 ^ 62)<=i/\i<2 ^ 62/\-(2 ^ 62)<=j/\j<2 ^ 62)/\r (qaB i (j-i).toNat) (λ_=>True) G1
 |_=>False
def qdO {p:Pos} (hg:Gl X "range") (hm:X.mg "range" = none) (ha:A3 X [a] t) (hs:starEach [a] X.env=[(false,eval a X.env)]:=by rfl) (h1:∀ τ G q,t τ G q->t τ G λxs G=>q xs G/\xs.length=1):I3 X tg (.Call (.Name "range" p) [a] [] pos) (jf t):=
 qmQ (qbe hg hm ha hs) λσ H R ⟨τ,G,r,rl,h,af⟩=>YM rl (h1 _ _ _ h) λxs G1 h1 vs H1 rs hr1 k1 rl1=>by
  obtain ⟨h1,hl⟩:=h1;simp only at h1;split at h1
  ·obtain ⟨v,rfl,r1⟩:=LR rs;cases r1;exact ⟨_,rfl,h1.1.1,h1.1.2,af _ _ G1 h1.2 _ H1 hr1 k1 qfE⟩
  ·simp at hl
  ·exact h1.elim
def qed {p:Pos} (hg:Gl X "range") (hm:X.mg "range" = none) (ha:A3 X [a,b] t) (hs:starEach [a,b] X.env=[(false,eval a X.env),(false,eval b X.env)]:=by rfl) (hs2:starEach [b] X.env=[(false,eval b X.env)]:=by rfl) (h1:∀ τ G q,t τ G q->t τ G λxs G=>q xs G/\xs.length=2):I3 X tg (.Call (.Name "range" p) [a,b] [] pos) (jf t):=
 qmQ (qcn hg hm ha hs hs2) λσ H R ⟨τ,G,r,rl,h,af⟩=>YM rl (h1 _ _ _ h) λxs G1 h1 vs H1 rs hr1 k1 rl1=>by
  obtain ⟨h1,hl⟩:=h1;simp only at h1;split at h1
  ·simp at hl
  ·obtain ⟨v,u,rfl,r1,r2⟩:=qn7 rs;cases r1;cases r2;exact ⟨_,_,rfl,h1.1,af _ _ G1 h1.2 _ H1 hr1 k1 qfE⟩
  ·exact h1.elim
def CO (stay:Gp->Prop) (g:TG3) (tb:TS3) (d:Ends3):List T->St3->Gp->Prop
 |[],τ,G=>stay G/\d.nx τ G
 |x::r,τ,G=>stay G/\g x τ G λτ2 G2=>tb { d with nx:=CO stay g tb d r,ct:=CO stay g tb d r,bk:=d.nx } τ2 G2
def WU (wi:TI3) (g:TG3) (tb:TS3):TS3:=λd τ G=>wi τ G λitems stay G1=>CO stay g tb d items τ G1
def qom {iter:Expr} {body:List Stmt} {wi:TI3} {g:TG3} {tb:TS3} (hp:PassesOwn (model X.prog X.w) X.A X.env X.xe) (hc:X.calm=true) (hi:I3 X tg iter wi) (hg:G3 X tg g) (hb:B3 X body tb)
  (hs:∀ x,foldedSetIterable iter X.env x=pure x:=by intro _;rfl):S3 X (.For tg iter body [] pos) (WU wi g tb):=
 qdA (qlr hp hc hi hg hb hs) λD σ H ⟨τ,G,d,rl,h,af⟩=>by
  refine ⟨τ,G,_,rl,h,λitems stay G1 h1 J H1 hr1 k1 ok=>?_⟩;refine ⟨λi m σ' H'=>m=items.length-i/\i<=items.length/\∃ τ' G',Rel X.K τ' G' σ' H'/\Kp G1 H1 G' H'/\CO stay g tb d (items.drop i) τ' G',⟨_,rfl,Nat.zero_le _,τ,G1,rl.next hr1 k1,Kp.refl,by simpa using h1⟩,?_⟩;rintro i m σ' H' ⟨rfl,hi,τ',G',rl',k',h'⟩;by_cases hlt:i<items.length
  ·rw [List.drop_eq_getElem_cons hlt] at h';obtain ⟨hst,h'⟩:=h';obtain ⟨go,yld,_⟩:=ok G' H' rl'.hp k' hst;have hx:items[i]?=some items[i]:=v8 hlt;refine .inr ⟨go i _ hx,λσ2 H2=>∃ τ2 G2,Rel X.K τ2 G2 σ2 H2/\Kp G1 H1 G2 H2/\CO stay g tb d (items.drop (i+1)) τ2 G2,λσ2 H2 h2=>⟨_,by omega,rfl,hlt,h2⟩,λv H2 y=>?_⟩;obtain ⟨rv,hr2,k2⟩:=yld i _ v H2 hx y;have k3:Kp G1 H1 G' H2:=k'.trans k2;refine ⟨_,τ',G',_,rv,rl'.next hr2 k2,h',λτ3 G3 h3 σ3 H3 rl3 k4=>?_⟩;have k5:Kp G H G3 H3:=(k1.trans k3).trans k4;refine ⟨τ3,G3,_,rl3,h3,⟨λτ4 G4 h4 σ4 H4 rl4 k6=>⟨τ4,G4,rl4,(k3.trans k4).trans k6,h4⟩,af.rt.back k5,af.nx.back k5,λτ4 G4 h4 σ4 H4 rl4 k6=>⟨τ4,G4,rl4,(k3.trans k4).trans k6,h4⟩⟩⟩
  ·have e:i=items.length:=by omega
   subst e;rw [List.drop_length] at h';obtain ⟨_,_,stop⟩:=ok G' H' rl'.hp k' h'.1;exact .inl ⟨stop,af.nx τ' G' h'.2 σ' H' rl' (k1.trans k')⟩
def LH {stay:Gp->Prop} {g:TG3} {tb:TS3} {d:Ends3} (items:List T) (Pv:Nat->St3->Gp->Prop) {τ:St3} {G:Gp} (h0:Pv 0 τ G) (hst:∀ i τ G,i<=items.length->Pv i τ G->stay G)
  (hs:∀ i x τ G (nx:St3->Gp->Prop),items[i]?=some x->Pv i τ G->(∀ τ G,Pv (i+1) τ G->nx τ G)->g x τ G λτ2 G2=>tb { d with nx:=nx,ct:=nx,bk:=d.nx } τ2 G2)
  (hd:∀ τ G,Pv items.length τ G->d.nx τ G):CO stay g tb d items τ G:=by
 have key:∀ (r:List T) (i:Nat) τ G,items.drop i=r->i<=items.length->Pv i τ G->CO stay g tb d r τ G:=by
  intro r;induction r with
  |nil=>
   intro i τ G e hi p;have:i=items.length:=by have:=congrArg List.length e;simp at this;omega
   subst this;exact ⟨hst _ τ G hi p,hd τ G p⟩
  |cons x r ih=>
   intro i τ G e hi p;have hl:i<items.length:=by
    apply Classical.byContradiction;intro z;rw [List.drop_eq_nil_of_le (by omega)] at e;cases e
   have e':=List.drop_eq_getElem_cons hl;rw [e] at e';injection e' with e1 e2;refine ⟨hst i τ G hi p,hs i x τ G _ (by rw [v8 hl,e1]) p λτ2 G2 p2=>ih (i+1) τ2 G2 e2.symm hl p2⟩
 exact key items 0 τ G (by simp) (Nat.zero_le _) h0
def RK (c:TT3) (tb:TS3):TS3:=λd τ G=>∃ W:Nat->St3->Gp->Prop,(∃ m,W m τ G)/\∀ m τ G,W m τ G ->
 c τ G λb G1=>if b=true then ∃ N:St3->Gp->Prop,(∀ τ' G',N τ' G'->∃ m',m'<m/\W m' τ' G')/\tb { d with nx:=N,ct:=N,bk:=d.nx } τ G1 else d.nx τ G1
def qic {c:Expr} {body:List Stmt} {tc:TT3} {tb:TS3} (hp:PassesOwn (model X.prog X.w) X.A X.env X.xe) (hc:C3 X c tc) (hb:B3 X body tb):S3 X (.While c body [] pos) (RK tc tb):=
 qdA (qd2 hp hc hb) λD σ H ⟨τ,G,d,rl,⟨W,⟨m0,w0⟩,turn⟩,af⟩=>by
  refine ⟨λm σ' H'=>∃ τ' G',Rel X.K τ' G' σ' H'/\Kp G H G' H'/\W m τ' G',⟨m0,τ,G,rl,Kp.refl,w0⟩,?_⟩;rintro m σ' H' ⟨τ',G',rl',k',w'⟩;refine LL rl' (turn m τ' G' w') λb G1 h1 H1 hr1 k1 rl1=>?_;cases b with
  |true=>
   rw [if_pos rfl] at h1 ⊢;obtain ⟨N,hN,h1⟩:=h1;refine ⟨λσ2 H2=>∃ τ2 G2,Rel X.K τ2 G2 σ2 H2/\Kp G H G2 H2/\N τ2 G2,λσ2 H2 ⟨τ2,G2,r2,k2,n2⟩=>?_,τ',G1,_,rl1,h1,⟨λτ2 G2 h2 σ2 H2 r2 k2=>⟨τ2,G2,r2,(k'.trans k1).trans k2,h2⟩,af.rt.back (k'.trans k1),af.nx.back (k'.trans k1),λτ2 G2 h2 σ2 H2 r2 k2=>⟨τ2,G2,r2,(k'.trans k1).trans k2,h2⟩⟩⟩;obtain ⟨m',hm,w2⟩:=hN τ2 G2 n2;exact ⟨m',hm,τ2,G2,r2,k2,w2⟩
  |false=>
   rw [if_neg v6] at h1 ⊢;exact af.nx τ' G1 h1 σ' H1 rl1 (k'.trans k1)
abbrev Sp3:=List T->Gp->Q3->Prop
def lSp (K:Frg) (sp:Sp3):Sp:=λvs H Q _=>∃ ts G q,HR K G H/\Rps K H ts vs/\sp ts G q/\Aft K G H q Q
def Fn3 (P:Program) (w:World) (K:Frg) (mg:Str->Option Value) (base:Heap) (k:Nat) (x:Str) (sp:Sp3):Prop:=
 ∃ f fd ps,FnOk P w K mg base CX0 k f fd ps (lSp K sp)/\CS K fd ps []/\PySem.W.keepIn K (.ref f)=true/\mg x=some (.ref f)
theorem Fn3.mono {P:Program} {w:World} {K:Frg} {mg:Str->Option Value} {base:Heap} {j k:Nat} {x:Str} {sp:Sp3} (F:Fn3 P w K mg base j x sp) (h:j<=k):Fn3 P w K mg base k x sp:=
 let ⟨f,fd,ps,a,b,c,d⟩:=F;⟨f,fd,ps,a.mono h,b,c,d⟩
theorem Fn3.imp {P:Program} {w:World} {K:Frg} {mg:Str->Option Value} {base:Heap} {k:Nat} {x:Str} {sp sp':Sp3} (F:Fn3 P w K mg base k x sp) (h:∀ ts G q,sp' ts G q->sp ts G q):Fn3 P w K mg base k x sp':=
 let ⟨f,fd,ps,a,b,c,d⟩:=F;⟨f,fd,ps,a.imp λvs H Q E ⟨ts,G,q,h1,h2,h3,h4⟩=>⟨ts,G,q,h1,h2,h _ _ _ h3,h4⟩,b,c,d⟩
def ql8 {k:Nat} {x:Str} {p:Pos} {sp:Sp3} (F:Fn3 X.prog X.w X.K X.mg X.base k x sp) (hr:Room k X.A) (hg:Gl X x) (ha:A3 X (e::es) t) (hdb:(x==("__debug__" : Str))=false:=by decide)
  (he:starEach (e::es) X.env=(false,eval e X.env)::starEach es X.env:=by rfl) (hpl:(backTo pos (starEach es X.env)).any (·.1)=false:=by rfl):E3 X (.Call (.Name x p) (e::es) [] pos) (cb3 sp t):=by
 obtain ⟨f,fd,ps,F,b,kp,m⟩:=F;refine W0 (qhH F hr hg m kp b .nil qok ha hdb he hpl) λσ H Q ⟨τ,G,q,rl,h,af⟩=>YM rl h λxs G1 h1 vs H1 rs hr1 k1 rl1=>?_;rw [List.append_nil];exact ⟨xs,G1,q,hr1,rs,h1,af.back k1⟩
def qq (N:List Str) (ts:List T):St3:=ts.map some++List.replicate (N.length-ts.length) none
def LC {K:Frg} {N:List Str} {G:Gp} {H:Hp} {ts:List T} {vs:List V} (hr:HR K G H) (rs:Rps K H ts vs):Rel K (qq N ts) G (L2.X5 N vs) H:=by
 refine ⟨hr,by simp [qq,L2.X5,rs.length],λi t e=>?_⟩;unfold qq at e;by_cases hi:i<ts.length
 ·rw [List.getElem?_append_left (by simpa using hi),getElem?_map] at e;cases q:ts[i]? with
  |none=>rw [q] at e;cases e
  |some z=>
   rw [q] at e;have e':z=t:=by simpa using e
   subst e';obtain ⟨v,hv,r⟩:=rs.get q;refine ⟨v,?_,r⟩;unfold L2.X5;rw [List.getElem?_append_left (by rw [length_map,← rs.length];exact hi),getElem?_map,hv];rfl
 ·rw [List.getElem?_append_right (by simpa using hi),List.getElem?_replicate] at e;split at e<;>cases e
def qjg {P:Program} {w:World} {K:Frg} {mg:Str->Option Value} {base:Heap} {x qual:Str} {st:Stmt} {f:Addr} {fd:FuncData} {N ps:List Str} {k:Nat} {sp:Sp3} {t3:TS3} (F:Fun K x qual st f fd) (S:FnScope N ps (ql st)) (bd:CS K fd ps []) (hm:mg x=some (.ref f))
  (body:∀ (cdv:Value) (A:Around) (outer:List Env) (s:Shared) (H:Hp) (E:XK),Room k (A.deeper (envOfC qual (ql st) s.heap.objs.size f cdv)) ->
   B3 (qcO CX0 P w K mg base N qual (ql st) f cdv A outer s H E).nox (zW st) t3)
  (read:∀ ts G q,sp ts G q->ts.length=ps.length/\t3 { nx:=λ_ G'=>q .non G',rt:=q } (qq N ts) G):Fn3 P w K mg base (k+1) x sp:=by
 refine ⟨f,fd,ps,F.ok S (λvs H Q E ⟨ts,G,q,h1,h2,h3,h4⟩=>by rw [← h2.length];exact (read ts G q h3).1) λcdv A outer s H vs Q E hr ⟨ts,G,q,h1,h2,h3,h4⟩=>?_,bd,F.kp,hm⟩;refine ⟨_,body cdv A outer s H E hr,qq N ts,G,_,LC h1 h2,(read ts G q h3).2,⟨λτ' G' h' σ' H' rl' k'=>h4 _ G' h' _ H' .non rl'.hp k',h4,λ_ _ z=>z.elim,λ_ _ z=>z.elim⟩⟩
def qiV (xs:List T):Option Bool:=match xs with
 |[]=>some true
 |.bl k::r=>(match qiV r with|some j=>some (k&&j)|none=>none)
 |_=>none
def qqN (xs:List T):Option Bool:=match xs with
 |[]=>some false
 |.bl k::r=>(match qqN r with|some j=>some (k||j)|none=>none)
 |_=>none
def qdF {P:Program} {w:World} {A:Around} {its:List Value} {ks:List Bool} (h:its=ks.map Value.bool):TruthOf P w A (λi v=>its.toArray[i]?=some v) (λi=>ks.getD i true):=by
 intro i v s Q E hp hq;subst h;have hp':ks[i]?.map Value.bool=some v:=by simpa using hp
 cases e:ks[i]? with
 |none=>rw [e] at hp';cases hp'
 |some k=>
  rw [e] at hp';cases hp';have:ks.getD i true=k:=by rw [getD_eq_getElem?_getD,e];rfl
  have hq:Q (ks.getD i true) s:=hq;rw [this] at hq;exact wpAny_truthy_bool hq
theorem RC:∀ {ks:List Bool} {us:List Value},zo (ks.map V.bl) us->us=ks.map Value.bool
 |[],_,r=>by cases r;rfl
 |k::ks,_,r=>by
  cases r with
  |cons a b=>rw [show _=Value.bool k from a,RC b];rfl
def qdj (ks:List Bool):((List.range ks.length).all λi=>ks.getD i true)=ks.all id:=by
 induction ks with
 |nil=>rfl
 |cons k ks ih=>
  rw [length_cons,List.range_succ_eq_map,List.all_cons,List.all_map,List.all_cons];congr 1
def CM (hc:X.calm=true):YK X (.builtin "all") (λxs H Q=>∃ (p:Addr) (ks:List Bool),xs=[.ref p]/\SqL X.K H p (ks.map V.bl)/\Q (.bl (ks.all id)) H):=by
 intro pins s σ H xs us Q I r h;obtain ⟨p,ks,rfl,hq,q⟩:=h;obtain ⟨u,rfl,rp⟩:=XM r;cases (show u=Value.ref p from rp);obtain ⟨its,rv,pl,hz⟩:=I.list hq;have hb:=RC rv;have hlen:its.length=ks.length:=by rw [hb];simp
 have hp:p<s.heap.objs.size:=by obtain ⟨o,n,e,_⟩:=pl;exact v5 e
 refine call_all_walk (wpAny_pyIter_list pl.isList ⟨s.heap.objs.size,_,_,_,_,_,λi=>ks.getD i true,rfl,Walks.list (A:=X.A.in1) (show X.A.in1.handled=none from I.ok.hd hc) s.heap.objs.size p (za3 hp) its.toArray,⟨⟨_,v4 _ rfl,rfl,rfl⟩,?_⟩,qdF hb,λh' tk hk=>?_⟩)
 ·obtain ⟨o,n,e,c,_,d⟩:=pl;exact ⟨o,v0 _ e,c,n,d⟩
 ·refine ⟨.bl _,H,?_,rfl,by rw [size_toArray,hlen,qdj];exact q⟩;exact I.kept (h':=h') (t':=tk) λb o e=>hk b o (by simp;exact za3 (v5 e)) (v0 _ e)
end
def CT (env:Env):List (Str×NameKind)->List (Str×Addr)->List (Str×Addr)
 |[],cs=>cs
 | (n,k)::r,cs=>if k=.free then CT env r ((n,(env.cells.lookup n).getD 0)::cs) else CT env r cs
def YD {scope:Scope} {env:Env} (h:∀ y∈scope.names,y.2=.free->∃ c,env.cells.lookup y.1=some c):closureFor scope env=pure (CT env scope.names []):=by
 have key:∀ (l:List (Str×NameKind)) (cs:List (Str×Addr)),(∀ y∈l,y.2=.free->∃ c,env.cells.lookup y.1=some c) ->
   (forIn l cs λ(x:Str×NameKind) (r:List (Str×Addr))=>if (x.2==NameKind.free)=true then (do let a←cellOf env x.1;pure (ForInStep.yield ((x.1,a)::r))) else pure (ForInStep.yield r))=(pure (CT env l cs):Sem _):=by
  intro l;induction l with
  |nil=>intro cs _;rfl
  |cons y r ih=>
   intro cs hl;obtain ⟨n,k⟩:=y;rw [List.forIn_cons];by_cases hk:k=.free
   ·subst hk;obtain ⟨c,hc⟩:=hl (n,.free) za5 rfl;have e:cellOf env n=pure c:=by unfold cellOf;rw [show List.lookup n env.cells=some c from hc]
    simp only [beq_self_eq_true,if_true];rw [e,pure_bind,pure_bind];show forIn r ((n,c)::cs) _=_;rw [ih _ λz hz=>hl z (u8 _ hz)];show _=(pure (if NameKind.free=NameKind.free then CT env r ((n,(env.cells.lookup n).getD 0)::cs) else CT env r cs):Sem _);rw [if_pos rfl,show List.lookup n env.cells=some c from hc];rfl
   ·have hb:(k==NameKind.free)=false:=by cases k<;>first|rfl|exact absurd rfl hk
    simp only [hb,Bool.false_eq_true,if_false];rw [pure_bind];show forIn r cs _=_;rw [ih _ λz hz=>hl z (u8 _ hz)];show _=(pure (if k=NameKind.free then CT env r ((n,(env.cells.lookup n).getD 0)::cs) else CT env r cs):Sem _);rw [if_neg hk]
 have:=key scope.names [] h;unfold closureFor;refine Eq.trans ?_ this;exact bind_pure (m:=Sem) _
theorem UP {env:Env}:∀ (l:List (Str×NameKind)) (cs:List (Str×Addr)) (x:Str) (c:Addr),(∀ y∈l,y.2=.free->∃ c,env.cells.lookup y.1=some c) ->
  (∀ x c,cs.lookup x=some c->env.cells.lookup x=some c)->(CT env l cs).lookup x=some c->env.cells.lookup x=some c
 |[],_,_,_,_,h,e=>h _ _ e
 | (n,k)::r,cs,x,c,hl,h,e=>by
  unfold CT at e;split at e
  ·rename_i hk;refine UP r _ x c (λy hy=>hl y (u8 _ hy)) (λx c e=>?_) e;rw [List.lookup_cons] at e;split at e
   ·rename_i hx;have hx':x=n:=by simpa using hx
    subst hx';obtain ⟨d,hd⟩:=hl (x,k) za5 hk;have hd:List.lookup x env.cells=some d:=hd;rw [hd] at e ⊢;exact e
   ·exact h _ _ e
  ·exact UP r cs x c (λy hy=>hl y (u8 _ hy)) h e
theorem W7 {env:Env}:∀ (l:List (Str×NameKind)) (cs:List (Str×Addr)) (x:Str),((x,NameKind.free)∈l\/∃ c,cs.lookup x=some c)->∃ c,(CT env l cs).lookup x=some c
 |[],_,_,h=>by
  rcases h with h|h
  ·simp at h
  ·exact h
 | (n,k)::r,cs,x,h=>by
  unfold CT;have put:∀ d:Addr,(x=n\/∃ c,cs.lookup x=some c)->∃ c,((n,d)::cs).lookup x=some c:=λd z=>by
   rw [List.lookup_cons];cases hx:x==n with
   |true=>exact ⟨d,rfl⟩
   |false=>
    rcases z with z|z
    ·rw [z] at hx;simp at hx
    ·exact z
  split
  ·rename_i hk;refine W7 r _ x ?_;rcases h with h|h
   ·rcases mem_cons.mp h with e|e
    ·cases e;exact .inr (put _ (.inl rfl))
    ·exact .inl e
   ·exact .inr (put _ (.inr h))
  ·rename_i hk;refine W7 r _ x ?_;rcases h with h|h
   ·rcases mem_cons.mp h with e|e
    ·cases e;exact absurd rfl hk
    ·exact .inl e
   ·exact .inr h
theorem SK {env:Env}:∀ (l:List (Str×NameKind)) (cs:List (Str×Addr)) (x:Str) (c:Addr),(CT env l cs).lookup x=some c->(x,NameKind.free)∈l\/cs.lookup x=some c
 |[],_,_,_,e=>.inr e
 | (n,k)::r,cs,x,c,e=>by
  unfold CT at e;split at e
  ·rename_i hk;rcases SK r _ x c e with z|z
   ·exact .inl (u8 _ z)
   ·rw [List.lookup_cons] at z;split at z
    ·rename_i hx;have hx':x=n:=by simpa using hx
     subst hx';subst hk;exact .inl za5
    ·exact .inr z
  ·rcases SK r cs x c e with z|z
   ·exact .inl (u8 _ z)
   ·exact .inr z
theorem DQ {α:Type}:∀ (xs ys:List (Str×α)) (x:Str),(xs++ys).lookup x=(match xs.lookup x with|some c=>some c|none=>ys.lookup x)
 |[],ys,x=>rfl
 | (n,c)::xs,ys,x=>by
  rw [cons_append,List.lookup_cons,List.lookup_cons];cases x==n with
  |true=>rfl
  |false=>exact DQ xs ys x
theorem jE:∀ (l:List (Str×NameKind)) {n:Nat} {acc:List (Str×Addr)},cellsFrom n l acc=cellsFrom n l []++acc
 |[],_,_=>rfl
 | (x,k)::r,n,acc=>by
  unfold cellsFrom;split
  ·rw [jE r (acc:=(x,n)::acc),jE r (acc:=[(x,n)]),List.append_assoc];rfl
  ·exact jE r
theorem J0:∀ (l:List (Str×NameKind)) (n:Nat) (acc:List (Str×Addr)) (x:Str) (c:Addr),(x,c)∈cellsFrom n l acc->(x,NameKind.cell)∈l\/(x,c)∈acc
 |[],_,_,_,_,h=>.inr h
 | (y,k)::r,n,acc,x,c,h=>by
  unfold cellsFrom at h;split at h
  ·rename_i hk;have hk:k=.cell:=by simpa using hk
   rcases J0 r _ _ x c h with z|z
   ·exact .inl (u8 _ z)
   ·rcases mem_cons.mp z with e|e
    ·cases e;subst hk;exact .inl za5
    ·exact .inr e
  ·rcases J0 r _ _ x c h with z|z
   ·exact .inl (u8 _ z)
   ·exact .inr z
theorem QS:∀ (l:List (Str×NameKind)) (n:Nat) (acc:List (Str×Addr)) (x:Str),((x,NameKind.cell)∈l\/∃ c,acc.lookup x=some c)->∃ c,(cellsFrom n l acc).lookup x=some c
 |[],_,_,_,h=>by
  rcases h with h|h
  ·simp at h
  ·exact h
 | (y,k)::r,n,acc,x,h=>by
  unfold cellsFrom;have put:(x=y\/∃ c,acc.lookup x=some c)->∃ c,((y,n)::acc).lookup x=some c:=λz=>by
   rw [List.lookup_cons];cases hx:x==y with
   |true=>exact ⟨n,rfl⟩
   |false=>
    rcases z with z|z
    ·rw [z] at hx;simp at hx
    ·exact z
  split
  ·refine QS r _ _ x ?_;rcases h with h|h
   ·rcases mem_cons.mp h with e|e
    ·cases e;exact .inr (put (.inl rfl))
    ·exact .inl e
   ·exact .inr (put (.inr h))
  ·rename_i hk;refine QS r _ _ x ?_;rcases h with h|h
   ·rcases mem_cons.mp h with e|e
    ·cases e;exact absurd rfl hk
    ·exact .inl e
   ·exact .inr h
def QG {M:Model} {A:Around} {E:Value->Shared->Prop} {s:Shared} {scope:Scope} {globals:Addr} {cl:List (Str×Addr)} {qual:Str} {env:Env} {Q:Env->Shared->Prop}
  (hQ:∀ h₁:Heap,h₁.Ns s.heap.objs.size (λ_=>none)->(∀ b o,s.heap.get? b=some o->h₁.get? b=some o)->CellsOk h₁ (s.heap.objs.size+1) (cellsFrom (s.heap.objs.size+1) scope.names [])->Q (newEnv scope s.heap.objs.size globals (cellsFrom (s.heap.objs.size+1) scope.names cl) qual none .none (some env) builtinsNs) { s with heap:=h₁ }) :
  wpAny M A (newFunctionEnv scope globals cl [] qual none .none (some env)) Q E s:=by
 simp only [newFunctionEnv,Option.isSome_some,if_true];refine y6 (wpAny_alloc ?_);refine y6 (wpAny_layCells _ (λname kind cells=>by cases hkc:kind==NameKind.cell<;>simp [hkc]) _ _ _ _ ?_);have ok:=cellsFrom_ok scope.names (s.heap.push { cls:=.type "dict",data:=.dict #[] }) (s.heap.objs.size+1) [] ⟨λ_ _ hm=>(nomatch hm),List.Pairwise.nil⟩ (by rw [Heap.size_push];exact u7 _);rw [Heap.size_push] at ok;rw [show ({ s with heap:=s.heap.push { cls:=.type "dict",data:=.dict #[] } }:Shared).heap.objs.size=s.heap.objs.size+1 from Heap.size_push ..];rw [List.forIn_nil];refine y6 (y8 (y8 ?_));exact hQ _ ((Heap.Ns.new s.heap (.type "dict")).keeps (pushCells_keeps _ _)) (λb o e=>pushCells_keeps _ _ b o (v0 _ e)) ok
def qr (X:Cx) (N':List Str) (scope:Scope) (s:Shared) (H:Hp) (fp:List Addr):Cx where
 prog:=X.prog
 w:=X.w
 K:=X.K
 mg:=X.mg
 base:=X.base
 A:=X.A
 N:=N'
 s₀:=s
 H₀:=H
 env:=compEnvC scope (cellsFrom (s.heap.objs.size+1) scope.names (CT X.env scope.names [])) s.heap.objs.size X.env
 outer:=X.stack
 stack:=X.stack
 ex:=fp
 fn:=λx=>scope.names.lookup x==some .cell
 calm:=true
 pn:=[]
 xe:=λ_ _=>False
def qaS (outer inner:Scope):Bool:=(inner.kind==.function)&&inner.names.all λy=>
 (y.2 != .cell||inner.names.lookup y.1==some .cell)&&(y.2 != .local||inner.names.lookup y.1==some .local)&&(y.2 != .free||(inner.names.lookup y.1==some .free&&(outer.names.lookup y.1==some .cell||outer.names.lookup y.1==some .free)))
def cap {α:Type} (m:List (Option Nat)) (σ:List (Option α)):List (Option α):=m.map λo=>match o with|some j=>(σ[j]?).join|none=>none
def UW (N N':List Str) (scope:Scope) (m:List (Option Nat)):Bool:=(m.length==N'.length)&&(m.zip N').all λp=>match p.1 with
 |none=>true
 |some j=>N[j]?==some p.2&&scope.names.lookup p.2==some .free
def qbN {α:Type} {m:List (Option Nat)} {σ:List (Option α)} {i:Nat} {v:α} (h:(cap m σ)[i]?=some (some v)):∃ j,m[i]?=some (some j)/\σ[j]?=some (some v):=by
 unfold cap at h;rw [getElem?_map] at h;cases e:m[i]? with
 |none=>rw [e] at h;cases h
 |some o=>
  rw [e] at h;cases o with
  |none=>cases h
  |some j=>
   refine ⟨j,rfl,?_⟩;have h':(σ[j]?).join=some v:=by simpa using h
   cases q:σ[j]? with
   |none=>rw [q] at h';cases h'
   |some z=>rw [q] at h';exact congrArg some h'
def qbm {N N':List Str} {scope:Scope} {m:List (Option Nat)} (h:UW N N' scope m=true) {i j:Nat} {x:Str} (e:m[i]?=some (some j)) (hx:N'[i]?=some x):N[j]?=some x/\scope.names.lookup x=some .free:=by
 unfold UW at h;rw [Bool.and_eq_true] at h;have hm:(some j,x)∈m.zip N':=za1 (i:=i) (List.getElem?_zip_eq_some.mpr ⟨e,hx⟩);have:=List.all_eq_true.mp h.2 _ hm;simp only [Bool.and_eq_true,beq_iff_eq] at this;exact this
def qiA {N N':List Str} {scope:Scope} {m:List (Option Nat)} {α:Type} (σ:List (Option α)) (h:UW N N' scope m=true):(cap m σ).length=N'.length:=by
 unfold UW at h;rw [Bool.and_eq_true] at h;unfold cap;rw [length_map];simpa using h.1
structure ScFacts (outer inner:Scope):Prop where
 kind:inner.kind=.function
 own:∀ y∈inner.names,y.2=.cell->inner.names.lookup y.1=some .cell
 loc:∀ y∈inner.names,y.2=.local->inner.names.lookup y.1=some .local
 free:∀ y∈inner.names,y.2=.free->inner.names.lookup y.1=some .free/\(outer.names.lookup y.1=some .cell\/outer.names.lookup y.1=some .free)
def DR {outer inner:Scope} (h:qaS outer inner=true):ScFacts outer inner:=by
 unfold qaS at h;rw [Bool.and_eq_true] at h;have ha:=List.all_eq_true.mp h.2;refine ⟨by simpa using h.1,λy hy e=>?_,λy hy e=>?_,λy hy e=>?_⟩
 ·have:=ha y hy;rw [e] at this;simpa using this
 ·have:=ha y hy;rw [e] at this;simpa using this
 ·have:=ha y hy;rw [e] at this;simpa using this
def JG {scope:Scope} {env:Env} {x:Str} {k:NameKind} (h:(relabel scope env).names.lookup x=some k):scope.names.lookup x=some k\/(k=.cell/\scope.names.lookup x=some .free):=by
 have key:∀ (l:List (Str×NameKind)),(l.map λ(n,k)=>if (k==NameKind.free&&env.scope.kind==.function&&env.kindOf n==some .cell) then (n,NameKind.cell) else (n,k)).lookup x=some k->l.lookup x=some k\/(k=.cell/\l.lookup x=some .free):=by
  intro l;induction l with
  |nil=>intro h;simp at h
  |cons y r ih=>
   intro h;obtain ⟨n,j⟩:=y;rw [map_cons] at h;dsimp only at h;by_cases hc:(j==NameKind.free&&env.scope.kind==.function&&env.kindOf n==some .cell)=true
   ·rw [if_pos hc,List.lookup_cons] at h;rw [List.lookup_cons];cases hx:x==n with
    |true=>
     rw [hx] at h;have hk:NameKind.cell=k:=by simpa using h
     have hj:j=.free:=by simp only [Bool.and_eq_true,beq_iff_eq] at hc;exact hc.1.1
     exact .inr ⟨hk.symm,by rw [hj]⟩
    |false=>rw [hx] at h;exact ih h
   ·rw [if_neg hc,List.lookup_cons] at h;rw [List.lookup_cons];cases hx:x==n with
    |true=>rw [hx] at h;exact .inl h
    |false=>rw [hx] at h;exact ih h
 exact key scope.names h
def PF (X:Cx) (ifs:List Expr) (t:TT):Prop:=
 ∀ (pins:List (Addr×Obj)) (s:Shared) (σ:L2.St) (H:Hp) (Q:Bool->Hp->Prop),Inv X pins σ H s->t σ H Q ->
  wpAny (model X.prog X.w) X.A (forIn ifs true λc r=>if r=true then do let ok←isTrue c X.env (eval c X.env);pure (ForInStep.yield ok) else pure (ForInStep.yield r)) (TP X pins σ Q) X.xe s
def qm9 {X:Cx}:PF X [] (λ_ H Q=>Q true H):=λ_ _ _ H _ I h=>wpAny_tests_nil ⟨H,I,h⟩
def qmK {X:Cx} {c:Expr} {t:TT} (h:PT X c t):PF X [c] t:=λpins s σ H Q I q=>wpAny_tests_one (h pins s σ H Q I q)
section
variable {X:Cx} {pins:List (Addr×Obj)} {σ:L2.St} {H:Hp} {s:Shared}
def R4 {N':List Str} {scope:Scope} {fp:List Addr} {m:List (Option Nat)} {h1:Heap} {mm:Str->Option Value} (hc:X.calm=true) (I:Inv X pins σ H s) (sc:ScFacts X.env.scope scope) (hcap:UW X.N N' scope m=true)
  (hfp:∀ b∈fp,LB X pins H b) (hob:∀ b∈fp,∃ o,s.heap.get? b=some o) (hns:h1.Ns s.heap.objs.size mm) (hk:∀ b o,s.heap.get? b=some o->h1.get? b=some o) (hown:CellsOk h1 (s.heap.objs.size+1) (cellsFrom (s.heap.objs.size+1) scope.names [])) :
  Inv (qr X N' scope s H fp) [] (cap m σ) H { s with heap:=h1 }:=by
 have hcl:∀ y∈scope.names,y.2=.free->∃ c,X.env.cells.lookup y.1=some c:=λy hy e=>by
  rcases (sc.free y hy e).2 with z|z
  ·exact I.ok.has y.1 (.inl z)
  ·exact I.ok.has y.1 (.inr z)
 have cl:∀ x c,(CT X.env scope.names []).lookup x=some c->X.env.cells.lookup x=some c:=λx c e=>UP scope.names [] x c hcl (λ_ _ z=>by simp at z) e;have clt:∀ x c,(CT X.env scope.names []).lookup x=some c->c<s.heap.objs.size:=λx c e=>by
  obtain ⟨v,q⟩:=I.cell x c (cl x c e);exact q.lt
 -- a cell of the block: its own,or one from around
 have cs:∀ x c,(cellsFrom (s.heap.objs.size+1) scope.names (CT X.env scope.names [])).lookup x=some c->((x,c)∈cellsFrom (s.heap.objs.size+1) scope.names []/\s.heap.objs.size+1<=c/\h1.IsCell c none)\/(CT X.env scope.names []).lookup x=some c:=λx c e=>by
  rw [jE,DQ] at e;cases q:(cellsFrom (s.heap.objs.size+1) scope.names []).lookup x with
  |none=>rw [q] at e;exact .inr e
  |some d=>
   rw [q] at e;cases e;have mem:=PySem.mem_of_lookup q;exact .inl ⟨mem,(hown.empty x _ mem).2,(hown.empty x _ mem).1⟩
 have fpne:∀ b∈fp,b≠s.heap.objs.size:=λb hb=>let ⟨o,e⟩:=hob b hb;za3 (v5 e)
 refine ⟨⟨I.ok.mod,sc.kind,I.ok.glob,I.ok.blt,u7 _,λx y c e1 e2=>?_,λx hx=>?_,λx c hf e=>?_,λ_=>I.ok.hd hc,I.ok.frames,.inl rfl,λb hb=>⟨fpne b hb,λx c e=>?_⟩,I.bs,za2 I.ok.bsz I.sz,λb o e hb=>?_,λb hb z=>?_,I.stack,I.stkFree⟩,
  rfl,I.bare,Un.kept hk,⟨mm,hns,λi x v e1 e2 e3=>?_⟩,λx c e=>?_,I.fresh,λx c e=>?_,λp hp=>absurd (show p∈([]:List (Addr×Obj)) from hp) (by simp),I.hok.kept hk,qiA σ hcap⟩
 ·rcases cs x c e1 with ⟨m1,l1,_⟩|z1<;>rcases cs y c e2 with ⟨m2,l2,_⟩|z2
  ·exact PySem.name_of_addr hown.apart m1 m2
  ·exact absurd (clt y c z2) (Nat.not_lt.mpr (za2 (Nat.le_succ _) l1))
  ·exact absurd (clt x c z1) (Nat.not_lt.mpr (za2 (Nat.le_succ _) l2))
  ·exact I.ok.inj x y c (cl x c z1) (cl y c z2)
 ·have hx:(relabel scope X.env).names.lookup x=some .cell\/(relabel scope X.env).names.lookup x=some .free:=hx;have hf:scope.names.lookup x=some .cell\/scope.names.lookup x=some .free:=by
   rcases hx with z|z
   ·rcases JG z with q|⟨_,q⟩
    ·exact .inl q
    ·exact .inr q
   ·rcases JG z with q|⟨q,_⟩
    ·exact .inr q
    ·cases q
  show ∃ c,(cellsFrom (s.heap.objs.size+1) scope.names (CT X.env scope.names [])).lookup x=some c;rcases hf with hf|hf
  ·exact QS scope.names _ _ x (.inl (PySem.mem_of_lookup hf))
  ·exact QS scope.names _ _ x (.inr (W7 scope.names [] x (.inl (PySem.mem_of_lookup hf))))
 ·have hf:scope.names.lookup x=some .cell:=by simpa [qr] using hf
  rcases cs x c e with ⟨_,l1,_⟩|z1
  ·exact za2 (Nat.le_succ _) l1
  ·rcases SK scope.names [] x c z1 with q|q
   ·rw [(sc.free _ q rfl).1] at hf;cases hf
   ·simp at q
 ·rcases cs x c e with ⟨_,l1,_⟩|z1
  ·obtain ⟨o,eo⟩:=hob b hb;exact Nat.ne_of_gt (za0 (v5 eo) (za2 (Nat.le_succ _) l1))
  ·exact (hfp b hb).2.2.2.2.1 x c (cl x c z1)
 ·rcases (hfp b hb).2.2.2.1 with z|z
  ·exact I.ok.noex b o e z
  ·exact absurd (za0 (v5 e) (za2 I.ok.bsz z)) (Nat.lt_irrefl _)
 ·rcases mem_cons.mp (I.stkSub b z) with q|q
  ·exact (hfp b hb).2.1 q
  ·exact (hfp b hb).2.2.1 q
 ·obtain ⟨j,ej,es⟩:=qbN e2;obtain ⟨hN,hfr⟩:=qbm hcap ej e1;have mem:=PySem.mem_of_lookup hfr;have ho:=(sc.free _ mem rfl).2;obtain ⟨m0,hn0,hl0⟩:=I.loc;obtain ⟨u,ru,lk⟩:=hl0 j x v hN es (ho.elim (λz=>.inr (.inl z)) λz=>.inr (.inr z));refine ⟨u,ru,.inr ⟨?_,?_⟩⟩
  ·rcases e3 with z|z|z
   ·rcases JG z with q|⟨q,_⟩
    ·rw [hfr] at q;cases q
    ·cases q
   ·exact .inl z
   ·exact .inr z
  ·rcases lk with ⟨z,_⟩|⟨_,c,hc',hcell⟩
   ·have z:X.env.scope.names.lookup x=some .local:=z;rcases ho with q|q<;>(rw [z] at q;cases q)
   ·obtain ⟨c',hc2⟩:=W7 (env:=X.env) scope.names [] x (.inl mem);have e:=cl x c' hc2;rw [hc'] at e;cases e;obtain ⟨o,eo,d⟩:=hcell;refine ⟨c,?_,o,hk c o eo,d⟩;show (cellsFrom (s.heap.objs.size+1) scope.names (CT X.env scope.names [])).lookup x=some c;rw [jE,DQ];cases q:(cellsFrom (s.heap.objs.size+1) scope.names []).lookup x with
    |none=>exact hc2
    |some d=>
     rcases J0 scope.names _ [] x d (PySem.mem_of_lookup q) with z|z
     ·rw [sc.own _ z rfl] at hfr;cases hfr
     ·simp at z
 ·rcases cs x c e with ⟨_,_,z⟩|z1
  ·exact ⟨none,z⟩
  ·obtain ⟨v,o,eo,d⟩:=I.cell x c (cl x c z1);exact ⟨v,o,hk c o eo,d⟩
 ·rcases cs x c e with ⟨_,l1,_⟩|z1
  ·exact I.hok.fresh (za2 (Nat.le_succ _) l1)
  ·exact I.freeC x c (cl x c z1)
def D9 {N':List Str} {scope:Scope} {fp:List Addr} {pins':List (Addr×Obj)} {σ':L2.St} {H':Hp} {s':Shared} {h2:Heap} (I:Inv X pins σ H s) (hfp:∀ b∈fp,LB X pins H b) (J:Inv (qr X N' scope s H fp) pins' σ' H' s')
  (sb:Heap.SameBut s.heap.objs.size s'.heap h2):Inv X pins σ H' { s' with heap:=h2 }:=by
 have ne:∀ b o,s.heap.get? b=some o->b≠s.heap.objs.size:=λb o e=>za3 (v5 e);have g:∀ b,b≠s.heap.objs.size->h2.get? b=s'.heap.get? b:=λb hb=>sb.2 b hb;have hn:H' s.heap.objs.size=none:=J.free;have u:Un (frs X.stack) fp H H' s.heap s'.heap:=J.base;refine I.call' (s':={ s' with heap:=h2 }) J.os ⟨λb o e n hb hx=>?_,λb o e n hb hx=>?_,u.free,λb o e hx=>?_,u.tups,u.frzs,u.tbls⟩ (λa o e=>?_) J.bare λb hb=>⟨(hfp b hb).2.2.2.1,(hfp b hb).2.1,(hfp b hb).2.2.2.2.1,(hfp b hb).2.2.2.2.2⟩
 ·show h2.get? b=_;rw [g b (ne b o e)];exact u.keep b o e n hb hx
 ·show ∃ sl,h2.get? b=_;rw [g b (ne b o e)];exact u.slot b o e n hb hx
 ·show ∃ o',h2.get? b=_;rw [g b (ne b o e)];exact u.there b o e hx
 ·refine (J.hok a o e).stay (λb v hb q=>?_) (λ_ q=>q) λ_ _ q=>q;have hb':b≠s.heap.objs.size:=by
   intro z;subst z;rcases hb with z|z
   ·rw [← z] at e;rw [hn] at e;cases e
   ·rw [hn] at z;cases z
  rw [g b hb'];exact q
end
def tLC (wi:TI) (g:TG) (tif:TT) (te:TE) (m:List (Option Nat)):TE:=λσ H Q=>wi σ H λJ H1=>∀ D,H1 D=none ->
 ∃ W:Nat->Nat->L2.St->Hp->Prop,(∃ n,W 0 n (cap m σ) (upd H1 D (.lst [])))/\∀ i n σ H,W i n σ H ->
  (J.stop i H/\Q (.ref D) H)\/(J.go i H/\∀ x H',J.yld i H x H'->g x σ H' λσ2 H2=>tif σ2 H2 λk H3=>
   if k=true then te σ2 H3 λy H4=>∃ zs,H4 D=some (.lst zs)/\zs.length<sizeLine/\∃ n',n'<n/\W (i+1) n' σ2 (upd H4 D (.lst (zs++[y])))
   else ∃ n',n'<n/\W (i+1) n' σ2 H3)
section
variable {X:Cx}
def qpq {elt tg iter:Expr} {ifs:List Expr} {scope:Scope} {pos:Pos} {N':List Str} {m:List (Option Nat)} {wi:TI} {g:TG} {tif:TT} {te:TE} (hc:X.calm=true) (hi:PI X tg iter wi)
  (hg:∀ s H fp,PG (qr X N' scope s H fp) tg g) (hf:∀ s H fp,PF (qr X N' scope s H fp) ifs tif) (he:∀ s H fp,PE (qr X N' scope s H fp) elt te)
  (hsc:qaS X.env.scope scope=true) (hcap:UW X.N N' scope m=true) (hs:∀ x,foldedSetIterable iter X.env x=pure x:=by intro _;rfl) :
  PE X (.ListComp elt [⟨tg,iter,ifs,0⟩] scope pos) (tLC wi g tif te m):=by
 intro pins s σ H Q I h;have sc:=DR hsc;have hcl:∀ y∈scope.names,y.2=.free->∃ c,X.env.cells.lookup y.1=some c:=λy hy e=>by
  rcases (sc.free y hy e).2 with z|z
  ·exact I.ok.has y.1 (.inl z)
  ·exact I.ok.has y.1 (.inr z)
 rw [eval_ListComp];refine wpAny_comprehension_free (use:=none) (g:=⟨tg,iter,ifs,0⟩) (gs:=[]) rfl hs (YD hcl) sc.kind sc.loc ?_;show wpAny _ _ (eval iter X.env) _ _ s;refine thn (hi pins s σ H _ I h) λv s1 h1=>thn h1 λitv s2 h2=>?_;obtain ⟨it,fp,tn,J,H2,rfl,I2,T,st2,f2,hW⟩:=h2;refine wpAny_newObj_type ?_;have hD:H2 s2.heap.objs.size=none:=I2.fresh;obtain ⟨W,⟨n0,w0⟩,turn⟩:=hW _ hD;generalize hDe:s2.heap.objs.size=D at *;have I3:Inv X pins σ (upd H2 D (.lst [])) { s2 with heap:=s2.heap.push { cls:=.type "list",dict:=none,data:=.seq ([]:List Value).toArray } }:=by
  subst hDe;exact I2.laid (t':=s2.toks) (λb u e=>v0 _ e) (u7 _) ⟨Nat.zero_le _,[],0,.nil,v4 _ rfl⟩
 have ob2:=T.obj 0 _ st2;have ob3:∀ b∈fp,∃ o,(s2.heap.push { cls:=.type "list",dict:=none,data:=.seq ([]:List Value).toArray }).get? b=some o:=λb hb=>let ⟨o,e,_⟩:=ob2 b hb;⟨o,v0 _ e⟩
 have f3:∀ b∈fp,LB X pins (upd H2 D (.lst [])) b:=λb hb=>by
  obtain ⟨o,e,_⟩:=ob2 b hb;have:b≠D:=by rw [← hDe];exact za3 (v5 e)
  exact ⟨by rw [qE this];exact (f2 b hb).1,(f2 b hb).2⟩
 have k23:∀ b o,s2.heap.get? b=some o->(s2.heap.push { cls:=.type "list",dict:=none,data:=.seq ([]:List Value).toArray }).get? b=some o:=λb o e=>v0 _ e;generalize hH3:upd H2 D (.lst [])=H3 at *;generalize hs3:({ s2 with heap:=s2.heap.push { cls:=.type "list",dict:=none,data:=.seq ([]:List Value).toArray } }:Shared)=s3 at *;have ob3:∀ b∈fp,∃ o,s3.heap.get? b=some o:=by rw [← hs3];exact ob3
 have k23:∀ b o,s2.heap.get? b=some o->s3.heap.get? b=some o:=by rw [← hs3];exact k23
 refine QG λh₁ hns hk hown=>?_;have I4:Inv (qr X N' scope s3 H3 fp) [] (cap m σ) H3 { s3 with heap:=h₁ }:=R4 hc I3 sc hcap f3 ob3 hns hk hown;have tn4:tn 0 h₁:=T.keep _ _ _ st2 λb hb o e=>hk b o (k23 b o e);have fr4:∀ b∈fp,H3 b=none:=λb hb=>(f3 b hb).1;have stat:∀ {H':Hp},(∀ b∈fp,H' b=none)->∀ b∈fp,LB (qr X N' scope s3 H3 fp) [] H' b:=λhn b hb=>by
  refine ⟨hn b hb,I4.ok.exf b hb |>.1,I4.ok.exfs b hb,.inl hb,λx c e=>(I4.ok.exf b hb).2 x c e,λp hp=>absurd (show p∈([]:List (Addr×Obj)) from hp) (by simp)⟩
 show codeAny (model X.prog X.w) X.A (.compStart (.ListComp elt [⟨tg,iter,ifs,0⟩] scope pos) 0 (.ref it) (.ref D) (qr X N' scope s3 H3 fp).env) (compPost (model X.prog X.w) X.A X.xe none (EP X pins σ Q) (.ref D) s3.heap.objs.size) { s3 with heap:=h₁ };have loop:codeAny (model X.prog X.w) X.A (.compLoop (.ListComp elt [⟨tg,iter,ifs,0⟩] scope pos) 0 (.ref it) (.ref D) (qr X N' scope s3 H3 fp).env) (compPost (model X.prog X.w) X.A X.xe none (EP X pins σ Q) (.ref D) s3.heap.objs.size) { s3 with heap:=h₁ }:=by
  refine codeAny_loop rfl (λn s'=>∃ i σ' H',Inv (qr X N' scope s3 H3 fp) [] σ' H' s'/\tn i s'.heap/\(∀ b∈fp,H' b=none)/\W i n σ' H') (λn s' hI=>?_) n0 ⟨0,cap m σ,H3,I4,tn4,fr4,w0⟩;show wpAny _ X.A ((compTurn (.ListComp elt [⟨tg,iter,ifs,0⟩] scope pos) 0 (.ref it) (.ref D) (qr X N' scope s3 H3 fp).env).onRaise (λx=>do noteFrame x (qr X N' scope s3 H3 fp).env;theTreesLotGoes x)) _ _ s';refine wpAny_noted ?_;rw [compTurn_list];refine y6 (wpAny_standAt (y6 ?_));obtain ⟨i,σ5,H5,I5,st5,fr5,w5⟩:=hI;rcases turn i n σ5 H5 w5 with ⟨stop,q⟩|⟨go,step⟩
  ·refine thn (T.done (qr X N' scope s3 H3 fp) rfl rfl rfl rfl i [] s' σ5 H5 _ I5 (stat fr5) st5 stop) λr s6 ⟨hr,I6⟩=>?_;subst hr;refine y8 ?_;obtain ⟨mm,hn6,_⟩:=I6.loc;exact ⟨mm,hn6,λh' sb=>⟨.ref D,H5,D9 I3 f3 I6 sb,rfl,q⟩⟩
  ·refine thn (T.item (qr X N' scope s3 H3 fp) rfl rfl rfl rfl i [] s' σ5 H5 _ I5 (stat fr5) st5 go) λr s6 ⟨u,hr,h6⟩=>?_;subst hr;refine y6 (thn h6 λ_ s7 ⟨x,H7,I7,r7,y7,st7,fr7⟩=>?_);have I7':=I7.pinned (stat fr7) (T.obj _ _ st7);have again:∀ {σ8:L2.St} {H8:Hp} {s8:Shared},Inv (qr X N' scope s3 H3 fp) ([]++WG fp s7.heap) σ8 H8 s8->(∃ n',n'<n/\W (i+1) n' σ8 H8) ->
     ∃ m',m'<n/\∃ i σ' H',Inv (qr X N' scope s3 H3 fp) [] σ' H' s8/\tn i s8.heap/\(∀ b∈fp,H' b=none)/\W i m' σ' H':=λ{σ8 H8 s8} I8 ⟨n',hn,w8⟩=>by
    refine ⟨n',hn,i+1,σ8,H8,I8.unpinned,T.keep _ _ _ st7 λb hb o e=>(I8.pin (b,o) (u9 _ (u9 _ (zK hb e)))).1,λb hb=>?_,w8⟩;obtain ⟨o,e,d⟩:=T.obj _ _ st7 b hb;exact (I8.pin (b,o) (u9 _ (u9 _ (zK hb e)))).2.1
   refine y6 (y9 (hg s3 H3 fp _ s7 σ5 H7 x u _ I7' r7 (step x H7 y7)) (λ_ s8 ⟨σ8,H8,I8,q8⟩=>?_) λ_ _ z=>z.elim);refine y6 (y9 (hf s3 H3 fp _ s8 σ8 H8 _ I8 q8) (λk s9 ⟨H9,I9,q9⟩=>?_) λ_ _ z=>z.elim);cases k with
   |false=>
    rw [if_neg v6] at q9;exact y8 ⟨rfl,again I9 q9⟩
   |true=>
    rw [if_pos rfl] at q9;refine y6 (y6 (y9 (he s3 H3 fp _ s9 σ8 H9 _ I9 q9) (λw s10 ⟨y,H10,I10,r10,q10⟩=>?_) λ_ _ z=>z.elim));obtain ⟨zs,hz,hl,q10⟩:=q10;refine y6 (y9 (EI (X:=qr X N' scope s3 H3 fp) _ s10 σ8 H10 (.ref D) [y] (.ref D) [w] (λ_ H11=>H11=upd H10 D (.lst (zs++[y]))) I10 rfl (.cons r10 .nil) ⟨D,zs,y,rfl,rfl,hz,hl,rfl⟩) (λ_ s11 ⟨_,H11,I11,_,e11⟩=>?_) λ_ _ z=>z.elim);subst e11;exact y8 (y8 ⟨rfl,again I11 q10⟩)
 exact codeAny_compStart_list loop (T.self X.A 0 _ _ _ tn4 loop)
end
section
variable {K:Frg} {G G':Gp} {H H':Hp}
def qhv {D:Addr} {o:HO} {ws:List V} (hD:H D=some (.lst ws)) {a:Addr} {vs:List V} (h:SqT K H a vs):SqT K (upd H D o) a vs:=by
 rcases h with h|h
 ·refine .inl ?_;rcases h with h|⟨ob,h⟩
  ·have:a≠D:=by intro e;subst e;rw [hD] at h;cases h
   exact .inl (by rw [qE this];exact h)
  ·have:a≠D:=by intro e;subst e;rw [hD] at h;cases h
   exact .inr ⟨ob,by rw [qE this];exact h⟩
 ·exact .inr h
mutual
theorem Rp.wrD {D:Addr} {o:HO} {ws:List V} (hD:H D=some (.lst ws)):∀ {x:T} {v:V},Rp K H x v->Rp K (upd H D o) x v
 |_,_,.non=>.non
 |_,_,.bl b=>.bl b
 |_,_,.int i=>.int i
 |_,_,.str x=>.str x
 |_,_,.ref a=>.ref a
 |_,_,.tup h hs=>.tup (qhv hD h) (Rps.wrD hD hs)
theorem Rps.wrD {D:Addr} {o:HO} {ws:List V} (hD:H D=some (.lst ws)):∀ {x:List T} {v:List V},Rps K H x v->Rps K (upd H D o) x v
 |_,_,.nil=>.nil
 |_,_,.cons a b=>.cons (Rp.wrD hD a) (Rps.wrD hD b)
end
theorem HR.wrD {D:Addr} {o:HO} {ws:List V} (hr:HR K G H) (hD:H D=some (.lst ws)) (g:G D=none):HR K G (upd H D o):=λa ob e=>by
 have ha:a≠D:=by intro z;subst z;rw [g] at e;cases e
 have q:=hr a ob e;cases ob with
 |lst xs=>obtain ⟨vs,h1,h2⟩:=q;exact ⟨vs,by rw [qE ha];exact h1,h2.wrD hD⟩
 |frz xs=>obtain ⟨vs,⟨o1,h1⟩,h2⟩:=q;exact ⟨vs,⟨o1,by rw [qE ha];exact h1⟩,h2.wrD hD⟩
 |dct kvs=>obtain ⟨vs,h1,h2⟩:=q;exact ⟨vs,by rw [qE ha];exact h1,h2.wrD hD⟩
 |exn C=>have h1:H a=some (.ext (IsX a C)):=q;exact (show _=_ by rw [qE ha];exact h1)
 |tab ks xs=>obtain ⟨vs,h1,h2⟩:=q;exact ⟨vs,by rw [qE ha];exact h1,h2.wrD hD⟩
theorem Rel.wrD {D:Addr} {o:HO} {ws:List V} {τ:St3} {σ:L2.St} (r:Rel K τ G σ H) (hD:H D=some (.lst ws)) (g:G D=none):Rel K τ G σ (upd H D o):=
 ⟨r.hp.wrD hD g,r.len,λi t e=>let ⟨v,h1,h2⟩:=r.st i t e;⟨v,h1,h2.wrD hD⟩⟩
def Kp.wrD {D:Addr} {o:HO} (k:Kp G H G' H') (hD:H D=none):Kp G H G' (upd H' D o):=λa ob h g=>by
 obtain ⟨h1,h2⟩:=k a ob h g;exact ⟨by rw [qE (qB h hD)];exact h1,h2⟩
def qdE {α:Type} {m:List (Option Nat)} {σ:List (Option α)} {i j:Nat} (h:m[i]?=some (some j)):(cap m σ)[i]?=some ((σ[j]?).join):=by
 unfold cap;rw [getElem?_map,h];rfl
theorem Rel.cap {τ:St3} {σ:L2.St} (r:Rel K τ G σ H) (m:List (Option Nat)):Rel K (cap m τ) G (L3.cap m σ) H:=by
 refine ⟨r.hp,by simp [L3.cap],λi t e=>?_⟩;obtain ⟨j,e1,e2⟩:=qbN e;obtain ⟨v,h1,h2⟩:=r.st j t e2;exact ⟨v,by rw [qdE e1,h1];rfl,h2⟩
end
def K5 (stay:Gp->Prop) (g:TG3) (tif:TT3) (te:TE3) (q:Q3):List T->List T->St3->Gp->Prop
 |[],ys,_,G=>stay G/\∀ p,G p=none->q (.ref p) (gu G p (.lst ys))
 |x::r,ys,τ,G=>stay G/\g x τ G λτ2 G2=>tif τ2 G2 λk G3=>if k=true then te τ2 G3 λy G4=>ys.length<sizeLine/\K5 stay g tif te q r (ys++[y]) τ2 G4 else K5 stay g tif te q r ys τ2 G3
def lc3 (wi:TI3) (g:TG3) (tif:TT3) (te:TE3) (m:List (Option Nat)):TE3:=λτ G q=>wi τ G λitems stay G1=>K5 stay g tif te q items [] (cap m τ) G1
abbrev F3 (X:Cx) (ifs:List Expr) (t:TT3):Prop:=PF X ifs (lT X.K t)
def tt3:TT3:=λ_ G q=>q true G
def qph {X:Cx}:F3 X [] tt3:=λpins s σ H Q I ⟨τ,G,q,rl,h,af⟩=>qm9 pins s σ H Q I (af true G h H rl.hp Kp.refl)
def qpc {X:Cx} {c:Expr} {t:TT3} (h:C3 X c t):F3 X [c] t:=qmK h
section
variable {X:Cx}
def qrG {elt tg iter:Expr} {ifs:List Expr} {scope:Scope} {pos:Pos} (N':List Str) (m:List (Option Nat)) {wi:TI3} {g:TG3} {tif:TT3} {te:TE3} (hc:X.calm=true) (hi:I3 X tg iter wi)
  (hg:∀ s H fp,G3 (qr X N' scope s H fp) tg g) (hf:∀ s H fp,F3 (qr X N' scope s H fp) ifs tif) (he:∀ s H fp,E3 (qr X N' scope s H fp) elt te)
  (hsc:qaS X.env.scope scope=true) (hcap:UW X.N N' scope m=true) (hs:∀ x,foldedSetIterable iter X.env x=pure x:=by intro _;rfl) :
  E3 X (.ListComp elt [⟨tg,iter,ifs,0⟩] scope pos) (lc3 wi g tif te m):=
 W0 (qpq (g:=lG X.K g) (tif:=lT X.K tif) (te:=lE X.K te) hc hi hg hf he hsc hcap hs) λσ H Q ⟨τ,G,q,rl,h,af⟩=>by
  refine ⟨τ,G,_,rl,h,λitems stay G1 h1 J H1 hr1 k1 ok D hD=>?_⟩;have gD:G1 D=none:=hr1.free hD;refine ⟨λi n σ' H'=>n=items.length-i/\i<=items.length/\∃ τ' G' ys vs,Rel X.K τ' G' σ' H'/\Kp G1 H1 G' H'/\H' D=some (.lst vs)/\Rps X.K H' ys vs/\G' D=none/\K5 stay g tif te q (items.drop i) ys τ' G',
   ⟨_,rfl,Nat.zero_le _,cap m τ,G1,[],[],((rl.next hr1 k1).cap m).next (hr1.laid hD) (Kp.laid hD),Kp.laid hD,qW,.nil,gD,by simpa using h1⟩,?_⟩
  rintro i n σ' H' ⟨rfl,hi,τ',G',ys,vs,rl',k',hDl,rys,gD',h'⟩;by_cases hlt:i<items.length
  ·rw [List.drop_eq_getElem_cons hlt] at h';obtain ⟨hst,h'⟩:=h';obtain ⟨go,yld,_⟩:=ok G' H' rl'.hp k' hst;have hx:items[i]?=some items[i]:=v8 hlt;refine .inr ⟨go i _ hx,λv H2 y=>?_⟩;obtain ⟨rv,hr2,k2⟩:=yld i _ v H2 hx y;have nxt:∀ {τ4:St3} {G4:Gp} {σ4:L2.St} {H4:Hp} {ys4:List T} {vs4:List V},Rel X.K τ4 G4 σ4 H4->Kp G1 H1 G4 H4->H4 D=some (.lst vs4)->Rps X.K H4 ys4 vs4->G4 D=none->K5 stay g tif te q (items.drop (i+1)) ys4 τ4 G4 ->
     ∃ n',n'<items.length-i/\(n'=items.length-(i+1)/\i+1<=items.length/\∃ τ' G' ys vs,Rel X.K τ' G' σ4 H4/\Kp G1 H1 G' H4/\H4 D=some (.lst vs)/\Rps X.K H4 ys vs/\G' D=none/\K5 stay g tif te q (items.drop (i+1)) ys τ' G'):=
    λ{τ4 G4 σ4 H4 ys4 vs4} a b c d e f=>⟨_,by omega,rfl,hlt,τ4,G4,ys4,vs4,a,b,c,d,e,f⟩
   refine ⟨_,τ',G',_,rv,rl'.next hr2 k2,h',λτ3 G3 h3 σ3 H3 rl3 k3=>⟨τ3,G3,_,rl3,h3,λk G4 h4 H4 hr4 k4=>?_⟩⟩;have kk:=(k2.trans k3).trans k4;obtain ⟨hD4,gD4⟩:=kk D _ hDl gD';have rys4:=rys.keep rl'.hp kk;cases k with
   |false=>
    rw [if_neg v6] at h4;refine qnW ?_;exact nxt (rl3.next hr4 k4) (k'.trans kk) hD4 rys4 gD4 h4
   |true=>
    rw [if_pos rfl] at h4;refine qnX ?_;refine ⟨τ3,G4,_,rl3.next hr4 k4,h4,λz G5 h5 w H5 rw5 hr5 k5=>?_⟩;obtain ⟨hD5,gD5⟩:=k5 D _ hD4 gD4;have rys5:=rys4.keep hr4 k5;exact ⟨vs,hD5,by rw [← rys.length];exact h5.1,nxt (((rl3.next hr4 k4).next hr5 k5).wrD hD5 gD5) (((k'.trans kk).trans k5).wrD hD) qW ((rys5.append (.cons rw5 .nil)).wrD hD5) gD5 h5.2⟩
  ·have e:i=items.length:=by omega
   subst e;rw [List.drop_length] at h';obtain ⟨_,_,stop⟩:=ok G' H' rl'.hp k' h'.1;refine .inl ⟨stop,af _ _ (h'.2 D gD') _ H' (.ref D) (λa o e=>?_) λa o e ga=>?_⟩
   ·by_cases ha:a=D
    ·subst ha;rw [qy] at e;cases e;exact ⟨vs,hDl,rys⟩
    ·rw [zj ha] at e;exact rl'.hp a o e
   ·obtain ⟨e1,g1⟩:=k1 a o e ga;obtain ⟨e2,g2⟩:=k' a o e1 g1;exact ⟨e2,by rw [zj (qB e1 hD)];exact g2⟩
end
structure Src (P:Program) (w:World) (it c:Addr) (St:Nat->Heap->Prop) (Has:Array Value->Heap->Prop):Prop where
 obj:∀ {k h},St k h->∃ o,h.get? it=some o/\∀ v,o.data≠.cell v
 keep:∀ {k h h'},St k h->(∀ o,h.get? it=some o->h'.get? it=some o)->St k h'
 hkeep:∀ {xs h h'},Has xs h->(∀ o,h.get? c=some o->h'.get? c=some o)->Has xs h'
 item:∀ {A:Around} {s:Shared} {k:Nat} {xs:Array Value} {x:Value} {Q:Value->Shared->Prop} {E:Value->Shared->Prop},St k s.heap->Has xs s.heap->xs[k]?=some x ->
  (∀ h',St (k+1) h'->Heap.SameBut it s.heap h'->Q x { s with heap:=h' })->wpAny (model P w) A (Builtin.SmallTypes.nextOf (.ref it)) Q E s
 done:∀ {A:Around} {s:Shared} {k:Nat} {xs:Array Value} {Q:Value->Shared->Prop} {E:Value->Shared->Prop},A.handled=none->St k s.heap->Has xs s.heap->xs[k]?=none ->
  (∀ h' e,Heap.ExtBut it s.heap h'->(∃ o,h'.get? e=some o/\o.cls=.type "StopIteration")->E (.ref e) { s with heap:=h' })->wpAny (model P w) A (Builtin.SmallTypes.nextOf (.ref it)) Q E s
def qdX {P:Program} {w:World} (it l:Addr):Src P w it l (λk h=>h.IsListIter it l k) (λxs h=>h.IsList l xs) where
 obj:=λst=>let ⟨o,e,_,d⟩:=st;⟨o,e,λv z=>by rw [d] at z;cases z⟩
 keep:=λst k=>st.at λo e=>k o e
 hkeep:=λst k=>st.at λo e=>k o e
 item:=λst hl hx hQ=>wpAny_nextOf_list_item st hl hx hQ
 done:=λhh st hl hx hE=>wpAny_nextOf_list_end hh st hl hx hE
def qaH {P:Program} {w:World} {A:Around} {s:Shared} {it t:Addr} {i:Nat} {its:Array Value} {x:Value} {Q:Value->Shared->Prop} {E:Value->Shared->Prop} (hit:s.heap.IsTupleIter it t i) (ht:s.heap.IsTuple t its) (hx:its[i]?=some x)
  (hQ:∀ h',h'.IsTupleIter it t (i+1)->Heap.SameBut it s.heap h'->Q x { s with heap:=h' }):wpAny (model P w) A (Builtin.SmallTypes.nextOf (.ref it)) Q E s:=by
 obtain ⟨o1,e1,c1,d1⟩:=id hit;obtain ⟨o2,e2,_,n2,d2⟩:=ht;unfold Builtin.SmallTypes.nextOf;refine y6 (wpAny_callSpecial?_slot (name:=Str.ofString "__next__") hit.typeIs F.slot_tuple_iterator_next (wpAny_call_entry F.slot_tuple_iterator_next hit.typeIs F.entry_tuple_iterator_next ?_ (F.args_tuple_iterator_next_1 _)));refine y6 (m:=field (.ref it) 0) (wpAny_field e1 d1 (x:=.ref t) rfl ?_);rw [if_neg (show ¬ ((Value.ref t==Value.none)=true) by exact v6)];refine y6 (m:=field (.ref it) 1) (wpAny_field e1 d1 (x:=.int i 0) rfl ?_);refine y6 (m:=seqItems? (.ref t)) (wpAny_seqItems e2 d2 ?_);simp only [Int.toNat_natCast,hx];refine y6 (wpAny_setField e1 d1 (by simp) (y8 ⟨x,rfl,y8 (hQ _ ⟨_,Heap.get?_update_self _ e1 (Obj.isFreed_of_fields (Obj.data_mapFields d1 _)),(Obj.cls_mapFields ..).trans c1,?_⟩ (Heap.SameBut.update ..))⟩));rw [Obj.data_mapFields d1];simp [rawInt]
def CY {P:Program} {w:World} {A:Around} {s:Shared} {it t:Addr} {i:Nat} {its:Array Value} {Q:Value->Shared->Prop} {E:Value->Shared->Prop} (hh:A.handled=none) (hit:s.heap.IsTupleIter it t i) (ht:s.heap.IsTuple t its) (hx:its[i]?=none)
  (hE:∀ h' e,Heap.ExtBut it s.heap h'->(∃ o,h'.get? e=some o/\o.cls=.type "StopIteration")->E (.ref e) { s with heap:=h' }):wpAny (model P w) A (Builtin.SmallTypes.nextOf (.ref it)) Q E s:=by
 obtain ⟨o1,e1,c1,d1⟩:=id hit;obtain ⟨o2,e2,_,n2,d2⟩:=ht;unfold Builtin.SmallTypes.nextOf;refine y6 (wpAny_callSpecial?_slot (name:=Str.ofString "__next__") hit.typeIs F.slot_tuple_iterator_next (wpAny_call_entry F.slot_tuple_iterator_next hit.typeIs F.entry_tuple_iterator_next ?_ (F.args_tuple_iterator_next_1 _)));refine y6 (m:=field (.ref it) 0) (wpAny_field e1 d1 (x:=.ref t) rfl ?_);rw [if_neg (show ¬ ((Value.ref t==Value.none)=true) by exact v6)];refine y6 (m:=field (.ref it) 1) (wpAny_field e1 d1 (x:=.int i 0) rfl ?_);refine y6 (m:=seqItems? (.ref t)) (wpAny_seqItems e2 d2 ?_);simp only [Int.toNat_natCast,hx];refine y6 (wpAny_rule (y6 (wpAny_setField e1 d1 (by simp) ?_)));refine y6 (m:=newExc (.type "StopIteration") []) ?_;simp only [newExc,newTuple];refine y6 (wpAny_newObj_type ?_ (by size_fits));refine y6 (m:=firstArgMember _ _) (wpAny_of_eq (a:=Value.none) (by first|rfl|(simp only [firstArgMember]<;>rfl)) (wpAny_newObj_type ?_ (by size_fits)));simp only [raiseNew];refine y6 (wpAny_handled ?_)
 first|rw [show A.in1.handled=Option.none from hh]|rw [show A.handled=Option.none from hh]
 exact y6 (y8 (wpAny_throw (hE _ _ (((Heap.SameBut.update ..).extBut.push _).push _) ⟨_,v4 _ rfl,rfl⟩)))
def qgZ {P:Program} {w:World} (it t:Addr):Src P w it t (λk h=>h.IsTupleIter it t k) (λxs h=>h.IsTuple t xs) where
 obj:=λst=>let ⟨o,e,_,d⟩:=st;⟨o,e,λv z=>by rw [d] at z;cases z⟩
 keep:=λst k=>st.at λo e=>k o e
 hkeep:=λst k=>st.at λo e=>k o e
 item:=λst hl hx hQ=>qaH st hl hx hQ
 done:=λhh st hl hx hE=>CY hh st hl hx hE
structure ZA (z ti to i1 i2 c1 c2:Addr):Prop where
 ne:([z,ti,to,i1,i2]:List Addr).Nodup
 a1:c1∉[z,to,i1,i2]
 a2:c2∉[z,to,i1,i2]
section
variable {P:Program} {w:World} {A:Around} {s:Shared} {z ti to i1 i2 c1 c2:Addr} {S1 S2:Nat->Heap->Prop} {H1 H2:Array Value->Heap->Prop} {k1 k2:Nat} {xs ys:Array Value} {x y a b:Value} {E:Value->Shared->Prop}
def qd8 {Q:Value->Shared->Prop} (R1:Src P w i1 c1 S1 H1) (R2:Src P w i2 c2 S2 H2) (D:ZA z ti to i1 i2 c1 c2) (hz:IsZip s.heap z ti to .none) (hi:IsPair s.heap ti (.ref i1) (.ref i2)) (ho:IsPair s.heap to a b)
  (p1:S1 k1 s.heap) (p2:S2 k2 s.heap) (l1:H1 xs s.heap) (l2:H2 ys s.heap) (hx:xs[k1]?=some x) (hy:ys[k2]?=some y)
  (hQ:∀ h',IsZip h' z ti to (rawInt s.heap.objs.size)->IsPair h' to x y->S1 (k1+1) h'->S2 (k2+1) h'->IsPair h' s.heap.objs.size x y->(∀ c o,c∉[z,to,i1,i2]->s.heap.get? c=some o->h'.get? c=some o)->Q (.ref s.heap.objs.size) { s with heap:=h' }) :
  wpAny (model P w) A (Builtin.«zip.__next__» ⟨[.ref z],[]⟩) (λfin s'=>∃ v,fin=.done (.ret v)/\Q v s') E s:=by
 have ne:=D.ne;simp only [List.nodup_cons,mem_cons,not_mem_nil,not_or,or_false] at ne;obtain ⟨⟨n1,n2,n3,n4⟩,⟨n5,n6,n7⟩,⟨n8,n9⟩,n10,_⟩:=ne;have a1:=D.a1;have a2:=D.a2;simp only [mem_cons,not_mem_nil,not_or,or_false] at a1 a2;obtain ⟨q1,q2,q3,q4⟩:=a1;obtain ⟨r1,r2,r3,r4⟩:=a2;refine y6 (m:=field (.ref z) 2) (wpAny_field hz rfl (x:=.bool false) rfl ?_);refine y6 (m:=field (.ref z) 3) (wpAny_field hz rfl (x:=.ref ti) rfl ?_);refine y6 (wpAny_seqItems hi rfl ?_);refine y6 (m:=Builtin.SmallTypes.ownedTupleIsFree (.ref z)) ?_;unfold Builtin.SmallTypes.ownedTupleIsFree;refine y6 (wpAny_field hz rfl (x:=Value.none) rfl (y8 ?_));simp only [if_true];refine y6 (wpAny_rule (y6 (wpAny_field hz rfl (x:=.ref to) rfl (y6 (wpAny_setField_rec hz (by simp) λg1 z1 s1=>?_)))))
 replace z1:IsZip g1 z ti to Value.ellipsis:=z1
 refine y6 ?_;simp only [List.zipIdx_cons,List.zipIdx_nil,List.forIn_cons,List.forIn_nil];refine y6 (y6 (wpAny_onRaise (y6 (m:=Builtin.SmallTypes.nextOf (.ref i1)) ?_)));refine R1.item (R1.keep p1 λo e=>s1.extBut _ _ (Ne.symm n3) e) (R1.hkeep l1 λo e=>s1.extBut _ _ q1 e) hx λg2 p12 s2=>y8 ?_;have t2:IsPair g2 to a b:=s2.extBut _ _ n8 (s1.extBut _ _ (Ne.symm n2) ho);refine y6 (wpAny_seqItems t2 rfl (y6 (wpAny_updateSeq_pair t2 λg3 t3 s3=>?_)))
 replace t3:IsPair g3 to x b:=t3
 refine y6 (wpAny_letGo (y8 (y6 (y6 (wpAny_onRaise (y6 (m:=Builtin.SmallTypes.nextOf (.ref i2)) ?_))))));refine R2.item (R2.keep p2 λo e=>s3.extBut _ _ (Ne.symm n9) (s2.extBut _ _ (Ne.symm n10) (s1.extBut _ _ (Ne.symm n4) e))) (R2.hkeep l2 λo e=>s3.extBut _ _ r2 (s2.extBut _ _ r3 (s1.extBut _ _ r1 e))) hy λg4 p24 s4=>y8 ?_;have t4:IsPair g4 to x b:=s4.extBut _ _ n9 t3;refine y6 (wpAny_seqItems t4 rfl (y6 (wpAny_updateSeq_pair t4 λg5 t5 s5=>?_)))
 replace t5:IsPair g5 to x y:=t5
 refine y6 (wpAny_letGo (y8 (y8 (y6 (wpAny_seqItems t5 rfl (y6 (wpAny_newTuple ?_)))))));have sz:g5.objs.size=s.heap.objs.size:=by rw [s5.1,s4.1,s3.1,s2.1,s1.1]
 have z5:IsZip g5 z ti to Value.ellipsis:=s5.extBut _ _ n2 (s4.extBut _ _ n4 (s3.extBut _ _ n2 (s2.extBut _ _ n3 z1)));have kk:∀ c o,c∉[z,to,i1,i2]->s.heap.get? c=some o->g5.get? c=some o:=λc o hc e=>by
  simp only [mem_cons,not_mem_nil,not_or,or_false] at hc;exact s5.extBut _ _ hc.2.1 (s4.extBut _ _ hc.2.2.2 (s3.extBut _ _ hc.2.1 (s2.extBut _ _ hc.2.2.1 (s1.extBut _ _ hc.1 e))))
 have p15:S1 (k1+1) g5:=R1.keep p12 λo e=>s5.extBut _ _ (Ne.symm n8) (s4.extBut _ _ n10 (s3.extBut _ _ (Ne.symm n8) e));have p25:S2 (k2+1) g5:=R2.keep p24 λo e=>s5.extBut _ _ (Ne.symm n9) e;have zlt:z<g5.objs.size:=v5 z5;refine y6 (m:=Builtin.SmallTypes.ownedTupleHandOut (.ref z) (.ref g5.objs.size)) ?_;unfold Builtin.SmallTypes.ownedTupleHandOut;have z6:IsZip (g5.push { cls:=.type "tuple",data:=.seq #[x,y] }) z ti to Value.ellipsis:=v0 _ z5;refine y6 (wpAny_setField_rec z6 (by simp) λg7 z7 s7=>?_)
 replace z7:IsZip g7 z ti to (rawInt g5.objs.size):=z7
 refine wpAny_setField_rec z7 (by simp) λg8 z8 s8=>?_
 replace z8:IsZip g8 z ti to (rawInt g5.objs.size):=z8
 have up:∀ c o,c≠z->g5.get? c=some o->g8.get? c=some o:=λc o hc e=>s8.extBut _ _ hc (s7.extBut _ _ hc (v0 _ e));have t8:IsPair g8 g5.objs.size x y:=s8.extBut _ _ (Nat.ne_of_gt zlt) (s7.extBut _ _ (Nat.ne_of_gt zlt) (v4 _ rfl));rw [sz] at z8 t8;refine y8 ⟨_,rfl,?_⟩;show Q (Value.ref g5.objs.size) _;rw [sz];exact hQ g8 z8 (up _ _ (Ne.symm n2) t5) (R1.keep p15 λo e=>up _ o (Ne.symm n3) e) (R2.keep p25 λo e=>up _ o (Ne.symm n4) e) t8 λc o hc e=>up c o (λq=>hc (by simp [q])) (kk c o hc e)
def qhf {Q:Fin->Shared->Prop} (hh:A.handled=none) (R1:Src P w i1 c1 S1 H1) (R2:Src P w i2 c2 S2 H2) (D:ZA z ti to i1 i2 c1 c2) (hz:IsZip s.heap z ti to .none) (hi:IsPair s.heap ti (.ref i1) (.ref i2)) (ho:IsPair s.heap to a b)
  (p1:S1 k1 s.heap) (p2:S2 k2 s.heap) (l1:H1 xs s.heap) (l2:H2 ys s.heap) (hend:xs[k1]?=none\/ys[k2]?=none)
  (hE:∀ h' e,(∀ c o,c∉[z,to,i1,i2]->s.heap.get? c=some o->h'.get? c=some o)->(∃ o,h'.get? e=some o/\o.cls=.type "StopIteration")->E (.ref e) { s with heap:=h' }) :
  wpAny (model P w) A (Builtin.«zip.__next__» ⟨[.ref z],[]⟩) Q E s:=by
 have ne:=D.ne;simp only [List.nodup_cons,mem_cons,not_mem_nil,not_or,or_false] at ne;obtain ⟨⟨n1,n2,n3,n4⟩,⟨n5,n6,n7⟩,⟨n8,n9⟩,n10,_⟩:=ne;have a1:=D.a1;have a2:=D.a2;simp only [mem_cons,not_mem_nil,not_or,or_false] at a1 a2;obtain ⟨q1,q2,q3,q4⟩:=a1;obtain ⟨r1,r2,r3,r4⟩:=a2;refine y6 (m:=field (.ref z) 2) (wpAny_field hz rfl (x:=.bool false) rfl ?_);refine y6 (m:=field (.ref z) 3) (wpAny_field hz rfl (x:=.ref ti) rfl ?_);refine y6 (wpAny_seqItems hi rfl ?_);refine y6 (m:=Builtin.SmallTypes.ownedTupleIsFree (.ref z)) ?_;unfold Builtin.SmallTypes.ownedTupleIsFree;refine y6 (wpAny_field hz rfl (x:=Value.none) rfl (y8 ?_));simp only [if_true];refine y6 (wpAny_rule (y6 (wpAny_field hz rfl (x:=.ref to) rfl (y6 (wpAny_setField_rec hz (by simp) λg1 z1 s1=>?_)))))
 replace z1:IsZip g1 z ti to Value.ellipsis:=z1
 refine y6 ?_;simp only [List.zipIdx_cons,List.zipIdx_nil,List.forIn_cons,List.forIn_nil];refine y6 (y6 (wpAny_onRaise (y6 (m:=Builtin.SmallTypes.nextOf (.ref i1)) ?_)));cases hx:xs[k1]? with
 |none=>
  refine R1.done hh (R1.keep p1 λo e=>s1.extBut _ _ (Ne.symm n3) e) (R1.hkeep l1 λo e=>s1.extBut _ _ q1 e) hx λg2 e s2 ⟨oe,he,ce⟩=>?_;have z2:IsZip g2 z ti to Value.ellipsis:=s2 _ _ n3 z1;have ez:e≠z:=λq=>by subst q;rw [z2] at he;cases he;simp at ce
  refine wpAny_setField_rec z2 (by simp) λg3 _ s3=>hE g3 e (λc o hc q=>?_) ⟨oe,s3.extBut _ _ ez he,ce⟩;simp only [mem_cons,not_mem_nil,not_or,or_false] at hc;exact s3.extBut _ _ hc.1 (s2 _ _ hc.2.2.1 (s1.extBut _ _ hc.1 q))
 |some x=>
  have hy:ys[k2]?=none:=by rcases hend with q|q;rw [hx] at q;cases q;exact q
  refine R1.item (R1.keep p1 λo e=>s1.extBut _ _ (Ne.symm n3) e) (R1.hkeep l1 λo e=>s1.extBut _ _ q1 e) hx λg2 p12 s2=>y8 ?_;have t2:IsPair g2 to a b:=s2.extBut _ _ n8 (s1.extBut _ _ (Ne.symm n2) ho);refine y6 (wpAny_seqItems t2 rfl (y6 (wpAny_updateSeq_pair t2 λg3 t3 s3=>?_)));refine y6 (wpAny_letGo (y8 (y6 (y6 (wpAny_onRaise (y6 (m:=Builtin.SmallTypes.nextOf (.ref i2)) ?_))))));refine R2.done hh (R2.keep p2 λo e=>s3.extBut _ _ (Ne.symm n9) (s2.extBut _ _ (Ne.symm n10) (s1.extBut _ _ (Ne.symm n4) e))) (R2.hkeep l2 λo e=>s3.extBut _ _ r2 (s2.extBut _ _ r3 (s1.extBut _ _ r1 e))) hy λg4 e s4 ⟨oe,he,ce⟩=>?_;have z4:IsZip g4 z ti to Value.ellipsis:=s4 _ _ n4 (s3.extBut _ _ n2 (s2.extBut _ _ n3 z1));have ez:e≠z:=λq=>by subst q;rw [z4] at he;cases he;simp at ce
  refine wpAny_setField_rec z4 (by simp) λg5 _ s5=>hE g5 e (λc o hc q=>?_) ⟨oe,s5.extBut _ _ ez he,ce⟩;simp only [mem_cons,not_mem_nil,not_or,or_false] at hc;exact s5.extBut _ _ hc.1 (s4 _ _ hc.2.2.2 (s3.extBut _ _ hc.2.1 (s2.extBut _ _ hc.2.2.1 (s1.extBut _ _ hc.1 q))))
end
abbrev qpO (b:Bool):String:=if b then "list_iterator" else "tuple_iterator"
abbrev zS (b:Bool) (c:Addr):Obj:={ cls:=.type (qpO b),data:=.fields #[.ref c,.int 0 0] }
def qdH (b:Bool) (it c:Addr) (k:Nat) (h:Heap):Prop:=match b with|true=>h.IsListIter it c k|false=>h.IsTupleIter it c k
def LN (b:Bool) (c:Addr) (xs:Array Value) (h:Heap):Prop:=match b with|true=>h.IsList c xs|false=>h.IsTuple c xs
def zU {P:Program} {w:World} (b:Bool) (it c:Addr):Src P w it c (qdH b it c) (LN b c):=by
 cases b
 ·exact qgZ it c
 ·exact qdX it c
def ME {P:Program} {w:World} {A:Around} {s:Shared} {b:Bool} {c:Addr} {xs:Array Value} {Q:Value->Shared->Prop} {E:Value->Shared->Prop} (h:LN b c xs s.heap) (q:Q (.ref s.heap.objs.size) { s with heap:=s.heap.push (zS b c) }) :
  wpAny (model P w) A (pyIter (.ref c)) Q E s:=by
 cases b
 ·exact wpAny_pyIter_tuple (show s.heap.IsTuple c xs from h) q
 ·exact wpAny_pyIter_list (show s.heap.IsList c xs from h) q
def qcU {b:Bool} {c:Addr} {xs:Array Value} {h:Heap} {o:Obj} (q:LN b c xs h):LN b c xs (h.push o):=by
 cases b
 ·exact (show h.IsTuple c xs from q).at λ_ e=>v0 _ e
 ·exact (show h.IsList c xs from q).at λ_ e=>v0 _ e
abbrev zh1 (h:Heap) (o1:Obj):Heap:=h.push o1
abbrev zh2 (h:Heap) (o1 o2:Obj):Heap:=(zh1 h o1).push o2
abbrev zh3 (h:Heap) (o1 o2:Obj):Heap:=(zh2 h o1 o2).push { cls:=.type "tuple",data:=.seq #[.ref h.objs.size,.ref (zh1 h o1).objs.size] }
abbrev zh4 (h:Heap) (o1 o2:Obj):Heap:=(zh3 h o1 o2).push { cls:=.type "tuple",data:=.seq #[.none,.none] }
abbrev zh5 (h:Heap) (o1 o2:Obj):Heap:=(zh4 h o1 o2).push { cls:=.type "zip",data:=.fields #[.none,.bool false,.bool false,.ref (zh2 h o1 o2).objs.size,.ref (zh3 h o1 o2).objs.size] }
def qdr (c1 c2:Addr) (o1 o2:Obj) :
  Meets (Builtin.«zip.__new__» ⟨[.type "zip",.ref c1,.ref c2],[]⟩) (λ_ R s=>
   (∀ (P:Program) (w:World) (A:Around) (Q:Value->Shared->Prop) (E:Value->Shared->Prop),Q (.ref s.heap.objs.size) { s with heap:=zh1 s.heap o1 }->wpAny (model P w) A (pyIter (.ref c1)) Q E s) /\
   (∀ (P:Program) (w:World) (A:Around) (Q:Value->Shared->Prop) (E:Value->Shared->Prop),Q (.ref (zh1 s.heap o1).objs.size) { s with heap:=zh2 s.heap o1 o2 }->wpAny (model P w) A (pyIter (.ref c2)) Q E { s with heap:=zh1 s.heap o1 }) /\
   R (.ok (.ret (.ref (zh4 s.heap o1 o2).objs.size))) { s with heap:=zh5 s.heap o1 o2 }):=
 .of_wp λprog w A R s h=>by
  obtain ⟨hp,g,d,tk,os⟩:=s;obtain ⟨h1,h2,h⟩:=h;have hsub:=sub_zip;have k1:=λA Q E=>h1 prog w A Q E;have k2:=λA Q E=>h2 prog w A Q E
  wp_walk using k1 _ _ _,k2 _ _ _
  exact ⟨_,rfl,h⟩
def qdP (b1 b2:Bool) (z ti to i1 i2 c1 c2:Addr) (k:Nat) (h:Heap):Prop:=
 IsZip h z ti to .none/\IsPair h ti (.ref i1) (.ref i2)/\(∃ a b,IsPair h to a b)/\qdH b1 i1 c1 k h/\qdH b2 i2 c2 k h
section
variable {P:Program} {w:World} {A:Around} {s:Shared} {E:Value->Shared->Prop}
def qer {b1 b2:Bool} {c1 c2:Addr} {xs ys:Array Value} {Q:Value->Shared->Prop} (h1:LN b1 c1 xs s.heap) (h2:LN b2 c2 ys s.heap)
  (q:∀ h',qdP b1 b2 (s.heap.objs.size+4) (s.heap.objs.size+2) (s.heap.objs.size+3) s.heap.objs.size (s.heap.objs.size+1) c1 c2 0 h'->(∀ c o,s.heap.get? c=some o->h'.get? c=some o)->Q (.ref (s.heap.objs.size+4)) { s with heap:=h' }) :
  wpAny (model P w) A (call (.type "zip") [.ref c1,.ref c2]) Q E s:=by
 refine callType_new F.called_zip (by decide) (F.typeCall_zip_2 _ _) (F.newCall_zip_2 _ _) (λobj=>F.args_object_init_3 obj _ _) F.entry_zip_new
  (qdr c1 c2 (zS b1 c1) (zS b2 c2)) ⟨λP w A Q E q=>ME h1 q,λP w A Q E q=>ME (s:={ s with heap:=zh1 s.heap (zS b1 c1) }) (qcU h2) q,?_⟩
 have e1:(zh1 s.heap (zS b1 c1)).objs.size=s.heap.objs.size+1:=Heap.size_push ..;have e2:(zh2 s.heap (zS b1 c1) (zS b2 c2)).objs.size=s.heap.objs.size+2:=by rw [Heap.size_push,e1]
 have e3:(zh3 s.heap (zS b1 c1) (zS b2 c2)).objs.size=s.heap.objs.size+3:=by rw [Heap.size_push,e2]
 have e4:(zh4 s.heap (zS b1 c1) (zS b2 c2)).objs.size=s.heap.objs.size+4:=by rw [Heap.size_push,e3]
 have g5:(zh5 s.heap (zS b1 c1) (zS b2 c2)).get? (zh4 s.heap (zS b1 c1) (zS b2 c2)).objs.size=some _:=v4 _ rfl;have g4:(zh5 s.heap (zS b1 c1) (zS b2 c2)).get? (zh3 s.heap (zS b1 c1) (zS b2 c2)).objs.size=some _:=v0 _ (v4 _ rfl);have g3:(zh5 s.heap (zS b1 c1) (zS b2 c2)).get? (zh2 s.heap (zS b1 c1) (zS b2 c2)).objs.size=some _:=v0 _ (v0 _ (v4 _ rfl));have g2:(zh5 s.heap (zS b1 c1) (zS b2 c2)).get? (zh1 s.heap (zS b1 c1)).objs.size=some (zS b2 c2):=v0 _ (v0 _ (v0 _ (v4 _ rfl)));have g1:(zh5 s.heap (zS b1 c1) (zS b2 c2)).get? s.heap.objs.size=some (zS b1 c1):=v0 _ (v0 _ (v0 _ (v0 _ (v4 _ rfl))));show _/\_;rw [e2,e3,e4] at g5;rw [e1,e2] at g3;rw [e3] at g4;rw [e1] at g2;rw [e4];refine ⟨⟨_,g5,rfl⟩,q _ ⟨g5,g3,⟨_,_,g4⟩,?_,?_⟩ λc o e=>v0 _ (v0 _ (v0 _ (v0 _ (v0 _ e))))⟩
 ·cases b1<;>exact ⟨_,g1,rfl,rfl⟩
 ·cases b2<;>exact ⟨_,g2,rfl,rfl⟩
def qdU {b1 b2:Bool} {z ti to i1 i2 c1 c2:Addr} {k:Nat} {xs ys:Array Value} {x y:Value} {Q:Option Value->Shared->Prop} (D:ZA z ti to i1 i2 c1 c2) (st:qdP b1 b2 z ti to i1 i2 c1 c2 k s.heap) (l1:LN b1 c1 xs s.heap) (l2:LN b2 c2 ys s.heap) (hx:xs[k]?=some x) (hy:ys[k]?=some y)
  (hQ:∀ h',IsZip h' z ti to (rawInt s.heap.objs.size)->IsPair h' ti (.ref i1) (.ref i2)->(∃ a b,IsPair h' to a b)->qdH b1 i1 c1 (k+1) h'->qdH b2 i2 c2 (k+1) h'->IsPair h' s.heap.objs.size x y->(∀ c o,c∉[z,to,i1,i2]->s.heap.get? c=some o->h'.get? c=some o)->Q (some (.ref s.heap.objs.size)) { s with heap:=h' }) :
  wpAny (model P w) A (pyNext (.ref z)) Q E s:=by
 obtain ⟨hz,hi,⟨a,b,ho⟩,p1,p2⟩:=st;have ty:s.TypeIs (.ref z) "zip" := ⟨_,hz,rfl⟩
 have nti:ti∉[z,to,i1,i2]:=by
  have ne:=D.ne;simp only [List.nodup_cons,mem_cons,not_mem_nil,not_or,or_false] at ne ⊢;exact ⟨Ne.symm ne.1.1,ne.2.1.1,ne.2.1.2.1,ne.2.1.2.2⟩
 unfold pyNext;exact y6 (wpAny_attempt (wpAny_callSpecial?_slot (name:=Str.ofString "__next__") ty F.slot_zip_next (wpAny_call_entry F.slot_zip_next ty F.entry_zip_next
  (qd8 (zU b1 i1 c1) (zU b2 i2 c2) D hz hi ho p1 p2 l1 l2 hx hy λh' u1 u2 u3 u4 u5 u6=>y8 (hQ h' u1 (u6 _ _ nti hi) ⟨_,_,u2⟩ u3 u4 u5 u6)) (F.args_zip_next_1 _))))
def KA {b1 b2:Bool} {z ti to i1 i2 c1 c2:Addr} {k:Nat} {xs ys:Array Value} {Q:Option Value->Shared->Prop} (hh:A.handled=none) (D:ZA z ti to i1 i2 c1 c2) (st:qdP b1 b2 z ti to i1 i2 c1 c2 k s.heap) (l1:LN b1 c1 xs s.heap) (l2:LN b2 c2 ys s.heap) (hend:xs[k]?=none\/ys[k]?=none)
  (hQ:∀ h',(∀ c o,c∉[z,to,i1,i2]->s.heap.get? c=some o->h'.get? c=some o)->Q none { s with heap:=h' }):wpAny (model P w) A (pyNext (.ref z)) Q E s:=by
 obtain ⟨hz,hi,⟨a,b,ho⟩,p1,p2⟩:=st;have ty:s.TypeIs (.ref z) "zip" := ⟨_,hz,rfl⟩
 unfold pyNext;refine y6 (wpAny_attempt (wpAny_callSpecial?_slot (name:=Str.ofString "__next__") ty F.slot_zip_next (wpAny_call_entry F.slot_zip_next ty F.entry_zip_next
  (qhf hh (zU b1 i1 c1) (zU b2 i2 c2) D hz hi ho p1 p2 l1 l2 hend λh' e hk ⟨o,q1,q2⟩=>?_) (F.args_zip_next_1 _))))
 exact y6 (wpAny_isInstance (T:="StopIteration") (b:=true) ⟨o,q1,q2⟩ isSubtype_stop (y8 (hQ _ hk)))
end
def SqB (K:Frg) (b:Bool) (H:Hp) (a:Addr) (xs:List V):Prop:=match b with|true=>SqL K H a xs|false=>SqT K H a xs
def SqB.get {X:Cx} {pins:List (Addr×Obj)} {σ:L2.St} {H:Hp} {s:Shared} {b:Bool} {a:Addr} {xs:List V} (I:Inv X pins σ H s) (h:SqB X.K b H a xs):∃ its:List Value,zo xs its/\LN b a its.toArray s.heap/\xs.length<=sizeLine:=by
 cases b
 ·obtain ⟨its,r,p,hz⟩:=I.tuple (show SqT X.K H a xs from h);exact ⟨its,r,(show s.heap.IsTuple a its.toArray from p),hz⟩
 ·obtain ⟨its,r,p,hz⟩:=I.list (show SqL X.K H a xs from h);exact ⟨its,r,p.isList,hz⟩
def SqB.inj {X:Cx} {pins:List (Addr×Obj)} {σ:L2.St} {H:Hp} {s:Shared} {b:Bool} {a:Addr} {xs ys:List V} (I:Inv X pins σ H s) (h:SqB X.K b H a xs) (h':SqB X.K b H a ys):xs=ys:=by
 cases b
 ·exact I.tuple_inj h h'
 ·exact I.list_inj h h'
def Itz (K:Frg) (b1 b2:Bool) (c1 c2:Addr):It:=
  ⟨λi H=>∃ xs ys x y,SqB K b1 H c1 xs/\SqB K b2 H c2 ys/\xs[i]?=some x/\ys[i]?=some y,
   λi H v H'=>∃ p x y,H p=none/\v=.ref p/\H'=upd H p (.tup [x,y])/\(∀ xs,SqB K b1 H c1 xs->xs[i]?=some x)/\(∀ ys,SqB K b2 H c2 ys->ys[i]?=some y),
   λi H=>∃ xs ys,SqB K b1 H c1 xs/\SqB K b2 H c2 ys/\(xs.length<=i\/ys.length<=i)⟩
def qhP {b:Bool} {c:Addr} {xs:Array Value} {h:Heap} (q:LN b c xs h):c<h.objs.size:=by
 cases b
 ·obtain ⟨o,e,_⟩:=(show h.IsTuple c xs from q);exact v5 e
 ·obtain ⟨o,e,_⟩:=(show h.IsList c xs from q);exact v5 e
def qeJ {P:Program} {w:World} {K:Frg} {es:List Expr} {k1:Nat} {pt:Pos} {b1 b2:Bool} {z ti to i1 i2 c1 c2:Addr} (D:ZA z ti to i1 i2 c1 c2):Turn P w K (.Tuple es k1 pt) (Itz K b1 b2 c1 c2) [z,ti,to,i1,i2] z (qdP b1 b2 z ti to i1 i2 c1 c2) where
 mem:=by simp
 obj:=λi h ⟨hz,hi,⟨a,b,ho⟩,p1,p2⟩ c hc=>by
  simp only [mem_cons,not_mem_nil,or_false] at hc;rcases hc with rfl|rfl|rfl|rfl|rfl
  ·exact ⟨_,hz,λv q=>by cases q⟩
  ·exact ⟨_,hi,λv q=>by cases q⟩
  ·exact ⟨_,ho,λv q=>by cases q⟩
  ·exact (zU (P:=P) (w:=w) b1 c c1).obj p1
  ·exact (zU (P:=P) (w:=w) b2 c c2).obj p2
 keep:=λi h h' ⟨hz,hi,⟨a,b,ho⟩,p1,p2⟩ k=>
  ⟨k z (by simp) _ hz,k ti (by simp) _ hi,⟨a,b,k to (by simp) _ ho⟩,(zU (P:=P) (w:=w) b1 i1 c1).keep p1 λo e=>k i1 (by simp) o e,(zU (P:=P) (w:=w) b2 i2 c2).keep p2 λo e=>k i2 (by simp) o e⟩
 item:=by
  intro X hP hw hK hc i pins s σ H E I hf st hg;subst hP hw hK;obtain ⟨xs,ys,x,y,sq1,sq2,hx,hy⟩:=hg;obtain ⟨its1,rv1,l1,z1⟩:=sq1.get I;obtain ⟨its2,rv2,l2,z2⟩:=sq2.get I;obtain ⟨u1,hu1,ru1⟩:=rv1.get hx;obtain ⟨u2,hu2,ru2⟩:=rv2.get hy;refine qdU D st l1 l2 (x:=u1) (y:=u2) (by simpa using hu1) (by simpa using hu2) λh' hz hi ho p1 p2 hp hk=>?_;have hfr:H s.heap.objs.size=none:=I.fresh;have free:∀ b∈[z,ti,to,i1,i2],H b=none:=λb hb=>(hf b hb).1;refine ⟨_,rfl,wpAny_letOwnedTupleGo_zip hz λh2 hz2 s2=>?_⟩;have zlt:z<s.heap.objs.size:=v5 st.1;have hp2:IsPair h2 s.heap.objs.size u1 u2:=(s2.2 _ (Nat.ne_of_gt zlt)).trans hp;have ne:=D.ne;simp only [List.nodup_cons,mem_cons,not_mem_nil,not_or,or_false] at ne;have up:∀ c o,c≠z->h'.get? c=some o->h2.get? c=some o:=λc o hc e=>(s2.2 c hc).trans e;have kk:∀ c o,c∉[z,to,i1,i2]->s.heap.get? c=some o->h2.get? c=some o:=λc o hc e=>up c o (λq=>hc (by simp [q])) (hk c o hc e);have I3:Inv X pins σ (upd H s.heap.objs.size (.tup [x,y])) { s with heap:=h2 }:=by
   refine I.step (g':=s.gens) (d':=s.drawn) (t':=s.toks) (ch:=[z,to,i1,i2]) (λb hb=>?_) (λb o _ _ hcb e _=>kk b o hcb e) (λb o _ _ hcb e _=>⟨o.slots,kk b o hcb e⟩) (λb o _ e n=>by rw [qE (za3 (v5 e))];exact n) (λb o hcb e=>⟨o,kk b o hcb e⟩)
    (λb _ e=>by rw [qE (qB e hfr)];exact e) (λb _ _ e=>by rw [qE (qB e hfr)];exact e) (λb ps e=>⟨#[],by rw [qE (qB e hfr),e];simp⟩) (λm hm=>?_) (λb u e=>?_) I.bare
   ·obtain ⟨f0,f1,f2,f3,f4,f5⟩:=hf b (by simp only [mem_cons,not_mem_nil,or_false] at hb ⊢;rcases hb with q|q|q|q<;>simp [q]);exact ⟨f3,f1,f4,f5⟩
   ·obtain ⟨o,es',ep,ho',r⟩:=hm;refine ⟨o,es',ep,kk _ o (λq=>?_) ho',r⟩;obtain ⟨f0,f1,_⟩:=hf X.env.locals (by simp only [mem_cons,not_mem_nil,or_false] at q ⊢;rcases q with q|q|q|q<;>simp [q]);exact f1 rfl
   ·by_cases hb:b=s.heap.objs.size
    ·subst hb;rw [qW] at e;cases e;exact ⟨by show 2<=sizeLine;decide,[u1,u2],.cons ru1 (.cons ru2 .nil),⟨_,hp2,rfl,_,rfl,rfl⟩⟩
    ·rw [qE hb] at e;refine (I.hok b u e).stay (λc v hcb q=>kk c v (λm=>?_) q) (λ_ q=>by rw [qE (qB q hfr)];exact q) λ_ _ q=>by rw [qE (qB q hfr)];exact q
     have hn:=free c (by simp only [mem_cons,not_mem_nil,or_false] at m ⊢;rcases m with q|q|q|q<;>simp [q]);rcases hcb with q|q
     ·rw [q] at hn;rw [hn] at e;cases e
     ·rw [hn] at q;cases q
  refine ⟨.ref s.heap.objs.size,_,I3,rfl,⟨_,x,y,hfr,rfl,rfl,λzs q=>by rw [q.inj I sq1];exact hx,λzs q=>by rw [q.inj I sq2];exact hy⟩,⟨hz2,up _ _ (Ne.symm ne.1.1) hi,let ⟨a,b,q⟩:=ho;⟨a,b,up _ _ (Ne.symm ne.1.2.1) q⟩,(zU (P:=X.prog) (w:=X.w) b1 i1 c1).keep p1 λo e=>up _ o (Ne.symm ne.1.2.2.1) e,(zU (P:=X.prog) (w:=X.w) b2 i2 c2).keep p2 λo e=>up _ o (Ne.symm ne.1.2.2.2) e⟩,λb hb=>?_⟩;rw [qE (λq=>?_)]
  ·exact free b hb
  ·subst q;obtain ⟨hz0,hi0,⟨a0,b0,ho0⟩,q1,q2⟩:=st;simp only [mem_cons,not_mem_nil,or_false] at hb;rcases hb with q|q|q|q|q
   ·exact absurd q (Nat.ne_of_gt zlt)
   ·exact absurd q (Nat.ne_of_gt (v5 hi0))
   ·exact absurd q (Nat.ne_of_gt (v5 ho0))
   ·obtain ⟨o,e,_⟩:=(zU (P:=X.prog) (w:=X.w) b1 i1 c1).obj q1;exact absurd q (Nat.ne_of_gt (v5 e))
   ·obtain ⟨o,e,_⟩:=(zU (P:=X.prog) (w:=X.w) b2 i2 c2).obj q2;exact absurd q (Nat.ne_of_gt (v5 e))
 done:=by
  intro X hP hw hK hc i pins s σ H E I hf st hg;subst hP hw hK;obtain ⟨xs,ys,sq1,sq2,hend⟩:=hg;obtain ⟨its1,rv1,l1,z1⟩:=sq1.get I;obtain ⟨its2,rv2,l2,z2⟩:=sq2.get I;have e1:=rv1.length;have e2:=rv2.length;refine KA (I.ok.hd hc) D st l1 l2 (by rcases hend with q|q;exact .inl (by simp;omega);exact .inr (by simp;omega)) λh' hk=>⟨rfl,?_⟩
  have free:∀ b∈[z,ti,to,i1,i2],H b=none:=λb hb=>(hf b hb).1;refine I.step (g':=s.gens) (d':=s.drawn) (t':=s.toks) (ch:=[z,to,i1,i2]) (λb hb=>?_) (λb o _ _ hcb e _=>hk b o hcb e) (λb o _ _ hcb e _=>⟨o.slots,hk b o hcb e⟩) (λ_ _ _ _ n=>n) (λb o hcb e=>⟨o,hk b o hcb e⟩) (λ_ _ e=>e) (λ_ _ _ e=>e) (λb ps e=>⟨#[],by rw [e];simp⟩) (λm hm=>?_) (λb u e=>?_) I.bare
  ·obtain ⟨f0,f1,f2,f3,f4,f5⟩:=hf b (by simp only [mem_cons,not_mem_nil,or_false] at hb ⊢;rcases hb with q|q|q|q<;>simp [q]);exact ⟨f3,f1,f4,f5⟩
  ·obtain ⟨o,es',ep,ho',r⟩:=hm;refine ⟨o,es',ep,hk _ o (λq=>?_) ho',r⟩;obtain ⟨f0,f1,_⟩:=hf X.env.locals (by simp only [mem_cons,not_mem_nil,or_false] at q ⊢;rcases q with q|q|q|q<;>simp [q]);exact f1 rfl
  ·refine (I.hok b u e).stay (λc v hcb q=>hk c v (λm=>?_) q) (λ_ q=>q) λ_ _ q=>q;have hn:=free c (by simp only [mem_cons,not_mem_nil,or_false] at m ⊢;rcases m with q|q|q|q<;>simp [q]);rcases hcb with q|q
   ·rw [q] at hn;rw [hn] at e;cases e
   ·rw [hn] at q;cases q
 self:=λA i s Q E st h=>wpAny_pyIter_zip st.1 h
def qlh {n c1 c2:Addr} (h1:c1<n) (h2:c2<n):ZA (n+4) (n+2) (n+3) n (n+1) c1 c2:=by
 have k:∀ n c:Nat,c<n->c≠n+4/\c≠n+3/\c≠n/\c≠n+1:=λn c h=>by omega
 have d:∀ n:Nat,(([n+4,n+2,n+3,n,n+1]:List Nat)).Nodup:=λn=>by
  simp only [List.nodup_cons,mem_cons,not_mem_nil,not_or,or_false,List.nodup_nil,and_true,not_false_eq_true];omega
 refine ⟨d n,?_,?_⟩
 ·simp only [mem_cons,not_mem_nil,not_or,or_false];exact k n c1 h1
 ·simp only [mem_cons,not_mem_nil,not_or,or_false];exact k n c2 h2
section
variable {X:Cx} {a b e l:Expr} {es:List Expr} {pos:Pos}
def qnH {p pt:Pos} {k1:Nat} {ta:TA} (hg:Gl X "zip") (hm:X.mg "zip" = none) (ha:PA X [a,b] ta) (hs:starEach [a,b] X.env=[(false,eval a X.env),(false,eval b X.env)]:=by rfl) (hs2:starEach [b] X.env=[(false,eval b X.env)]:=by rfl) :
  PI X (.Tuple es k1 pt) (.Call (.Name "zip" p) [a,b] [] pos) (λσ H R=>ta σ H λvs H1=>∃ b1 b2 c1 c2 xs ys,vs=[.ref c1,.ref c2]/\SqB X.K b1 H1 c1 xs/\SqB X.K b2 H1 c2 ys/\R (Itz X.K b1 b2 c1 c2) H1):=by
 intro pins s σ H R I h;refine Call_ (CJ I hg hm PyProof.Rows.boot_zip (PyProof.Rows.callWith_type1 (thn (ha pos pins s σ H _ I h) λus s1 ⟨vs,H1,I1,r1,q1⟩=>?_) (by rw [hs,hs2]) (by rw [hs2];rfl)));obtain ⟨b1,b2,c1,c2,xs,ys,rfl,sq1,sq2,q⟩:=q1;obtain ⟨u1,u2,rfl,e1,e2⟩:=qbc r1;cases (show u1=Value.ref c1 from e1);cases (show u2=Value.ref c2 from e2);obtain ⟨its1,rv1,l1,z1⟩:=sq1.get I1;obtain ⟨its2,rv2,l2,z2⟩:=sq2.get I1;refine qer l1 l2 λh' st hk=>wpAny_pyIter_zip st.1 ?_;refine ⟨s1.heap.objs.size+4,[s1.heap.objs.size+4,s1.heap.objs.size+2,s1.heap.objs.size+3,s1.heap.objs.size,s1.heap.objs.size+1],_,_,H1,rfl,I1.kept (t':=s1.toks) hk,qeJ (qlh (qhP l1) (qhP l2)),st,λc hc=>?_,q⟩;have hle:s1.heap.objs.size<=c:=by
  simp only [mem_cons,not_mem_nil,or_false] at hc;rcases hc with rfl|rfl|rfl|rfl|rfl<;>first|exact u7 _|exact Nat.le_add_right _ _
 exact I1.fpOk hle (I1.hok.fresh hle)
end
def jM (G:Gp):T->Option (List T)
 |.tup xs=>some xs
 |.ref p=>getL G p
 |_=>none
def qdn {K:Frg} {G0:Gp} {H0:Hp} {x:T} {v:V} {us:List T} (hr0:HR K G0 H0) (rx:Rp K H0 x v) (h:jM G0 x=some us) :
  ∃ b c,v=.ref c/\∀ G H,HR K G H->Kp G0 H0 G H->jM G x=some us->∃ vs,SqB K b H c vs/\Rps K H us vs:=by
 cases rx with
 |tup hs rs=>
  cases h;exact ⟨false,_,rfl,λG H hr k _=>⟨_,(TV hr0 k hs:SqT K H _ _),rs.keep hr0 k⟩⟩
 |ref a=>exact ⟨true,a,rfl,λG H hr k hq=>let ⟨vs,h1,h2⟩:=jd hr (show getL G a=some us from hq);⟨vs,h1,h2⟩⟩
 |_=>cases h
def qbs (us vs:List T):List T:=(us.zip vs).map λp=>.tup [p.1,p.2]
def TR {us vs:List T} {i:Nat} {x:T} (h:(qbs us vs)[i]?=some x):∃ a b,us[i]?=some a/\vs[i]?=some b/\x=.tup [a,b]:=by
 unfold qbs at h;rw [getElem?_map] at h;cases e:(us.zip vs)[i]? with
 |none=>rw [e] at h;cases h
 |some p=>
  rw [e] at h;have:=List.getElem?_zip_eq_some.mp e;exact ⟨p.1,p.2,this.1,this.2,by simpa using h.symm⟩
def qkC {K:Frg} {b1 b2:Bool} {c1 c2:Addr} {x y:T} {us vs:List T} {G0:Gp} {H0:Hp}
  (f1:∀ G H,HR K G H->Kp G0 H0 G H->jM G x=some us->∃ vs,SqB K b1 H c1 vs/\Rps K H us vs) (f2:∀ G H,HR K G H->Kp G0 H0 G H->jM G y=some vs->∃ ws,SqB K b2 H c2 ws/\Rps K H vs ws) :
  qiU K (Itz K b1 b2 c1 c2) (qbs us vs) (λG=>jM G x=some us/\jM G y=some vs) G0 H0:=by
 intro G H hr k ⟨h1,h2⟩;obtain ⟨p,sp,rp⟩:=f1 G H hr k h1;obtain ⟨q,sq,rq⟩:=f2 G H hr k h2;refine ⟨λi z hz=>?_,λi z v H' hz hy=>?_,⟨p,q,sp,sq,?_⟩⟩
 ·obtain ⟨a,b,ha,hb,_⟩:=TR hz;obtain ⟨v,hv,_⟩:=rp.get ha;obtain ⟨w,hw,_⟩:=rq.get hb;exact ⟨p,q,v,w,sp,sq,hv,hw⟩
 ·obtain ⟨a,b,ha,hb,rfl⟩:=TR hz;obtain ⟨t,v1,v2,ht,rfl,rfl,g1,g2⟩:=hy;obtain ⟨v,hv,rv⟩:=rp.get ha;obtain ⟨w,hw,rw'⟩:=rq.get hb;have e1:=(g1 p sp).symm.trans hv;have e2:=(g2 q sq).symm.trans hw;obtain rfl:v1=v:=Option.some.inj e1;obtain rfl:v2=w:=Option.some.inj e2;have kk:Kp G H G (upd H t (.tup [v1,v2])):=Kp.laid ht;exact ⟨.tup (SqT.of qW) (.cons (rv.keep hr kk) (.cons (rw'.keep hr kk) .nil)),hr.laid ht,kk⟩
 ·rw [← rp.length,← rq.length,show (qbs us vs).length=min us.length vs.length by simp [qbs]];omega
def qaM (ta:TA3):TI3:=λτ G r=>ta τ G λxs G1=>match xs with
 |[x,y]=>(match jM G1 x,jM G1 y with|some us,some vs=>r (qbs us vs) (λG=>jM G x=some us/\jM G y=some vs) G1|_,_=>False)
 |_=>False
section
variable {X:Cx} {a b e l:Expr} {es:List Expr} {pos:Pos} {t:TA3}
def qpu {p pt:Pos} {k1:Nat} (hg:Gl X "zip") (hm:X.mg "zip" = none) (ha:A3 X [a,b] t) (hs:starEach [a,b] X.env=[(false,eval a X.env),(false,eval b X.env)]:=by rfl) (hs2:starEach [b] X.env=[(false,eval b X.env)]:=by rfl) :
  I3 X (.Tuple es k1 pt) (.Call (.Name "zip" p) [a,b] [] pos) (qaM t):=
 qmQ (qnH hg hm ha hs hs2) λσ H R ⟨τ,G,r,rl,h,af⟩=>YM rl h λxs G1 h1 vs H1 rs hr1 k1 rl1=>by
  split at h1
  ·rename_i x y;split at h1
   ·rename_i us ws e1 e2;obtain ⟨v,u,rfl,r1,r2⟩:=qn7 rs;obtain ⟨b1,c1,rfl,f1⟩:=qdn hr1 r1 e1;obtain ⟨b2,c2,rfl,f2⟩:=qdn hr1 r2 e2;obtain ⟨p,sp,_⟩:=f1 G1 H1 hr1 Kp.refl e1;obtain ⟨q,sq,_⟩:=f2 G1 H1 hr1 Kp.refl e2;exact ⟨b1,b2,c1,c2,p,q,rfl,sp,sq,af _ _ G1 h1 _ H1 hr1 k1 (qkC f1 f2)⟩
   ·exact h1.elim
  ·exact h1.elim
def VW:List T->Gp->Q3->Prop:=λxs G q=>match xs with
 |[.ref p]=>(match getL G p with|some ys=>(match qiV ys with|some k=>q (.bl k) G|none=>False)|none=>False)
 |_=>False
theorem qa9 {K:Frg} {H:Hp}:∀ {ys:List T} {vs:List V} {k:Bool},Rps K H ys vs->qiV ys=some k->∃ ks:List Bool,vs=ks.map V.bl/\ks.all id=k
 |_,_,_,.nil,h=>by cases h;exact ⟨[],rfl,rfl⟩
 |y::ys,_,k,.cons a b,h=>by
  unfold qiV at h;split at h
  ·rename_i e;cases e
  ·rename_i j r e;cases e;split at h
   ·rename_i i ei;obtain ⟨ks,rfl,hk⟩:=qa9 b ei;cases a;cases h;exact ⟨j::ks,rfl,by rw [List.all_cons,hk];rfl⟩
   ·cases h
  ·cases h
def qgT {K:Frg}:qah K VW (λxs H Q=>∃ (p:Addr) (ks:List Bool),xs=[.ref p]/\SqL K H p (ks.map V.bl)/\Q (.bl (ks.all id)) H):=λxs vs G H q Q hr rs h af=>by
 unfold VW at h;split at h
 ·rename_i p;obtain ⟨v,rfl,r⟩:=LR rs;cases r;split at h
  ·rename_i ys e0;split at h
   ·rename_i k e1;obtain ⟨us,hs,r2⟩:=jd hr e0;obtain ⟨ks,rfl,hk⟩:=qa9 r2 e1;exact ⟨p,ks,rfl,hs,by rw [hk];exact af _ G h _ H (.bl _) hr Kp.refl⟩
   ·exact h.elim
  ·exact h.elim
 ·exact h.elim
end
def qpT:Value->Bool
 |.type t=>t == "list"
 |_=>false
def DO:List (Addr×Obj)->Bool
 |[]=>true
 |p::r=>if qpT p.2.cls then false else DO r
theorem C5:∀ {K:List (Addr×Obj)} {a:Addr} {o:Obj},DO K=true->K.lookup a=some o->o.cls≠.type "list"
 |[],_,_,_,e=>by simp at e
 | (b,x)::r,a,o,h,e=>by
  unfold DO at h;split at h
  ·cases h
  ·rename_i hx;rw [List.lookup_cons] at e;split at e
   ·cases e;intro z;rw [z] at hx;exact hx rfl
   ·exact C5 h e
def qaI {K:Frg} {H:Hp} {a:Addr} {ns:List Int} (hK:DO K=true) (hO:qoc H) (hS:SqL K H a (ns.map V.int)):∃ o,H a=some (.frz o (.lst (ns.map V.int))):=by
 rcases hS with (h|h)|⟨o,its,n,h1,h2,_⟩
 ·rcases hO a with z|⟨o,xs,z⟩<;>(rw [h] at z;cases z)
 ·exact h
 ·exact absurd h2 (C5 hK h1)
def only (a:Addr) (ns:List Int):Gp:=λb=>if b=a then some (.frz (ns.map T.int)) else none
def qh3 {K:Frg} {H:Hp} {a:Addr} {ns:List Int} (h:∃ o,H a=some (.frz o (.lst (ns.map V.int)))):HR K (only a ns) H:=λb o e=>by
 unfold only at e;split at e
 ·rename_i hb;subst hb;cases e;exact ⟨_,h,Rps.ints ns⟩
 ·cases e
def C8:Sp3:=λts G q=>∃ (a:Addr) (ns:List Int),ts=[.ref a]/\G a=some (.frz (ns.map T.int))/\ns.length<=63/\∀ G',q (.bl true) G'
def qo1 {l:PySem.W.OpenLaw} {k:Nat} {q:Program} {loose:List Str} {XP:(Str->Option Value)->Heap->Prop} {YP:World->Heap->Prop} {d:DefRec} {K:Params->PySem.W.Frag} {x:Str} (hn:l.most=some 63) (hdf:d.params.defaults=[]) (hr:Room k callerA)
  (hY:∀ (w:World) (h:Heap),YP w h->(K w.params).In h) (hK:∀ w:World,DO (K w.params)=true)
  (F:∀ (w:World) (mg:Str->Option Value) (fa:Addr) (h:Heap),(K w.params).In h->h.Ns mainGlobals mg->mg d.name=some (.ref fa) ->
   ∃ fd:FuncData,(∀ (s:Shared) (u:Value),BindsTo s fd ⟨[u],[]⟩ [(x,u)])/\∀ base:Heap,(K w.params).In base->base.Ns mainGlobals mg->FnOk l.prog w (K w.params) mg base CX0 k fa fd [x] (lSp (K w.params) C8)) :
  PySem.W.WalkO q loose XP YP l.row.toRowW d [] (λf vs=>PySem.call f vs):=
 L2.qhx (n:=63) (k:=k) (x:=x) (CX:=λ_=>CX0) (sp:=λw=>lSp (K w.params) C8) hn (by decide) hdf hr hY F
  (λw H a ns hl hO hS=>⟨[.ref a],only a ns,λt _=>t=.bl true,qh3 (qaI (hK w) hO hS),.cons (.ref a) .nil,⟨a,ns,rfl,by simp [only],hl,λ_=>rfl⟩,λt G' e v H' r _ _=>by subst e;cases r;rfl⟩) λ_ _ _ _ _ z=>z
def qht {P:Program} {w:World} {K:Frg} {mg:Str->Option Value} {base:Heap} {x qual:Str} {st:Stmt} {f:Addr} {fd:FuncData} {N ps:List Str} {k:Nat} {sp:Sp3} {t3:TS3} (F:Fun K x qual st f fd) (S:FnScope N ps (ql st))
  (body:∀ (cdv:Value) (A:Around) (outer:List Env) (s:Shared) (H:Hp) (E:XK),Room k (A.deeper (envOfC qual (ql st) s.heap.objs.size f cdv)) ->
   B3 (qcO CX0 P w K mg base N qual (ql st) f cdv A outer s H E).nox (zW st) t3)
  (read:∀ ts G q,sp ts G q->ts.length=ps.length/\t3 { nx:=λ_ G'=>q .non G',rt:=q } (qq N ts) G):FnOk P w K mg base CX0 (k+1) f fd ps (lSp K sp):=by
 refine F.ok S (λvs H Q E ⟨ts,G,q,h1,h2,h3,h4⟩=>by rw [← h2.length];exact (read ts G q h3).1) λcdv A outer s H vs Q E hr ⟨ts,G,q,h1,h2,h3,h4⟩=>?_;refine ⟨_,body cdv A outer s H E hr,qq N ts,G,_,LC h1 h2,(read ts G q h3).2,⟨λτ' G' h' σ' H' rl' k'=>h4 _ G' h' _ H' .non rl'.hp k',h4,λ_ _ z=>z.elim,λ_ _ z=>z.elim⟩⟩
abbrev eh1 (h:Heap) (o1:Obj):Heap:=h.push o1
abbrev eh2 (h:Heap) (o1:Obj):Heap:=(eh1 h o1).push { cls:=.type "enumerate",data:=.fields #[.none,.bool false,.ref h.objs.size,rawInt 0,.none,.none] }
def qaq (c:Addr) (o1:Obj) (ob:Obj) :
  Meets (Builtin.«enumerate.__new__» ⟨[.type "enumerate",.ref c],[]⟩) (λ_ R s=>s.heap.get? c=some ob /\
   (∀ (P:Program) (w:World) (A:Around) (Q:Value->Shared->Prop) (E:Value->Shared->Prop),Q (.ref s.heap.objs.size) { s with heap:=eh1 s.heap o1 }->wpAny (model P w) A (pyIter (.ref c)) Q E s) /\
   R (.ok (.ret (.ref (eh1 s.heap o1).objs.size))) { s with heap:=eh2 s.heap o1 }):=
 .of_wp λprog w A R s h=>by
  obtain ⟨hp,g,d,tk,os⟩:=s;obtain ⟨hl,h1,h⟩:=h;have hsub:=sub_enumerate;have k1:=λA Q E=>h1 prog w A Q E
  wp_walk using wpAny_loadPart' hl
  refine wpAny_stack_any λst=>y8 ?_;split
  ·rename_i c _ _ _ _ _;cases (c==Value.type "enumerate")
   ·wp_walk using wpAny_loadPart' hl,k1 _ _ _
    exact ⟨_,rfl,h⟩
   ·wp_walk using wpAny_loadPart' hl,k1 _ _ _
    exact ⟨_,rfl,h⟩
  ·wp_walk using wpAny_loadPart' hl,k1 _ _ _
   exact ⟨_,rfl,h⟩
def qec {b:Bool} {c:Addr} {xs:Array Value} {h:Heap} (q:LN b c xs h):∃ o,h.get? c=some o:=by
 cases b
 ·obtain ⟨o,e,_⟩:=(show h.IsTuple c xs from q);exact ⟨o,e⟩
 ·obtain ⟨o,e,_⟩:=(show h.IsList c xs from q);exact ⟨o,e⟩
section
variable {P:Program} {w:World} {A:Around} {s:Shared} {E:Value->Shared->Prop}
def qcl {b:Bool} {c:Addr} {xs:Array Value} {Q:Value->Shared->Prop} (h1:LN b c xs s.heap)
  (q:∀ h',IsEnum h' (s.heap.objs.size+1) s.heap.objs.size 0 .none->qdH b s.heap.objs.size c 0 h'->(∀ c o,s.heap.get? c=some o->h'.get? c=some o)->Q (.ref (s.heap.objs.size+1)) { s with heap:=h' }) :
  wpAny (model P w) A (call (.type "enumerate") [.ref c]) Q E s:=by
 obtain ⟨ob,hob⟩:=qec h1;refine callType_new F.called_enumerate (by decide) (F.typeCall_enumerate_1 _) (F.newCall_enumerate_1 _) (λobj=>F.args_object_init_2 obj _) F.entry_enumerate_new
  (qaq c (zS b c) ob) ⟨hob,λP w A Q E q=>ME h1 q,?_⟩
 have e1:(eh1 s.heap (zS b c)).objs.size=s.heap.objs.size+1:=Heap.size_push ..;have g2:(eh2 s.heap (zS b c)).get? (eh1 s.heap (zS b c)).objs.size=some _:=v4 _ rfl;have g1:(eh2 s.heap (zS b c)).get? s.heap.objs.size=some (zS b c):=v0 _ (v4 _ rfl);show _/\_;rw [e1] at g2 ⊢;refine ⟨⟨_,g2,rfl⟩,q _ g2 ?_ λc o e=>v0 _ (v0 _ e)⟩;cases b<;>exact ⟨_,g1,rfl,rfl⟩
end
def qd3 {P:Program} {w:World} {A:Around} (hh:A.handled=none) (b:Bool) (it c:Addr) (hne:c≠it) (xs:Array Value) :
  Draws P w A it [it,c] xs.size (λi v=>xs[i]?=some v) (λi h=>qdH b it c i h/\LN b c xs h) where
 live:=λi h st=>let ⟨o,e,_⟩:=(zU (P:=P) (w:=w) b it c).obj st.1;⟨o,e⟩
 frame:=λi h h' st hk=>⟨(zU (P:=P) (w:=w) b it c).keep st.1 λo e=>hk it (by simp) o e,(zU (P:=P) (w:=w) b it c).hkeep st.2 λo e=>hk c (by simp) o e⟩
 item:=λi s Q E hi st hQ=>by
  refine (zU (P:=P) (w:=w) b it c).item st.1 st.2 (x:=xs[i]) (by simp [hi]) λh' st' sb=>?_;exact hQ _ h' s.toks (by simp [hi]) ⟨st',(zU (P:=P) (w:=w) b it c).hkeep st.2 λo e=>(sb.2 c hne).trans e⟩ sb
 done:=λs Q E st hE=>(zU (P:=P) (w:=w) b it c).done hh st.1 st.2 (by simp) hE
def TM {P:Program} {w:World} {A:Around} {s:Shared} {E:Value->Shared->Prop} {b:Bool} {e it c:Addr} {i:Nat} {xs:Array Value} {old:Value} {Q:Option Value->Shared->Prop} (hh:A.handled=none) (he:IsEnum s.heap e it i old) (p1:qdH b it c i s.heap) (l1:LN b c xs s.heap) (hx:xs[i]?=none)
  (hQ:∀ h',Heap.ExtBut it s.heap h'->Q none { s with heap:=h' }):wpAny (model P w) A (pyNext (.ref e)) Q E s:=by
 have hT:s.TypeIs (.ref e) "enumerate" := ⟨_,he,rfl⟩
 unfold pyNext;refine y6 (wpAny_attempt (wpAny_callSpecial?_slot (name:=Str.ofString "__next__") hT F.slot_enumerate_next
  (wpAny_call_entry F.slot_enumerate_next hT F.entry_enumerate_next ?_ (F.args_enumerate_next_1 _))))
 show wpAny _ _ (field (.ref e) 2 >>= _) _ _ _;refine y6 (wpAny_field he rfl (x:=.ref it) rfl ?_);refine y6 ((zU (P:=P) (w:=w) b it c).done (show A.in1.handled=none from hh) p1 l1 hx λh' x he' hx'=>?_);obtain ⟨o,ho,hc⟩:=hx';refine y6 (wpAny_isInstance (T:="StopIteration") (b:=true) ⟨o,ho,hc⟩ isSubtype_stop ?_);exact y8 (hQ _ he')
def Ite (K:Frg) (b:Bool) (c:Addr):It:=
  ⟨λi H=>∃ xs x,SqB K b H c xs/\xs[i]?=some x,
   λi H v H'=>∃ p x,H p=none/\v=.ref p/\H'=upd H p (.tup [.int i,x])/\(∀ xs,SqB K b H c xs->xs[i]?=some x),
   λi H=>∃ xs,SqB K b H c xs/\xs.length<=i⟩
def qny (b:Bool) (e it c:Addr) (k:Nat) (h:Heap):Prop:=(∃ old,IsEnum h e it k old)/\qdH b it c k h
def qa1 {P:Program} {w:World} {K:Frg} {es:List Expr} {k1:Nat} {pt:Pos} {b:Bool} {e it c:Addr} (n1:e≠it) (n2:c≠e) (n3:c≠it):Turn P w K (.Tuple es k1 pt) (Ite K b c) [e,it] e (qny b e it c) where
 mem:=by simp
 obj:=λi h ⟨⟨old,he⟩,p1⟩ d hd=>by
  simp only [mem_cons,not_mem_nil,or_false] at hd;rcases hd with rfl|rfl
  ·exact ⟨_,he,λv q=>by cases q⟩
  ·exact (zU (P:=P) (w:=w) b d c).obj p1
 keep:=λi h h' ⟨⟨old,he⟩,p1⟩ k=>⟨⟨old,k e (by simp) _ he⟩,(zU (P:=P) (w:=w) b it c).keep p1 λo e=>k it (by simp) o e⟩
 item:=by
  intro X hP hw hK hc i pins s σ H E I hf st hg;subst hP hw hK;obtain ⟨xs,x,sq,hx⟩:=hg;obtain ⟨its,rv,l1,z1⟩:=sq.get I;obtain ⟨u,hu,ru⟩:=rv.get hx;obtain ⟨⟨old,he⟩,p1⟩:=st;have hil:i<its.toArray.size:=by have:=(zb0 hu).1;simpa using this
  refine wpAny_pyNext_enum_itemD (qd3 (show X.A.in1.handled=none from I.ok.hd hc) b it c n3 its.toArray) he ⟨p1,l1⟩ hil n1 (by simp only [mem_cons,not_mem_nil,or_false,not_or];exact ⟨n1,Ne.symm n2⟩) λy h' tk hy ho st' ht hsz hk=>?_;have hy':y=u:=by
   have:its.toArray[i]?=some u:=by simpa using hu
   rw [this] at hy;exact (Option.some.inj hy).symm
  subst hy';have hfr:H s.heap.objs.size=none:=I.fresh;have free:∀ b∈[e,it],H b=none:=λb hb=>(hf b hb).1;refine ⟨_,rfl,wpAny_letOwnedTupleGo_enum ho λh2 hz2 s2=>?_⟩;have elt:e<s.heap.objs.size:=v5 he;have hp2:h2.get? s.heap.objs.size=some { cls:=.type "tuple",data:=.seq #[.int i tk,y] }:=(s2.2 _ (Nat.ne_of_gt elt)).trans ht;have up:∀ c o,c≠e->h'.get? c=some o->h2.get? c=some o:=λc o hc e=>(s2.2 c hc).trans e;have kk:∀ c o,c∉[e,it]->s.heap.get? c=some o->h2.get? c=some o:=λc o hc q=>by
   simp only [mem_cons,not_mem_nil,or_false,not_or] at hc;exact up c o hc.1 (hk c o hc.1 hc.2 q)
  have I3:Inv X pins σ (upd H s.heap.objs.size (.tup [.int i,x])) { s with heap:=h2,toks:=tk+1 }:=by
   refine I.step (g':=s.gens) (d':=s.drawn) (t':=tk+1) (ch:=[e,it]) (λb hb=>?_) (λb o _ _ hcb e _=>kk b o hcb e) (λb o _ _ hcb e _=>⟨o.slots,kk b o hcb e⟩) (λb o _ e n=>by rw [qE (za3 (v5 e))];exact n) (λb o hcb e=>⟨o,kk b o hcb e⟩)
    (λb _ e=>by rw [qE (qB e hfr)];exact e) (λb _ _ e=>by rw [qE (qB e hfr)];exact e) (λb ps e=>⟨#[],by rw [qE (qB e hfr),e];simp⟩) (λm hm=>?_) (λb u e=>?_) I.bare
   ·obtain ⟨f0,f1,f2,f3,f4,f5⟩:=hf b hb;exact ⟨f3,f1,f4,f5⟩
   ·obtain ⟨o,es',ep,ho',r⟩:=hm;refine ⟨o,es',ep,kk _ o (λq=>?_) ho',r⟩;obtain ⟨f0,f1,_⟩:=hf X.env.locals q;exact f1 rfl
   ·by_cases hb:b=s.heap.objs.size
    ·subst hb;rw [qW] at e;cases e;exact ⟨by show 2<=sizeLine;decide,[.int i tk,y],.cons ⟨tk,rfl⟩ (.cons ru .nil),⟨_,hp2,rfl,_,rfl,rfl⟩⟩
    ·rw [qE hb] at e;refine (I.hok b u e).stay (λc v hcb q=>kk c v (λm=>?_) q) (λ_ q=>by rw [qE (qB q hfr)];exact q) λ_ _ q=>by rw [qE (qB q hfr)];exact q
     have hn:=free c m;rcases hcb with q|q
     ·rw [q] at hn;rw [hn] at e;cases e
     ·rw [hn] at q;cases q
  refine ⟨.ref s.heap.objs.size,_,I3,rfl,⟨_,x,hfr,rfl,rfl,λzs q=>by rw [q.inj I sq];exact hx⟩,⟨⟨_,by push_cast;exact hz2⟩,(zU (P:=X.prog) (w:=X.w) b it c).keep st'.1 λo e=>up _ o (Ne.symm n1) e⟩,λb hb=>?_⟩;rw [qE (λq=>?_)]
  ·exact free b hb
  ·subst q;simp only [mem_cons,not_mem_nil,or_false] at hb;rcases hb with q|q
   ·exact absurd q (Nat.ne_of_gt elt)
   ·obtain ⟨o,e,_⟩:=(zU (P:=X.prog) (w:=X.w) b it c).obj p1;exact absurd q (Nat.ne_of_gt (v5 e))
 done:=by
  intro X hP hw hK hc i pins s σ H E I hf st hg;subst hP hw hK;obtain ⟨xs,sq,hend⟩:=hg;obtain ⟨its,rv,l1,z1⟩:=sq.get I;obtain ⟨⟨old,he⟩,p1⟩:=st;have e1:=rv.length;have free:∀ b∈[e,it],H b=none:=λb hb=>(hf b hb).1;refine TM (I.ok.hd hc) he p1 l1 (by simp;omega) λh' hk0=>⟨rfl,?_⟩
  have hk:∀ c o,c∉[e,it]->s.heap.get? c=some o->h'.get? c=some o:=λc o hcb q=>hk0 c o (by simp only [mem_cons,not_mem_nil,or_false,not_or] at hcb;exact hcb.2) q;refine I.step (g':=s.gens) (d':=s.drawn) (t':=s.toks) (ch:=[e,it]) (λb hb=>?_) (λb o _ _ hcb e _=>hk b o hcb e) (λb o _ _ hcb e _=>⟨o.slots,hk b o hcb e⟩) (λ_ _ _ _ n=>n) (λb o hcb e=>⟨o,hk b o hcb e⟩) (λ_ _ e=>e) (λ_ _ _ e=>e) (λb ps e=>⟨#[],by rw [e];simp⟩) (λm hm=>?_) (λb u e=>?_) I.bare
  ·obtain ⟨f0,f1,f2,f3,f4,f5⟩:=hf b hb;exact ⟨f3,f1,f4,f5⟩
  ·obtain ⟨o,es',ep,ho',r⟩:=hm;refine ⟨o,es',ep,hk _ o (λq=>?_) ho',r⟩;obtain ⟨f0,f1,_⟩:=hf X.env.locals q;exact f1 rfl
  ·refine (I.hok b u e).stay (λc v hcb q=>hk c v (λm=>?_) q) (λ_ q=>q) λ_ _ q=>q;have hn:=free c m;rcases hcb with q|q
   ·rw [q] at hn;rw [hn] at e;cases e
   ·rw [hn] at q;cases q
 self:=λA i s Q E st h=>let ⟨⟨old,he⟩,_⟩:=st;wpAny_pyIter_enum he h
section
variable {X:Cx} {a b e l:Expr} {es:List Expr} {pos:Pos}
def qiG {p pt:Pos} {k1:Nat} {ta:TA} (hg:Gl X "enumerate") (hm:X.mg "enumerate" = none) (ha:PA X [a] ta) (hs:starEach [a] X.env=[(false,eval a X.env)]:=by rfl) :
  PI X (.Tuple es k1 pt) (.Call (.Name "enumerate" p) [a] [] pos) (λσ H R=>ta σ H λvs H1=>∃ b1 c1 xs,vs=[.ref c1]/\SqB X.K b1 H1 c1 xs/\R (Ite X.K b1 c1) H1):=by
 intro pins s σ H R I h;refine Call_ (CJ I hg hm PyProof.Rows.boot_enumerate (PyProof.Rows.callWith_type1 (thn (ha pos pins s σ H _ I h) λus s1 ⟨vs,H1,I1,r1,q1⟩=>?_) (by rw [hs];rfl) (by rfl)));obtain ⟨b1,c1,xs,rfl,sq1,q⟩:=q1;obtain ⟨u1,rfl,e1⟩:=XM r1;cases (show u1=Value.ref c1 from e1);obtain ⟨its1,rv1,l1,z1⟩:=sq1.get I1;refine qcl l1 λh' he hit hk=>wpAny_pyIter_enum he ?_;have lt:=qhP l1;have ne3:∀ n c:Nat,c<n->n+1≠n/\c≠n+1/\c≠n:=λn c h=>by omega
 obtain ⟨m1,m2,m3⟩:=ne3 _ _ lt;refine ⟨s1.heap.objs.size+1,[s1.heap.objs.size+1,s1.heap.objs.size],_,_,H1,rfl,I1.kept (t':=s1.toks) hk,qa1 m1 m2 m3,⟨⟨_,he⟩,hit⟩,λc hc=>?_,q⟩;have hle:s1.heap.objs.size<=c:=by
  simp only [mem_cons,not_mem_nil,or_false] at hc;rcases hc with rfl|rfl<;>first|exact u7 _|exact Nat.le_add_right _ _
 exact I1.fpOk hle (I1.hok.fresh hle)
end
def QQ (k:Nat):List T->List T
 |[]=>[]
 |x::r=>.tup [.int (k:Int),x]::QQ (k+1) r
def qcf (us:List T):List T:=QQ 0 us
theorem WO:∀ {us:List T} {k i:Nat} {x:T},(QQ k us)[i]?=some x->∃ a,us[i]?=some a/\x=.tup [.int ((k+i:Nat):Int),a]
 |[],_,_,_,h=>by simp [QQ] at h
 |u::us,k,0,x,h=>by simp [QQ] at h;exact ⟨u,rfl,by simp [← h]⟩
 |u::us,k,i+1,x,h=>by
  simp [QQ] at h;obtain ⟨a,ha,hx⟩:=WO h;exact ⟨a,by simpa using ha,by rw [hx];congr 4;omega⟩
theorem WJ:∀ (us:List T) (k:Nat),(QQ k us).length=us.length
 |[],_=>rfl
 |u::us,k=>by simp [QQ,WJ us]
def CD (us:List T):(qcf us).length=us.length:=WJ us 0
def EK {us:List T} {i:Nat} {x:T} (h:(qcf us)[i]?=some x):∃ a,us[i]?=some a/\x=.tup [.int (i:Int),a]:=by
 obtain ⟨a,ha,hx⟩:=WO h;exact ⟨a,ha,by rw [hx];congr 4;omega⟩
def qk2 {K:Frg} {b1:Bool} {c1:Addr} {x:T} {us:List T} {G0:Gp} {H0:Hp}
  (f1:∀ G H,HR K G H->Kp G0 H0 G H->jM G x=some us->∃ vs,SqB K b1 H c1 vs/\Rps K H us vs) :
  qiU K (Ite K b1 c1) (qcf us) (λG=>jM G x=some us) G0 H0:=by
 intro G H hr k h1;obtain ⟨p,sp,rp⟩:=f1 G H hr k h1;refine ⟨λi z hz=>?_,λi z v H' hz hy=>?_,⟨p,sp,?_⟩⟩
 ·obtain ⟨a,ha,_⟩:=EK hz;obtain ⟨v,hv,_⟩:=rp.get ha;exact ⟨p,v,sp,hv⟩
 ·obtain ⟨a,ha,rfl⟩:=EK hz;obtain ⟨t,v1,ht,rfl,rfl,g1⟩:=hy;obtain ⟨v,hv,rv⟩:=rp.get ha;have e1:=(g1 p sp).symm.trans hv;obtain rfl:v1=v:=Option.some.inj e1;have kk:Kp G H G (upd H t (.tup [.int i,v1])):=Kp.laid ht;exact ⟨.tup (SqT.of qW) (.cons (.int _) (.cons (rv.keep hr kk) .nil)),hr.laid ht,kk⟩
 ·rw [← rp.length,CD];exact u7 _
def EO (ta:TA3):TI3:=λτ G r=>ta τ G λxs G1=>match xs with
 |[x]=>(match jM G1 x with|some us=>r (qcf us) (λG=>jM G x=some us) G1|_=>False)
 |_=>False
section
variable {X:Cx} {a b e l:Expr} {es:List Expr} {pos:Pos} {t:TA3}
def ql9 {p pt:Pos} {k1:Nat} (hg:Gl X "enumerate") (hm:X.mg "enumerate" = none) (ha:A3 X [a] t) (hs:starEach [a] X.env=[(false,eval a X.env)]:=by rfl) :
  I3 X (.Tuple es k1 pt) (.Call (.Name "enumerate" p) [a] [] pos) (EO t):=
 qmQ (qiG hg hm ha hs) λσ H R ⟨τ,G,r,rl,h,af⟩=>YM rl h λxs G1 h1 vs H1 rs hr1 k1 rl1=>by
  split at h1
  ·rename_i x;split at h1
   ·rename_i us e1;obtain ⟨v,rfl,r1⟩:=LR rs;obtain ⟨b1,c1,rfl,f1⟩:=qdn hr1 r1 e1;obtain ⟨p,sp,_⟩:=f1 G1 H1 hr1 Kp.refl e1;exact ⟨b1,c1,p,rfl,sp,af _ _ G1 h1 _ H1 hr1 k1 (qk2 f1)⟩
   ·exact h1.elim
  ·exact h1.elim
end
section
variable {X:Cx} {a b c e:Expr} {es:List Expr} {ta tb tc te:TE3} {t:TA3} {pos:Pos}
def UK (i:Nat) (r:R3) (te:TE3):TS3:=λd τ G=>match τ[i]? with
 |some (some x)=>te τ G λy G1=>r x y G1 λz G2=>d.nx (τ.set i (some z)) G2
 |_=>False
def qep (i:Nat) {x:Str} {pos':Pos} (hN:X.N.Nodup) (he:E3 X e te) (hi:X.N[i]?=some x:=by rfl) (hx:Loc X.env.scope x:=by first|exact Or.inl rfl|exact Or.inr rfl) (hf:X.fn x=true\/X.env.scope.names.lookup x=some .local:=by first|exact .inl rfl|exact .inr rfl) :
  S3 X (.AugAssign (.Name x pos') .Add e pos) (UK i (iI (·+·)) te):=
 qdA (qmp (i:=i) hN hi hx he qnd hf) λD σ H ⟨τ,G,d,rl,h,af⟩=>by
  unfold UK at h;split at h
  ·rename_i x e1;obtain ⟨v,e2,rv⟩:=rl.st i x e1;refine ⟨v,e2,zG rl h λy G1 h1 u H1 ry hr1 k1 rl1=>?_⟩;have rv1:=rv.keep rl.hp k1;cases x<;>try exact h1.elim
   cases y<;>try exact h1.elim
   cases rv1;cases ry;exact ⟨_,_,rfl,rfl,af.nx _ G1 h1 _ H1 (rl1.set i (.int _)) k1⟩
  ·exact h.elim
def qgQ (ns:List Int):Prop:=ns.length<=1000000/\∀ x∈ns,-1000000000000<=x/\x<=1000000000000
theorem LU (ns:List Int):∀ j,j<=ns.length->preSum (λi=>ns.getD i 0) j=(ns.take j).sum
 |0,_=>by simp [preSum]
 |j+1,h=>by
  have hj:j<ns.length:=h;unfold preSum;rw [LU ns j (by omega),List.take_succ_eq_append_getElem hj,List.sum_append,getD_eq_getElem?_getD,v8 hj];simp
theorem qf3:∀ (ns:List Int),(∀ x∈ns,-1000000000000<=x/\x<=1000000000000)->-1000000000000*(ns.length:Int)<=ns.sum/\ns.sum<=1000000000000*(ns.length:Int)
 |[],_=>by simp
 |n::r,h=>by
  have h1:=h n za5;have h2:=qf3 r λx hx=>h x (u8 _ hx);rw [List.sum_cons,length_cons];omega
def EB (hc:X.calm=true):YK X (.builtin "sum") (λxs H Q=>∃ (p:Addr) (ns:List Int),xs=[.ref p]/\SqL X.K H p (ns.map V.int)/\qgQ ns/\Q (.int ns.sum) H):=by
 intro pins s σ H xs us Q I r h;obtain ⟨p,ns,rfl,hq,ok,q⟩:=h;obtain ⟨u,rfl,rp⟩:=XM r;cases (show u=Value.ref p from rp);obtain ⟨its,rv,pl,hz⟩:=I.list hq;have hlen:its.length=ns.length:=by have:=rv.length;simp at this;omega
 have hp:p<s.heap.objs.size:=by obtain ⟨o,n,e,_⟩:=pl;exact v5 e
 have bd:∀ j,j<=ns.length->InLong (preSum (λi=>ns.getD i 0) j):=λj hj=>by
  rw [LU ns j hj];have:=qf3 (ns.take j) λx hx=>ok.2 x (List.mem_of_mem_take hx);have hl:(ns.take j).length<=1000000:=za2 (by rw [List.length_take];omega) ok.1;unfold InLong;omega
 refine call_sum_walk (wpAny_pyIter_list pl.isList ⟨s.heap.objs.size,_,_,_,_,_,λi=>ns.getD i 0,rfl,Walks.list (A:=X.A.in1) (show X.A.in1.handled=none from I.ok.hd hc) s.heap.objs.size p (za3 hp) its.toArray,⟨⟨_,v4 _ rfl,rfl,rfl⟩,?_⟩,λb hb=>?_,λi v hv=>?_,λj hj=>?_,λh' tk t' hk=>?_⟩)
 ·obtain ⟨o,n,e,c,_,d⟩:=pl;exact ⟨o,v0 _ e,c,n,d⟩
 ·have lt1:∀ n c:Nat,c<n->c<n+1:=λn c h=>by omega
  rw [show (({ s with heap:=s.heap.push _ }:Shared).heap.objs.size)=s.heap.objs.size+1 from Heap.size_push ..];simp only [mem_cons,not_mem_nil,or_false] at hb;rcases hb with rfl|rfl
  ·exact Nat.lt_succ_self _
  ·exact lt1 _ _ hp
 ·have hv':its[i]?=some v:=by simpa using hv
  obtain ⟨hi,_⟩:=zb0 hv';have hi':i<ns.length:=by omega
  obtain ⟨u,hu,ru⟩:=rv.get (i:=i) (show (ns.map V.int)[i]?=some (V.int (ns[i])) by simp [hi']);rw [hv'] at hu;cases hu;obtain ⟨t,rfl⟩:=ru;exact ⟨t,by show Value.int ns[i] t=Value.int (ns.getD i 0) t;rw [getD_eq_getElem?_getD,v8 hi'];rfl⟩
 ·have hj':j<ns.length:=by rw [size_toArray] at hj;omega
  refine ⟨?_,bd _ hj'⟩;have:=ok.2 (ns.getD j 0) (by rw [getD_eq_getElem?_getD,v8 hj'];exact za6 hj');show InLong (ns.getD j 0);unfold InLong;omega
 ·refine ⟨.int _,H,?_,⟨_,rfl⟩,by rw [size_toArray,hlen,LU ns _ (u7 _),List.take_length];exact q⟩;exact I.kept (h':=h') (t':=tk) λb o e=>hk b o (by simp;exact za3 (v5 e)) (v0 _ e)
def KZ:List T->Option (List Int)
 |[]=>some []
 |.int i::r=>(match KZ r with|some ns=>some (i::ns)|none=>none)
 |_=>none
def XX (ns:List Int):KZ (ns.map T.int)=some ns:=by
 induction ns with
 |nil=>rfl
 |cons n r ih=>simp [KZ,ih]
theorem SW:∀ {xs:List T} {ns:List Int},KZ xs=some ns->xs=ns.map T.int
 |[],_,h=>by simp [KZ] at h;subst h;rfl
 |x::r,ns,h=>by
  unfold KZ at h;split at h
  ·rename_i e;cases e
  ·rename_i i r' e;cases e;split at h
   ·rename_i ms e2;cases h;rw [SW e2];rfl
   ·cases h
  ·cases h
def qiR:List T->Gp->Q3->Prop:=λxs G q=>match xs with
 |[.ref p]=>(match getL G p with|some ys=>(match KZ ys with|some ns=>qgQ ns/\q (.int ns.sum) G|none=>False)|none=>False)
 |_=>False
theorem R8 {K:Frg} {H:Hp}:∀ {ns:List Int} {vs:List V},Rps K H (ns.map T.int) vs->vs=ns.map V.int
 |[],_,r=>by cases r;rfl
 |n::ns,_,r=>by
  cases r with
  |cons a b=>cases a;rw [R8 b];rfl
def qbC {K:Frg}:qah K qiR (λxs H Q=>∃ (p:Addr) (ns:List Int),xs=[.ref p]/\SqL K H p (ns.map V.int)/\qgQ ns/\Q (.int ns.sum) H):=λxs vs G H q Q hr rs h af=>by
 unfold qiR at h;split at h
 ·rename_i p;obtain ⟨v,rfl,r⟩:=LR rs;cases r;split at h
  ·rename_i ys e0;split at h
   ·rename_i ns e1;obtain ⟨us,hs,r2⟩:=jd hr e0;have:=SW e1;subst this;have:=R8 r2;subst this;exact ⟨p,ns,rfl,hs,h.1,af _ G h.2 _ H (.int _) hr Kp.refl⟩
   ·exact h.elim
  ·exact h.elim
 ·exact h.elim
def EV:List T->Gp->Q3->Prop:=λxs G q=>match xs with
 |[.ref p]=>(match getL G p with|some ys=>(match qqN ys with|some k=>q (.bl k) G|none=>False)|none=>False)
 |_=>False
end
section
variable {X:Cx}
def qgR {elt tg iter:Expr} {ifs:List Expr} {scope:Scope} {pos cpos:Pos} {N':List Str} {m:List (Option Nat)} {wi:TI} {g:TG} {tif:TT} {te:TE} {use:Option (Value->Sem Unit)} {Qc:Value->Shared->Prop} {QD:Addr->Hp->Prop} (hc:X.calm=true) (hi:PI X tg iter wi)
  (hg:∀ s H fp,PG (qr X N' scope s H fp) tg g) (hf:∀ s H fp,PF (qr X N' scope s H fp) ifs tif) (he:∀ s H fp,PE (qr X N' scope s H fp) elt te)
  (hsc:qaS X.env.scope scope=true) (hcap:UW X.N N' scope m=true) (hs:∀ x,foldedSetIterable iter X.env x=pure x) {pins:List (Addr×Obj)} {s:Shared} {σ:L2.St} {H:Hp} (I:Inv X pins σ H s)
  (h:wi σ H λJ H1=>∀ D,H1 D=none ->
   ∃ W:Nat->Nat->L2.St->Hp->Prop,(∃ n,W 0 n (cap m σ) (upd H1 D (.lst [])))/\∀ i n σ H,W i n σ H ->
    (J.stop i H/\QD D H)\/(J.go i H/\∀ x H',J.yld i H x H'->g x σ H' λσ2 H2=>tif σ2 H2 λk H3=>
     if k=true then te σ2 H3 λy H4=>∃ zs,H4 D=some (.lst zs)/\zs.length<sizeLine/\∃ n',n'<n/\W (i+1) n' σ2 (upd H4 D (.lst (zs++[y])))
     else ∃ n',n'<n/\W (i+1) n' σ2 H3))
  (fin:∀ (D:Addr) (s3:Shared) (H3:Hp) (fp:List Addr) (s6:Shared) (H6:Hp) (σ6:L2.St) (r:Flow),Inv X pins σ H3 s3->(∀ b∈fp,LB X pins H3 b)->Inv (qr X N' scope s3 H3 fp) [] σ6 H6 s6->QD D H6->compPost (model X.prog X.w) X.A X.xe use Qc (.ref D) s3.heap.objs.size (.ok r) s6) :
  wpAny (model X.prog X.w) X.A (comprehension (.ListComp elt [⟨tg,iter,ifs,0⟩] scope pos) scope X.env cpos (newList []) false (eval iter X.env) use) Qc X.xe s:=by
 have sc:=DR hsc;have hcl:∀ y∈scope.names,y.2=.free->∃ c,X.env.cells.lookup y.1=some c:=λy hy e=>by
  rcases (sc.free y hy e).2 with z|z
  ·exact I.ok.has y.1 (.inl z)
  ·exact I.ok.has y.1 (.inr z)
 refine wpAny_comprehension_free (g:=⟨tg,iter,ifs,0⟩) (gs:=[]) rfl hs (YD hcl) sc.kind sc.loc ?_;show wpAny _ _ (eval iter X.env) _ _ s;refine thn (hi pins s σ H _ I h) λv s1 h1=>thn h1 λitv s2 h2=>?_;obtain ⟨it,fp,tn,J,H2,rfl,I2,T,st2,f2,hW⟩:=h2;refine wpAny_newObj_type ?_;have hD:H2 s2.heap.objs.size=none:=I2.fresh;obtain ⟨W,⟨n0,w0⟩,turn⟩:=hW _ hD;generalize hDe:s2.heap.objs.size=D at *;have I3:Inv X pins σ (upd H2 D (.lst [])) { s2 with heap:=s2.heap.push { cls:=.type "list",dict:=none,data:=.seq ([]:List Value).toArray } }:=by
  subst hDe;exact I2.laid (t':=s2.toks) (λb u e=>v0 _ e) (u7 _) ⟨Nat.zero_le _,[],0,.nil,v4 _ rfl⟩
 have ob2:=T.obj 0 _ st2;have ob3:∀ b∈fp,∃ o,(s2.heap.push { cls:=.type "list",dict:=none,data:=.seq ([]:List Value).toArray }).get? b=some o:=λb hb=>let ⟨o,e,_⟩:=ob2 b hb;⟨o,v0 _ e⟩
 have f3:∀ b∈fp,LB X pins (upd H2 D (.lst [])) b:=λb hb=>by
  obtain ⟨o,e,_⟩:=ob2 b hb;have:b≠D:=by rw [← hDe];exact za3 (v5 e)
  exact ⟨by rw [qE this];exact (f2 b hb).1,(f2 b hb).2⟩
 have k23:∀ b o,s2.heap.get? b=some o->(s2.heap.push { cls:=.type "list",dict:=none,data:=.seq ([]:List Value).toArray }).get? b=some o:=λb o e=>v0 _ e;generalize hH3:upd H2 D (.lst [])=H3 at *;generalize hs3:({ s2 with heap:=s2.heap.push { cls:=.type "list",dict:=none,data:=.seq ([]:List Value).toArray } }:Shared)=s3 at *;have ob3:∀ b∈fp,∃ o,s3.heap.get? b=some o:=by rw [← hs3];exact ob3
 have k23:∀ b o,s2.heap.get? b=some o->s3.heap.get? b=some o:=by rw [← hs3];exact k23
 refine QG λh₁ hns hk hown=>?_;have I4:Inv (qr X N' scope s3 H3 fp) [] (cap m σ) H3 { s3 with heap:=h₁ }:=R4 hc I3 sc hcap f3 ob3 hns hk hown;have tn4:tn 0 h₁:=T.keep _ _ _ st2 λb hb o e=>hk b o (k23 b o e);have fr4:∀ b∈fp,H3 b=none:=λb hb=>(f3 b hb).1;have stat:∀ {H':Hp},(∀ b∈fp,H' b=none)->∀ b∈fp,LB (qr X N' scope s3 H3 fp) [] H' b:=λhn b hb=>by
  refine ⟨hn b hb,I4.ok.exf b hb |>.1,I4.ok.exfs b hb,.inl hb,λx c e=>(I4.ok.exf b hb).2 x c e,λp hp=>absurd (show p∈([]:List (Addr×Obj)) from hp) (by simp)⟩
 show codeAny (model X.prog X.w) X.A (.compStart (.ListComp elt [⟨tg,iter,ifs,0⟩] scope pos) 0 (.ref it) (.ref D) (qr X N' scope s3 H3 fp).env) (compPost (model X.prog X.w) X.A X.xe use Qc (.ref D) s3.heap.objs.size) { s3 with heap:=h₁ };have loop:codeAny (model X.prog X.w) X.A (.compLoop (.ListComp elt [⟨tg,iter,ifs,0⟩] scope pos) 0 (.ref it) (.ref D) (qr X N' scope s3 H3 fp).env) (compPost (model X.prog X.w) X.A X.xe use Qc (.ref D) s3.heap.objs.size) { s3 with heap:=h₁ }:=by
  refine codeAny_loop rfl (λn s'=>∃ i σ' H',Inv (qr X N' scope s3 H3 fp) [] σ' H' s'/\tn i s'.heap/\(∀ b∈fp,H' b=none)/\W i n σ' H') (λn s' hI=>?_) n0 ⟨0,cap m σ,H3,I4,tn4,fr4,w0⟩;show wpAny _ X.A ((compTurn (.ListComp elt [⟨tg,iter,ifs,0⟩] scope pos) 0 (.ref it) (.ref D) (qr X N' scope s3 H3 fp).env).onRaise (λx=>do noteFrame x (qr X N' scope s3 H3 fp).env;theTreesLotGoes x)) _ _ s';refine wpAny_noted ?_;rw [compTurn_list];refine y6 (wpAny_standAt (y6 ?_));obtain ⟨i,σ5,H5,I5,st5,fr5,w5⟩:=hI;rcases turn i n σ5 H5 w5 with ⟨stop,q⟩|⟨go,step⟩
  ·refine thn (T.done (qr X N' scope s3 H3 fp) rfl rfl rfl rfl i [] s' σ5 H5 _ I5 (stat fr5) st5 stop) λr s6 ⟨hr,I6⟩=>?_;subst hr;refine y8 ?_;exact fin D s3 H3 fp s6 H5 σ5 _ I3 f3 I6 q
  ·refine thn (T.item (qr X N' scope s3 H3 fp) rfl rfl rfl rfl i [] s' σ5 H5 _ I5 (stat fr5) st5 go) λr s6 ⟨u,hr,h6⟩=>?_;subst hr;refine y6 (thn h6 λ_ s7 ⟨x,H7,I7,r7,y7,st7,fr7⟩=>?_);have I7':=I7.pinned (stat fr7) (T.obj _ _ st7);have again:∀ {σ8:L2.St} {H8:Hp} {s8:Shared},Inv (qr X N' scope s3 H3 fp) ([]++WG fp s7.heap) σ8 H8 s8->(∃ n',n'<n/\W (i+1) n' σ8 H8) ->
     ∃ m',m'<n/\∃ i σ' H',Inv (qr X N' scope s3 H3 fp) [] σ' H' s8/\tn i s8.heap/\(∀ b∈fp,H' b=none)/\W i m' σ' H':=λ{σ8 H8 s8} I8 ⟨n',hn,w8⟩=>by
    refine ⟨n',hn,i+1,σ8,H8,I8.unpinned,T.keep _ _ _ st7 λb hb o e=>(I8.pin (b,o) (u9 _ (u9 _ (zK hb e)))).1,λb hb=>?_,w8⟩;obtain ⟨o,e,d⟩:=T.obj _ _ st7 b hb;exact (I8.pin (b,o) (u9 _ (u9 _ (zK hb e)))).2.1
   refine y6 (y9 (hg s3 H3 fp _ s7 σ5 H7 x u _ I7' r7 (step x H7 y7)) (λ_ s8 ⟨σ8,H8,I8,q8⟩=>?_) λ_ _ z=>z.elim);refine y6 (y9 (hf s3 H3 fp _ s8 σ8 H8 _ I8 q8) (λk s9 ⟨H9,I9,q9⟩=>?_) λ_ _ z=>z.elim);cases k with
   |false=>
    rw [if_neg v6] at q9;exact y8 ⟨rfl,again I9 q9⟩
   |true=>
    rw [if_pos rfl] at q9;refine y6 (y6 (y9 (he s3 H3 fp _ s9 σ8 H9 _ I9 q9) (λw s10 ⟨y,H10,I10,r10,q10⟩=>?_) λ_ _ z=>z.elim));obtain ⟨zs,hz,hl,q10⟩:=q10;refine y6 (y9 (EI (X:=qr X N' scope s3 H3 fp) _ s10 σ8 H10 (.ref D) [y] (.ref D) [w] (λ_ H11=>H11=upd H10 D (.lst (zs++[y]))) I10 rfl (.cons r10 .nil) ⟨D,zs,y,rfl,rfl,hz,hl,rfl⟩) (λ_ s11 ⟨_,H11,I11,_,e11⟩=>?_) λ_ _ z=>z.elim);subst e11;exact y8 (y8 ⟨rfl,again I11 q10⟩)
 exact codeAny_compStart_list loop (T.self X.A 0 _ _ _ tn4 loop)
def qeL {i:Nat} {y:Str} {py spos:Pos} {elt tg iter:Expr} {ifs:List Expr} {scope:Scope} {pos:Pos} {N':List Str} {m:List (Option Nat)} {wi:TI} {g:TG} {tif:TT} {te:TE} (hc:X.calm=true) (hN:X.N.Nodup) (hi:PI X tg iter wi)
  (hg:∀ s H fp,PG (qr X N' scope s H fp) tg g) (hf:∀ s H fp,PF (qr X N' scope s H fp) ifs tif) (he:∀ s H fp,PE (qr X N' scope s H fp) elt te)
  (hsc:qaS X.env.scope scope=true) (hcap:UW X.N N' scope m=true) (hs:∀ x,foldedSetIterable iter X.env x=pure x) (hiy:X.N[i]?=some y) (hl:X.env.scope.names.lookup y=some .local)
  (hsw:swapsWith (.ListComp elt [⟨tg,iter,ifs,0⟩] scope pos) (some (.Name y py)) spos.line X.env=pure true) :
  PS X (.Assign [.Name y py] (.ListComp elt [⟨tg,iter,ifs,0⟩] scope pos) spos) (qqn (tLC wi g tif te m) (qid i)):=by
 intro pins s σ H D I h;rw [exec_Assign_Name_used _ _ _ _ hsw];refine y6 (wpAny_standAt (y6 ?_));show wpAny _ X.A (do let _←comprehension (.ListComp elt [⟨tg,iter,ifs,0⟩] scope pos) scope X.env _ (newList []) false (eval iter X.env) (some (assign (.Name y py) X.env))) _ _ s;refine y6 (y9 (qgR (use:=some (assign (.Name y py) X.env)) (QD:=λD' H'=>D.nx (σ.set i (some (.ref D'))) H') (Qc:=λ_ s'=>∃ σ' H',Inv X pins σ' H' s'/\D.nx σ' H') hc hi hg hf he hsc hcap hs I h λD' s3 H3 fp s6 H6 σ6 r I3 f3 I6 q=>?_) (λ_ s' hq=>y8 (y8 hq)) λ_ _ e=>e);have I7:Inv X pins σ H6 s6:=D9 (h2:=s6.heap) I3 f3 I6 ⟨rfl,λ_ _=>rfl⟩;obtain ⟨mm,hn6,_⟩:=I6.loc;have hfC:LB X pins H6 s3.heap.objs.size:=I3.fpOk (u7 _) I6.free;obtain ⟨f0,f1,f2,f3',f4,f5⟩:=hfC;show wpAny _ X.A (assign (.Name y py) X.env (.ref D')) _ _ _;refine wpAny_assign_Name (LK I7 hN hiy (.inl hl) (v:=.ref D') rfl (λs8 I8 hch=>?_) (.inr hl));obtain ⟨a,sb,ha⟩:=hch;have hne:s3.heap.objs.size≠a:=by
  rcases ha with rfl|ha
  ·exact f1
  ·exact Ne.symm (f4 _ _ ha)
 refine ⟨mm,hn6.sameBut sb hne,λh' sb'=>⟨_,_,I8.turned (t':=s8.toks) (λb o hb e=>(sb'.2 b hb).trans e) f0 f1 f3' f4 f5,q⟩⟩
end
def qpK {K:Frg} {m:List (Option Nat)} {wi:TI3} {g:TG3} {tif:TT3} {te:TE3} {σ:L2.St} {H:Hp} {Q:VK} (hh:lE K (lc3 wi g tif te m) σ H Q):tLC (lI K wi) (lG K g) (lT K tif) (lE K te) m σ H Q:=by
  obtain ⟨τ,G,q,rl,h,af⟩:=hh;refine ⟨τ,G,_,rl,h,λitems stay G1 h1 J H1 hr1 k1 ok D hD=>?_⟩;have gD:G1 D=none:=hr1.free hD;refine ⟨λi n σ' H'=>n=items.length-i/\i<=items.length/\∃ τ' G' ys vs,Rel K τ' G' σ' H'/\Kp G1 H1 G' H'/\H' D=some (.lst vs)/\Rps K H' ys vs/\G' D=none/\K5 stay g tif te q (items.drop i) ys τ' G',
   ⟨_,rfl,Nat.zero_le _,cap m τ,G1,[],[],((rl.next hr1 k1).cap m).next (hr1.laid hD) (Kp.laid hD),Kp.laid hD,qW,.nil,gD,by simpa using h1⟩,?_⟩
  rintro i n σ' H' ⟨rfl,hi,τ',G',ys,vs,rl',k',hDl,rys,gD',h'⟩;by_cases hlt:i<items.length
  ·rw [List.drop_eq_getElem_cons hlt] at h';obtain ⟨hst,h'⟩:=h';obtain ⟨go,yld,_⟩:=ok G' H' rl'.hp k' hst;have hx:items[i]?=some items[i]:=v8 hlt;refine .inr ⟨go i _ hx,λv H2 y=>?_⟩;obtain ⟨rv,hr2,k2⟩:=yld i _ v H2 hx y;have nxt:∀ {τ4:St3} {G4:Gp} {σ4:L2.St} {H4:Hp} {ys4:List T} {vs4:List V},Rel K τ4 G4 σ4 H4->Kp G1 H1 G4 H4->H4 D=some (.lst vs4)->Rps K H4 ys4 vs4->G4 D=none->K5 stay g tif te q (items.drop (i+1)) ys4 τ4 G4 ->
     ∃ n',n'<items.length-i/\(n'=items.length-(i+1)/\i+1<=items.length/\∃ τ' G' ys vs,Rel K τ' G' σ4 H4/\Kp G1 H1 G' H4/\H4 D=some (.lst vs)/\Rps K H4 ys vs/\G' D=none/\K5 stay g tif te q (items.drop (i+1)) ys τ' G'):=
    λ{τ4 G4 σ4 H4 ys4 vs4} a b c d e f=>⟨_,by omega,rfl,hlt,τ4,G4,ys4,vs4,a,b,c,d,e,f⟩
   refine ⟨_,τ',G',_,rv,rl'.next hr2 k2,h',λτ3 G3 h3 σ3 H3 rl3 k3=>⟨τ3,G3,_,rl3,h3,λk G4 h4 H4 hr4 k4=>?_⟩⟩;have kk:=(k2.trans k3).trans k4;obtain ⟨hD4,gD4⟩:=kk D _ hDl gD';have rys4:=rys.keep rl'.hp kk;cases k with
   |false=>
    rw [if_neg v6] at h4;refine qnW ?_;exact nxt (rl3.next hr4 k4) (k'.trans kk) hD4 rys4 gD4 h4
   |true=>
    rw [if_pos rfl] at h4;refine qnX ?_;refine ⟨τ3,G4,_,rl3.next hr4 k4,h4,λz G5 h5 w H5 rw5 hr5 k5=>?_⟩;obtain ⟨hD5,gD5⟩:=k5 D _ hD4 gD4;have rys5:=rys4.keep hr4 k5;exact ⟨vs,hD5,by rw [← rys.length];exact h5.1,nxt (((rl3.next hr4 k4).next hr5 k5).wrD hD5 gD5) (((k'.trans kk).trans k5).wrD hD) qW ((rys5.append (.cons rw5 .nil)).wrD hD5) gD5 h5.2⟩
  ·have e:i=items.length:=by omega
   subst e;rw [List.drop_length] at h';obtain ⟨_,_,stop⟩:=ok G' H' rl'.hp k' h'.1;refine .inl ⟨stop,af _ _ (h'.2 D gD') _ H' (.ref D) (λa o e=>?_) λa o e ga=>?_⟩
   ·by_cases ha:a=D
    ·subst ha;rw [qy] at e;cases e;exact ⟨vs,hDl,rys⟩
    ·rw [zj ha] at e;exact rl'.hp a o e
   ·obtain ⟨e1,g1⟩:=k1 a o e ga;obtain ⟨e2,g2⟩:=k' a o e1 g1;exact ⟨e2,by rw [zj (qB e1 hD)];exact g2⟩
def qiv {X:Cx} {py spos:Pos} {elt tg iter:Expr} {ifs:List Expr} {scope:Scope} {pos:Pos} {y:Str} (i:Nat) (N':List Str) (m:List (Option Nat)) {wi:TI3} {g:TG3} {tif:TT3} {te:TE3} (hc:X.calm=true) (hN:X.N.Nodup) (hi:I3 X tg iter wi)
  (hg:∀ s H fp,G3 (qr X N' scope s H fp) tg g) (hf:∀ s H fp,F3 (qr X N' scope s H fp) ifs tif) (he:∀ s H fp,E3 (qr X N' scope s H fp) elt te)
  (hsc:qaS X.env.scope scope=true) (hcap:UW X.N N' scope m=true) (hl:X.env.scope.names.lookup y=some .local) (hsw:swapsWith (.ListComp elt [⟨tg,iter,ifs,0⟩] scope pos) (some (.Name y py)) spos.line X.env=pure true) (hiy:X.N[i]?=some y:=by rfl) (hs:∀ x,foldedSetIterable iter X.env x=pure x:=by intro _;rfl) :
  S3 X (.Assign [.Name y py] (.ListComp elt [⟨tg,iter,ifs,0⟩] scope pos) spos) (qF (lc3 wi g tif te m) (gn3 i)):=
 qdA (qeL (g:=lG X.K g) (tif:=lT X.K tif) (te:=lE X.K te) hc hN hi hg hf he hsc hcap hs hiy hl hsw) λ_ σ H ⟨τ,G,d,rl,h,af⟩=>
  qpK ⟨τ,G,_,rl,h,λx G1 h1 v H1 rx hr1 k1=>af.nx _ G1 h1 _ H1 ((rl.next hr1 k1).set i rx) k1⟩
end L3
set_option autoImplicit true
namespace L3
open PySem PySem.Spec PyProof.Rows L2
structure jE3 (X:Cx) (e:Expr) (t:TE3):Prop where h:E3 X e t
structure jC3 (X:Cx) (e:Expr) (t:TT3):Prop where h:C3 X e t
structure jW3 (X:Cx) (e:Expr) (t:TT3):Prop where h:W3 X e t
structure jA3 (X:Cx) (e:List Expr) (t:TA3):Prop where h:A3 X e t
structure jP3 (X:Cx) (e:Option Expr) (t:TO3):Prop where h:P3 X e t
structure jS3 (X:Cx) (e:Stmt) (t:TS3):Prop where h:S3 X e t
structure jB3 (X:Cx) (e:List Stmt) (t:TS3):Prop where h:B3 X e t
structure jG3 (X:Cx) (e:Expr) (t:TG3):Prop where h:G3 X e t
structure jGs3 (X:Cx) (e:List Expr) (t:LP):Prop where h:Gs3 X e t
structure jI3 (X:Cx) (tg e:Expr) (t:TI3):Prop where h:I3 X tg e t
structure jF3 (X:Cx) (e:List Expr) (t:TT3):Prop where h:F3 X e t
def qd {X:Cx} (i:Nat) {x:Str} {pos:Pos} (hN:X.N[i]?=some x:=by rfl) (hv:Vis X.env.scope x:=by first|exact Or.inl rfl|exact Or.inr (Or.inl rfl)|exact Or.inr (Or.inr rfl)) (hd:(x==("__debug__" : Str))=false:=by decide)
  (hcd:(x==("__classdict__" : Str))=false:=by decide):jE3 X (.Name x pos) (v3 i):=
 ⟨qoz (i:=i) (hN:=hN) (hv:=hv) (hd:=hd) (hcd:=hcd)⟩
def qh {X:Cx} {i:Int} {j pos}:jE3 X (.Constant (.int i) j pos) (c3 (.int i)):=
 ⟨qo4 ⟩
def qaE {X:Cx} {b:Bool} {j pos}:jE3 X (.Constant (.bool b) j pos) (c3 (.bl b)):=
 ⟨qrs ⟩
def N5 {X:Cx} {j pos}:jE3 X (.Constant .none j pos) (c3 .non):=
 ⟨qpE ⟩
def zO {X:Cx} {x:Str} {j pos}:jE3 X (.Constant (.str x) j pos) (c3 (.str x)):=
 ⟨qpz ⟩
def JT {ta:TE3} {tb:TE3} {pos:Pos} {a:Expr} {b:Expr} {X:Cx} {op:CmpOp} {r3:R3} {r:R2} (ho:OpR X (compareOp op) r) (hr:LS X.K r3 r) (ha:jE3 X a ta) (hb:jE3 X b tb) (hm:behindInMarks op b=false):jE3 X (.Compare a [op] [b] pos) (o3 r3 ta tb):=
 ⟨qpU (ho:=ho) (hr:=hr) (ha:=ha.h) (hb:=hb.h) (hm:=hm)⟩
def qX {ta:TE3} {tb:TE3} {pos:Pos} {a:Expr} {b:Expr} {X:Cx} {op:CmpOp} {r3:R3} {r:R2} (ho:OpR X (compareOp op) r) (hr:LS X.K r3 r) (ha:jE3 X a ta) (hb:jE3 X b tb) (hm:behindInMarks op b=false):jC3 X (.Compare a [op] [b] pos) (tb3 (o3 r3 ta tb)):=
 ⟨qon (ho:=ho) (hr:=hr) (ha:=ha.h) (hb:=hb.h) (hm:=hm)⟩
def NE {ta:TE3} {tb:TE3} {pos:Pos} {a:Expr} {b:Expr} {X:Cx} (ha:jE3 X a ta) (hb:jE3 X b tb):jE3 X (.BinOp a .Sub b pos) (o3 (iI (·-·)) ta tb):=
 ⟨qpN (ha:=ha.h) (hb:=hb.h)⟩
def zP {ta:TE3} {tb:TE3} {pos:Pos} {a:Expr} {b:Expr} {X:Cx} (ha:jE3 X a ta) (hb:jE3 X b tb):jE3 X (.BinOp a .Mult b pos) (o3 (iC QT (·*·)) ta tb):=
 ⟨qp3 (ha:=ha.h) (hb:=hb.h)⟩
def zT {ta:TE3} {tb:TE3} {pos:Pos} {a:Expr} {b:Expr} {X:Cx} (ha:jE3 X a ta) (hb:jE3 X b tb):jE3 X (.BinOp a .Mod b pos) (o3 (iC (λ_ j=>0<j) (·%·)) ta tb):=
 ⟨qou (ha:=ha.h) (hb:=hb.h)⟩
def UH {ta:TE3} {tb:TE3} {pos:Pos} {a:Expr} {b:Expr} {X:Cx} (ha:jE3 X a ta) (hb:jE3 X b tb):jE3 X (.BinOp a .FloorDiv b pos) (o3 (iC RY (·/·)) ta tb):=
 ⟨qpX (ha:=ha.h) (hb:=hb.h)⟩
def qbB {ta:TE3} {tb:TE3} {pos:Pos} {a:Expr} {b:Expr} {X:Cx} (ha:jE3 X a ta) (hb:jE3 X b tb):jE3 X (.BinOp a .Pow b pos) (o3 (iC RP (λi j=>i ^ j.toNat)) ta tb):=
 ⟨qpI (ha:=ha.h) (hb:=hb.h)⟩
def TY {ta:TE3} {tb:TE3} {pos:Pos} {a:Expr} {b:Expr} {X:Cx} (ha:jE3 X a ta) (hb:jE3 X b tb):jE3 X (.BinOp a .BitAnd b pos) (o3 (iI Builtin.bitAnd) ta tb):=
 ⟨qlO (ha:=ha.h) (hb:=hb.h)⟩
def M9 {ta:TE3} {tb:TE3} {pos:Pos} {a:Expr} {b:Expr} {X:Cx} (ha:jE3 X a ta) (hb:jE3 X b tb):jE3 X (.BinOp a .LShift b pos) (o3 (iC RP (λi j=>i*2 ^ j.toNat)) ta tb):=
 ⟨qpj (ha:=ha.h) (hb:=hb.h)⟩
def qj9 {ta:TE3} {tb:TE3} {pos:Pos} {a:Expr} {b:Expr} {X:Cx} (ha:jE3 X a ta) (hb:jE3 X b tb):jE3 X (.BinOp a .RShift b pos) (o3 (iC (λ_ j=>0<=j) (λi j=>i/2 ^ j.toNat)) ta tb):=
 ⟨qqf (ha:=ha.h) (hb:=hb.h)⟩
def qgA {ta:TE3} {pos:Pos} {a:Expr} {X:Cx} (ha:jE3 X a ta):jE3 X (.UnaryOp .USub a pos) (u3 VV ta):=
 ⟨qpk (ha:=ha.h)⟩
def qbQ {tA:TT3} {pos:Pos} {a:Expr} {X:Cx} (ha:jC3 X a tA):jW3 X (.BoolOp .Or [a] pos) tA:=
 ⟨qo5 (ha:=ha.h)⟩
def qhq {QR:List Expr} {tA:TT3} {tB:TT3} {pos:Pos} {a:Expr} {X:Cx} (ha:jC3 X a tA) (hb:jW3 X (.BoolOp .Or (b::QR) pos) tB):jW3 X (.BoolOp .Or (a::b::QR) pos) (or3 tA tB):=
 ⟨qrv (ha:=ha.h) (hb:=hb.h)⟩
def M6 {tA:TT3} {pos:Pos} {a:Expr} {X:Cx} (ha:jC3 X a tA):jC3 X (.UnaryOp .Not a pos) (YN tA):=
 ⟨qpP (ha:=ha.h)⟩
def EG {X:Cx} {e:Expr} {t:TE3} (h:jE3 X e t) (he:∀ whole,isTrue e X.env whole=(do let v←whole;standAt e.pos;holding [v] (truthy v)):=by intro _;rfl):jC3 X e (tb3 t):=
 ⟨qop (h:=h.h) (he:=he)⟩
def N6 {ta:TE3} {pos:Pos} {a:Expr} {X:Cx} {op} (h:jE3 X a ta):jE3 X (.BoolOp op [a] pos) ta:=
 ⟨qoo (h:=h.h)⟩
def KI {QR:List Expr} {ta:TE3} {tb:TE3} {pos:Pos} {a:Expr} {X:Cx} (ha:jE3 X a ta) (hb:jE3 X (.BoolOp .And (b::QR) pos) tb):jE3 X (.BoolOp .And (a::b::QR) pos) (zL ta tb):=
 ⟨qoY (ha:=ha.h) (hb:=hb.h)⟩
def qqg {QR:List Expr} {ta:TE3} {tb:TE3} {pos:Pos} {a:Expr} {X:Cx} (ha:jE3 X a ta) (hb:jE3 X (.BoolOp .Or (b::QR) pos) tb):jE3 X (.BoolOp .Or (a::b::QR) pos) (UG ta tb):=
 ⟨qrx (ha:=ha.h) (hb:=hb.h)⟩
def qkq {ta:TE3} {pos:Pos} {a:Expr} {X:Cx} (ha:jE3 X a ta):jE3 X (.UnaryOp .Not a pos) (ju ta):=
 ⟨qov (ha:=ha.h)⟩
def qig {tA:TT3} {ta:TE3} {tb:TE3} {pos:Pos} {a:Expr} {b:Expr} {X:Cx} {c:Expr} (hc:jC3 X c tA) (ha:jE3 X a ta) (hb:jE3 X b tb):jE3 X (.IfExp c a b pos) (if3 tA ta tb):=
 ⟨qrm (hc:=hc.h) (ha:=ha.h) (hb:=hb.h)⟩
def qg {X:Cx} :jA3 X [] qk:=
 ⟨qoP ⟩
def qc {te:TE3} {t:TA3} {es:List Expr} {X:Cx} (ha:jE3 X e te) (hr:jA3 X es t) (hs:starEach (e::es) X.env=(false,eval e X.env)::starEach es X.env:=by rfl):jA3 X (e::es) (qf te t):=
 ⟨qkU (ha:=ha.h) (hr:=hr.h) (hs:=hs)⟩
def zk {t:TA3} {pos:Pos} {es:List Expr} {X:Cx} {x1} (h:jA3 X es t):jE3 X (.Tuple es x1 pos) (jo t):=
 ⟨qpm (h:=h.h)⟩
def jj {t:TA3} {pos:Pos} {es:List Expr} {X:Cx} (h:jA3 X es t):jE3 X (.List es pos) (je t):=
 ⟨qo8 (h:=h.h)⟩
def qI {t:TA3} {pos:Pos} {es:List Expr} {X:Cx} {x:Str} {p:Pos} {id:String} {r3:List T->Gp->Q3->Prop} {r:List V->Hp->VK->Prop} (hc:YK X (.builtin id) r) (hr:qah X.K r3 r) (hg:Gl X x) (hm:X.mg x=none) (hv:bootBuiltins x=some (.builtin id)) (ha:jA3 X (e::es) t) (hn:x≠"__name__" := by decide) (hdb:(x==("__debug__" : Str))=false:=by decide)
  (he:starEach (e::es) X.env=(false,eval e X.env)::starEach es X.env:=by rfl) (hpl:(backTo pos (starEach es X.env)).any (·.1)=false:=by rfl):jE3 X (.Call (.Name x p) (e::es) [] pos) (cb3 r3 t):=
 ⟨qgN (hc:=hc) (hr:=hr) (hg:=hg) (hm:=hm) (hv:=hv) (ha:=ha.h) (hn:=hn) (hdb:=hdb) (he:=he) (hpl:=hpl)⟩
def j8 {t:TA3} {pos:Pos} {es:List Expr} {X:Cx} {x:Str} {p:Pos} {ty:String} {r3:List T->Gp->Q3->Prop} {r:List V->Hp->VK->Prop} (hc:YK X (.type ty) r) (hr:qah X.K r3 r) (hg:Gl X x) (hm:X.mg x=none) (hv:bootBuiltins x=some (.type ty)) (ha:jA3 X (e::es) t) (hn:x≠"__name__" := by decide) (hdb:(x==("__debug__" : Str))=false:=by decide)
  (he:starEach (e::es) X.env=(false,eval e X.env)::starEach es X.env:=by rfl) (hpl:(backTo pos (starEach es X.env)).any (·.1)=false:=by rfl):jE3 X (.Call (.Name x p) (e::es) [] pos) (cb3 r3 t):=
 ⟨qdQ (hc:=hc) (hr:=hr) (hg:=hg) (hm:=hm) (hv:=hv) (ha:=ha.h) (hn:=hn) (hdb:=hdb) (he:=he) (hpl:=hpl)⟩
def qA {ta:TE3} {tb:TE3} {pos:Pos} {a:Expr} {b:Expr} {X:Cx} (ha:jE3 X a ta) (hb:jE3 X b tb) (hs:MP b:=by intro _ _;rfl):jE3 X (.Subscript a b pos) (o3 ix3 ta tb):=
 ⟨qrj (ha:=ha.h) (hb:=hb.h) (hs:=hs)⟩
def qgM {X:Cx} :jP3 X none np3:=
 ⟨qkX ⟩
def MB {te:TE3} {e:Expr} {X:Cx} (h:jE3 X e te):jP3 X (some e) (sp3 te):=
 ⟨qne (h:=h.h)⟩
def qab {te:TE3} {pos:Pos} {e:Expr} {X:Cx} {lo hi:Option Expr} {tl th:TO3} {p2:Pos} (he:jE3 X e te) (hl:jP3 X lo tl) (hu:jP3 X hi th):jE3 X (.Subscript e (.Slice lo hi none p2) pos) (VO te tl th):=
 ⟨qif (he:=he.h) (hl:=hl.h) (hu:=hu.h)⟩
def qT {ta:TE3} {tb:TE3} {pos:Pos} {a:Expr} {b:Expr} {X:Cx} (ha:jE3 X a ta) (hb:jE3 X b tb):jE3 X (.BinOp a .Add b pos) (o3 zB ta tb):=
 ⟨qke (ha:=ha.h) (hb:=hb.h)⟩
def YY {t:TA3} {e:Expr} {X:Cx} {o:Expr} {to:TE3} {apos cpos:Pos} (ho:jE3 X o to) (ha:jA3 X [e] t)
  (hbase:attributeBase o "append" X.env (eval o X.env)=eval o X.env:=by rfl)
  (hfew:((backTo cpos (starEach [e] X.env)).all (λx=>!x.1)&&(backToKw cpos (keywordEach [] X.env)).all (λx=>x.1.isSome)
   && decide (([e]:List Expr).length+([]:List Keyword).length+(if ([]:List Keyword).isEmpty then 0 else 1)<30))=true:=by rfl)
  (hline:(apos.endLine==cpos.line)=true:=by rfl) (hs:starEach [e] X.env=(false,eval e X.env)::starEach [] X.env:=by rfl) (hplain:(backTo cpos (starEach [] X.env)).any (·.1)=false:=by rfl):jE3 X (.Call (.Attribute o "append" apos) [e] [] cpos) (bm3 QI to t):=
 ⟨qeg (ho:=ho.h) (ha:=ha.h) (hbase:=hbase) (hfew:=hfew) (hline:=hline) (hs:=hs) (hplain:=hplain)⟩
def KQ {t:TA3} {e:Expr} {X:Cx} {o:Expr} {to:TE3} {apos cpos:Pos} (ho:jE3 X o to) (ha:jA3 X [e] t)
  (hbase:attributeBase o "extend" X.env (eval o X.env)=eval o X.env:=by rfl)
  (hfew:((backTo cpos (starEach [e] X.env)).all (λx=>!x.1)&&(backToKw cpos (keywordEach [] X.env)).all (λx=>x.1.isSome)
   && decide (([e]:List Expr).length+([]:List Keyword).length+(if ([]:List Keyword).isEmpty then 0 else 1)<30))=true:=by rfl)
  (hline:(apos.endLine==cpos.line)=true:=by rfl) (hs:starEach [e] X.env=(false,eval e X.env)::starEach [] X.env:=by rfl) (hplain:(backTo cpos (starEach [] X.env)).any (·.1)=false:=by rfl):jE3 X (.Call (.Attribute o "extend" apos) [e] [] cpos) (bm3 JW to t):=
 ⟨qd9 (ho:=ho.h) (ha:=ha.h) (hbase:=hbase) (hfew:=hfew) (hline:=hline) (hs:=hs) (hplain:=hplain)⟩
def WE {te:TE3} {pos:Pos} {e:Expr} {X:Cx} {tn:Str} {ty:String} {p p2:Pos} (he:jE3 X e te) (hg:Gl X "isinstance") (hm:X.mg "isinstance" = none) (hg2:Gl X tn) (hm2:X.mg tn=none) (hv:bootBuiltins tn=some (.type ty)) (hmem:ty∈Q4:=by decide) (hn:tn≠"__name__" := by decide) (hdb:(tn==("__debug__" : Str))=false:=by decide)
  (hs:starEach [e,.Name tn p2] X.env=(false,eval e X.env)::starEach [.Name tn p2] X.env:=by rfl) (hs2:starEach [.Name tn p2] X.env=(false,eval (.Name tn p2) X.env)::starEach [] X.env:=by rfl) (hpl:(backTo pos (starEach [.Name tn p2] X.env)).any (·.1)=false:=by rfl):jE3 X (.Call (.Name "isinstance" p) [e,.Name tn p2] [] pos) (ZX (λt=>jT t ty) te):=
 ⟨qps (he:=he.h) (hg:=hg) (hm:=hm) (hg2:=hg2) (hm2:=hm2) (hv:=hv) (hmem:=hmem) (hn:=hn) (hdb:=hdb) (hs:=hs) (hs2:=hs2) (hpl:=hpl)⟩
def qbE {te:TE3} {pos:Pos} {e:Expr} {X:Cx} {tn tn':Str} {ty ty':String} {p p2 p3 p4:Pos} {x1} (he:jE3 X e te) (hg:Gl X "isinstance") (hm:X.mg "isinstance" = none) (hg2:Gl X tn) (hm2:X.mg tn=none) (hv:bootBuiltins tn=some (.type ty)) (hg3:Gl X tn') (hm3:X.mg tn'=none) (hv3:bootBuiltins tn'=some (.type ty'))
  (hmem:ty∈Q4:=by decide) (hn:tn≠"__name__" := by decide) (hdb:(tn==("__debug__" : Str))=false:=by decide) (hmem3:ty'∈Q4:=by decide) (hn3:tn'≠"__name__" := by decide) (hdb3:(tn'==("__debug__" : Str))=false:=by decide)
  (hs:starEach [e,.Tuple [.Name tn p2,.Name tn' p3] x1 p4] X.env=(false,eval e X.env)::starEach [.Tuple [.Name tn p2,.Name tn' p3] x1 p4] X.env:=by rfl) (hs2:starEach [.Tuple [.Name tn p2,.Name tn' p3] x1 p4] X.env=(false,eval (.Tuple [.Name tn p2,.Name tn' p3] x1 p4) X.env)::starEach [] X.env:=by rfl)
  (hs3:starEach [.Name tn p2,.Name tn' p3] X.env=(false,eval (.Name tn p2) X.env)::starEach [.Name tn' p3] X.env:=by rfl) (hs4:starEach [.Name tn' p3] X.env=(false,eval (.Name tn' p3) X.env)::starEach [] X.env:=by rfl)
  (hpl:(backTo pos (starEach [.Tuple [.Name tn p2,.Name tn' p3] x1 p4] X.env)).any (·.1)=false:=by rfl):jE3 X (.Call (.Name "isinstance" p) [e,.Tuple [.Name tn p2,.Name tn' p3] x1 p4] [] pos) (ZX (λt=>jT t ty||jT t ty') te):=
 ⟨qjQ (he:=he.h) (hg:=hg) (hm:=hm) (hg2:=hg2) (hm2:=hm2) (hv:=hv) (hg3:=hg3) (hm3:=hm3) (hv3:=hv3) (hmem:=hmem) (hn:=hn) (hdb:=hdb) (hmem3:=hmem3) (hn3:=hn3) (hdb3:=hdb3) (hs:=hs) (hs2:=hs2) (hs3:=hs3) (hs4:=hs4) (hpl:=hpl)⟩
def q5 {X:Cx} :jB3 X [] qD:=
 ⟨qo2 ⟩
def qi {QR:List Stmt} {st:Stmt} {t1:TS3} {t2:TS3} {X:Cx} (h1:jS3 X st t1) (h2:jB3 X QR t2):jB3 X (st::QR) (qx t1 t2):=
 ⟨qkb (h1:=h1.h) (h2:=h2.h)⟩
def qv {st:Stmt} {t1:TS3} {X:Cx} (h1:jS3 X st t1):jB3 X [st] t1:=
 ⟨qog (h1:=h1.h)⟩
def JL {te:TE3} {pos:Pos} {e:Expr} {X:Cx} (he:jE3 X e te) (hs:swapsWith e none pos.line X.env=pure false:=by rfl):jS3 X (.Expr e pos) (qH te):=
 ⟨qi4 (he:=he.h) (hs:=hs)⟩
def qw {te:TE3} {pos:Pos} {e:Expr} {X:Cx} (he:jE3 X e te):jS3 X (.Return (some e) pos) (qP te):=
 ⟨qoL (he:=he.h)⟩
def ji {tA:TT3} {t1:TS3} {t2:TS3} {pos:Pos} {X:Cx} {c:Expr} {ba bb:List Stmt} (hc:jC3 X c tA) (ha:jB3 X ba t1) (hb:jB3 X bb t2):jS3 X (.If c ba bb pos) (zD tA t1 t2):=
 ⟨qrF (hc:=hc.h) (ha:=ha.h) (hb:=hb.h)⟩
def qea {X:Cx} {sts:List Stmt}:jB3 X sts UF:=
 ⟨qhy ⟩
def qt {pos:Pos} {X:Cx} {i:Nat} {x:Str} (hN:X.N.Nodup) (hi:X.N[i]?=some x:=by rfl) (hx:Loc X.env.scope x:=by first|exact Or.inl rfl|exact Or.inr rfl) (hf:X.fn x=true\/X.env.scope.names.lookup x=some .local:=by first|exact .inl rfl|exact .inr rfl):jG3 X (.Name x pos) (gn3 i):=
 ⟨qmA (hN:=hN) (hi:=hi) (hx:=hx) (hf:=hf)⟩
def zQ {X:Cx} :jGs3 X [] qO:=
 ⟨qp2 ⟩
def qu {es:List Expr} {X:Cx} {tg:TG3} {tgs:LP} (h1:jG3 X e tg) (h2:jGs3 X es tgs) (hs:(assignEach (e::es) X.env).map (·.2)=assign e X.env::(assignEach es X.env).map (·.2):=by rfl):jGs3 X (e::es) (qo tg tgs):=
 ⟨qnb (h1:=h1.h) (h2:=h2.h) (hs:=hs)⟩
def zN {pos:Pos} {es:List Expr} {X:Cx} {k:Nat} {tgs:LP} {n:Nat} (hc:X.calm=true) (h:jGs3 X es tgs) (hn:(assignEach es X.env).length=n:=by rfl) (hst:(assignEach es X.env).findIdx? (·.1)=none:=by rfl):jG3 X (.Tuple es k pos) (qK n tgs):=
 ⟨qpL (hc:=hc) (h:=h.h) (hn:=hn) (hst:=hst)⟩
def T9 {pos : Pos} {X : Cx} {o i : Expr} {to ti : TE3} (ho : jE3 X o to) (hi : jE3 X i ti) (ha : ∀ v,assign (.Subscript o i pos) X.env v = (do
      let ov←holding [v] (eval o X.env)
      let iv←holding [v,ov] (eval i X.env)
      standAt pos
      holding [v,ov,iv] (setItem ov iv v)
      release [v,ov,iv] []):=by intro _;rfl):jG3 X (.Subscript o i pos) (ze to ti):=
  ⟨qo0 (ho:=ho.h) (hi:=hi.h) (ha:=ha)⟩
def jc {te:TE3} {pos:Pos} {X:Cx} {tg e:Expr} {g:TG3} (he:jE3 X e te) (hg:jG3 X tg g) (hs:swapsWithSole [tg] e pos.line X.env=pure false:=by rfl) (hw:swappedStores [tg] e X.env=pure none:=by rfl)
  (h1:(assignEach [tg] X.env).map (·.2)=[assign tg X.env]:=by rfl):jS3 X (.Assign [tg] e pos) (qF te g):=
 ⟨qpW (he:=he.h) (hg:=hg.h) (hs:=hs) (hw:=hw) (h1:=h1)⟩
def qQ {te:TE3} {pos:Pos} {X:Cx} (i:Nat) {x:Str} {e:Expr} {pos':Pos} (hN:X.N.Nodup) (he:jE3 X e te) (hi:X.N[i]?=some x:=by rfl) (hx:Loc X.env.scope x:=by first|exact Or.inl rfl|exact Or.inr rfl) (hs:swapsWith e (some (.Name x pos')) pos.line X.env=pure false:=by rfl) (hf:X.fn x=true\/X.env.scope.names.lookup x=some .local:=by first|exact .inl rfl|exact .inr rfl):jS3 X (.Assign [.Name x pos'] e pos) (qF te (gn3 i)):=
 ⟨qqm (i:=i) (hN:=hN) (he:=he.h) (hi:=hi) (hx:=hx) (hs:=hs) (hf:=hf)⟩
def qch {pos:Pos} {X:Cx} {i j:Nat} {x y:Str} {a b:Expr} {tt:TA3} {px py pt:Pos} {kt k2 pt2} (hc:X.calm=true) (hN:X.N.Nodup) (hi:X.N[i]?=some x) (hj:X.N[j]?=some y) (hij:i≠j)
  (hx:X.env.scope.names.lookup x=some .local) (hy:X.env.scope.names.lookup y=some .local) (ha:jA3 X [a,b] tt)
  (hw:swappedStores [.Tuple [.Name x px,.Name y py] kt pt] (.Tuple [a,b] k2 pt2) X.env=pure (some [x,y]):=by rfl)
  (hs:swapsWithSole [.Tuple [.Name x px,.Name y py] kt pt] (.Tuple [a,b] k2 pt2) pos.line X.env=pure false:=by rfl):jS3 X (.Assign [.Tuple [.Name x px,.Name y py] kt pt] (.Tuple [a,b] k2 pt2) pos) (YQ i j tt):=
 ⟨qqd (hc:=hc) (hN:=hN) (hi:=hi) (hj:=hj) (hij:=hij) (hx:=hx) (hy:=hy) (ha:=ha.h) (hw:=hw) (hs:=hs)⟩
def EH {te:TE3} {X:Cx} {tg:Expr} {l:Expr} (hl:jE3 X l te):jI3 X tg l (VI te):=
 ⟨qoO (hl:=hl.h)⟩
def qS {t:TA3} {pos:Pos} {a:Expr} {X:Cx} {tg:Expr} {p:Pos} (hg:Gl X "range") (hm:X.mg "range" = none) (ha:jA3 X [a] t) (hs:starEach [a] X.env=[(false,eval a X.env)]:=by rfl) (h1:∀ τ G q,t τ G q->t τ G λxs G=>q xs G/\xs.length=1):jI3 X tg (.Call (.Name "range" p) [a] [] pos) (jf t):=
 ⟨qdO (hg:=hg) (hm:=hm) (ha:=ha.h) (hs:=hs) (h1:=h1)⟩
def LF {t:TA3} {pos:Pos} {a:Expr} {b:Expr} {X:Cx} {tg:Expr} {p:Pos} (hg:Gl X "range") (hm:X.mg "range" = none) (ha:jA3 X [a,b] t) (hs:starEach [a,b] X.env=[(false,eval a X.env),(false,eval b X.env)]:=by rfl) (hs2:starEach [b] X.env=[(false,eval b X.env)]:=by rfl) (h1:∀ τ G q,t τ G q->t τ G λxs G=>q xs G/\xs.length=2):jI3 X tg (.Call (.Name "range" p) [a,b] [] pos) (jf t):=
 ⟨qed (hg:=hg) (hm:=hm) (ha:=ha.h) (hs:=hs) (hs2:=hs2) (h1:=h1)⟩
def JN {pos:Pos} {X:Cx} {tg:Expr} {iter:Expr} {body:List Stmt} {wi:TI3} {g:TG3} {tb:TS3} (hp:PassesOwn (model X.prog X.w) X.A X.env X.xe) (hc:X.calm=true) (hi:jI3 X tg iter wi) (hg:jG3 X tg g) (hb:jB3 X body tb)
  (hs:∀ x,foldedSetIterable iter X.env x=pure x:=by intro _;rfl):jS3 X (.For tg iter body [] pos) (WU wi g tb):=
 ⟨qom (hp:=hp) (hc:=hc) (hi:=hi.h) (hg:=hg.h) (hb:=hb.h) (hs:=hs)⟩
def qae {pos:Pos} {X:Cx} {c:Expr} {body:List Stmt} {tc:TT3} {tb:TS3} (hp:PassesOwn (model X.prog X.w) X.A X.env X.xe) (hc:jC3 X c tc) (hb:jB3 X body tb):jS3 X (.While c body [] pos) (RK tc tb):=
 ⟨qic (hp:=hp) (hc:=hc.h) (hb:=hb.h)⟩
def qm {t:TA3} {pos:Pos} {es:List Expr} {X:Cx} {k:Nat} {x:Str} {p:Pos} {sp:Sp3} (F:Fn3 X.prog X.w X.K X.mg X.base k x sp) (hr:Room k X.A) (hg:Gl X x) (ha:jA3 X (e::es) t) (hdb:(x==("__debug__" : Str))=false:=by decide)
  (he:starEach (e::es) X.env=(false,eval e X.env)::starEach es X.env:=by rfl) (hpl:(backTo pos (starEach es X.env)).any (·.1)=false:=by rfl):jE3 X (.Call (.Name x p) (e::es) [] pos) (cb3 sp t):=
 ⟨ql8 (F:=F) (hr:=hr) (hg:=hg) (ha:=ha.h) (hdb:=hdb) (he:=he) (hpl:=hpl)⟩
def WZ {X:Cx} {elt tg iter:Expr} {ifs:List Expr} {scope:Scope} {pos:Pos} (N':List Str) (m:List (Option Nat)) {wi:TI3} {g:TG3} {tif:TT3} {te:TE3} (hc:X.calm=true) (hi:jI3 X tg iter wi)
  (hg:∀ s H fp,jG3 (qr X N' scope s H fp) tg g) (hf:∀ s H fp,jF3 (qr X N' scope s H fp) ifs tif) (he:∀ s H fp,jE3 (qr X N' scope s H fp) elt te)
  (hsc:qaS X.env.scope scope=true) (hcap:UW X.N N' scope m=true) (hs:∀ x,foldedSetIterable iter X.env x=pure x:=by intro _;rfl):jE3 X (.ListComp elt [⟨tg,iter,ifs,0⟩] scope pos) (lc3 wi g tif te m):=
 ⟨qrG (N':=N') (m:=m) (hc:=hc) (hi:=hi.h) (hg:=(λs H fp=>(hg s H fp).h)) (hf:=(λs H fp=>(hf s H fp).h)) (he:=(λs H fp=>(he s H fp).h)) (hsc:=hsc) (hcap:=hcap) (hs:=hs)⟩
def jx {X:Cx}:jF3 X [] tt3:=
 ⟨qph ⟩
def qfx {X:Cx} {c:Expr} {t:TT3} (h:jC3 X c t):jF3 X [c] t:=
 ⟨qpc (h:=h.h)⟩
def qgn {t:TA3} {pos:Pos} {es:List Expr} {a:Expr} {b:Expr} {X:Cx} {p pt:Pos} {k1:Nat} (hg:Gl X "zip") (hm:X.mg "zip" = none) (ha:jA3 X [a,b] t) (hs:starEach [a,b] X.env=[(false,eval a X.env),(false,eval b X.env)]:=by rfl) (hs2:starEach [b] X.env=[(false,eval b X.env)]:=by rfl):jI3 X (.Tuple es k1 pt) (.Call (.Name "zip" p) [a,b] [] pos) (qaM t):=
 ⟨qpu (hg:=hg) (hm:=hm) (ha:=ha.h) (hs:=hs) (hs2:=hs2)⟩
def SQ {t:TA3} {pos:Pos} {es:List Expr} {a:Expr} {X:Cx} {p pt:Pos} {k1:Nat} (hg:Gl X "enumerate") (hm:X.mg "enumerate" = none) (ha:jA3 X [a] t) (hs:starEach [a] X.env=[(false,eval a X.env)]:=by rfl):jI3 X (.Tuple es k1 pt) (.Call (.Name "enumerate" p) [a] [] pos) (EO t):=
 ⟨ql9 (hg:=hg) (hm:=hm) (ha:=ha.h) (hs:=hs)⟩
def qbp {te:TE3} {pos:Pos} {e:Expr} {X:Cx} (i:Nat) {x:Str} {pos':Pos} (hN:X.N.Nodup) (he:jE3 X e te) (hi:X.N[i]?=some x:=by rfl) (hx:Loc X.env.scope x:=by first|exact Or.inl rfl|exact Or.inr rfl) (hf:X.fn x=true\/X.env.scope.names.lookup x=some .local:=by first|exact .inl rfl|exact .inr rfl):jS3 X (.AugAssign (.Name x pos') .Add e pos) (UK i (iI (·+·)) te):=
 ⟨qep (i:=i) (hN:=hN) (he:=he.h) (hi:=hi) (hx:=hx) (hf:=hf)⟩
def W8 {X:Cx} {py spos:Pos} {elt tg iter:Expr} {ifs:List Expr} {scope:Scope} {pos:Pos} {y:Str} (i:Nat) (N':List Str) (m:List (Option Nat)) {wi:TI3} {g:TG3} {tif:TT3} {te:TE3} (hc:X.calm=true) (hN:X.N.Nodup) (hi:jI3 X tg iter wi)
  (hg:∀ s H fp,jG3 (qr X N' scope s H fp) tg g) (hf:∀ s H fp,jF3 (qr X N' scope s H fp) ifs tif) (he:∀ s H fp,jE3 (qr X N' scope s H fp) elt te)
  (hsc:qaS X.env.scope scope=true) (hcap:UW X.N N' scope m=true) (hl:X.env.scope.names.lookup y=some .local) (hsw:swapsWith (.ListComp elt [⟨tg,iter,ifs,0⟩] scope pos) (some (.Name y py)) spos.line X.env=pure true) (hiy:X.N[i]?=some y:=by rfl) (hs:∀ x,foldedSetIterable iter X.env x=pure x:=by intro _;rfl):jS3 X (.Assign [.Name y py] (.ListComp elt [⟨tg,iter,ifs,0⟩] scope pos) spos) (qF (lc3 wi g tif te m) (gn3 i)):=
 ⟨qiv (i:=i) (N':=N') (m:=m) (hc:=hc) (hN:=hN) (hi:=hi.h) (hg:=(λs H fp=>(hg s H fp).h)) (hf:=(λs H fp=>(hf s H fp).h)) (he:=(λs H fp=>(he s H fp).h)) (hsc:=hsc) (hcap:=hcap) (hl:=hl) (hsw:=hsw) (hiy:=hiy) (hs:=hs)⟩
def jpt {X:Cx} {e:Expr} {t:TT3} (h:jW3 X e t):jC3 X e t:=⟨PW.pt h.h⟩
def qhN {P:Program} {w:World} {K:Frg} {mg:Str->Option Value} {base:Heap} {x qual:Str} {st:Stmt} {f:Addr} {fd:FuncData} {N ps:List Str} {k:Nat} {sp:Sp3} {t3:TS3} (F:Fun K x qual st f fd) (S:FnScope N ps (ql st)) (bd:CS K fd ps []) (hm:mg x=some (.ref f))
  (body:∀ (cdv:Value) (A:Around) (outer:List Env) (s:Shared) (H:Hp) (E:XK),Room k (A.deeper (envOfC qual (ql st) s.heap.objs.size f cdv)) ->
   jB3 (qcO CX0 P w K mg base N qual (ql st) f cdv A outer s H E).nox (zW st) t3)
  (read:∀ ts G q,sp ts G q->ts.length=ps.length/\t3 { nx:=λ_ G'=>q .non G',rt:=q } (qq N ts) G):Fn3 P w K mg base (k+1) x sp:=
 qjg F S bd hm (λcdv A outer s H E hr=>(body cdv A outer s H E hr).h) read
def qdV {P:Program} {w:World} {K:Frg} {mg:Str->Option Value} {base:Heap} {x qual:Str} {st:Stmt} {f:Addr} {fd:FuncData} {N ps:List Str} {k:Nat} {sp:Sp3} {t3:TS3} (F:Fun K x qual st f fd) (S:FnScope N ps (ql st))
  (body:∀ (cdv:Value) (A:Around) (outer:List Env) (s:Shared) (H:Hp) (E:XK),Room k (A.deeper (envOfC qual (ql st) s.heap.objs.size f cdv)) ->
   jB3 (qcO CX0 P w K mg base N qual (ql st) f cdv A outer s H E).nox (zW st) t3)
  (read:∀ ts G q,sp ts G q->ts.length=ps.length/\t3 { nx:=λ_ G'=>q .non G',rt:=q } (qq N ts) G):FnOk P w K mg base CX0 (k+1) f fd ps (lSp K sp):=
 qht F S (λcdv A outer s H E hr=>(body cdv A outer s H E hr).h) read
open PySem.SeqAt
def Ex (G G':Gp):Prop:=∀ b o,G b=some o->G' b=some o
def Ex.refl {G:Gp}:Ex G G:=λ_ _ e=>e
def Ex.trans {G G1 G2:Gp} (a:Ex G G1) (b:Ex G1 G2):Ex G G2:=λx o e=>b x o (a x o e)
def zn {G:Gp} {p:Addr} {o:O} (hp:G p=none):Ex G (gu G p o):=λb ob e=>by
 rw [zj (by rintro rfl;rw [hp] at e;cases e)];exact e
mutual
inductive Dp (G:Gp):T->PyData->Prop
 |non:Dp G .non .none
 |bl (b:Bool):Dp G (.bl b) (.bool b)
 |int (i:Int):Dp G (.int i) (.int i)
 |str (x:Str):Dp G (.str x) (.str x)
 |tup {xs:List T} {ds:List PyData}:Dps G xs ds->Dp G (.tup xs) (.tuple ds)
 |lst {p:Addr} {xs:List T} {ds:List PyData}:getL G p=some xs->Dps G xs ds->Dp G (.ref p) (.list ds)
inductive Dps (G:Gp):List T->List PyData->Prop
 |nil:Dps G [] []
 |cons {x:T} {d:PyData} {xs:List T} {ds:List PyData}:Dp G x d->Dps G xs ds->Dps G (x::xs) (d::ds)
end
theorem Ex.getL {G G':Gp} (e:Ex G G') {p:Addr} {xs:List T} (h:getL G p=some xs):getL G' p=some xs:=by
 unfold L3.getL at h ⊢;split at h
 ·rename_i ys g;cases h;rw [e _ _ g]
 ·rename_i ys g;cases h;rw [e _ _ g]
 ·cases h
mutual
theorem Dp.up {G G':Gp} (e:Ex G G'):∀ {x:T} {d:PyData},Dp G x d->Dp G' x d
 |_,_,.non=>.non
 |_,_,.bl b=>.bl b
 |_,_,.int i=>.int i
 |_,_,.str x=>.str x
 |_,_,.tup h=>.tup (Dps.up e h)
 |_,_,.lst h1 h2=>.lst (e.getL h1) (Dps.up e h2)
theorem Dps.up {G G':Gp} (e:Ex G G'):∀ {x:List T} {d:List PyData},Dps G x d->Dps G' x d
 |_,_,.nil=>.nil
 |_,_,.cons a b=>.cons (Dp.up e a) (Dps.up e b)
end
theorem Dps.length {G:Gp}:∀ {xs:List T} {ds:List PyData},Dps G xs ds->xs.length=ds.length
 |_,_,.nil=>rfl
 |_,_,.cons _ b=>by simp [Dps.length b]
theorem Dps.get {G:Gp}:∀ {xs:List T} {ds:List PyData} {i:Nat} {x:T},Dps G xs ds->xs[i]?=some x->∃ d,ds[i]?=some d/\Dp G x d
 |_,_,_,_,.nil,e=>by simp at e
 |_,_,0,_,.cons r _,e=>by simp at e;subst e;exact ⟨_,rfl,r⟩
 |_,_,i+1,x,.cons _ t,e=>by
  obtain ⟨u,h1,h2⟩:=Dps.get (i:=i) (x:=x) t (by simpa using e);exact ⟨u,by simpa using h1,h2⟩
mutual
inductive DV (K:Frg) (H:Hp):V->PyData->Prop
 |non:DV K H .non .none
 |bl (b:Bool):DV K H (.bl b) (.bool b)
 |int (i:Int):DV K H (.int i) (.int i)
 |str (x:Str):DV K H (.str x) (.str x)
 |tup {a:Addr} {vs:List V} {ds:List PyData}:SqT K H a vs->DVs K H vs ds->DV K H (.ref a) (.tuple ds)
 |lst {a:Addr} {vs:List V} {ds:List PyData}:SqL K H a vs->DVs K H vs ds->DV K H (.ref a) (.list ds)
inductive DVs (K:Frg) (H:Hp):List V->List PyData->Prop
 |nil:DVs K H [] []
 |cons {x:V} {d:PyData} {xs:List V} {ds:List PyData}:DV K H x d->DVs K H xs ds->DVs K H (x::xs) (d::ds)
end
mutual
theorem Dp.dv {K:Frg} {G:Gp} {H:Hp} (hr:HR K G H):∀ {x:T} {d:PyData} {v:V},Dp G x d->Rp K H x v->DV K H v d
 |_,_,_,.non,.non=>.non
 |_,_,_,.bl b,.bl _=>.bl b
 |_,_,_,.int i,.int _=>.int i
 |_,_,_,.str x,.str _=>.str x
 |_,_,_,.tup h,.tup hs rs=>.tup hs (Dps.dv hr h rs)
 |_,_,_,.lst g h,r=>by
  cases r;obtain ⟨_,hs,rs⟩:=jd hr g;exact .lst hs (Dps.dv hr h rs)
theorem Dps.dv {K:Frg} {G:Gp} {H:Hp} (hr:HR K G H):∀ {x:List T} {d:List PyData} {v:List V},Dps G x d->Rps K H x v->DVs K H v d
 |_,_,_,.nil,.nil=>.nil
 |_,_,_,.cons a b,.cons c d=>.cons (Dp.dv hr a c) (Dps.dv hr b d)
end
mutual
def jS:PyData->PyData->Option Bool
 |.none,.none=>some true
 |.bool a,.bool b=>some (a==b)
 |.int a,.int b=>some (a==b)
 |.str a,.str b=>some (a==b)
 |.list xs,.list ys=>DC xs ys
 |.tuple xs,.tuple ys=>DC xs ys
 |.int _,.none=>some false
 |.none,.int _=>some false
 |_,_=>none
def DC:List PyData->List PyData->Option Bool
 |[],[]=>some true
 |x::xs,y::ys=>match jS x y,DC xs ys with|some a,some b=>some (a&&b)|_,_=>none
 |_,_=>some false
end
mutual
def dpt:PyData->Nat
 |.list xs=>qkf xs+1
 |.tuple xs=>qkf xs+1
 |_=>0
def qkf:List PyData->Nat
 |[]=>0
 |x::xs=>max (dpt x) (qkf xs)
end
section
variable {X:Cx} {pins:List (Addr×Obj)} {σ:L2.St} {H:Hp} {s:Shared}
mutual
theorem DV.inj (I:Inv X pins σ H s):∀ {v:V} {d e:PyData},DV X.K H v d->DV X.K H v e->d=e
 |_,_,_,.non,.non=>rfl
 |_,_,_,.bl _,.bl _=>rfl
 |_,_,_,.int _,.int _=>rfl
 |_,_,_,.str _,.str _=>rfl
 |_,_,_,.tup h hs,.tup k ks=>by
  have:=I.tuple_inj h k;subst this;rw [DVs.inj I hs ks]
 |_,_,_,.lst h hs,.lst k ks=>by
  have:=I.list_inj h k;subst this;rw [DVs.inj I hs ks]
 |_,_,_,.tup h hs,.lst k ks=>by
  obtain ⟨i1,_,p1,_⟩:=I.tuple h;obtain ⟨i2,_,p2,_⟩:=I.list k;exact absurd rfl (ne_of_list_tuple p2.isList (show s.heap.IsTuple _ i1.toArray from p1))
 |_,_,_,.lst k ks,.tup h hs=>by
  obtain ⟨i1,_,p1,_⟩:=I.tuple h;obtain ⟨i2,_,p2,_⟩:=I.list k;exact absurd rfl (ne_of_list_tuple p2.isList (show s.heap.IsTuple _ i1.toArray from p1))
theorem DVs.inj (I:Inv X pins σ H s):∀ {v:List V} {d e:List PyData},DVs X.K H v d->DVs X.K H v e->d=e
 |_,_,_,.nil,.nil=>rfl
 |_,_,_,.cons a b,.cons c d=>by rw [DV.inj I a c,DVs.inj I b d]
end
mutual
theorem KG:∀ {d:PyData} {b:Bool},jS d d=some b->b=true
 |.none,_,h=>by simp [jS] at h;exact h
 |.bool _,_,h=>by simp [jS] at h;exact h
 |.int _,_,h=>by simp [jS] at h;exact h
 |.str _,_,h=>by simp [jS] at h;exact h
 |.list xs,_,h=>by simp only [jS] at h;exact D7 h
 |.tuple xs,_,h=>by simp only [jS] at h;exact D7 h
 |.dict _,_,h=>by simp [jS] at h
theorem D7:∀ {d:List PyData} {b:Bool},DC d d=some b->b=true
 |[],_,h=>by simp [DC] at h;exact h
 |x::xs,b,h=>by
  simp only [DC] at h;split at h
  ·rename_i a c e1 e2;rw [KG e1,D7 e2] at h;simpa using h.symm
  ·cases h
end
theorem YU:∀ {xs ys:List PyData} {b:Bool},DC xs ys=some b->xs.length=ys.length->∃ e:Nat->Bool,(∀ (j:Nat) x y,xs[j]?=some x->ys[j]?=some y->jS x y=some (e j))/\b=(List.range xs.length).all e
 |[],[],b,h,_=>by simp [DC] at h;exact ⟨λ_=>true,by simp,by simp [h]⟩
 |x::xs,y::ys,b,h,hl=>by
  simp only [DC] at h;split at h
  ·rename_i a c e1 e2;obtain ⟨e,h1,h2⟩:=YU e2 (by simpa using hl);refine ⟨λj=>match j with|0=>a|j+1=>e j,λj u v hu hv=>?_,?_⟩
   ·cases j with
    |zero=>simp at hu hv;subst hu;subst hv;exact e1
    |succ j=>exact h1 j u v (by simpa using hu) (by simpa using hv)
   ·rw [length_cons,List.range_succ_eq_map,List.all_cons,List.all_map];cases h;rw [h2];rfl
  ·cases h
 |[],_::_,_,_,hl=>by simp at hl
 |_::_,[],_,_,hl=>by simp at hl
theorem YX:∀ {xs ys:List PyData} {b:Bool},DC xs ys=some b->xs.length≠ys.length->b=false/\∃ e:Nat->Bool,∀ (j:Nat) x y,xs[j]?=some x->ys[j]?=some y->jS x y=some (e j)
 |[],[],_,_,hl=>by simp at hl
 |[],_::_,b,h,_=>by simp [DC] at h;exact ⟨h,λ_=>true,by simp⟩
 |_::_,[],b,h,_=>by simp [DC] at h;exact ⟨h,λ_=>true,by simp⟩
 |x::xs,y::ys,b,h,hl=>by
  simp only [DC] at h;split at h
  ·rename_i a c e1 e2;obtain ⟨h0,e,h1⟩:=YX e2 (by simpa using hl);subst h0;refine ⟨by simpa using h.symm,λj=>match j with|0=>a|j+1=>e j,λj u v hu hv=>?_⟩;cases j with
   |zero=>simp at hu hv;subst hu;subst hv;exact e1
   |succ j=>exact h1 j u v (by simpa using hu) (by simpa using hv)
  ·cases h
theorem ER:∀ {xs:List PyData} {x:PyData},x∈xs->dpt x<=qkf xs
 |[],_,h=>by simp at h
 |y::ys,x,h=>by
  simp only [qkf];rcases mem_cons.mp h with e|e
  ·subst e;omega
  ·have:=ER e;omega
theorem DVs.get {K:Frg} {H:Hp}:∀ {xs:List V} {ds:List PyData} {i:Nat} {x:V},DVs K H xs ds->xs[i]?=some x->∃ d,ds[i]?=some d/\DV K H x d
 |_,_,_,_,.nil,e=>by simp at e
 |_,_,0,_,.cons r _,e=>by simp at e;subst e;exact ⟨_,rfl,r⟩
 |_,_,i+1,x,.cons _ t,e=>by
  obtain ⟨u,h1,h2⟩:=DVs.get (i:=i) (x:=x) t (by simpa using e);exact ⟨u,by simpa using h1,h2⟩
theorem DVs.length {K:Frg} {H:Hp}:∀ {xs:List V} {ds:List PyData},DVs K H xs ds->xs.length=ds.length
 |_,_,.nil=>rfl
 |_,_,.cons _ b=>by simp [DVs.length b]
def YS {vs:List V} {us:List Value} (r:zo vs us) {j:Nat} (h:j<us.toArray.size):∃ v,vs[j]?=some v/\jp v us.toArray[j]:=by
 have hj:j<vs.length:=by rw [r.length];simpa using h
 obtain ⟨u,hu,ru⟩:=r.get (v8 hj);refine ⟨vs[j],v8 hj,?_⟩;have hj2:j<us.length:=by simpa using h
 rw [v8 hj2] at hu;have:us[j]=u:=Option.some.inj hu;simpa [this] using ru
def MU (I:Inv X pins σ H s):∀ (n:Nat) {v u:V} {d e:PyData} {b:Bool} {x y:Value} {A:Around},DV X.K H v d->DV X.K H u e->jS d e=some b->dpt d<=n->A.units+n<cLine->jp v x->jp u y ->
  RcAt A s x y b/\EqAt A s x y b:=by
 intro n;induction n with
 |zero=>
  intro v u d e b x y A hv hu h hd hn rx ry;cases hv with
  |non=>
   cases hu with
   |non=>simp [jS] at h;subst h;cases (show x=Value.none from rx);cases (show y=Value.none from ry);exact ⟨RcAt.none_none,EqAt.same _⟩
   |int c=>simp [jS] at h;subst h;cases (show x=Value.none from rx);obtain ⟨t',rfl⟩:=(show ∃ t,y=Value.int _ t from ry);exact ⟨RcAt.none_int _ _,EqAt.none_int _ _⟩
   |bl _=>simp [jS] at h
   |str _=>simp [jS] at h
   |tup _ _=>simp [jS] at h
   |lst _ _=>simp [jS] at h
  |bl a=>cases hu<;>simp [jS] at h;subst h;cases (show x=Value.bool _ from rx);cases (show y=Value.bool _ from ry);exact ⟨RcAt.bool_bool _ _,EqAt.bool_bool _ _⟩
  |int a=>
   cases hu with
   |int c=>simp [jS] at h;subst h;obtain ⟨t,rfl⟩:=(show ∃ t,x=Value.int _ t from rx);obtain ⟨t',rfl⟩:=(show ∃ t,y=Value.int _ t from ry);exact ⟨RcAt.int_int _ _ _ _,EqAt.int_int _ _ _ _⟩
   |non=>simp [jS] at h;subst h;obtain ⟨t,rfl⟩:=(show ∃ t,x=Value.int _ t from rx);cases (show y=Value.none from ry);exact ⟨RcAt.int_none _ _,EqAt.int_none _ _⟩
   |bl _=>simp [jS] at h
   |str _=>simp [jS] at h
   |tup _ _=>simp [jS] at h
   |lst _ _=>simp [jS] at h
  |str a=>cases hu<;>simp [jS] at h;subst h;obtain ⟨t,rfl⟩:=(show ∃ t,x=Value.str _ t from rx);obtain ⟨t',rfl⟩:=(show ∃ t,y=Value.str _ t from ry);exact ⟨RcAt.str_str _ _ _ _,EqAt.str_str _ _ _ _⟩
  |tup=>simp [dpt] at hd
  |lst=>simp [dpt] at hd
 |succ n ih=>
  intro v u d e b x y A hv hu h hd hn rx ry;have fin:∀ {l l':Addr} {k:Bool},x=.ref l->y=.ref l'->v=.ref l->u=.ref l'->b=k->RcAt A s x y k->RcAt A s x y b/\EqAt A s x y b:=by
   rintro l l' k rfl rfl rfl rfl rfl rc;refine ⟨rc,?_⟩;by_cases hll:l=l'
   ·subst hll;have:=DV.inj I hv hu;subst this;rw [KG h];exact EqAt.same _
   ·exact EqAt.of_refs hll rc
  cases hv with
  |non=>
   cases hu with
   |non=>simp [jS] at h;subst h;cases (show x=Value.none from rx);cases (show y=Value.none from ry);exact ⟨RcAt.none_none,EqAt.same _⟩
   |int c=>simp [jS] at h;subst h;cases (show x=Value.none from rx);obtain ⟨t',rfl⟩:=(show ∃ t,y=Value.int _ t from ry);exact ⟨RcAt.none_int _ _,EqAt.none_int _ _⟩
   |bl _=>simp [jS] at h
   |str _=>simp [jS] at h
   |tup _ _=>simp [jS] at h
   |lst _ _=>simp [jS] at h
  |bl a=>cases hu<;>simp [jS] at h;subst h;cases (show x=Value.bool _ from rx);cases (show y=Value.bool _ from ry);exact ⟨RcAt.bool_bool _ _,EqAt.bool_bool _ _⟩
  |int a=>
   cases hu with
   |int c=>simp [jS] at h;subst h;obtain ⟨t,rfl⟩:=(show ∃ t,x=Value.int _ t from rx);obtain ⟨t',rfl⟩:=(show ∃ t,y=Value.int _ t from ry);exact ⟨RcAt.int_int _ _ _ _,EqAt.int_int _ _ _ _⟩
   |non=>simp [jS] at h;subst h;obtain ⟨t,rfl⟩:=(show ∃ t,x=Value.int _ t from rx);cases (show y=Value.none from ry);exact ⟨RcAt.int_none _ _,EqAt.int_none _ _⟩
   |bl _=>simp [jS] at h
   |str _=>simp [jS] at h
   |tup _ _=>simp [jS] at h
   |lst _ _=>simp [jS] at h
  |str a=>cases hu<;>simp [jS] at h;subst h;obtain ⟨t,rfl⟩:=(show ∃ t,x=Value.str _ t from rx);obtain ⟨t',rfl⟩:=(show ∃ t,y=Value.str _ t from ry);exact ⟨RcAt.str_str _ _ _ _,EqAt.str_str _ _ _ _⟩
  |tup hq hs=>
   cases hu with
   |tup kq ks=>
    rename_i a1 vs1 ds1 a2 vs2 ds2;simp only [jS] at h;obtain ⟨i1,r1,p1,z1⟩:=I.tuple hq;obtain ⟨i2,r2,p2,z2⟩:=I.tuple kq;have l1:=hs.length;have l2:=ks.length;have m1:=r1.length;have m2:=r2.length;have el:∀ (e:Nat->Bool),(∀ (j:Nat) x y,ds1[j]?=some x->ds2[j]?=some y->jS x y=some (e j))->∀ j (h1:j<i1.toArray.size) (h2:j<i2.toArray.size),EqAt A.in1 s i1.toArray[j] i2.toArray[j] (e j):=λe he j h1 h2=>by
     obtain ⟨w1,g1,q1⟩:=YS r1 h1;obtain ⟨w2,g2,q2⟩:=YS r2 h2;obtain ⟨d1,f1,dv1⟩:=hs.get g1;obtain ⟨d2,f2,dv2⟩:=ks.get g2;have:=ER (za1 f1);exact (ih dv1 dv2 (he j d1 d2 f1 f2) (by simp only [dpt] at hd;omega) (show A.units+1+n<cLine by omega) q1 q2).2
    cases (show x=Value.ref a1 from rx);cases (show y=Value.ref a2 from ry);by_cases hl:ds1.length=ds2.length
    ·obtain ⟨e,he,hb⟩:=YU h hl;refine fin rfl rfl rfl rfl (k:=(List.range (min i1.toArray.size i2.toArray.size)).all e&&i1.toArray.size==i2.toArray.size) ?_ (RcAt.tuples (show s.heap.IsTuple a1 i1.toArray from p1) (show s.heap.IsTuple a2 i2.toArray from p2) (by omega) (el e he));have e1:i1.toArray.size=ds1.length:=by rw [size_toArray];omega
     have e2:i2.toArray.size=ds1.length:=by rw [size_toArray];omega
     rw [e1,e2,hb];simp
    ·obtain ⟨hb,e,he⟩:=YX h hl;refine fin rfl rfl rfl rfl (k:=(List.range (min i1.toArray.size i2.toArray.size)).all e&&i1.toArray.size==i2.toArray.size) ?_ (RcAt.tuples (show s.heap.IsTuple a1 i1.toArray from p1) (show s.heap.IsTuple a2 i2.toArray from p2) (by omega) (el e he));have e1:i1.toArray.size≠i2.toArray.size:=by rw [size_toArray,size_toArray];omega
     rw [hb];simp [e1];intro;omega
   |_=>simp [jS] at h
  |lst hq hs=>
   cases hu with
   |lst kq ks=>
    rename_i a1 vs1 ds1 a2 vs2 ds2;simp only [jS] at h;obtain ⟨i1,r1,p1,z1⟩:=I.list hq;obtain ⟨i2,r2,p2,z2⟩:=I.list kq;have l1:=hs.length;have l2:=ks.length;have m1:=r1.length;have m2:=r2.length;have el:∀ (e:Nat->Bool),(∀ (j:Nat) x y,ds1[j]?=some x->ds2[j]?=some y->jS x y=some (e j))->∀ j (h1:j<i1.toArray.size) (h2:j<i2.toArray.size),EqAt A.in1 s i1.toArray[j] i2.toArray[j] (e j):=λe he j h1 h2=>by
     obtain ⟨w1,g1,q1⟩:=YS r1 h1;obtain ⟨w2,g2,q2⟩:=YS r2 h2;obtain ⟨d1,f1,dv1⟩:=hs.get g1;obtain ⟨d2,f2,dv2⟩:=ks.get g2;have:=ER (za1 f1);exact (ih dv1 dv2 (he j d1 d2 f1 f2) (by simp only [dpt] at hd;omega) (show A.units+1+n<cLine by omega) q1 q2).2
    cases (show x=Value.ref a1 from rx);cases (show y=Value.ref a2 from ry);by_cases hl:ds1.length=ds2.length
    ·obtain ⟨e,he,hb⟩:=YU h hl;refine fin rfl rfl rfl rfl (k:=(List.range i1.toArray.size).all e) ?_ (RcAt.lists p1.isList p2.isList (by rw [size_toArray,size_toArray];omega) (by omega) (el e he));have e1:i1.toArray.size=ds1.length:=by rw [size_toArray];omega
     rw [e1,hb]
    ·obtain ⟨hb,e,he⟩:=YX h hl;refine fin rfl rfl rfl rfl (k:=false) hb (RcAt.lists_lengths p1.isList p2.isList (by rw [size_toArray,size_toArray];simp;omega) (by omega))
   |_=>simp [jS] at h
def qg0 (I:Inv X pins σ H s) {n:Nat} {v u:V} {d e:PyData} {b:Bool} {x y:Value} {A:Around} (hv:DV X.K H v d) (hu:DV X.K H u e) (h:jS d e=some b) (hd:dpt d<=n+1) (hn:A.units+(n+1)<cLine) (rx:jp v x) (ry:jp u y) (hs:dpt d≠0):RcNeAt A s x y (!b):=by
 cases hv with
 |tup hq hs'=>
  cases hu with
  |tup kq ks=>
   rename_i a1 vs1 ds1 a2 vs2 ds2;simp only [jS] at h;obtain ⟨i1,r1,p1,z1⟩:=I.tuple hq;obtain ⟨i2,r2,p2,z2⟩:=I.tuple kq;have l1:=hs'.length;have l2:=ks.length;have m1:=r1.length;have m2:=r2.length;have el:∀ (e:Nat->Bool),(∀ (j:Nat) x y,ds1[j]?=some x->ds2[j]?=some y->jS x y=some (e j))->∀ j (h1:j<i1.toArray.size) (h2:j<i2.toArray.size),EqAt A.in1 s i1.toArray[j] i2.toArray[j] (e j):=λe he j h1 h2=>by
    obtain ⟨w1,g1,q1⟩:=YS r1 h1;obtain ⟨w2,g2,q2⟩:=YS r2 h2;obtain ⟨d1,f1,dv1⟩:=hs'.get g1;obtain ⟨d2,f2,dv2⟩:=ks.get g2;have:=ER (za1 f1);exact (MU I n dv1 dv2 (he j d1 d2 f1 f2) (by simp only [dpt] at hd;omega) (show A.units+1+n<cLine by omega) q1 q2).2
   cases (show x=Value.ref a1 from rx);cases (show y=Value.ref a2 from ry);by_cases hl:ds1.length=ds2.length
   ·obtain ⟨e,he,hb⟩:=YU h hl;have:=RcNeAt.tuples (show s.heap.IsTuple a1 i1.toArray from p1) (show s.heap.IsTuple a2 i2.toArray from p2) (A:=A) (by omega) (el e he);have e1:i1.toArray.size=ds1.length:=by rw [size_toArray];omega
    have e2:i2.toArray.size=ds1.length:=by rw [size_toArray];omega
    rw [e1,e2] at this;rw [hb];simpa using this
   ·obtain ⟨hb,e,he⟩:=YX h hl;have:=RcNeAt.tuples (show s.heap.IsTuple a1 i1.toArray from p1) (show s.heap.IsTuple a2 i2.toArray from p2) (A:=A) (by omega) (el e he);have e1:(i1.toArray.size==i2.toArray.size)=false:=by rw [size_toArray,size_toArray];simp;omega
    rw [e1] at this;rw [hb];simpa using this
  |_=>simp [jS] at h
 |lst hq hs'=>
  cases hu with
  |lst kq ks=>
   rename_i a1 vs1 ds1 a2 vs2 ds2;simp only [jS] at h;obtain ⟨i1,r1,p1,z1⟩:=I.list hq;obtain ⟨i2,r2,p2,z2⟩:=I.list kq;have l1:=hs'.length;have l2:=ks.length;have m1:=r1.length;have m2:=r2.length;have el:∀ (e:Nat->Bool),(∀ (j:Nat) x y,ds1[j]?=some x->ds2[j]?=some y->jS x y=some (e j))->∀ j (h1:j<i1.toArray.size) (h2:j<i2.toArray.size),EqAt A.in1 s i1.toArray[j] i2.toArray[j] (e j):=λe he j h1 h2=>by
    obtain ⟨w1,g1,q1⟩:=YS r1 h1;obtain ⟨w2,g2,q2⟩:=YS r2 h2;obtain ⟨d1,f1,dv1⟩:=hs'.get g1;obtain ⟨d2,f2,dv2⟩:=ks.get g2;have:=ER (za1 f1);exact (MU I n dv1 dv2 (he j d1 d2 f1 f2) (by simp only [dpt] at hd;omega) (show A.units+1+n<cLine by omega) q1 q2).2
   cases (show x=Value.ref a1 from rx);cases (show y=Value.ref a2 from ry);by_cases hl:ds1.length=ds2.length
   ·obtain ⟨e,he,hb⟩:=YU h hl;have:=RcNeAt.lists p1.isList p2.isList (A:=A) (by rw [size_toArray,size_toArray];omega) (by omega) (el e he);have e1:i1.toArray.size=ds1.length:=by rw [size_toArray];omega
    rw [e1] at this;rw [hb];exact this
   ·obtain ⟨hb,e,he⟩:=YX h hl;rw [hb];exact RcNeAt.lists_lengths p1.isList p2.isList (by rw [size_toArray,size_toArray];simp;omega) (by omega)
  |_=>simp [jS] at h
 |_=>simp [dpt] at hs
def qiW (K:Frg) (neg:Bool):R2:=λx y H Q=>∃ d e b,DV K H x d/\DV K H y e/\jS d e=some b/\dpt d<=40/\dpt d≠0/\Q (.bl (if neg then !b else b)) H
def qkp (hu:X.A.units+64<cLine):OpR X (compareOp .Eq) (qiW X.K false):=by
 intro pins s σ H x y v u Q I rx ry h;obtain ⟨d,e,b,hx,hy,hb,hd,_,q⟩:=h;exact (MU I 40 hx hy hb hd (by omega) rx ry).1 X.prog X.w X.xe _ ⟨.bl b,H,I,rfl,q⟩
def qlv (hu:X.A.units+64<cLine):OpR X (compareOp .NotEq) (qiW X.K true):=by
 intro pins s σ H x y v u Q I rx ry h;obtain ⟨d,e,b,hx,hy,hb,hd,hs,q⟩:=h;exact qg0 I (n:=40) hx hy hb (by omega) (by omega) rx ry hs X.prog X.w X.xe _ ⟨.bl (!b),H,I,rfl,q⟩
end
def zt (neg:Bool):R3:=λx y G q=>match zg x y with
 |some k=>q (.bl (if neg then !k else k)) G
 |none=>∃ d e b,Dp G x d/\Dp G y e/\jS d e=some b/\dpt d<=40/\dpt d≠0/\q (.bl (if neg then !b else b)) G
def qJ {K:Frg}:LS K (zt false) (λx y H Q=>rEq x y H Q\/qiW K false x y H Q):=λx y v u G H q Q hr rx ry h af=>by
 unfold zt at h;split at h
 ·rename_i k e;obtain ⟨h1,h2⟩:=N4 rx ry e;refine .inl ⟨h1,?_⟩;rw [h2];exact af _ G h _ H (.bl _) hr Kp.refl
 ·obtain ⟨d,e,b,h1,h2,h3,h4,h5,h6⟩:=h;exact .inr ⟨d,e,b,h1.dv hr rx,h2.dv hr ry,h3,h4,h5,af _ G h6 _ H (.bl _) hr Kp.refl⟩
def SU {K:Frg}:LS K (zt true) (λx y H Q=>rNe x y H Q\/qiW K true x y H Q):=λx y v u G H q Q hr rx ry h af=>by
 unfold zt at h;split at h
 ·rename_i k e;obtain ⟨h1,h2⟩:=N4 rx ry e;refine .inl ⟨h1,?_⟩;rw [h2];exact af _ G h _ H (.bl _) hr Kp.refl
 ·obtain ⟨d,e,b,h1,h2,h3,h4,h5,h6⟩:=h;exact .inr ⟨d,e,b,h1.dv hr rx,h2.dv hr ry,h3,h4,h5,af _ G h6 _ H (.bl _) hr Kp.refl⟩
def zd {X:Cx} (hu:X.A.units+64<cLine):OpR X (compareOp .Eq) (λx y H Q=>rEq x y H Q\/qiW X.K false x y H Q):=qpS.or (qkp hu)
def M0 {X:Cx} (hu:X.A.units+64<cLine):OpR X (compareOp .NotEq) (λx y H Q=>rNe x y H Q\/qiW X.K true x y H Q):=qpM.or (qlv hu)
end L3
namespace L3
open PySem PySem.Spec PyProof.Rows L2
section
variable {X:Cx} {pins:List (Addr×Obj)} {σ:L2.St} {H:Hp} {s:Shared}
mutual
theorem DV.reads (I:Inv X pins σ H s):∀ {v:V} {d:PyData} {x:Value},DV X.K H v d->jp v x->∃ as,Reads s.heap x d as
 |_,_,x,.non,r=>by cases (show x=Value.none from r);exact ⟨_,.none⟩
 |_,_,x,.bl b,r=>by cases (show x=Value.bool b from r);exact ⟨_,.bool b⟩
 |_,_,x,.int i,r=>by obtain ⟨t,rfl⟩:=(show ∃ t,x=Value.int i t from r);exact ⟨_,.int i t⟩
 |_,_,x,.str y,r=>by obtain ⟨t,rfl⟩:=(show ∃ t,x=Value.str y t from r);exact ⟨_,.str y t⟩
 |_,_,x,.tup (a:=a) h hs,r=>by
  cases (show x=Value.ref a from r);obtain ⟨its,rv,⟨o,h1,h2,n,h3⟩,_⟩:=I.tuple h;obtain ⟨as,ra⟩:=DVs.reads I hs rv;exact ⟨as,.tuple h1 h2 h3 (by simpa using ra)⟩
 |_,_,x,.lst (a:=a) h hs,r=>by
  cases (show x=Value.ref a from r);obtain ⟨its,rv,p,_⟩:=I.list h;obtain ⟨o,h1,h2,n,h3⟩:=p.isList;obtain ⟨as,ra⟩:=DVs.reads I hs rv;exact ⟨a::as,.list h1 h2 h3 (by simpa using ra)⟩
theorem DVs.reads (I:Inv X pins σ H s):∀ {v:List V} {d:List PyData} {x:List Value},DVs X.K H v d->zo v x->∃ as,ReadsAll s.heap x d as
 |_,_,_,.nil,.nil=>⟨_,.nil⟩
 |_,_,_,.cons a b,.cons c d=>by
  obtain ⟨as,r1⟩:=DV.reads I a c;obtain ⟨bs,r2⟩:=DVs.reads I b d;exact ⟨_,.cons r1 r2⟩
end
end
section
variable {X:Cx}
def qho:T->List T->Gp->Q3->Prop:=λx xs G q=>match x,xs with
 |.ref l,[]=>(match G l with|some (.lst ys)=>q .non (gu G l (.lst ys.reverse))|_=>False)
 |_,_=>False
theorem qdb {K:Frg} {H:Hp}:∀ {ys:List T} {vs:List V} (h:Rps K H ys vs),Rps K H ys.reverse vs.reverse
 |_,_,.nil=>.nil
 |_,_,.cons r t=>by rw [List.reverse_cons,List.reverse_cons];exact (qdb t).append (.cons r .nil)
def qiw {K:Frg}:qih K qho NY:=λx xs v vs G H q Q hr rx rs h af=>by
 unfold qho at h;split at h
 ·rename_i l;split at h
  ·rename_i ys e1;cases rx;cases rs;obtain ⟨vs,g1,r1⟩:=hr.lst e1;exact ⟨l,vs,rfl,rfl,g1,af _ _ h _ _ .non (hr.wr e1 (qdb r1)) (Kp.wr e1)⟩
  ·exact h.elim
 ·exact h.elim
def qi1 (r:T->List T->Gp->Q3->Prop) (to:TE3):TE3:=λτ G q=>to τ G λx G1=>(match x with|.ref p=>(getL G1 p).isSome=true|_=>False)/\r x [] G1 q
def qjS {o:Expr} {to:TE3} {name:Str} {apos cpos:Pos} {id:String} {r3:T->List T->Gp->Q3->Prop} {r:V->List V->Hp->VK->Prop} (slot:Slot "list" name id) (hty:typeOf (.builtin id)=pure (.type "method_descriptor")) (hm:MtR X id r) (hr:qih X.K r3 r) (ho:jE3 X o to)
  (hbase:attributeBase o name X.env (eval o X.env)=eval o X.env:=by rfl) (hline:(apos.endLine==cpos.line)=true:=by rfl) :
  jE3 X (.Call (.Attribute o name apos) [] [] cpos) (qi1 r3 to):=
 ⟨W0 (qlk PySem.F.plainAttrs_list slot hty hm ho.h hbase hline) λ_ _ _ ⟨τ,G,q,rl,h,af⟩=>zG rl h λx G1 h1 v H1 rx hr1 k1 rl1=>by
  obtain ⟨hp,h1⟩:=h1;cases x<;>try exact hp.elim
  case ref p=>
   cases rx;have hp':(getL G1 p).isSome=true:=hp;obtain ⟨ys,e⟩:=Option.isSome_iff_exists.mp hp';obtain ⟨us,hs,r2⟩:=jd hr1 e;exact ⟨.inl ⟨rfl,us,hs⟩,hr _ [] _ [] G1 H1 q _ hr1 (.ref p) .nil h1 (af.back k1)⟩⟩
def qaw {o:Expr} {to:TE3} {apos cpos:Pos} (ho:jE3 X o to) (hbase:attributeBase o "reverse" X.env (eval o X.env)=eval o X.env:=by rfl) (hline:(apos.endLine==cpos.line)=true:=by rfl) :
  jE3 X (.Call (.Attribute o "reverse" apos) [] [] cpos) (qi1 qho to):=qjS PySem.F.slot_list_reverse PySem.F.type_list_reverse qao qiw ho hbase hline
end
section
variable {prog:Program} {w:World} {A:Around} {R:Result->Shared->Prop} {s:Shared}
def SZ (elt t1 i1 t2 i2:Expr) (f1 f2:List Expr) (scope:Scope) (pos:Pos) (it acc:Value) (env:Env) :
  compTurn (.ListComp elt [⟨t1,i1,f1,0⟩,⟨t2,i2,f2,0⟩] scope pos) 0 it acc env=(do
   standAt i1.pos
   match←pyNext it with
   |none=>pure (.done .next)
   |some v=>
    letOwnedTupleGo t1 it v
    assign t1 env v
    let mut ok:=true
    for c in f1 do
     if ok then ok←isTrue c env (eval c env)
    if ok then
     let x←eval i2 env
     standAt i2.pos
     let x←foldedSetIterable i2 env x
     let _←runOwn (.compStart (.ListComp elt [⟨t1,i1,f1,0⟩,⟨t2,i2,f2,0⟩] scope pos) 1 (← holding [x] (pyIter x)) acc env) env
    again (.compLoop (.ListComp elt [⟨t1,i1,f1,0⟩,⟨t2,i2,f2,0⟩] scope pos) 0 it acc env)):=by rfl
def SJ (elt t1 i1 t2 i2:Expr) (f1 f2:List Expr) (scope:Scope) (pos:Pos) (it acc:Value) (env:Env) :
  compTurn (.ListComp elt [⟨t1,i1,f1,0⟩,⟨t2,i2,f2,0⟩] scope pos) 1 it acc env=(do
   standAt i2.pos
   match←pyNext it with
   |none=>pure (.done .next)
   |some v=>
    letOwnedTupleGo t2 it v
    assign t2 env v
    let mut ok:=true
    for c in f2 do
     if ok then ok←isTrue c env (eval c env)
    if ok then
     (do let _←call (.builtin "list.append") [acc,← eval elt env])
    again (.compLoop (.ListComp elt [⟨t1,i1,f1,0⟩,⟨t2,i2,f2,0⟩] scope pos) 1 it acc env)):=by rfl
def YR {elt t1 i1 t2 i2:Expr} {f1 f2:List Expr} {scope:Scope} {pos:Pos} {it acc:Value} {env:Env}
  (h0:codeAny (model prog w) A (.compLoop (.ListComp elt [⟨t1,i1,f1,0⟩,⟨t2,i2,f2,0⟩] scope pos) 1 it acc env) R s)
  (h:wpAny (model prog w) A (pyIter it) (λit' s'=>codeAny (model prog w) A (.compLoop (.ListComp elt [⟨t1,i1,f1,0⟩,⟨t2,i2,f2,0⟩] scope pos) 1 it' acc env) R s')
   (notedBy (model prog w) A env λx s'=>R (.error x) s') s) :
  codeAny (model prog w) A (.compStart (.ListComp elt [⟨t1,i1,f1,0⟩,⟨t2,i2,f2,0⟩] scope pos) 1 it acc env) R s:=by
 refine codeAny_of_tree ?_;show wpAny _ _ ((compStart (.ListComp elt [⟨t1,i1,f1,0⟩,⟨t2,i2,f2,0⟩] scope pos) 1 it acc env).onRaise (λx=>do noteFrame x env;standAt theWindowsPlace)) _ _ s;refine wpAny_notedAt ?_;unfold compStart;show wpAny _ _ (ask >>= _) _ _ s;refine y6 (wpAny_askSetting (wpAny_ite ?_));split
 ·first
   |exact y6 (y8 (y8 (And.intro rfl h0)))
   |exact y8 (And.intro rfl h0)
 ·first
   |exact y6 (wpAny_rule (y6 (wpAny_standAt (y6 (y9 h (λit' s' h'=>y8 (And.intro rfl h')) λ_ _ x=>x)))))
   | (refine y6 (wpAny_rule ?_);show wpAny _ _ (standAt i2.pos >>= _) _ _ s;exact y6 (wpAny_standAt (y6 (y9 h (λit' s' h'=>y8 (And.intro rfl h')) λ_ _ x=>x))))
end
def tIn (wi:TI) (g:TG) (tif:TT) (te:TE) (D:Addr) (N:L2.St->Hp->Prop) (σ:L2.St) (H:Hp):Prop:=wi σ H λJ H1=>
 ∃ W:Nat->Nat->L2.St->Hp->Prop,(∃ n,W 0 n σ H1)/\∀ i n σ H,W i n σ H ->
  (J.stop i H/\N σ H)\/(J.go i H/\∀ x H',J.yld i H x H'->g x σ H' λσ2 H2=>tif σ2 H2 λk H3=>
   if k=true then te σ2 H3 λy H4=>∃ zs,H4 D=some (.lst zs)/\zs.length<sizeLine/\∃ n',n'<n/\W (i+1) n' σ2 (upd H4 D (.lst (zs++[y])))
   else ∃ n',n'<n/\W (i+1) n' σ2 H3)
section
variable {X:Cx}
def qkw {elt t1 i1 t2 i2:Expr} {f1 f2:List Expr} {scope:Scope} {pos:Pos} {wi:TI} {g:TG} {tif:TT} {te:TE} {D:Addr} {N:L2.St->Hp->Prop} (hc:X.calm=true) (hx:∀ v s,¬ X.xe v s) (hi:PI X t2 i2 wi) (hg:PG X t2 g) (hf:PF X f2 tif) (he:PE X elt te)
    (hs:∀ x,foldedSetIterable i2 X.env x=pure x) {pins:List (Addr×Obj)} {s:Shared} {σ:L2.St} {H:Hp} {E:Value->Shared->Prop} {α:Type} {kk:Sem α} {Q:α->Shared->Prop} (I:Inv X pins σ H s) (h:tIn wi g tif te D N σ H) (hk:∀ s' σ' H',Inv X pins σ' H' s'->N σ' H'->wpAny (model X.prog X.w) X.A kk Q E s') :
    wpAny (model X.prog X.w) X.A (do
            let x←eval i2 X.env
            standAt i2.pos
            let x←foldedSetIterable i2 X.env x
            let _←runOwn (.compStart (.ListComp elt [⟨t1,i1,f1,0⟩,⟨t2,i2,f2,0⟩] scope pos) 1 (← holding [x] (pyIter x)) (.ref D) X.env) X.env
            kk) Q E s:=by
  refine y6 (y9 (hi pins s σ H _ I h) (λv s1 h1=>?_) λ_ _ z=>(hx _ _ z).elim);refine y6 (wpAny_standAt (y6 (wpAny_of_eq (hs v) ?_)));refine y6 (wpAny_holding (y9 h1 (λitv s2 h2=>?_) λ_ _ z=>(hx _ _ z).elim));obtain ⟨it,fp,tn,J,H2,rfl,I2,T,st2,f2',W,⟨n0,w0⟩,turn⟩:=h2;have stat:∀ {H':Hp},(∀ b∈fp,H' b=none)->∀ b∈fp,LB X pins H' b:=λhn b hb=>⟨hn b hb,(f2' b hb).2⟩
  refine y6 (wpAny_runOwn ?_);show codeAny (model X.prog X.w) X.A (.compStart (.ListComp elt [⟨t1,i1,f1,0⟩,⟨t2,i2,f2,0⟩] scope pos) 1 (.ref it) (.ref D) X.env) _ s2;have loop:codeAny (model X.prog X.w) X.A (.compLoop (.ListComp elt [⟨t1,i1,f1,0⟩,⟨t2,i2,f2,0⟩] scope pos) 1 (.ref it) (.ref D) X.env) (λr s'=>match r with
      |.ok f=>wpAny (model X.prog X.w) X.A kk Q E s'
      |.error e=>cameBackBy (model X.prog X.w) X.A X.env E e s') s2:=by
    refine codeAny_loop rfl (λn s'=>∃ i σ' H',Inv X pins σ' H' s'/\tn i s'.heap/\(∀ b∈fp,H' b=none)/\W i n σ' H') (λn s' hI=>?_) n0 ⟨0,σ,H2,I2,st2,λb hb=>(f2' b hb).1,w0⟩;show wpAny _ X.A ((compTurn (.ListComp elt [⟨t1,i1,f1,0⟩,⟨t2,i2,f2,0⟩] scope pos) 1 (.ref it) (.ref D) X.env).onRaise (λx=>do noteFrame x X.env;theTreesLotGoes x)) _ _ s';refine wpAny_noted ?_;rw [SJ];refine y6 (wpAny_standAt (y6 ?_));obtain ⟨i,σ5,H5,I5,st5,fr5,w5⟩:=hI;rcases turn i n σ5 H5 w5 with ⟨stop,q⟩|⟨go,step⟩
    · refine thn (T.done X rfl rfl rfl hc i pins s' σ5 H5 _ I5 (stat fr5) st5 stop) λr s6 ⟨hr,I6⟩=>?_;subst hr;exact y8 (hk _ σ5 H5 I6 q)
    · refine thn (T.item X rfl rfl rfl hc i pins s' σ5 H5 _ I5 (stat fr5) st5 go) λr s6 ⟨u,hr,h6⟩=>?_;subst hr;refine y6 (thn h6 λ_ s7 ⟨x,H7,I7,r7,y7,st7,fr7⟩=>?_);have I7':=I7.pinned (stat fr7) (T.obj _ _ st7);have again:∀ {σ8:L2.St} {H8:Hp} {s8:Shared},Inv X (pins++WG fp s7.heap) σ8 H8 s8->(∃ n',n'<n/\W (i+1) n' σ8 H8) ->
          ∃ m',m'<n/\∃ i σ' H',Inv X pins σ' H' s8/\tn i s8.heap/\(∀ b∈fp,H' b=none)/\W i m' σ' H':=λ{σ8 H8 s8} I8 ⟨n',hn,w8⟩=>by
        refine ⟨n',hn,i+1,σ8,H8,I8.unpinned,T.keep _ _ _ st7 λb hb o e=>(I8.pin (b,o) (u9 _ (u9 _ (zK hb e)))).1,λb hb=>?_,w8⟩;obtain ⟨o,e,d⟩:=T.obj _ _ st7 b hb;exact (I8.pin (b,o) (u9 _ (u9 _ (zK hb e)))).2.1
      refine y6 (y9 (hg _ s7 σ5 H7 x u _ I7' r7 (step x H7 y7)) (λ_ s8 ⟨σ8,H8,I8,q8⟩=>?_) λ_ _ z=>(hx _ _ z).elim);refine y6 (y9 (hf _ s8 σ8 H8 _ I8 q8) (λk s9 ⟨H9,I9,q9⟩=>?_) λ_ _ z=>(hx _ _ z).elim);cases k with
      |false=>
        rw [if_neg v6] at q9;exact y8 ⟨rfl,again I9 q9⟩
      |true=>
        rw [if_pos rfl] at q9;refine y6 (y6 (y9 (he _ s9 σ8 H9 _ I9 q9) (λw s10 ⟨y,H10,I10,r10,q10⟩=>?_) λ_ _ z=>(hx _ _ z).elim));obtain ⟨zs,hz,hl,q10⟩:=q10;refine y6 (y9 (EI (X:=X) _ s10 σ8 H10 (.ref D) [y] (.ref D) [w] (λ_ H11=>H11=upd H10 D (.lst (zs++[y]))) I10 rfl (.cons r10 .nil) ⟨D,zs,y,rfl,rfl,hz,hl,rfl⟩) (λ_ s11 ⟨_,H11,I11,_,e11⟩=>?_) λ_ _ z=>(hx _ _ z).elim);subst e11;exact y8 (y8 ⟨rfl,again I11 q10⟩)
  exact YR loop (T.self X.A 0 _ _ _ st2 loop)
def qrU (wi:TI) (g:TG) (tif:TT) (wi2:TI) (g2:TG) (tif2:TT) (te:TE) (m:List (Option Nat)):TE:=λσ H Q=>wi σ H λJ H1=>∀ D,H1 D=none ->
 ∃ W:Nat->Nat->L2.St->Hp->Prop,(∃ n,W 0 n (cap m σ) (upd H1 D (.lst [])))/\∀ i n σ H,W i n σ H ->
  (J.stop i H/\Q (.ref D) H)\/(J.go i H/\∀ x H',J.yld i H x H'->g x σ H' λσ2 H2=>tif σ2 H2 λk H3=>
   if k=true then tIn wi2 g2 tif2 te D (λσ4 H4=>∃ n',n'<n/\W (i+1) n' σ4 H4) σ2 H3
   else ∃ n',n'<n/\W (i+1) n' σ2 H3)
def qnk {elt tg iter t2 i2:Expr} {ifs f2:List Expr} {scope:Scope} {pos:Pos} {N':List Str} {m:List (Option Nat)} {wi:TI} {g:TG} {tif:TT} {wi2:TI} {g2:TG} {tif2:TT} {te:TE} (hc:X.calm=true) (hi:PI X tg iter wi)
  (hg:∀ s H fp,PG (qr X N' scope s H fp) tg g) (hf:∀ s H fp,PF (qr X N' scope s H fp) ifs tif) (hi2:∀ s H fp,PI (qr X N' scope s H fp) t2 i2 wi2) (hg2:∀ s H fp,PG (qr X N' scope s H fp) t2 g2) (hf2:∀ s H fp,PF (qr X N' scope s H fp) f2 tif2) (he:∀ s H fp,PE (qr X N' scope s H fp) elt te)
  (hsc:qaS X.env.scope scope=true) (hcap:UW X.N N' scope m=true) (hs:∀ x,foldedSetIterable iter X.env x=pure x:=by intro _;rfl) (hs2:∀ s H fp x,foldedSetIterable i2 (qr X N' scope s H fp).env x=pure x:=by intro _ _ _ _;rfl) :
  PE X (.ListComp elt [⟨tg,iter,ifs,0⟩,⟨t2,i2,f2,0⟩] scope pos) (qrU wi g tif wi2 g2 tif2 te m):=by
 intro pins s σ H Q I h;have sc:=DR hsc;have hcl:∀ y∈scope.names,y.2=.free->∃ c,X.env.cells.lookup y.1=some c:=λy hy e=>by
  rcases (sc.free y hy e).2 with z|z
  ·exact I.ok.has y.1 (.inl z)
  ·exact I.ok.has y.1 (.inr z)
 rw [eval_ListComp];refine wpAny_comprehension_free (use:=none) (g:=⟨tg,iter,ifs,0⟩) (gs:=[⟨t2,i2,f2,0⟩]) rfl hs (YD hcl) sc.kind sc.loc ?_;show wpAny _ _ (eval iter X.env) _ _ s;refine thn (hi pins s σ H _ I h) λv s1 h1=>thn h1 λitv s2 h2=>?_;obtain ⟨it,fp,tn,J,H2,rfl,I2,T,st2,fF2,hW⟩:=h2;refine wpAny_newObj_type ?_;have hD:H2 s2.heap.objs.size=none:=I2.fresh;obtain ⟨W,⟨n0,w0⟩,turn⟩:=hW _ hD;generalize hDe:s2.heap.objs.size=D at *;have I3:Inv X pins σ (upd H2 D (.lst [])) { s2 with heap:=s2.heap.push { cls:=.type "list",dict:=none,data:=.seq ([]:List Value).toArray } }:=by
  subst hDe;exact I2.laid (t':=s2.toks) (λb u e=>v0 _ e) (u7 _) ⟨Nat.zero_le _,[],0,.nil,v4 _ rfl⟩
 have ob2:=T.obj 0 _ st2;have ob3:∀ b∈fp,∃ o,(s2.heap.push { cls:=.type "list",dict:=none,data:=.seq ([]:List Value).toArray }).get? b=some o:=λb hb=>let ⟨o,e,_⟩:=ob2 b hb;⟨o,v0 _ e⟩
 have f3:∀ b∈fp,LB X pins (upd H2 D (.lst [])) b:=λb hb=>by
  obtain ⟨o,e,_⟩:=ob2 b hb;have:b≠D:=by rw [← hDe];exact za3 (v5 e)
  exact ⟨by rw [qE this];exact (fF2 b hb).1,(fF2 b hb).2⟩
 have k23:∀ b o,s2.heap.get? b=some o->(s2.heap.push { cls:=.type "list",dict:=none,data:=.seq ([]:List Value).toArray }).get? b=some o:=λb o e=>v0 _ e;generalize hH3:upd H2 D (.lst [])=H3 at *;generalize hs3:({ s2 with heap:=s2.heap.push { cls:=.type "list",dict:=none,data:=.seq ([]:List Value).toArray } }:Shared)=s3 at *;have ob3:∀ b∈fp,∃ o,s3.heap.get? b=some o:=by rw [← hs3];exact ob3
 have k23:∀ b o,s2.heap.get? b=some o->s3.heap.get? b=some o:=by rw [← hs3];exact k23
 refine QG λh₁ hns hk hown=>?_;have I4:Inv (qr X N' scope s3 H3 fp) [] (cap m σ) H3 { s3 with heap:=h₁ }:=R4 hc I3 sc hcap f3 ob3 hns hk hown;have tn4:tn 0 h₁:=T.keep _ _ _ st2 λb hb o e=>hk b o (k23 b o e);have fr4:∀ b∈fp,H3 b=none:=λb hb=>(f3 b hb).1;have stat:∀ {H':Hp},(∀ b∈fp,H' b=none)->∀ b∈fp,LB (qr X N' scope s3 H3 fp) [] H' b:=λhn b hb=>by
  refine ⟨hn b hb,I4.ok.exf b hb |>.1,I4.ok.exfs b hb,.inl hb,λx c e=>(I4.ok.exf b hb).2 x c e,λp hp=>absurd (show p∈([]:List (Addr×Obj)) from hp) (by simp)⟩
 show codeAny (model X.prog X.w) X.A (.compStart (.ListComp elt [⟨tg,iter,ifs,0⟩,⟨t2,i2,f2,0⟩] scope pos) 0 (.ref it) (.ref D) (qr X N' scope s3 H3 fp).env) (compPost (model X.prog X.w) X.A X.xe none (EP X pins σ Q) (.ref D) s3.heap.objs.size) { s3 with heap:=h₁ };have loop:codeAny (model X.prog X.w) X.A (.compLoop (.ListComp elt [⟨tg,iter,ifs,0⟩,⟨t2,i2,f2,0⟩] scope pos) 0 (.ref it) (.ref D) (qr X N' scope s3 H3 fp).env) (compPost (model X.prog X.w) X.A X.xe none (EP X pins σ Q) (.ref D) s3.heap.objs.size) { s3 with heap:=h₁ }:=by
  refine codeAny_loop rfl (λn s'=>∃ i σ' H',Inv (qr X N' scope s3 H3 fp) [] σ' H' s'/\tn i s'.heap/\(∀ b∈fp,H' b=none)/\W i n σ' H') (λn s' hI=>?_) n0 ⟨0,cap m σ,H3,I4,tn4,fr4,w0⟩;show wpAny _ X.A ((compTurn (.ListComp elt [⟨tg,iter,ifs,0⟩,⟨t2,i2,f2,0⟩] scope pos) 0 (.ref it) (.ref D) (qr X N' scope s3 H3 fp).env).onRaise (λx=>do noteFrame x (qr X N' scope s3 H3 fp).env;theTreesLotGoes x)) _ _ s';refine wpAny_noted ?_;rw [SZ];refine y6 (wpAny_standAt (y6 ?_));obtain ⟨i,σ5,H5,I5,st5,fr5,w5⟩:=hI;rcases turn i n σ5 H5 w5 with ⟨stop,q⟩|⟨go,step⟩
  ·refine thn (T.done (qr X N' scope s3 H3 fp) rfl rfl rfl rfl i [] s' σ5 H5 _ I5 (stat fr5) st5 stop) λr s6 ⟨hr,I6⟩=>?_;subst hr;refine y8 ?_;obtain ⟨mm,hn6,_⟩:=I6.loc;exact ⟨mm,hn6,λh' sb=>⟨.ref D,H5,D9 I3 f3 I6 sb,rfl,q⟩⟩
  ·refine thn (T.item (qr X N' scope s3 H3 fp) rfl rfl rfl rfl i [] s' σ5 H5 _ I5 (stat fr5) st5 go) λr s6 ⟨u,hr,h6⟩=>?_;subst hr;refine y6 (thn h6 λ_ s7 ⟨x,H7,I7,r7,y7,st7,fr7⟩=>?_);have I7':=I7.pinned (stat fr7) (T.obj _ _ st7);have again:∀ {σ8:L2.St} {H8:Hp} {s8:Shared},Inv (qr X N' scope s3 H3 fp) ([]++WG fp s7.heap) σ8 H8 s8->(∃ n',n'<n/\W (i+1) n' σ8 H8) ->
     ∃ m',m'<n/\∃ i σ' H',Inv (qr X N' scope s3 H3 fp) [] σ' H' s8/\tn i s8.heap/\(∀ b∈fp,H' b=none)/\W i m' σ' H':=λ{σ8 H8 s8} I8 ⟨n',hn,w8⟩=>by
    refine ⟨n',hn,i+1,σ8,H8,I8.unpinned,T.keep _ _ _ st7 λb hb o e=>(I8.pin (b,o) (u9 _ (u9 _ (zK hb e)))).1,λb hb=>?_,w8⟩;obtain ⟨o,e,d⟩:=T.obj _ _ st7 b hb;exact (I8.pin (b,o) (u9 _ (u9 _ (zK hb e)))).2.1
   refine y6 (y9 (hg s3 H3 fp _ s7 σ5 H7 x u _ I7' r7 (step x H7 y7)) (λ_ s8 ⟨σ8,H8,I8,q8⟩=>?_) λ_ _ z=>z.elim);refine y6 (y9 (hf s3 H3 fp _ s8 σ8 H8 _ I8 q8) (λk s9 ⟨H9,I9,q9⟩=>?_) λ_ _ z=>z.elim);cases k with
   |false=>
    rw [if_neg v6] at q9;exact y8 ⟨rfl,again I9 q9⟩
   |true=>
    rw [if_pos rfl] at q9;refine qkw (X:=qr X N' scope s3 H3 fp) rfl (λ_ _ z=>z) (hi2 s3 H3 fp) (hg2 s3 H3 fp) (hf2 s3 H3 fp) (he s3 H3 fp) (hs2 s3 H3 fp) I9 q9 λs10 σ10 H10 I10 q10=>?_;exact y8 ⟨rfl,again I10 q10⟩
 exact codeAny_compStart_list loop (T.self X.A 0 _ _ _ tn4 loop)
end
def qiX (D:Addr) (stay:Gp->Prop) (g:TG3) (tif:TT3) (te:TE3) (N:St3->Gp->Prop):List T->St3->Gp->Prop
 |[],τ,G=>stay G/\N τ G
 |x::r,τ,G=>stay G/\g x τ G λτ2 G2=>tif τ2 G2 λk G3=>
  if k=true then te τ2 G3 λy G4=>(match G4 D with|some (.lst ys)=>ys.length<sizeLine/\qiX D stay g tif te N r τ2 (gu G4 D (.lst (ys++[y])))|_=>False) else qiX D stay g tif te N r τ2 G3
def qbZ (D:Addr) (stay:Gp->Prop) (g:TG3) (tif:TT3) (wi2:TI3) (g2:TG3) (tif2:TT3) (te:TE3) (q:Q3):List T->St3->Gp->Prop
 |[],_,G=>stay G/\q (.ref D) G
 |x::r,τ,G=>stay G/\g x τ G λτ2 G2=>tif τ2 G2 λk G3=>
  if k=true then wi2 τ2 G3 λitems2 stay2 G4=>qiX D stay2 g2 tif2 te (λτ' G'=>qbZ D stay g tif wi2 g2 tif2 te q r τ' G') items2 τ2 G4 else qbZ D stay g tif wi2 g2 tif2 te q r τ2 G3
def qi0 (wi:TI3) (g:TG3) (tif:TT3) (wi2:TI3) (g2:TG3) (tif2:TT3) (te:TE3) (m:List (Option Nat)):TE3:=λτ G q=>wi τ G λitems stay G1=>∀ D,G1 D=none->qbZ D stay g tif wi2 g2 tif2 te q items (cap m τ) (gu G1 D (.lst []))
section
variable {K:Frg}
def qia {wi2:TI3} {g2:TG3} {tif2:TT3} {te:TE3} {D:Addr} {N3:St3->Gp->Prop} {N:L2.St->Hp->Prop} {τ:St3} {G:Gp} {σ:L2.St} {H:Hp} {Gb:Gp} {Hb:Hp} (rl:Rel K τ G σ H) (kb:Kp Gb Hb G H) (h:wi2 τ G λitems stay G1=>qiX D stay g2 tif2 te N3 items τ G1)
  (hN:∀ τ' G' σ' H',Rel K τ' G' σ' H'->Kp Gb Hb G' H'->N3 τ' G'->N σ' H'):tIn (lI K wi2) (lG K g2) (lT K tif2) (lE K te) D N σ H:=by
 refine ⟨τ,G,_,rl,h,λitems stay G1 h1 J H1 hr1 k1 ok=>?_⟩;refine ⟨λi n σ' H'=>n=items.length-i/\i<=items.length/\∃ τ' G',Rel K τ' G' σ' H'/\Kp G1 H1 G' H'/\qiX D stay g2 tif2 te N3 (items.drop i) τ' G',⟨_,rfl,Nat.zero_le _,τ,G1,rl.next hr1 k1,Kp.refl,by simpa using h1⟩,?_⟩;rintro i n σ' H' ⟨rfl,hi,τ',G',rl',k',h'⟩;by_cases hlt:i<items.length
 ·rw [List.drop_eq_getElem_cons hlt] at h';obtain ⟨hst,h'⟩:=h';obtain ⟨go,yld,_⟩:=ok G' H' rl'.hp k' hst;have hx:items[i]?=some items[i]:=v8 hlt;refine .inr ⟨go i _ hx,λv H2 y=>?_⟩;obtain ⟨rv,hr2,k2⟩:=yld i _ v H2 hx y;refine ⟨_,τ',G',_,rv,rl'.next hr2 k2,h',λτ3 G3 h3 σ3 H3 rl3 k3=>⟨τ3,G3,_,rl3,h3,λk G4 h4 H4 hr4 k4=>?_⟩⟩;have kk:=(k2.trans k3).trans k4;cases k with
  |false=>
   rw [if_neg v6] at h4;refine qnW ?_;exact ⟨_,by omega,rfl,hlt,τ3,G4,rl3.next hr4 k4,k'.trans kk,h4⟩
  |true=>
   rw [if_pos rfl] at h4;refine qnX ?_;refine ⟨τ3,G4,_,rl3.next hr4 k4,h4,λz G5 h5 w H5 rw5 hr5 k5=>?_⟩;split at h5
   ·rename_i ys e1;obtain ⟨vs,g1,r1⟩:=hr5.lst e1;exact ⟨vs,g1,by rw [← r1.length];exact h5.1,_,by omega,rfl,hlt,τ3,_,((rl3.next hr4 k4).next hr5 k5).next (hr5.wr e1 (r1.append (.cons rw5 .nil))) (Kp.wr e1),((k'.trans kk).trans k5).trans (Kp.wr e1),h5.2⟩
   ·exact h5.elim
 ·have e:i=items.length:=by omega
  subst e;rw [List.drop_length] at h';obtain ⟨_,_,stop⟩:=ok G' H' rl'.hp k' h'.1;exact .inl ⟨stop,hN _ _ _ _ rl' ((kb.trans k1).trans k') h'.2⟩
end
section
variable {X:Cx}
def qoF {elt tg iter t2 i2:Expr} {ifs f2:List Expr} {scope:Scope} {pos:Pos} (N':List Str) (m:List (Option Nat)) {wi:TI3} {g:TG3} {tif:TT3} {wi2:TI3} {g2:TG3} {tif2:TT3} {te:TE3} (hc:X.calm=true) (hi:I3 X tg iter wi)
  (hg:∀ s H fp,G3 (qr X N' scope s H fp) tg g) (hf:∀ s H fp,F3 (qr X N' scope s H fp) ifs tif) (hi2:∀ s H fp,I3 (qr X N' scope s H fp) t2 i2 wi2) (hg2:∀ s H fp,G3 (qr X N' scope s H fp) t2 g2) (hf2:∀ s H fp,F3 (qr X N' scope s H fp) f2 tif2) (he:∀ s H fp,E3 (qr X N' scope s H fp) elt te)
  (hsc:qaS X.env.scope scope=true) (hcap:UW X.N N' scope m=true) (hs:∀ x,foldedSetIterable iter X.env x=pure x:=by intro _;rfl) (hs2:∀ s H fp x,foldedSetIterable i2 (qr X N' scope s H fp).env x=pure x:=by intro _ _ _ _;rfl) :
  E3 X (.ListComp elt [⟨tg,iter,ifs,0⟩,⟨t2,i2,f2,0⟩] scope pos) (qi0 wi g tif wi2 g2 tif2 te m):=
 W0 (qnk (g:=lG X.K g) (tif:=lT X.K tif) (wi2:=lI X.K wi2) (g2:=lG X.K g2) (tif2:=lT X.K tif2) (te:=lE X.K te) hc hi hg hf hi2 hg2 hf2 he hsc hcap hs hs2) λσ H Q ⟨τ,G,q,rl,h,af⟩=>by
  refine ⟨τ,G,_,rl,h,λitems stay G1 h1 J H1 hr1 k1 ok D hD=>?_⟩;have gD:G1 D=none:=hr1.free hD;have h1:=h1 D gD;have hr1':HR X.K (gu G1 D (.lst [])) (upd H1 D (.lst [])):=HR.newL hr1 hD .nil;have k1':Kp G1 H1 (gu G1 D (.lst [])) (upd H1 D (.lst [])):=Kp.newL hD;refine ⟨λi n σ' H'=>n=items.length-i/\i<=items.length/\∃ τ' G',Rel X.K τ' G' σ' H'/\Kp G1 H1 G' H'/\qbZ D stay g tif wi2 g2 tif2 te q (items.drop i) τ' G',
   ⟨_,rfl,Nat.zero_le _,cap m τ,_,((rl.next hr1 k1).cap m).next hr1' k1',k1',by simpa using h1⟩,?_⟩
  rintro i n σ' H' ⟨rfl,hi,τ',G',rl',k',h'⟩;by_cases hlt:i<items.length
  ·rw [List.drop_eq_getElem_cons hlt] at h';obtain ⟨hst,h'⟩:=h';obtain ⟨go,yld,_⟩:=ok G' H' rl'.hp k' hst;have hx:items[i]?=some items[i]:=v8 hlt;refine .inr ⟨go i _ hx,λv H2 y=>?_⟩;obtain ⟨rv,hr2,k2⟩:=yld i _ v H2 hx y;refine ⟨_,τ',G',_,rv,rl'.next hr2 k2,h',λτ3 G3 h3 σ3 H3 rl3 k3=>⟨τ3,G3,_,rl3,h3,λk G4 h4 H4 hr4 k4=>?_⟩⟩;have kk:=(k2.trans k3).trans k4;cases k with
   |false=>
    rw [if_neg v6] at h4;refine qnW ?_;exact ⟨_,by omega,rfl,hlt,τ3,G4,rl3.next hr4 k4,k'.trans kk,h4⟩
   |true=>
    rw [if_pos rfl] at h4;refine qnX ?_;exact qia (rl3.next hr4 k4) (k'.trans kk) h4 λτ5 G5 σ5 H5 rl5 k5 h5=>⟨_,by omega,rfl,hlt,τ5,G5,rl5,k5,h5⟩
  ·have e:i=items.length:=by omega
   subst e;rw [List.drop_length] at h';obtain ⟨_,_,stop⟩:=ok G' H' rl'.hp k' h'.1;exact .inl ⟨stop,af _ _ h'.2 _ H' (.ref D) rl'.hp (k1.trans k')⟩
def qbv {elt tg iter t2 i2:Expr} {ifs f2:List Expr} {scope:Scope} {pos:Pos} (N':List Str) (m:List (Option Nat)) {wi:TI3} {g:TG3} {tif:TT3} {wi2:TI3} {g2:TG3} {tif2:TT3} {te:TE3} (hc:X.calm=true) (hi:jI3 X tg iter wi)
  (hg:∀ s H fp,jG3 (qr X N' scope s H fp) tg g) (hf:∀ s H fp,jF3 (qr X N' scope s H fp) ifs tif) (hi2:∀ s H fp,jI3 (qr X N' scope s H fp) t2 i2 wi2) (hg2:∀ s H fp,jG3 (qr X N' scope s H fp) t2 g2) (hf2:∀ s H fp,jF3 (qr X N' scope s H fp) f2 tif2) (he:∀ s H fp,jE3 (qr X N' scope s H fp) elt te)
  (hsc:qaS X.env.scope scope=true) (hcap:UW X.N N' scope m=true) (hs:∀ x,foldedSetIterable iter X.env x=pure x:=by intro _;rfl) (hs2:∀ s H fp x,foldedSetIterable i2 (qr X N' scope s H fp).env x=pure x:=by intro _ _ _ _;rfl) :
  jE3 X (.ListComp elt [⟨tg,iter,ifs,0⟩,⟨t2,i2,f2,0⟩] scope pos) (qi0 wi g tif wi2 g2 tif2 te m):=
 ⟨qoF N' m hc hi.h (λs H fp=>(hg s H fp).h) (λs H fp=>(hf s H fp).h) (λs H fp=>(hi2 s H fp).h) (λs H fp=>(hg2 s H fp).h) (λs H fp=>(hf2 s H fp).h) (λs H fp=>(he s H fp).h) hsc hcap hs hs2⟩
end
section
variable {X:Cx}
theorem C9:∀ {its:List Value} {ns:List Int},zo (ns.map V.int) its->IntsAre its ns
 |_,[],h=>by cases h;exact .nil
 |_,n::ns,h=>by
  cases h with
  |cons r t=>
   obtain ⟨k,rfl⟩:=r;exact .cons n k (C9 t)
end
section
variable {X:Cx} {tg a b c:Expr} {pos:Pos}
end
def C0 (ns:List Int):Nat:=(firstMet (λi=>ns.getD i 0) ns.length).length
section
variable {X:Cx}
def TD (hc:X.calm=true):YK X (.type "set") (λxs H Q=>∃ (p:Addr) (ns:List Int),xs=[.ref p]/\SqL X.K H p (ns.map V.int)/\ns.length<4000/\∀ l S,H l=none->Q (.ref l) (upd H l (.set S (C0 ns)))):=by
 intro pins s σ H xs us Q I r h;obtain ⟨p,ns,rfl,hq,hl,q⟩:=h;obtain ⟨u,rfl,rp⟩:=XM r;cases (show u=Value.ref p from rp);obtain ⟨its,rv,pl,hz⟩:=I.list hq;have hlen:its.length=ns.length:=by have:=rv.length;simp at this;omega
 refine call_set_list (items:=its.toArray) (ns:=ns) (I.ok.hd hc) pl.isList (by simpa using C9 rv) (by rw [size_toArray];unfold scanBound;omega) λh' tk hs kp=>?_;have e:(its.toArray).size=ns.length:=by rw [size_toArray];exact hlen
 rw [e] at hs;exact ⟨.ref s.heap.objs.size,_,I.laid (t':=tk) (o:=.set (λk'=>(firstMet (λi=>ns.getD i 0) ns.length).any (·==k')) (C0 ns)) (λb o hb=>kp b o (v5 hb) hb) (u7 _) hs,rfl,q _ _ (I.hok.fresh (u7 _))⟩
def SA:YK X (.builtin "len") (λxs H Q=>∃ a S n,xs=[.ref a]/\H a=some (.set S n)/\Q (.int n) H):=by
 intro pins s σ H xs us Q I r h;obtain ⟨a,S,n,rfl,ha,q⟩:=h;obtain ⟨u,rfl,rp⟩:=XM r;cases (show u=Value.ref a from rp);obtain ⟨o,es,ep,t,h1,h2,h3,_,_,h6,h7,h8⟩:=(show s.heap.SetOf (intKind X.prog X.w) a S n from I.hok a _ ha)
 refine call_len_set h1 h2 h3 h7 (by unfold scanBound at h6;omega) ⟨.int n,H,I.tok _,⟨_,by rw [h8]⟩,q⟩
def qhG (te:TE3):TE3:=λτ G q=>te τ G λx G1=>match x with
 |.ref p=>(match getL G1 p with|some ys=>(match KZ ys with|some ns=>ns.length<4000/\q (.int (C0 ns)) G1|none=>False)|none=>False)
 |_=>False
def qbG {e:Expr} {te:TE3} {p p2 pos pos2:Pos} (hc:X.calm=true) (hg:Gl X "len") (hm:X.mg "len" = none) (hg2:Gl X "set") (hm2:X.mg "set" = none) (he:jE3 X e te)
  (h1:starEach [e] X.env=(false,eval e X.env)::starEach [] X.env:=by rfl) (h2:starEach [.Call (.Name "set" p2) [e] [] pos2] X.env=(false,eval (.Call (.Name "set" p2) [e] [] pos2) X.env)::starEach [] X.env:=by rfl)
  (h3:(backTo pos (starEach [] X.env)).any (·.1)=false:=by rfl) (h4:(backTo pos2 (starEach [] X.env)).any (·.1)=false:=by rfl):jE3 X (.Call (.Name "len" p) [.Call (.Name "set" p2) [e] [] pos2] [] pos) (qhG te):=
 ⟨W0 (W9 SA hg hm PySem.boot_len (J4 (K1 (TD hc) hg2 hm2 (show bootBuiltins "set" = some (.type "set") by decide +kernel) (J4 he.h RJ h1) (he:=h1) (hpl:=h4)) RJ h2) (he:=h2) (hpl:=h3)) λ_ _ _ ⟨τ,G,q,rl,h,af⟩=>zG rl h λx G1 h1 v H1 rx hr1 k1 rl1=>by
  split at h1
  ·rename_i l;cases rx;split at h1
   ·rename_i ys e0;split at h1
    ·rename_i ns e1;obtain ⟨us,hs,r2⟩:=jd hr1 e0;have:=SW e1;subst this;have:=R8 r2;subst this;exact ⟨l,ns,rfl,hs,h1.1,λa S ha=>⟨a,S,_,rfl,qW,af _ _ h1.2 _ _ (.int _) (HR.laid hr1 ha) (k1.trans (Kp.laid ha))⟩⟩
    ·exact h1.elim
   ·exact h1.elim
  ·exact h1.elim⟩
end
section
variable {X:Cx} {a b:Expr} {ta tb:TE3} {pos:Pos}
def qhe:R3:=λx y G q=>match x,y with
 |.ref a,.int k=>(match G a with|some (.lst xs)=>(-(2 ^ 63)<=k/\k<2 ^ 63)/\xs.length*k.toNat<=sizeLine/\∀ p,G p=none->q (.ref p) (gu G p (.lst (List.replicate k.toNat xs).flatten))|_=>False)
 |_,_=>False
theorem qcD {K:Frg} {H:Hp} {xs:List T} {vs:List V} (r:Rps K H xs vs):∀ k,Rps K H (List.replicate k xs).flatten (List.replicate k vs).flatten
 |0=>.nil
 |k+1=>by
  rw [List.replicate_succ,List.flatten_cons,List.replicate_succ,List.flatten_cons];exact r.append (qcD r k)
def qir {K:Frg}:LS K qhe qqG:=λx y v u G H q Q hr rx ry h af=>by
 cases x<;>try exact h.elim
 case ref a=>
  cases y<;>try exact h.elim
  case int k=>
   unfold qhe at h;simp only at h;split at h
   ·rename_i xs e1;cases rx;cases ry;obtain ⟨vs,g1,r1⟩:=hr.lst e1;exact ⟨a,k,vs,rfl,rfl,g1,h.1.1,h.1.2,by rw [← r1.length];exact h.2.1,λp hp=>af _ _ (h.2.2 p (hr.free hp)) _ _ (.ref p) (hr.newL hp (qcD r1 _)) (Kp.newL hp)⟩
   ·exact h.elim
def qmV (ha:jE3 X a ta) (hb:jE3 X b tb):jE3 X (.BinOp a .Mult b pos) (o3 qhe ta tb):=⟨qdv qkG qir ha.h hb.h⟩
structure ShW (d:PyData):Prop where
 sh:d.showable=true
 nd:d.hasDict=false
 dp:d.depth<=40
 fit:d.shown.length<=sizeLine
def qdg (hg:X.A.guards=some []) (hu:X.A.units+64<cLine):YK X (.type "str") (λxs H Q=>∃ a d,xs=[.ref a]/\DV X.K H (.ref a) d/\ShW d/\Q (.str d.shown) H):=by
 intro pins s σ H xs us Q I r h;obtain ⟨a,d,rfl,dv,ok,q⟩:=h;obtain ⟨u,rfl,rp⟩:=XM r;cases (show u=Value.ref a from rp);obtain ⟨as,rd⟩:=dv.reads I (show jp (.ref a) (.ref a) from rfl);refine str_of_reads rd ok.sh (PyData.noDict_hsm ok.nd) hg (by have:=ok.dp;omega) (λ_ _ e=>e) (λh' u tk hk=>?_) ok.fit;exact ⟨.str _,H,I.kept (h':=h') (t':=tk) hk,⟨_,rfl⟩,q⟩
def shV (st:Bool):V->Hp->(Str->Prop)->Prop:=λv H q=>match v with
 |.non=>q (Str.ofString "None")
 |.bl b=>q (if b=true then Str.ofString "True" else Str.ofString "False")
 |.int i=>i.natAbs.log2<1920/\q (Str.ofString (toString i))
 |.str x=>if st then q x else (reprText x).length<=sizeLine/\q (reprText x)
 |.ref a=>∃ d,DV X.K H (.ref a) d/\ShW d/\q d.shown
 |_=>False
def XO (hg:X.A.guards=some []) (hu:X.A.units+64<cLine):YK X (.type "str") (λxs H Q=>∃ v,xs=[v]/\shV (X:=X) true v H λx=>Q (.str x) H):=by
 intro pins s σ H xs us Q I r h;obtain ⟨v,rfl,h⟩:=h;obtain ⟨u,rfl,rp⟩:=XM r;cases v with
 |non=>cases (show u=Value.none from rp);exact P.str_of_none ⟨.str _,H,I.tok _,⟨_,rfl⟩,h⟩
 |bl b=>cases (show u=Value.bool b from rp);exact P.str_of_bool ⟨.str _,H,I.tok _,⟨_,rfl⟩,h⟩
 |int i=>obtain ⟨t,rfl⟩:=(show ∃ t,u=Value.int i t from rp);exact P.str_of_int h.1 ⟨.str _,H,I.tok _,⟨_,rfl⟩,h.2⟩
 |str x=>obtain ⟨t,rfl⟩:=(show ∃ t,u=Value.str x t from rp);exact P.str_of_str ⟨.str _,H,I,⟨_,rfl⟩,h⟩
 |ref a=>
  obtain ⟨d,dv,ok,q⟩:=h;exact qdg hg hu _ _ _ _ _ _ _ I r ⟨a,d,rfl,dv,ok,q⟩
 |_=>exact h.elim
def shT (st:Bool):T->Gp->(Str->Prop)->Prop:=λx G q=>match x with
 |.non=>q (Str.ofString "None")
 |.bl b=>q (if b=true then Str.ofString "True" else Str.ofString "False")
 |.int i=>i.natAbs.log2<1920/\q (Str.ofString (toString i))
 |.str x=>if st then q x else (reprText x).length<=sizeLine/\q (reprText x)
 |.tup _=>∃ d,Dp G x d/\ShW d/\q d.shown
 |.ref _=>∃ d,Dp G x d/\ShW d/\q d.shown
def MQ (st:Bool):List T->Gp->Q3->Prop:=λxs G q=>match xs with
 |[x]=>shT st x G λy=>q (.str y) G
 |_=>False
def qaf {st:Bool}:qah X.K (MQ st) (λxs H Q=>∃ v,xs=[v]/\shV (X:=X) st v H λx=>Q (.str x) H):=λxs vs G H q Q hr rs h af=>by
 unfold MQ at h;split at h
 ·rename_i x;obtain ⟨v,rfl,r⟩:=LR rs;refine ⟨v,rfl,?_⟩;cases r with
  |non=>exact af _ G h _ H (.str _) hr Kp.refl
  |bl b=>exact af _ G h _ H (.str _) hr Kp.refl
  |int i=>exact ⟨h.1,af _ G h.2 _ H (.str _) hr Kp.refl⟩
  |str x=>
   cases st with
   |true=>exact af _ G h _ H (.str _) hr Kp.refl
   |false=>exact ⟨h.1,af _ G h.2 _ H (.str _) hr Kp.refl⟩
  |tup hs r2=>
   obtain ⟨d,h1,h2,h3⟩:=h;exact ⟨d,h1.dv hr (.tup hs r2),h2,af _ G h3 _ H (.str _) hr Kp.refl⟩
  |ref a=>
   obtain ⟨d,h1,h2,h3⟩:=h;exact ⟨d,h1.dv hr (.ref a),h2,af _ G h3 _ H (.str _) hr Kp.refl⟩
 ·exact h.elim
end
end L3
namespace HT
open PySem PySem.Spec PyProof.Rows
section
variable {prog:Program} {w:World} {A:Around} {E:Value->Shared->Prop} {s:Shared}
end
end HT
namespace L3
open PySem PySem.Spec PyProof.Rows L2
section
variable {X:Cx} {e ek:Expr} {p2 pos:Pos}
end
section
variable {X:Cx} {a b:Expr} {ta tb:TE3} {pos:Pos}
end
abbrev Rd (sp:Sp3) (n:Nat) (t:TS3) (N:List Str):Prop:=∀ ts G q,sp ts G q->ts.length=n/\t { nx:=λ_ G'=>q .non G',rt:=q } (qq N ts) G
def jgn {pos:Pos} {X:Cx} {x:Str} (i:Nat) (hN:decide X.N.Nodup=true:=by kernel_rfl) (hi:X.N[i]?=some x:=by rfl) (hx:Loc X.env.scope x:=by first|exact Or.inl rfl|exact Or.inr rfl) (hf:X.fn x=true\/X.env.scope.names.lookup x=some .local:=by first|exact .inl rfl|exact .inr rfl):jG3 X (.Name x pos) (gn3 i):=
 qt (of_decide_eq_true hN) hi hx hf
end L3
namespace L2
open PySem PySem.Spec PyProof.Rows
section
variable {X:Cx} {pos:Pos}
end
end L2
namespace L3
open PySem PySem.Spec PyProof.Rows L2
section
variable {X:Cx} {pos:Pos}
end
end L3
namespace HT
open PySem PyProof.Rows
section
variable {prog:Program} {w:World} {A:Around} {E:Value->Shared->Prop} {s:Shared}
end
end HT
namespace L3
open PySem PySem.Spec PyProof.Rows L2
section
variable {X:Cx}
end
section
variable {P:Program} {w:World} {A:Around} {s:Shared} {z ti to i1 i2 c1 c2:Addr} {S1 S2:Nat->Heap->Prop} {H1 H2:Array Value->Heap->Prop} {k1 k2:Nat} {xs ys:Array Value} {x y a b f0 f1:Value} {E:Value->Shared->Prop}
end
section
variable {P:Program} {w:World} {A:Around} {s:Shared} {E:Value->Shared->Prop}
end
section
variable {X:Cx} {a b e l:Expr} {es:List Expr} {pos:Pos} {t:TA3}
end
end L3
namespace Tb8
open PySem PySem.SetTable
end Tb8
namespace Tb8
open PySem PyProof.Rows
section
variable {prog:Program} {w:World} {A:Around} {E:Value->Shared->Prop} {s:Shared}
end
end Tb8
namespace Tb8
open PySem PyProof.Rows PySem.SetTable
section
variable {prog:Program} {w:World} {A:Around} {E:Value->Shared->Prop} {s:Shared}
end
end Tb8
namespace Tb8
open PySem PySem.SetTable
end Tb8
namespace Tb8
open PySem PyProof.Rows PySem.SetTable
section
variable {prog:Program} {w:World} {A:Around} {E:Value->Shared->Prop} {s:Shared}
end
section
variable {prog:Program} {w:World} {A:Around} {R:Result->Shared->Prop} {I:Addr} {fp wr:List Addr} {n:Nat} {P:Nat->Value->Prop} {St:Nat->Heap->Prop}
end
section
variable {prog:Program} {w:World} {A:Around} {E:Value->Shared->Prop} {s:Shared}
end
end Tb8
namespace L3
open PySem PySem.Spec PyProof.Rows L2
section
variable {X:Cx}
end
end L3
namespace Tb8
open PySem PyProof.Rows PySem.SetTable
section
variable {prog:Program} {w:World} {A:Around} {E:Value->Shared->Prop} {s:Shared}
end
end Tb8
namespace L3
open PySem PySem.Spec PyProof.Rows L2
section
variable {X:Cx}
end
section
variable {X:Cx} {K:Frg} {w:World} {mg:Str->Option Value}
end
section
variable {X:Cx}
end
open PySem.SeqAt
section
variable {X:Cx} {pins:List (Addr×Obj)} {σ:L2.St} {H:Hp} {s:Shared}
end
end L3
namespace HT
open PySem PySem.Spec PyProof.Rows L2
section
open PySem.SeqAt
open PySem.MeetsSeq PySem.MeetsSeq2 PySem.MeetsSeq3
end
section
variable {prog:Program} {w:World} {A:Around} {E:Value->Shared->Prop} {s:Shared}
end
end HT
namespace L3
open PySem PySem.Spec PyProof.Rows L2
section
variable {X:Cx}
end
end L3
namespace HT
open PySem PyProof.Rows
section
variable {prog:Program} {w:World} {A:Around} {R:Result->Shared->Prop} {I:Addr} {fp wr:List Addr} {n:Nat} {P:Nat->Value->Prop} {St:Nat->Heap->Prop}
end
section
variable {prog:Program} {w:World} {A:Around} {E:Value->Shared->Prop} {s:Shared}
end
end HT
namespace L3
open PySem PySem.Spec PyProof.Rows L2
section
variable {X:Cx}
end
section
variable {X:Cx}
end
section
variable {X:Cx}
end
section
variable {X:Cx} {a b:Expr} {ta tb:TE3} {pos:Pos}
end
end L3
namespace L3
open PySem PySem.Spec PyProof.Rows L2 PySem.SeqAt
section
variable {X:Cx} {a b:Expr} {ta tb:TE3} {pos:Pos}
end
end L3
namespace L3
open PySem PySem.Spec PyProof.Rows L2
section
variable {X:Cx} {a b e:Expr} {ta tb te:TE3} {pos:Pos}
end
section
variable {X:Cx} {a b:Expr} {ta tb:TE3} {pos:Pos}
end
section
variable {X:Cx}
end
def ev {α:Type}:List α->List α
 |[]=>[]
 |[x]=>[x]
 |x::_::r=>x::ev r
section
variable {X:Cx} {e el ek:Expr} {p2 pos:Pos}
end
section
variable {X:Cx} {pos:Pos} {e:Expr} {te:TE3}
end
section
variable {X:Cx} {pos:Pos} {o i e:Expr} {to ti te:TE3}
def qey {pins:List (Addr×Obj)} {s:Shared} {σ:L2.St} {H:Hp} (I:Inv X pins σ H s):3<s.heap.objs.size:=by
 obtain ⟨o,es,ep,e,_⟩:=I.mod.glob.keeps I.bk;exact v5 e
def qes:PE X (.Dict [] [] pos) (λσ H Q=>∀ p,H p=none->Q (.ref p) (upd H p (.dK []))):=by
 intro pins s σ H Q I h;refine wpAny_Dict_empty ?_;have sz:=qey I;refine ⟨.ref s.heap.objs.size,_,I.laid (t':=s.toks) (o:=.dK []) (λb ob q=>v0 _ q) (u7 _) ?_,rfl,h _ (I.hok.fresh (u7 _))⟩;refine ⟨Nat.zero_le _,?_,[],.nil,Heap.DictOf.new _⟩;show decide (s.heap.objs.size=1)=false;exact za7 (λz=>by rw [z] at sz;exact absurd sz (by decide))
def qaL (kvs:List (Key×V)) (k:Int):Option V:=(kvs.find? λp=>decide (p.1=.inl k)).map (·.2)
def XY (kvs:List (Key×V)) (k:Int) (v:V):List (Key×V):=
 if kvs.any (λp=>decide (p.1=.inl k)) then kvs.map (λp=>if p.1=.inl k then (p.1,v) else p) else kvs++[(.inl k,v)]
def qhW {kvs:List (Key×V)} {vs:List (Key×Value)} (k:Int) (h:KV kvs vs) {y:V} {u:Value} (r:jp y u):jp ((qaL kvs k).getD y) ((valueAt vs (.inl k)).getD u):=by
 induction h with
 |nil=>exact r
 |@cons a b as bs ab t ih=>
  obtain ⟨e,q⟩:=ab;unfold qaL valueAt at *;rw [List.find?_cons,List.find?_cons,e];cases decide (b.1=Sum.inl k) with
  |true=>exact q
  |false=>exact ih
def qmn {kvs:List (Key×V)} {vs:List (Key×Value)} (k:Int) (h:KV kvs vs):(kvs.any λp=>decide (p.1=.inl k))=vs.any λp=>decide (p.1=.inl k):=by
 induction h with
 |nil=>rfl
 |@cons a b as bs ab t ih=>rw [List.any_cons,List.any_cons,ih,ab.1]
def qkT {kvs:List (Key×V)} {vs:List (Key×Value)} (k:Int) {v:V} {u:Value} (r:jp v u) (h:KV kvs vs):KV (kvs.map (λp=>if p.1=.inl k then (p.1,v) else p)) (vs.map (λp=>if p.1=.inl k then (p.1,u) else p)):=by
 induction h with
 |nil=>exact .nil
 |@cons a b as bs ab t ih=>
  refine .cons ?_ ih;show (if a.1=Sum.inl k then (a.1,v) else a).1=(if b.1=Sum.inl k then (b.1,u) else b).1/\jp (if a.1=Sum.inl k then (a.1,v) else a).2 (if b.1=Sum.inl k then (b.1,u) else b).2;rw [ab.1];by_cases c:b.1=Sum.inl k
  ·rw [if_pos c,if_pos c];exact ⟨rfl,r⟩
  ·rw [if_neg c,if_neg c];exact ab
def qkn {kvs:List (Key×V)} {vs:List (Key×Value)} {k:Key} {v:V} {u:Value} (r:jp v u) (h:KV kvs vs):KV (kvs++[(k,v)]) (vs++[(k,u)]):=by
 induction h with
 |nil=>exact .cons ⟨rfl,r⟩ .nil
 |cons ab t ih=>exact .cons ab ih
def qdG {kvs:List (Key×V)} {vs:List (Key×Value)} (k:Int) {v:V} {u:Value} (r:jp v u) (h:KV kvs vs):KV (XY kvs k v) (stored vs (.inl k) u):=by
 unfold XY stored;rw [qmn k h];cases vs.any λp=>decide (p.1=.inl k) with
 |true=>exact qkT k r h
 |false=>
  exact qkn r h
def qaG (kvs:List (Key×V)) (k:Int) (v:V):(XY kvs k v).length<=kvs.length+1:=by
 unfold XY;cases kvs.any λp=>decide (p.1=.inl k) with
 |true=>rw [if_pos rfl,length_map];exact Nat.le_succ _
 |false=>rw [if_neg (by decide),length_append];exact u7 _
def qdi {k:Int} {t:Tok}:(TN X.prog X.w).is (.inl k) (.int k t)=true:=by
 exact qa3 k t
def qm8:V->List V->Hp->VK->Prop:=λx xs H Q=>∃ p kvs k y,x=.ref p/\xs=[.int k,y]/\H p=some (.dK kvs)/\Q ((qaL kvs k).getD y) H
def qhA:MtM X "dict.get" qm8:=by
 intro pins s σ H x vs v us Q I rx rv h;obtain ⟨p,kvs,k,y,rfl,rfl,hH,q⟩:=h;cases rx;obtain ⟨a,b,rfl,ra,rb⟩:=rv.two;obtain ⟨t,rfl⟩:=ra;obtain ⟨hz,hS,ws,r,m⟩:=I.hok p _ hH;refine call_meetsIn PySem.F.slot_dict_get m.typeIs PySem.F.entry_dict_get (PySem.F.args_dict_get_3 _ _ _) (meets_dict_get_default (TN X.prog X.w) p qdi hS b) ⟨_,m.mapOf,?_⟩;exact ⟨_,H,I.tok _,qhW k r rb,q⟩
def qpG:qn4:=λo i v H Q=>∃ p kvs k,o=.ref p/\i=.int k/\H p=some (.dK kvs)/\kvs.length<sizeLine/\Q (upd H p (.dK (XY kvs k v)))
def qet:qpr X qpG:=by
 intro pins s σ H o i v ov iv u Q I ro ri rv h;obtain ⟨p,kvs,k,rfl,rfl,hH,hl,q⟩:=h;cases ro;obtain ⟨t,rfl⟩:=ri;obtain ⟨hz,hS,ws,r,m⟩:=I.hok p _ hH;have hlen:kvs.length=ws.length:=Paired.length r;refine wpAny_setItem_pairs (hsz:=by omega) qdi m λh' m' sb=>?_;refine ⟨_,I.write (x:=p) (e:=p) (by rw [hH];trivial) (.inl rfl) (λb' u hb hu=>(sb.2 b' hb).trans hu) ?_ ?_,q⟩
 ·obtain ⟨o',_,_,e,_⟩:=m';exact ⟨_,e⟩
 ·exact ⟨za2 (qaG kvs k v) hl,hS,_,qdG k rv r,m'⟩
end
section
variable {K:Frg} {G G':Gp} {H H':Hp}
def ZS (kvs:List (Int×T)):List Key:=kvs.map λp=>(Sum.inl p.1:Key)
def WY (kvs:List (Int×T)):List T:=kvs.map λp=>p.2
def K9:List (Int×T)->Int->Option T
 |[],_=>none
 |p::r,k=>if p.1=k then some p.2 else K9 r k
def qhE (kvs:List (Int×T)) (k:Int):Bool:=kvs.any λp=>decide (p.1=k)
def MX (kvs:List (Int×T)) (k:Int) (x:T):List (Int×T):=kvs.map λp=>if p.1=k then (p.1,x) else p
def WM (kvs:List (Int×T)) (k:Int) (x:T):List (Int×T):=if qhE kvs k then MX kvs k x else kvs++[(k,x)]
def D6 {a b:Int}:((Sum.inl a:Key)=Sum.inl b)↔a=b:=⟨λe=>by cases e;rfl,λe=>by rw [e]⟩
theorem N8 (k:Int) {y:T} {w:V} (ry:Rp K H y w):∀ {kvs:List (Int×T)} {vs:List V},Rps K H (WY kvs) vs->Rp K H ((K9 kvs k).getD y) ((qaL ((ZS kvs).zip vs) k).getD w)
 |[],_,.nil=>ry
 |p::r,v::vs,.cons h t=>by
  have e:qaL ((ZS (p::r)).zip (v::vs)) k=if p.1=k then some v else qaL ((ZS r).zip vs) k:=by
   show ((((Sum.inl p.1:Key),v)::(ZS r).zip vs).find? λq=>decide (q.1=.inl k)).map (·.2)=_;rw [List.find?_cons];by_cases c:p.1=k
   ·rw [if_pos c,za8 (D6.mpr c)];rfl
   ·rw [if_neg c,za7 (λz=>c (D6.mp z))];rfl
  have e2:K9 (p::r) k=if p.1=k then some p.2 else K9 r k:=rfl
  rw [e,e2];by_cases c:p.1=k
  ·rw [if_pos c,if_pos c];exact h
  ·rw [if_neg c,if_neg c];exact N8 k ry t
theorem qdm (k:Int):∀ {kvs:List (Int×T)} {vs:List V},Rps K H (WY kvs) vs->(((ZS kvs).zip vs).any λp=>decide (p.1=.inl k))=qhE kvs k
 |[],_,.nil=>rfl
 |p::r,v::vs,.cons h t=>by
  show (decide ((Sum.inl p.1:Key)=.inl k)||((ZS r).zip vs).any λp=>decide (p.1=.inl k))=(decide (p.1=k)||qhE r k);rw [qdm k t];by_cases c:p.1=k
  ·rw [za8 (D6.mpr c),za8 c]
  ·rw [za7 (λz=>c (D6.mp z)),za7 c]
theorem qbK (k:Int) {x:T} {w:V} (rx:Rp K H x w):∀ {kvs:List (Int×T)} {vs:List V},Rps K H (WY kvs) vs ->
  ∃ us,((ZS kvs).zip vs).map (λp=>if p.1=.inl k then (p.1,w) else p)=(ZS (MX kvs k x)).zip us/\Rps K H (WY (MX kvs k x)) us
 |[],_,.nil=>⟨[],rfl,.nil⟩
 |p::r,v::vs,.cons h t=>by
  obtain ⟨us,e,q⟩:=qbK k rx t;by_cases c:p.1=k
  ·have e1:MX (p::r) k x=(p.1,x)::MX r k x:=by show (if p.1=k then (p.1,x) else p)::MX r k x=_;rw [if_pos c]
   refine ⟨w::us,?_,?_⟩
   ·rw [e1];show (if (Sum.inl p.1:Key)=.inl k then ((Sum.inl p.1:Key),w) else (Sum.inl p.1,v))::((ZS r).zip vs).map _=((Sum.inl p.1:Key),w)::(ZS (MX r k x)).zip us;rw [if_pos (D6.mpr c),e]
   ·rw [e1];exact .cons rx q
  ·have e1:MX (p::r) k x=p::MX r k x:=by show (if p.1=k then (p.1,x) else p)::MX r k x=_;rw [if_neg c]
   refine ⟨v::us,?_,?_⟩
   ·rw [e1];show (if (Sum.inl p.1:Key)=.inl k then ((Sum.inl p.1:Key),w) else (Sum.inl p.1,v))::((ZS r).zip vs).map _=((Sum.inl p.1:Key),v)::(ZS (MX r k x)).zip us;rw [if_neg (λz=>c (D6.mp z)),e]
   ·rw [e1];exact .cons h q
theorem qcg (k:Int) {x:T} {w:V} (rx:Rp K H x w):∀ {kvs:List (Int×T)} {vs:List V},Rps K H (WY kvs) vs ->
  ((ZS kvs).zip vs)++[(.inl k,w)]=(ZS (kvs++[(k,x)])).zip (vs++[w])/\Rps K H (WY (kvs++[(k,x)])) (vs++[w])
 |[],_,.nil=>⟨rfl,.cons rx .nil⟩
 |p::r,v::vs,.cons h t=>by
  obtain ⟨e,q⟩:=qcg k rx t;exact ⟨congrArg (((Sum.inl p.1:Key),v)::·) e,.cons h q⟩
def qb3 (k:Int) {x:T} {w:V} (rx:Rp K H x w) {kvs:List (Int×T)} {vs:List V} (h:Rps K H (WY kvs) vs) :
  ∃ us,XY ((ZS kvs).zip vs) k w=(ZS (WM kvs k x)).zip us/\Rps K H (WY (WM kvs k x)) us:=by
 unfold XY WM;rw [qdm k h];cases qhE kvs k with
 |true=>exact qbK k rx h
 |false=>exact ⟨_,qcg k rx h⟩
theorem HR.dct (hr:HR K G H) {p:Addr} {kvs:List (Int×T)} (g:G p=some (.dct kvs)):∃ vs,H p=some (.dK ((ZS kvs).zip vs))/\Rps K H (WY kvs) vs:=hr p _ g
def HR.newD (hr:HR K G H) {p:Addr} (hp:H p=none):HR K (gu G p (.dct [])) (upd H p (.dK [])):=λa o e=>by
 by_cases ha:a=p
 ·subst ha;rw [qy] at e;cases e;exact ⟨[],qW,.nil⟩
 ·rw [zj ha] at e;exact (hr a o e).keep hr (Kp.laid hp) λu h=>by rw [qE ha];exact h
def HR.wrDc (hr:HR K G H) {p:Addr} {kvs kws:List (Int×T)} {vs:List V} (g:G p=some (.dct kvs)) (r:Rps K H (WY kws) vs):HR K (gu G p (.dct kws)) (upd H p (.dK ((ZS kws).zip vs))):=λa o e=>by
 have k:Kp G H (gu G p (.dct kws)) (upd H p (.dK ((ZS kws).zip vs))):=Kp.wr g;by_cases ha:a=p
 ·subst ha;rw [qy] at e;cases e;exact ⟨vs,qW,r.keep hr k⟩
 ·rw [zj ha] at e;exact (hr a o e).keep hr k λu h=>by rw [qE ha];exact h
def qiF {kvs:List (Int×T)} {vs:List V} (h:Rps K H (WY kvs) vs):((ZS kvs).zip vs).length=kvs.length:=by
 have e:=h.length;unfold WY at e;rw [length_map] at e;rw [List.length_zip];unfold ZS;rw [length_map,← e,Nat.min_self]
end
section
variable {X:Cx} {pos:Pos} {o i e:Expr} {to ti te:TE3}
def qdB:TE3:=λ_ G q=>∀ p,G p=none->q (.ref p) (gu G p (.dct []))
def qhR:E3 X (.Dict [] [] pos) qdB:=
 W0 qes λσ H Q ⟨τ,G,q,rl,h,af⟩=>λp hp=>af _ _ (h p (rl.hp.free hp)) _ _ (.ref p) (rl.hp.newD hp) (Kp.newL hp)
def MT:T->List T->Gp->Q3->Prop:=λx xs G q=>match x,xs with
 |.ref p,[.int k,y]=>(match G p with|some (.dct kvs)=>q ((K9 kvs k).getD y) G|_=>False)
 |_,_=>False
def qeb {K:Frg}:qih K MT qm8:=λx xs v vs G H q Q hr rx rs h af=>by
 unfold MT at h;split at h
 ·rename_i p k y;split at h
  ·rename_i kvs e1;cases rx;cases rs with
   |cons r1 rs=>
    cases rs with
    |cons r2 rs=>
     cases rs;cases r1;obtain ⟨us,g1,r⟩:=hr.dct e1;exact ⟨p,_,k,_,rfl,rfl,g1,af _ _ h _ _ (N8 k r2 r) hr Kp.refl⟩
  ·exact h.elim
 ·exact h.elim
def qkc (r:T->List T->Gp->Q3->Prop) (to:TE3) (t:TA3):TE3:=λτ G q=>to τ G λx G1=>(match x with|.ref p=>(match G1 p with|some (.dct _)=>True|_=>False)|_=>False)/\t τ G1 λxs G2=>r x xs G2 q
variable {es:List Expr} {t:TA3}
def qm3 {apos cpos:Pos} (ho:E3 X o to) (ha:A3 X (e::es) t)
  (hbase:attributeBase o "get" X.env (eval o X.env)=eval o X.env:=by rfl)
  (hfew:((backTo cpos (starEach (e::es) X.env)).all (λx=>!x.1)&&(backToKw cpos (keywordEach [] X.env)).all (λx=>x.1.isSome)
   && decide ((e::es).length+([]:List Keyword).length+(if ([]:List Keyword).isEmpty then 0 else 1)<30))=true:=by rfl)
  (hline:(apos.endLine==cpos.line)=true:=by rfl) (hs:starEach (e::es) X.env=(false,eval e X.env)::starEach es X.env:=by rfl) (hplain:(backTo cpos (starEach es X.env)).any (·.1)=false:=by rfl) :
  E3 X (.Call (.Attribute o "get" apos) (e::es) [] cpos) (qkc MT to t):=
 W0 (qkA PySem.F.plainAttrs_dict PySem.F.slot_dict_get PySem.F.type_dict_get qhA ho ha hbase hfew hline hs hplain) λ_ _ _ ⟨τ,G,q,rl,h,af⟩=>zG rl h λx G1 h1 v H1 rx hr1 k1 rl1=>by
  obtain ⟨hp,h1⟩:=h1;cases x<;>try exact hp.elim
  case ref p=>
   cases rx;have hp':(match G1 p with|some (.dct _)=>True|_=>False):=hp;split at hp'
   ·rename_i kvs e;obtain ⟨us,g1,r⟩:=hr1.dct e;exact ⟨.inr (.inr (.inl ⟨rfl,.inl ⟨_,g1⟩⟩)),YM rl1 h1 λxs G2 h2 vs H2 rs hr2 k2 rl2=>qeb _ xs _ vs G2 H2 q _ hr2 (.ref p) rs h2 (af.back (k1.trans k2))⟩
   ·exact hp'.elim
def qhj:T->T->T->Gp->(Gp->Prop)->Prop:=λo i v G q=>match o,i with
 |.ref p,.int k=>(match G p with|some (.dct kvs)=>kvs.length<sizeLine/\q (gu G p (.dct (WM kvs k v)))|_=>False)
 |_,_=>False
def LI (to ti:TE3):TG3:=λx τ G q=>to τ G λo G1=>ti τ G1 λi G2=>qhj o i x G2 λG3=>q τ G3
def qjL (ho : E3 X o to) (hi : E3 X i ti) (ha : ∀ v,assign (.Subscript o i pos) X.env v = (do
      let ov←holding [v] (eval o X.env)
      let iv←holding [v,ov] (eval i X.env)
      standAt pos
      holding [v,ov,iv] (setItem ov iv v)
      release [v,ov,iv] []):=by intro _;rfl):G3 X (.Subscript o i pos) (LI to ti):=
  qof (qeX ho hi qet ha) λv σ H Q ⟨x,τ,G,q,rx,rl,h,af⟩=>zG rl h λy G1 h1 u H1 ry hr1 k1 rl1=>zG rl1 h1 λz G2 h2 w H2 rz hr2 k2 rl2=>by
    have rx2:=(rx.keep rl.hp k1).keep hr1 k2;have ry2:=ry.keep hr1 k2;unfold qhj at h2;split at h2
    · rename_i p k;split at h2
      · rename_i kvs e;cases ry2;cases rz;obtain ⟨vs,g1,r1⟩:=hr2.dct e;obtain ⟨us,e2,r2⟩:=qb3 k rx2 r1;have kk:Kp G2 H2 (gu G2 p (.dct (WM kvs k x))) (upd H2 p (.dK ((ZS (WM kvs k x)).zip us))):=Kp.wr e;refine ⟨p,_,k,rfl,rfl,g1,by rw [qiF r1];exact h2.1,?_⟩;rw [e2];exact af τ _ h2.2 σ _ (rl2.next (hr2.wrDc e r2) kk) ((k1.trans k2).trans kk)
      · exact h2.elim
    · exact h2.elim
def qev:jE3 X (.Dict [] [] pos) qdB:=⟨qhR⟩
def qiK {apos cpos:Pos} (ho:jE3 X o to) (ha:jA3 X (e::es) t)
  (hbase:attributeBase o "get" X.env (eval o X.env)=eval o X.env:=by rfl)
  (hfew:((backTo cpos (starEach (e::es) X.env)).all (λx=>!x.1)&&(backToKw cpos (keywordEach [] X.env)).all (λx=>x.1.isSome)
   && decide ((e::es).length+([]:List Keyword).length+(if ([]:List Keyword).isEmpty then 0 else 1)<30))=true:=by rfl)
  (hline:(apos.endLine==cpos.line)=true:=by rfl) (hs:starEach (e::es) X.env=(false,eval e X.env)::starEach es X.env:=by rfl) (hplain:(backTo cpos (starEach es X.env)).any (·.1)=false:=by rfl) :
  jE3 X (.Call (.Attribute o "get" apos) (e::es) [] cpos) (qkc MT to t):=
 ⟨qm3 (ho:=ho.h) (ha:=ha.h) (hbase:=hbase) (hfew:=hfew) (hline:=hline) (hs:=hs) (hplain:=hplain)⟩
def qiq (ho : jE3 X o to) (hi : jE3 X i ti) (ha : ∀ v,assign (.Subscript o i pos) X.env v = (do
      let ov←holding [v] (eval o X.env)
      let iv←holding [v,ov] (eval i X.env)
      standAt pos
      holding [v,ov,iv] (setItem ov iv v)
      release [v,ov,iv] []):=by intro _;rfl):jG3 X (.Subscript o i pos) (LI to ti):=
  ⟨qjL (ho:=ho.h) (hi:=hi.h) (ha:=ha)⟩
end
end L3
namespace L3
open PySem PySem.Spec PyProof.Rows L2 PySem.SeqAt
section
variable {prog:Program} {w:World} {A:Around} {E:Value->Shared->Prop} {s:Shared}
end
section
variable {X:Cx}
end
end L3
namespace L2
open PySem PySem.Spec PyProof.Rows
section
variable {X:Cx} {pins:List (Addr×Obj)} {σ:St} {H:Hp} {s:Shared}
end
def VM.there {P:Program} {w:World} {H:Hp} {h:Heap} {a:Addr} {o:HO} (x:VM P w H h a o):∃ u,h.get? a=some u:=by
 cases o with
 |lst xs=>obtain ⟨_,_,_,_,e⟩:=x;exact ⟨_,e⟩
 |tup xs=>obtain ⟨_,_,_,ob,e,_⟩:=x;exact ⟨_,e⟩
 |dK kvs=>obtain ⟨_,_,_,_,o,_,_,e,_⟩:=x;exact ⟨_,e⟩
 |dT kvs=>obtain ⟨_,_,_,_,o,_,_,e,_⟩:=x;exact ⟨_,e⟩
 |set S n=>obtain ⟨o,_,_,_,e,_⟩:=x;exact ⟨_,e⟩
 |ins C dx fs=>obtain ⟨_,_,_,e,_⟩:=x;exact ⟨_,e⟩
 |own y=>obtain ⟨_,e⟩:=x;exact ⟨_,e⟩
 |xd fs=>obtain ⟨_,⟨_,_,_,e,_⟩,_⟩:=x;exact ⟨_,e⟩
 |rng lo hi=>obtain ⟨_,_,_,e⟩:=x;exact ⟨_,e⟩
 |frz ob u=>obtain ⟨e,_⟩:=x;exact ⟨_,e⟩
 |tbl ps=>exact ⟨_,(show h.get? a=some _ from x)⟩
 |met f y=>exact ⟨_,(show h.get? a=some _ from x)⟩
 |ext φ=>obtain ⟨_,⟨_,e⟩,_⟩:=x;exact ⟨_,e⟩
section
variable {P:Program} {w:World} {K:Frg} {mg:Str->Option Value} {base:Heap} {N:List Str} {qual:Str} {scope:Scope} {f:Addr} {cd:Value} {A:Around} {outer:List Env} {s0:Shared} {H0:Hp} {E:XK} {CX:CXT}
 {pins:List (Addr×Obj)} {σ:St} {H:Hp} {s:Shared}
end
section
variable {X:Cx} {x:Str} {C:Addr} {B Bn newId nid initId inN:String} {bm bmN:List Value} {np cpos pos:Pos} {e:Expr} {es:List Expr} {t:TA} {EE:Hp->Prop}
end
end L2
namespace L3
open PySem PySem.Spec PyProof.Rows L2
abbrev X3:=Addr->Gp->Prop
abbrev Spx:=List T->Gp->X3->Prop
section
variable {X:Cx} {x:Str} {C:Addr} {B Bn newId nid initId inN:String} {bm bmN:List Value} {np cpos pos:Pos} {e:Expr} {es:List Expr} {t:TA3} {dx:X3}
end
section
variable {K:Frg} {G G':Gp} {H H':Hp}
def HR.kind (hr:HR K G H) {a:Addr} (n:G a≠none):(∃ vs,H a=some (.lst vs))\/(∃ o vs,H a=some (.frz o (.lst vs)))\/(∃ kvs,H a=some (.dK kvs))\/∃ φ,H a=some (.ext φ):=by
 cases e:G a with
 |none=>exact absurd e n
 |some o=>
  have q:=hr a o e;cases o with
  |lst xs=>obtain ⟨vs,h1,_⟩:=q;exact .inl ⟨vs,h1⟩
  |frz xs=>obtain ⟨vs,⟨o,h1⟩,_⟩:=q;exact .inr (.inl ⟨o,vs,h1⟩)
  |dct kvs=>obtain ⟨vs,h1,_⟩:=q;exact .inr (.inr (.inl ⟨_,h1⟩))
  |tab ks xs=>obtain ⟨vs,h1,_⟩:=q;exact .inr (.inr (.inl ⟨_,h1⟩))
  |exn C=>exact .inr (.inr (.inr ⟨_,q⟩))
end
end L3
namespace L2
open PySem PySem.Spec PyProof.Rows
section
variable {X:Cx} {pins:List (Addr×Obj)} {σ:St} {H H':Hp} {s s':Shared}
end
section
variable {M:Model} {A:Around} {E:Value->Shared->Prop}
variable {nm q nm' q':Str} {C N B N':Addr} {bs bm bs' bm':List Value} {hdct hdct':Bool} {sn sn':List Str} {sub sub':List Value} {ab ab':Bool} {col col':Option Bool} {dd dd':Option Addr} {k0 k1 k2 k3 k5 l0 l1 l2 l3 l5:Option Value} {newId newId':String}
end
open L3 (IsX)
section
variable {X:Cx} {pins:List (Addr×Obj)} {σ:St} {H:Hp} {s:Shared} {ea:Addr} {o:HO}
end
section
variable {X:Cx} {pins:List (Addr×Obj)} {σ σ0:St} {H:Hp} {s:Shared} {E:XK} {e:Value}
end
section
variable {X:Cx} {pins:List (Addr×Obj)} {σ:St} {H:Hp} {s s':Shared} {E:XK} {ev:Value}
end
end L2
namespace L2
open PySem PySem.Spec PyProof.Rows PySem.W PySem.Calls Builtin Builtin.ObjectAttr Builtin.Getset_descriptor
open L3 (IsX)
section
variable {prog:Program} {w:World} {A:Around} {E:Value->Shared->Prop} {K:Frag} {e C:Addr}
end
end L2
namespace L3
open PySem PySem.Spec PyProof.Rows L2
abbrev TX3:=X3->St3->Gp->Prop
section
variable {X:Cx} {k:Nat} {x:Str} {sx:Spx} {p pos:Pos} {e:Expr} {es:List Expr} {ta:TA3} {tx ty:TX3}
end
section
variable {X:Cx} {e ce:Expr} {te:TE3} {p pos:Pos} {D:List (Option Addr×Bool)}
end
section
variable {X:Cx}
def qrJ (ks:List Str):List Key:=ks.map λk=>(Sum.inr k:Key)
theorem HR.tab {K:Frg} {G:Gp} {H:Hp} (hr:HR K G H) {p:Addr} {ks:List Str} {xs:List T} (g:G p=some (.tab ks xs)):∃ vs,H p=some (.dK ((qrJ ks).zip vs))/\Rps K H xs vs:=hr p _ g
end
end L3
namespace L3
open PySem PySem.Spec PyProof.Rows L2 PySem.SeqAt
section
end
section
variable {X:Cx}
end
end L3
namespace L3
open PySem PySem.Spec PyProof.Rows L2
section
variable {X:Cx} {tg a b c:Expr} {pos:Pos}
end
section
variable {X:Cx}
def qqY:V->List V->Hp->VK->Prop:=λx vs H Q=>∃ l xs,∃ k:Nat,∃ y,x=.ref l/\vs=[.int (k:Int)]/\H l=some (.lst xs)/\xs[k]?=some y/\Q y (upd H l (.lst (xs.eraseIdx k)))
theorem RA:∀ {xs:List V} {its:List Value} (k:Nat),zo xs its->zo (xs.eraseIdx k) (its.eraseIdx k)
 |_,_,_,.nil=>by simp;exact .nil
 |_,_,0,.cons a b=>b
 |_,_,k+1,.cons a b=>.cons a (RA k b)
theorem M7:∀ {xs:List V} {its:List Value} {k:Nat} {y:V},zo xs its->xs[k]?=some y->∃ u,its[k]?=some u/\jp y u
 |_,_,_,_,.nil,h=>by simp at h
 |_,_,0,_,.cons a b,h=>by simp at h;subst h;exact ⟨_,rfl,a⟩
 |_,_,k+1,_,.cons a b,h=>by simpa using M7 (k:=k) b (by simpa using h)
def qk4:MtM X "list.pop" qqY:=by
 intro pins s σ H x vs v us Q I rx rv h;obtain ⟨l,xs,k,y,rfl,rfl,hH,hy,q⟩:=h;cases rx;obtain ⟨u,rfl,ru⟩:=rv.one;obtain ⟨t,rfl⟩:=ru;obtain ⟨z,its,n,r,hl,e⟩:=I.lstM hH;obtain ⟨w,hw,rw'⟩:=M7 r hy;have kl:k<its.length:=(zb0 hw).1;have sl:=v7;have hf:Builtin.List.listFitsIndex (k:Int)=true:=by
  show (decide _&&decide _)=true;rw [Bool.and_eq_true,decide_eq_true_eq,decide_eq_true_eq];exact ⟨by omega,by omega⟩
 have hk:seqIndex? (k:Int) its.toArray.size=some k:=by
  rw [size_toArray];unfold seqIndex?;have c1:¬ ((k:Int)<0):=by omega
  simp only [c1,if_false];rw [if_pos (by rw [Bool.and_eq_true,decide_eq_true_eq,decide_eq_true_eq];omega),Int.toNat_natCast]
 have hw':its.toArray[k]?=some w:=by simpa using hw
 have hz':its.toArray.size<=sizeLine:=by rw [size_toArray];omega
 refine call_meets F.slot_list_pop ⟨_,e,rfl⟩ F.entry_list_pop (F.args_list_pop_2 _ _) (@PySem.MeetsSeq.list_pop_at l its.toArray n (k:Int) t k w hf hk hw' hz') ⟨e,?_⟩;refine ⟨y,_,I.lset (its':=its.eraseIdx k) (t':=s.toks) hH e ?_ (RA k r) ?_,rw',q⟩
 ·simp
 ·have:=List.length_eraseIdx_le xs k;omega
def qiS:T->List T->Gp->Q3->Prop:=λx xs G q=>match x,xs with
 |.ref l,[.int k]=>(match G l with|some (.lst ys)=>0<=k/\(match ys[k.toNat]? with|some y=>q y (gu G l (.lst (ys.eraseIdx k.toNat)))|none=>False)|_=>False)
 |_,_=>False
theorem KN {K:Frg} {H:Hp}:∀ {xs:List T} {vs:List V} (k:Nat),Rps K H xs vs->Rps K H (xs.eraseIdx k) (vs.eraseIdx k)
 |_,_,_,.nil=>by simp;exact .nil
 |_,_,0,.cons a b=>b
 |_,_,k+1,.cons a b=>.cons a (KN k b)
theorem qc2 {K:Frg} {H:Hp}:∀ {xs:List T} {vs:List V} {k:Nat} {y:T},Rps K H xs vs->xs[k]?=some y->∃ v,vs[k]?=some v/\Rp K H y v
 |_,_,_,_,.nil,h=>by simp at h
 |_,_,0,_,.cons a b,h=>by simp at h;subst h;exact ⟨_,rfl,a⟩
 |_,_,k+1,_,.cons a b,h=>by simpa using qc2 (k:=k) b (by simpa using h)
def qiB {K:Frg}:qih K qiS qqY:=λx xs v vs G H q Q hr rx rs h af=>by
 unfold qiS at h;split at h
 ·rename_i l k;split at h
  ·rename_i ys e0;obtain ⟨k0,h⟩:=h;split at h
   ·rename_i y e1;cases rx;obtain ⟨u,rfl,r⟩:=LR rs;cases r;obtain ⟨us,g1,r2⟩:=hr l _ e0;obtain ⟨w,e2,ry⟩:=qc2 r2 e1;obtain ⟨m,rfl⟩:=Int.eq_ofNat_of_zero_le k0;rw [Int.toNat_natCast] at e2 h;have k:=Kp.wr (G:=G) (H:=H) (p:=l) (ho:=.lst (us.eraseIdx m)) (o':=.lst (ys.eraseIdx m)) e0;refine ⟨l,us,m,w,rfl,rfl,g1,e2,af _ _ h _ _ (ry.keep hr k) (hr.wr e0 (KN m r2)) k⟩
   ·exact h.elim
  ·exact h.elim
 ·exact h.elim
def qi3 {t:TA3} {e:Expr} {o:Expr} {to:TE3} {apos cpos:Pos} (ho:jE3 X o to) (ha:jA3 X [e] t)
  (hbase:attributeBase o "pop" X.env (eval o X.env)=eval o X.env:=by rfl)
  (hfew:((backTo cpos (starEach [e] X.env)).all (λx=>!x.1)&&(backToKw cpos (keywordEach [] X.env)).all (λx=>x.1.isSome)
   && decide (([e]:List Expr).length+([]:List Keyword).length+(if ([]:List Keyword).isEmpty then 0 else 1)<30))=true:=by rfl)
  (hline:(apos.endLine==cpos.line)=true:=by rfl) (hs:starEach [e] X.env=(false,eval e X.env)::starEach [] X.env:=by rfl) (hplain:(backTo cpos (starEach [] X.env)).any (·.1)=false:=by rfl) :
  jE3 X (.Call (.Attribute o "pop" apos) [e] [] cpos) (bm3 qiS to t):=⟨qpV PySem.F.slot_list_pop PySem.F.type_list_pop qk4 qiB ho.h ha.h hbase hfew hline hs hplain⟩
end
section
variable {prog:Program} {w:World} {A:Around} {E:Value->Shared->Prop} {s:Shared}
end
section
variable {X:Cx}
end
section
variable {prog:Program} {w:World} {A:Around} {E:Value->Shared->Prop} {s:Shared}
end
section
variable {prog:Program} {w:World} {A:Around} {E:Value->Shared->Prop} {s:Shared}
end
section
variable {X:Cx}
end
section
variable {X:Cx}
end
section
variable {prog:Program} {w:World} {A:Around} {E:Value->Shared->Prop} {s:Shared}
end
section
variable {X:Cx} {pos:Pos}
end
open PySem.SeqAt
section
variable {X:Cx} {pins:List (Addr×Obj)} {σ:L2.St} {H:Hp} {s:Shared}
end
end L3
namespace L3
open PySem PySem.Spec PyProof.Rows L2
open Builtin Builtin.Str
section
variable {prog:Program} {w:World} {A:Around} {E:Value->Shared->Prop} {s:Shared}
end
section
variable {X:Cx}
end
end L3
namespace L3
open PySem PySem.Spec PyProof.Rows L2
section
variable {prog:Program} {w:World} {A:Around} {E:Value->Shared->Prop} {s:Shared}
end
section
variable {X:Cx} {pos:Pos}
end
section
variable {X:Cx} {tg l:Expr}
end
end L3
namespace Srt
open PySem PySem.W PySem.Calls PyProof.Rows
section
variable {prog:Program} {w:World} {A:Around} {E:Value->Shared->Prop} {s:Shared}
end
end Srt
namespace L3
open PySem PySem.Spec PyProof.Rows L2
section
variable {X:Cx} {K:Frg} {H:Hp}
end
def DP:Sp3:=λ_ _ _=>False
def EQ {P:Program} {w:World} {K:Frg} {mg:Str->Option Value} {base:Heap} {x qual:Str} {st:Stmt} {f:Addr} {fd:FuncData} {ps:List Str} (F:Fun K x qual st f fd) (bd:CS K fd ps []) (hm:mg x=some (.ref f)):Fn3 P w K mg base 0 x DP:=
 ⟨f,fd,ps,⟨λvs H Q E ⟨_,_,_,_,_,h,_⟩=>h.elim,λA outer s H args us vs Q E _ _ _ _ ⟨_,_,_,_,_,h,_⟩=>h.elim⟩,bd,F.kp,hm⟩
def ixT (xs:List T) (i:Int) (G:Gp) (q:Q3):ix3 (.tup xs) (.int i) G q=(match L2.atI xs i with|some z=>q z G|none=>False):=rfl
def ixR (p:Addr) (i:Int) (G:Gp) (q:Q3):ix3 (.ref p) (.int i) G q=(match getL G p with|some xs=>(match L2.atI xs i with|some z=>q z G|none=>False)|none=>False):=rfl
def jJ {α:Type} {xs:List α} {i:Int} (h0:0<=i) (h1:i<(xs.length:Int)):L2.atI xs i=xs[i.toNat]?:=by
 unfold L2.atI ixN;have e1:i.toNat<xs.length:=by omega
 simp [h0,e1,h1]
def cm {i j:Int} (h1:-1000000<j) (h2:j<1000000):QT i j:=.inr ⟨by omega,by omega⟩
def cm' {i j:Int} (h1:-1000000<i) (h2:i<1000000):QT i j:=.inl ⟨by omega,by omega⟩
def RU {stay:Gp->Prop} {g:TG3} {tif:TT3} {te:TE3} {q:Q3} (items:List T) (Pv:Nat->List T->St3->Gp->Prop) {τ:St3} {G:Gp} (h0:Pv 0 [] τ G) (hst:∀ i ys τ G,i<=items.length->Pv i ys τ G->stay G)
  (hs:∀ i x ys τ G (R:List T->St3->Gp->Prop),items[i]?=some x->Pv i ys τ G->(∀ ys' τ' G',Pv (i+1) ys' τ' G'->R ys' τ' G') ->
   g x τ G λτ2 G2=>tif τ2 G2 λk G3=>if k=true then te τ2 G3 λy G4=>ys.length<sizeLine/\R (ys++[y]) τ2 G4 else R ys τ2 G3)
  (hd:∀ ys τ G,Pv items.length ys τ G->∀ p,G p=none->q (.ref p) (gu G p (.lst ys))):K5 stay g tif te q items [] τ G:=by
 have key:∀ (r:List T) (i:Nat) ys τ G,items.drop i=r->i<=items.length->Pv i ys τ G->K5 stay g tif te q r ys τ G:=by
  intro r;induction r with
  |nil=>
   intro i ys τ G e hi p;have:i=items.length:=by have:=congrArg List.length e;simp at this;omega
   subst this;exact ⟨hst _ ys τ G hi p,hd ys τ G p⟩
  |cons x r ih=>
   intro i ys τ G e hi p;have hl:i<items.length:=by
    apply Classical.byContradiction;intro z;rw [List.drop_eq_nil_of_le (by omega)] at e;cases e
   have e':=List.drop_eq_getElem_cons hl;rw [e] at e';injection e' with e1 e2;exact ⟨hst i ys τ G hi p,hs i x ys τ G _ (by rw [v8 hl,e1]) p λys2 τ2 G2 p2=>ih (i+1) ys2 τ2 G2 e2.symm hl p2⟩
 exact key items 0 [] τ G (by simp) (Nat.zero_le _) h0
def qcM {lo:Int} {n i:Nat} {x:T} (h:(qaB lo n)[i]?=some x):i<n/\x=T.int (lo+(i:Int)):=by
 unfold qaB at h;rw [getElem?_map] at h;cases e:(List.range n)[i]? with
 |none=>rw [e] at h;cases h
 |some k=>
  rw [e] at h;obtain ⟨hi,hk⟩:=zb0 e;simp at hi hk;subst hk;exact ⟨hi,by simpa using h.symm⟩
def qg3 (lo:Int) (n:Nat):(qaB lo n).length=n:=by simp [qaB]
end L3
namespace Bk
open PySem L2 L3
def XF (zd2:Sp3):TS3:=(qx (qF (o3 ix3 (v3 0) (c3 (.int 0))) (gn3 1)) (qx (zD (tb3 (o3 (zt false) (v3 1) (c3 (.str "bits")))) (qP (jo (qf (o3 (iC RP (λi j=>i*2 ^ j.toNat)) (c3 (.int 1)) (o3 ix3 (v3 0) (c3 (.int 1)))) (qf (o3 (iC RP (λi j=>i*2 ^ j.toNat)) (c3 (.int 1)) (o3 ix3 (v3 0) (c3 (.int 2)))) (qf (o3 (iC RP (λi j=>i*2 ^ j.toNat)) (c3 (.int 1)) (cb3 jC (qf (o3 ix3 (v3 0) (c3 (.int 3))) qk))) qk))))) qD) (qx (zD (tb3 (o3 (zt false) (v3 1) (c3 (.str "table")))) (qP (jo (qf (cb3 jC (qf (o3 ix3 (v3 0) (c3 (.int 2))) qk)) (qf (cb3 jC (qf (o3 ix3 (o3 ix3 (v3 0) (c3 (.int 2))) (c3 (.int 0))) qk)) (qf (o3 ix3 (v3 0) (c3 (.int 1))) qk))))) qD) (qx (zD (tb3 (o3 (zt false) (v3 1) (c3 (.str "joined")))) (qx (qF (cb3 zd2 (qf (o3 ix3 (v3 0) (c3 (.int 1))) qk)) (qK 3 (qo (gn3 2) (qo (gn3 3) (qo (gn3 4) qO))))) (qx (qF (cb3 zd2 (qf (o3 ix3 (v3 0) (c3 (.int 2))) qk)) (qK 3 (qo (gn3 5) (qo (gn3 6) (qo (gn3 7) qO))))) (qP (jo (qf (o3 (iC QT (·*·)) (v3 2) (v3 5)) (qf (o3 (iC QT (·*·)) (v3 3) (v3 6)) (qf (o3 (iC QT (·*·)) (v3 4) (v3 7)) qk))))))) qD) (qP (jo (qf (o3 ix3 (v3 0) (c3 (.int 1))) (qf (o3 ix3 (v3 0) (c3 (.int 2))) (qf (o3 ix3 (v3 0) (c3 (.int 3))) qk)))))))))
def US (zd2:Sp3):TS3:=(qx (qF (cb3 zd2 (qf (v3 0) qk)) (qK 3 (qo (gn3 2) (qo (gn3 3) (qo (gn3 4) qO))))) (qP (o3 zB (o3 (iC QT (·*·)) (o3 ix3 (v3 1) (c3 (.int 0))) (v3 3)) (o3 ix3 (v3 1) (c3 (.int 1))))))
def ZE:TS3:=(qx (qF (o3 (iI Builtin.bitAnd) (v3 0) (v3 1)) (gn3 2)) (qx (qF (c3 (.int 0)) (gn3 3)) (qx (RK (tb3 (o3 (iB λi j=>decide (j<i)) (v3 2) (c3 (.int 0)))) (qx (UK 3 (iI (·+·)) (o3 (iI Builtin.bitAnd) (v3 2) (c3 (.int 1)))) (qF (o3 (iC (λ_ j=>0<=j) (λi j=>i/2 ^ j.toNat)) (v3 2) (c3 (.int 1))) (gn3 2)))) (qP (o3 (zt false) (o3 (iI Builtin.bitAnd) (v3 3) (c3 (.int 1))) (c3 (.int 1)))))))
def UR (zd0:Sp3):TS3:=(qP (cb3 qiR (qf (lc3 (EO (qf (v3 0) qk)) (qK 2 (qo (gn3 0) (qo (gn3 1) qO))) (tb3 (cb3 zd0 (qf (v3 2) (qf (v3 1) qk)))) (o3 (iC RP (λi j=>i*2 ^ j.toNat)) (c3 (.int 1)) (v3 0)) [none,none,some 1]) qk)))
def SH:TS3:=(qx (qF (v3 0) (qK 2 (qo (gn3 3) (qo (gn3 4) qO)))) (qP (jo (qf (jo (qf (o3 (iC RY (·/·)) (v3 3) (v3 1)) (qf (o3 (iC RY (·/·)) (v3 4) (v3 2)) qk))) (qf (jo (qf (o3 (iC (λ_ j=>0<j) (·%·)) (v3 3) (v3 1)) (qf (o3 (iC (λ_ j=>0<j) (·%·)) (v3 4) (v3 2)) qk))) qk)))))
def J2 (zd2:Sp3) (zd1:Sp3) (zb6:Sp3):TS3:=(qx (qF (cb3 zd2 (qf (v3 1) qk)) (qK 3 (qo (gn3 3) (qo (gn3 4) (qo (gn3 5) qO))))) (qx (qF (cb3 zd1 (qf (v3 2) (qf (v3 3) (qf (v3 4) qk)))) (qK 2 (qo (gn3 6) (qo (gn3 7) qO)))) (qP (o3 zB (o3 (iC QT (·*·)) (cb3 zb6 (qf (v3 0) (qf (v3 6) qk))) (v3 5)) (cb3 zb6 (qf (v3 1) (qf (v3 7) qk)))))))
def CG (zc9:Sp3) (zb7:Sp3) (zb8:Sp3):TS3:=(qx (qF (o3 ix3 (v3 0) (c3 (.int 0))) (gn3 2)) (qx (zD (tb3 (o3 (zt false) (v3 2) (c3 (.str "skew")))) (qP (o3 (iC (λ_ j=>0<j) (·%·)) (o3 zB (o3 (iC QT (·*·)) (o3 ix3 (v3 0) (c3 (.int 4))) (o3 ix3 (v3 1) (c3 (.int 0)))) (o3 (iC QT (·*·)) (o3 ix3 (v3 0) (c3 (.int 5))) (o3 ix3 (v3 1) (c3 (.int 1))))) (o3 ix3 (v3 0) (c3 (.int 3))))) qD) (qx (zD (tb3 (o3 (zt false) (v3 2) (c3 (.str "rests")))) (qP (o3 (iC (λ_ j=>0<j) (·%·)) (cb3 zc9 (qf (v3 0) (qf (v3 1) qk))) (o3 ix3 (v3 0) (c3 (.int 3))))) qD) (qx (zD (tb3 (o3 (zt false) (v3 2) (c3 (.str "bits")))) (qP (cb3 zb7 (qf (o3 ix3 (v3 0) (c3 (.int 3))) (qf (cb3 zc9 (qf (v3 0) (qf (v3 1) qk))) qk)))) qD) (qx (zD (tb3 (o3 (zt false) (v3 2) (c3 (.str "table")))) (qP (o3 ix3 (o3 ix3 (o3 ix3 (v3 0) (c3 (.int 2))) (o3 ix3 (v3 1) (c3 (.int 0)))) (o3 ix3 (v3 1) (c3 (.int 1))))) qD) (qP (cb3 zb8 (qf (o3 ix3 (v3 0) (c3 (.int 1))) (qf (o3 ix3 (v3 0) (c3 (.int 2))) (qf (v3 1) qk))))))))))
def XI:TS3:=(qx (qF (o3 (iC (λ_ j=>0<j) (·%·)) (o3 (iC QT (·*·)) (o3 zB (o3 zB (o3 (iC (λ_ j=>0<j) (·%·)) (v3 0) (c3 (.int 2147483629))) (o3 (iC QT (·*·)) (o3 (iC QT (·*·)) (v3 1) (v3 1)) (c3 (.int 7919)))) (c3 (.int 11))) (c3 (.int 48271))) (c3 (.int 2147483647))) (gn3 2)) (qP (o3 (iC (λ_ j=>0<j) (·%·)) (o3 (iC QT (·*·)) (v3 2) (v3 2)) (c3 (.int 1999999973)))))
def DI:TS3:=(qx (qF (if3 (tb3 (o3 (iB λi j=>decide (i<j)) (v3 1) (cb3 jC (qf (v3 0) qk)))) (o3 ix3 (v3 0) (v3 1)) (c3 (.int 0))) (gn3 2)) (qx (qF (if3 (tb3 (o3 (iB λi j=>decide (j<=i)) (cb3 UD (qf (v3 2) qk)) (o3 (iC RP (λi j=>i ^ j.toNat)) (c3 (.int 10)) (c3 (.int 18))))) (cb3 UD (qf (v3 2) qk)) (c3 (.int 0))) (gn3 3)) (qP (je (qf (v3 3) (qf (o3 zB (v3 2) (o3 (iC QT (·*·)) (c3 (.int 1000003)) (v3 1))) (qf (c3 (.int 0)) qk)))))))
def EZ (zc2:Sp3):TS3:=(qx (qF (o3 zB (o3 ix3 (v3 0) (c3 (.int 2))) (c3 (.int 1))) (ze (v3 0) (c3 (.int 2)))) (qx (zD (tb3 (o3 (iB λi j=>decide (j<i)) (o3 ix3 (v3 0) (c3 (.int 0))) (c3 (.int 0)))) (qx (qF (o3 (iC (λ_ j=>0<j) (·%·)) (o3 ix3 (v3 0) (c3 (.int 0))) (v3 1)) (gn3 2)) (qx (qF (o3 (iC RY (·/·)) (o3 ix3 (v3 0) (c3 (.int 0))) (v3 1)) (ze (v3 0) (c3 (.int 0)))) (qP (v3 2)))) qD) (qP (o3 (iC (λ_ j=>0<j) (·%·)) (o3 (iC RY (·/·)) (cb3 zc2 (qf (cb3 zc2 (qf (o3 ix3 (v3 0) (c3 (.int 1))) (qf (o3 ix3 (v3 0) (c3 (.int 2))) qk))) (qf (o3 zB (o3 ix3 (v3 0) (c3 (.int 2))) (c3 (.int 64))) qk))) (c3 (.int 64))) (v3 1)))))
def X0:TS3:=(qx (RK (tb3 (o3 (iB λi j=>decide (j<i)) (v3 1) (c3 (.int 0)))) (YQ 0 1 (qf (v3 1) (qf (o3 (iC (λ_ j=>0<j) (·%·)) (v3 0) (v3 1)) qk)))) (qP (v3 0)))
def X7:TS3:=(qx (qF (c3 (.bl false)) (gn3 1)) (qx (WU (jf (qf (c3 (.int 9)) qk)) (gn3 2) (qF (o3 (zt true) (v3 1) (o3 (zt false) (o3 (iC (λ_ j=>0<j) (·%·)) (o3 (iC RY (·/·)) (v3 0) (o3 ix3 (je (qf (c3 (.int 1)) (qf (c3 (.int 2)) (qf (c3 (.int 4)) (qf (c3 (.int 8)) (qf (c3 (.int 16)) (qf (c3 (.int 32)) (qf (c3 (.int 64)) (qf (c3 (.int 128)) (qf (c3 (.int 256)) qk)))))))))) (v3 2))) (c3 (.int 2))) (c3 (.int 1)))) (gn3 1))) (qP (v3 1))))
def DG (zc6:Sp3) (zc3:Sp3) (zc0:Sp3):TS3:=(qx (qF (cb3 zc6 (qf (v3 0) qk)) (qK 3 (qo (gn3 3) (qo (gn3 4) (qo (gn3 5) qO))))) (qx (zD (tb3 (o3 (zt false) (o3 ix3 (v3 0) (c3 (.int 0))) (c3 (.str "skew")))) (qP (o3 (iC (λ_ j=>0<j) (·%·)) (o3 zB (o3 (iC QT (·*·)) (o3 ix3 (v3 0) (c3 (.int 4))) (v3 1)) (o3 (iC QT (·*·)) (o3 ix3 (v3 0) (c3 (.int 5))) (v3 2))) (v3 5))) qD) (qx (zD (tb3 (o3 (zt false) (o3 ix3 (v3 0) (c3 (.int 0))) (c3 (.str "rests")))) (qP (o3 (iC (λ_ j=>0<j) (·%·)) (o3 zB (o3 (iC QT (·*·)) (v3 1) (v3 4)) (v3 2)) (v3 5))) qD) (qx (zD (tb3 (o3 (zt false) (o3 ix3 (v3 0) (c3 (.int 0))) (c3 (.str "bits")))) (qx (qF (lc3 (EO (qf (o3 ix3 (v3 0) (c3 (.int 3))) qk)) (qK 2 (qo (gn3 0) (qo (gn3 1) qO))) (tb3 (cb3 zc3 (qf (o3 (iI Builtin.bitAnd) (o3 zB (o3 (iC QT (·*·)) (v3 3) (v3 4)) (v3 2)) (v3 1)) qk))) (o3 ix3 (je (qf (c3 (.int 1)) (qf (c3 (.int 2)) (qf (c3 (.int 4)) (qf (c3 (.int 8)) (qf (c3 (.int 16)) qk)))))) (v3 0)) [none,none,some 2,some 1,some 4]) (gn3 6)) (qP (cb3 qiR (qf (v3 6) qk)))) qD) (qx (zD (tb3 (o3 (zt false) (o3 ix3 (v3 0) (c3 (.int 0))) (c3 (.str "table")))) (qP (o3 ix3 (o3 ix3 (o3 ix3 (v3 0) (c3 (.int 2))) (v3 1)) (v3 2))) qD) (qx (qF (cb3 zc6 (qf (o3 ix3 (v3 0) (c3 (.int 2))) qk)) (qK 3 (qo (gn3 7) (qo (gn3 8) (qo (gn3 9) qO))))) (qP (o3 zB (o3 (iC QT (·*·)) (cb3 zc0 (qf (o3 ix3 (v3 0) (c3 (.int 1))) (qf (o3 (iC RY (·/·)) (v3 1) (v3 7)) (qf (o3 (iC RY (·/·)) (v3 2) (v3 8)) qk)))) (v3 9)) (cb3 zc0 (qf (o3 ix3 (v3 0) (c3 (.int 2))) (qf (o3 (iC (λ_ j=>0<j) (·%·)) (v3 1) (v3 7)) (qf (o3 (iC (λ_ j=>0<j) (·%·)) (v3 2) (v3 8)) qk))))))))))))
def C1 (zc5:Sp3):TS3:=(qx (zD (tb3 (ZX (λt=>jT t "list" || jT t "tuple") (v3 1))) (qx (zD (or3 (tb3 (o3 (zt true) (ZX (λt=>jT t "list") (v3 0)) (ZX (λt=>jT t "list") (v3 1)))) (tb3 (o3 (zt true) (ZX (λt=>jT t "tuple") (v3 0)) (ZX (λt=>jT t "tuple") (v3 1))))) (qP (c3 (.bl false))) qD) (qP (zL (o3 (zt false) (cb3 jC (qf (v3 0) qk)) (cb3 jC (qf (v3 1) qk))) (cb3 VW (qf (lc3 (qaM (qf (v3 0) (qf (v3 1) qk))) (qK 2 (qo (gn3 0) (qo (gn3 1) qO))) tt3 (cb3 zc5 (qf (v3 0) (qf (v3 1) qk))) [none,none]) qk))))) qD) (qx (zD (or3 (tb3 (o3 (UJ false) (v3 1) (c3 .non))) (tb3 (ZX (λt=>jT t "str" || jT t "bool") (v3 1)))) (qP (zL (o3 (zt false) (v3 0) (v3 1)) (zL (o3 (zt false) (ZX (λt=>jT t "bool") (v3 0)) (ZX (λt=>jT t "bool") (v3 1))) (o3 (zt false) (o3 (UJ false) (v3 0) (c3 .non)) (o3 (UJ false) (v3 1) (c3 .non)))))) qD) (qP (zL (ZX (λt=>jT t "int") (v3 0)) (zL (ju (ZX (λt=>jT t "bool") (v3 0))) (o3 (zt false) (v3 0) (v3 1)))))))
inductive Dl where
 |skew (r c b x y:Int)
 |rests (r c b p:Int)
 |bits (h l:Nat) (ms:List Int)
 |table (b:Int) (cells:List (List Int))
 |joined (d e:Dl)
def qdy (r:List Int):T:=.tup (r.map T.int)
def Dl.t:Dl->T
 |.skew r c b x y=>.tup [.str "skew",.int r,.int c,.int b,.int x,.int y]
 |.rests r c b p=>.tup [.str "rests",.int r,.int c,.int b,.int p]
 |.bits h l ms=>.tup [.str "bits",.int h,.int l,.tup (ms.map T.int)]
 |.table b cells=>.tup [.str "table",.int b,.tup (cells.map qdy)]
 |.joined d e=>.tup [.str "joined",d.t,e.t]
def Dl.R:Dl->Int
 |.skew r _ _ _ _=>r
 |.rests r _ _ _=>r
 |.bits h _ _=>2 ^ h
 |.table _ cells=>cells.length
 |.joined d e=>d.R*e.R
def Dl.C:Dl->Int
 |.skew _ c _ _ _=>c
 |.rests _ c _ _=>c
 |.bits _ l _=>2 ^ l
 |.table _ cells=>((cells[0]?).getD []).length
 |.joined d e=>d.C*e.C
def Dl.B:Dl->Int
 |.skew _ _ b _ _=>b
 |.rests _ _ b _=>b
 |.bits _ _ ms=>2 ^ ms.length
 |.table b _=>b
 |.joined d e=>d.B*e.B
def pop:Nat->Nat->Nat
 |0,_=>0
 |k+1,n=>n%2+pop k (n/2)
def NK (n m:Int):Bool:=pop 64 (Builtin.bitAnd n m).toNat%2==1
def jn (n:Int):Nat->List Int->Int
 |_,[]=>0
 |t,m::ms=>(if NK n m then 2 ^ t else 0)+jn n (t+1) ms
def jG (ms:List Int) (n:Int):Int:=jn n 0 ms
def Dl.bank:Dl->Int->Int->Int
 |.skew _ _ b x y,i,j=>(x*i+y*j)%b
 |.rests _ c b _,i,j=>(i*c+j)%b
 |.bits _ l ms,i,j=>jG ms (i*2 ^ l+j)
 |.table _ cells,i,j=>(((cells[i.toNat]?).getD [])[j.toNat]?).getD 0
 |.joined d e,i,j=>d.bank (i/e.R) (j/e.C)*e.B+e.bank (i%e.R) (j%e.C)
def Dl.Ok:Dl->Prop
 |.skew r c b x y=>1<=r/\r<=60/\1<=c/\c<=60/\1<=b/\b<=1000/\0<=x/\x<=1000/\0<=y/\y<=1000
 |.rests r c b p=>1<=r/\r<=60/\1<=c/\c<=60/\1<=b/\b<=1000/\1<=p/\p<=9999/\Int.gcd b p=1/\r*c<=b*p
 |.bits h l ms=>h<=4/\l<=4/\ms.length<=5/\∀ m∈ms,0<=m/\m<2 ^ (h+l)
 |.table b cells=>1<=b/\b<=1000/\1<=cells.length/\cells.length<=60/\∃ c,1<=c/\c<=60/\∀ row∈cells,row.length=c/\∀ x∈row,0<=x/\x<b
 |.joined d e=>d.Ok/\e.Ok/\d.R*e.R<=4096/\d.C*e.C<=4096/\d.B*e.B<=4096
def Dl.dep:Dl->Nat
 |.joined d e=>max d.dep e.dep+1
 |_=>0
def p2 (n:Nat):((2:Int) ^ n)=((2 ^ n:Nat):Int):=by simp
def CL (n:Nat):(1:Int)<=2 ^ n:=by
 rw [p2];have:=Nat.one_le_two_pow (n:=n);omega
def TJ {n k:Nat} (h:n<=k):(2:Int) ^ n<=2 ^ k:=by
 rw [p2,p2];have:=Nat.pow_le_pow_right (n:=2) (by omega) h;omega
structure Lims (d:Dl):Prop where
 r1:1<=d.R
 r2:d.R<=4096
 c1:1<=d.C
 c2:d.C<=4096
 b1:1<=d.B
 b2:d.B<=4096
def VZ {a b:Int} (h1:1<=a) (h2:1<=b):1<=a*b:=by
 have:=Int.mul_le_mul (a:=1) (b:=1) (c:=a) (d:=b) h1 h2 (by omega) (by omega);omega
theorem Dl.lims:∀ {d:Dl},d.Ok->Lims d
 |.skew r c b x y,⟨h1,h2,h3,h4,h5,h6,_⟩=>⟨h1,by simp [Dl.R];omega,h3,by simp [Dl.C];omega,h5,by simp [Dl.B];omega⟩
 |.rests r c b x,⟨h1,h2,h3,h4,h5,h6,_⟩=>⟨h1,by simp [Dl.R];omega,h3,by simp [Dl.C];omega,h5,by simp [Dl.B];omega⟩
 |.bits h l ms,⟨h1,h2,h3,_⟩=>by
  have e1:=TJ h1;have e2:=TJ h2;have e3:=TJ h3;refine ⟨CL _,?_,CL _,?_,CL _,?_⟩<;>simp [Dl.R,Dl.C,Dl.B]<;>omega
 |.table b cells,⟨h1,h2,h3,h4,c,h5,h6,h7⟩=>by
  have e0:cells[0]?=some cells[0]:=v8 (by omega);have e1:=(h7 cells[0] (za6 _)).1;have e2:(Dl.table b cells).C=c:=by simp [Dl.C,e0,e1]
  exact ⟨by simp [Dl.R];omega,by simp [Dl.R];omega,by rw [e2];omega,by rw [e2];omega,h1,by simp [Dl.B];omega⟩
 |.joined d e,⟨h1,h2,h3,h4,h5⟩=>by
  have a:=Dl.lims h1;have b:=Dl.lims h2;exact ⟨VZ a.r1 b.r1,h3,VZ a.c1 b.c1,h4,VZ a.b1 b.b1,h5⟩
structure Inn (d:Dl) (i j:Int):Prop where
 i1:0<=i
 i2:i<d.R
 j1:0<=j
 j2:j<d.C
def W2 (d:Dl):T:=.tup [.int d.R,.int d.C,.int d.B]
def wdT (i j:Int):T:=.tup [.int i,.int j]
def zl:Nat->Sp3
 |0=>DP
 |n+1=>λts G q=>∃ d:Dl,ts=[d.t]/\d.dep<=n/\d.Ok/\q (W2 d) G
def j6 (n:Nat):Sp3:=λts G q=>∃ (d:Dl) (i j:Int),ts=[d.t,wdT i j]/\d.dep<=n/\d.Ok/\q (.int (i*d.C+j)) G
def YL:Sp3:=λts G q=>∃ (n m:Int),ts=[.int n,.int m]/\0<=n/\0<=m/\m<2 ^ 64/\q (.bl (NK n m)) G
def WF:Sp3:=λts G q=>∃ (ms:List Int) (n:Int),ts=[.tup (ms.map T.int),.int n]/\ms.length<=30/\(∀ m∈ms,0<=m/\m<2 ^ 64)/\0<=n/\∀ G',Ex G G'->q (.int (jG ms n)) G'
def jY:Nat->Sp3
 |0=>DP
 |n+1=>λts G q=>∃ (d:Dl) (i j:Int),ts=[d.t,wdT i j]/\d.dep<=n/\d.Ok/\Inn d i j/\∀ G',Ex G G'->q (.int (d.bank i j)) G'
def K7:Sp3:=λts G q=>∃ (i j r c:Int),ts=[wdT i j,.int r,.int c]/\(0<r/\r<1000000)/\(0<c/\c<1000000)/\q (.tup [wdT (i/r) (j/c),wdT (i%r) (j%c)]) G
def UE (n:Nat):Sp3:=λts G q=>∃ (d e:Dl) (i j:Int),ts=[d.t,e.t,wdT i j]/\(Dl.joined d e).dep<=n/\(Dl.joined d e).Ok/\Inn (.joined d e) i j/\∀ G',Ex G G'->q (.int ((Dl.joined d e).bank i j)) G'
def qat (n:Nat):Sp3:=λts G q=>∃ (d:Dl) (i j:Int),ts=[d.t,wdT i j]/\d.dep<=n/\d.Ok/\Inn d i j/\∀ G',Ex G G'->q (.int (d.bank i j)) G'
abbrev L0 (q:Q3):Ends3:={ nx:=λ_ G'=>q .non G',rt:=q }
def qnU {j:Nat} (h:j<=1000):RP 1 (j:Int):=⟨by omega,by omega,by decide⟩
def D4 {A B:TS3} {d:Ends3} {τ:St3} {G:Gp} (h:∀ nx,nx=B d->A { d with nx:=nx } τ G):qx A B d τ G:=h _ rfl
def zu {s l:Str} {i:Nat} {R S:TS3} {d:Ends3} {τ:St3} {G:Gp} (hτ:τ[i]?=some (some (T.str s))):qx (zD (tb3 (o3 (zt false) (v3 i) (c3 (.str l)))) R qD) S d τ G=(if s=l then R { d with nx:=S d } τ G else S d τ G):=by
 simp only [qx,zD,tb3,o3,v3,hτ,c3,zt,zg,qD];by_cases e:s=l<;>simp [e]
def DB (n:Nat):∀ ts G q,zl (n+1) ts G q->ts.length=1/\XF (zl n) (L0 q) (qq ["dealing","kind","rows","columns","banks","other_rows","other_columns","other_banks"] ts) G:=by
 rintro ts G q ⟨d,rfl,hd,ok,h⟩;refine ⟨rfl,?_⟩;unfold XF;refine D4 λnx q1=>?_;cases d with
 |skew r c b x y=>
  show nx [some (Dl.skew r c b x y).t,some (.str "skew"),none,none,none,none,none,none] G;rw [q1,zu rfl,if_neg (by decide),zu rfl,if_neg (by decide),zu rfl,if_neg (by decide)];simp [Dl.t,qx,qF,gn3,qP,jR,zD,qH,UF,qD,v3,c3,o3,u3,VV,L3.ixT,L3.ixR,zB,iI,iC,iB,zt,zg,UJ,tb3,EU,or3,YN,zL,UG,ju,if3,ch3,cb3,qf,qk,ZX,tyT,jT,jo,je,VO,np3,sp3,qK,qo,qO,ze,YO,YQ,qq,bm3,QI,JW,jC,UD,V2,EX,EW,qV,jb,VW,EV,UK,L2.atI,ixN,JZ,HT.sIx,getL,in3,zp,eqF,gu,v7,x6,x5];exact h
 |rests r c b x=>
  show nx [some (Dl.rests r c b x).t,some (.str "rests"),none,none,none,none,none,none] G;rw [q1,zu rfl,if_neg (by decide),zu rfl,if_neg (by decide),zu rfl,if_neg (by decide)];simp [Dl.t,qx,qF,gn3,qP,jR,zD,qH,UF,qD,v3,c3,o3,u3,VV,L3.ixT,L3.ixR,zB,iI,iC,iB,zt,zg,UJ,tb3,EU,or3,YN,zL,UG,ju,if3,ch3,cb3,qf,qk,ZX,tyT,jT,jo,je,VO,np3,sp3,qK,qo,qO,ze,YO,YQ,qq,bm3,QI,JW,jC,UD,V2,EX,EW,qV,jb,VW,EV,UK,L2.atI,ixN,JZ,HT.sIx,getL,in3,zp,eqF,gu,v7,x6,x5];exact h
 |bits hh l ms=>
  obtain ⟨k1,k2,k3,_⟩:=ok;show nx [some (Dl.bits hh l ms).t,some (.str "bits"),none,none,none,none,none,none] G;rw [q1,zu rfl,if_pos rfl];simp [Dl.t,qx,qF,gn3,qP,jR,zD,qH,UF,qD,v3,c3,o3,u3,VV,L3.ixT,L3.ixR,zB,iI,iC,iB,zt,zg,UJ,tb3,EU,or3,YN,zL,UG,ju,if3,ch3,cb3,qf,qk,ZX,tyT,jT,jo,je,VO,np3,sp3,qK,qo,qO,ze,YO,YQ,qq,bm3,QI,JW,jC,UD,V2,EX,EW,qV,jb,VW,EV,UK,L2.atI,ixN,JZ,HT.sIx,getL,in3,zp,eqF,gu,v7,x6,x5];exact ⟨qnU (by omega),qnU (by omega),qnU (by omega),h⟩
 |table b cells=>
  have L:=Dl.lims ok;obtain ⟨k1,k2,k3,k4,c,k5,k6,k7⟩:=ok;cases cells with
  |nil=>simp at k3
  |cons row cells=>
   show nx [some (Dl.table b (row::cells)).t,some (.str "table"),none,none,none,none,none,none] G;rw [q1,zu rfl,if_neg (by decide),zu rfl,if_pos rfl];simp [Dl.t,qdy,qx,qF,gn3,qP,jR,zD,qH,UF,qD,v3,c3,o3,u3,VV,L3.ixT,L3.ixR,zB,iI,iC,iB,zt,zg,UJ,tb3,EU,or3,YN,zL,UG,ju,if3,ch3,cb3,qf,qk,ZX,tyT,jT,jo,je,VO,np3,sp3,qK,qo,qO,ze,YO,YQ,qq,bm3,QI,JW,jC,UD,V2,EX,EW,qV,jb,VW,EV,UK,L2.atI,ixN,JZ,HT.sIx,getL,in3,zp,eqF,gu,v7,x6,x5];simpa [W2,Dl.R,Dl.C,Dl.B] using h
 |joined d e=>
  have Ld:=Dl.lims ok.1;have Le:=Dl.lims ok.2.1;have:1<=n:=by simp [Dl.dep] at hd;omega
  obtain ⟨m,rfl⟩:∃ m,n=m+1:=⟨n-1,by omega⟩
  show nx [some (Dl.joined d e).t,some (.str "joined"),none,none,none,none,none,none] G;rw [q1,zu rfl,if_neg (by decide),zu rfl,if_neg (by decide),zu rfl,if_pos rfl];simp [Dl.t,qx,qF,gn3,qP,jR,zD,qH,UF,qD,v3,c3,o3,u3,VV,L3.ixT,L3.ixR,zB,iI,iC,iB,zt,zg,UJ,tb3,EU,or3,YN,zL,UG,ju,if3,ch3,cb3,qf,qk,ZX,tyT,jT,jo,je,VO,np3,sp3,qK,qo,qO,ze,YO,YQ,qq,bm3,QI,JW,jC,UD,V2,EX,EW,qV,jb,VW,EV,UK,L2.atI,ixN,JZ,HT.sIx,getL,in3,zp,eqF,gu,v7,x6,x5];refine ⟨d,rfl,by simp [Dl.dep] at hd;omega,ok.1,?_⟩;simp [W2];refine ⟨e,rfl,by simp [Dl.dep] at hd;omega,ok.2.1,?_⟩;have e1:=Le.r1;have e2:=Le.r2;have e3:=Le.c1;have e4:=Le.c2;have e5:=Le.b1;have e6:=Le.b2;simp [W2];exact ⟨cm (by omega) (by omega),cm (by omega) (by omega),cm (by omega) (by omega),h⟩
theorem XC:∀ k,pop k 0=0
 |0=>rfl
 |k+1=>by simp [pop,XC k]
theorem XD:∀ (k n:Nat),n<2 ^ k->pop (k+1) n=pop k n
 |0,n,h=>by simp at h;subst h;simp [pop]
 |k+1,n,h=>by
  rw [pop,XD k (n/2) (by rw [Nat.pow_succ] at h;omega)];rfl
def VJ (n:Nat):∀ ts G q,j6 n ts G q->ts.length=2/\US (zl (n+1)) (L0 q) (qq ["dealing","word","rows","columns","banks"] ts) G:=by
 rintro ts G q ⟨d,i,j,rfl,hd,ok,h⟩;refine ⟨rfl,?_⟩;have L:=Dl.lims ok;simp [US,qx,qF,gn3,qP,jR,zD,qH,UF,qD,v3,c3,o3,u3,VV,L3.ixT,L3.ixR,zB,iI,iC,iB,zt,zg,UJ,tb3,EU,or3,YN,zL,UG,ju,if3,ch3,cb3,qf,qk,ZX,tyT,jT,jo,je,VO,np3,sp3,qK,qo,qO,ze,YO,YQ,qq,bm3,QI,JW,jC,UD,V2,EX,EW,qV,jb,VW,EV,UK,L2.atI,ixN,JZ,HT.sIx,getL,in3,zp,eqF,gu,v7,x6,x5];refine ⟨d,rfl,hd,ok,?_⟩;simp [W2,wdT,qx,qF,gn3,qP,jR,zD,qH,UF,qD,v3,c3,o3,u3,VV,L3.ixT,L3.ixR,zB,iI,iC,iB,zt,zg,UJ,tb3,EU,or3,YN,zL,UG,ju,if3,ch3,cb3,qf,qk,ZX,tyT,jT,jo,je,VO,np3,sp3,qK,qo,qO,ze,YO,YQ,qq,bm3,QI,JW,jC,UD,V2,EX,EW,qV,jb,VW,EV,UK,L2.atI,ixN,JZ,HT.sIx,getL,in3,zp,eqF,gu,v7,x6,x5];exact ⟨cm (by have:=L.c1;omega) (by have:=L.c2;omega),h⟩
def W1:∀ ts G q,YL ts G q->ts.length=2/\ZE (L0 q) (qq ["number","mask","common","many"] ts) G:=by
 rintro ts G q ⟨n,m,rfl,hn,hm,hm2,h⟩;refine ⟨rfl,?_⟩;have hr:=PyProof.Rows.bitAnd_range n hm;simp [ZE,qx,qF,gn3,qP,jR,zD,qH,UF,qD,v3,c3,o3,u3,VV,L3.ixT,L3.ixR,zB,iI,iC,iB,zt,zg,UJ,tb3,EU,or3,YN,zL,UG,ju,if3,ch3,cb3,qf,qk,ZX,tyT,jT,jo,je,VO,np3,sp3,qK,qo,qO,ze,YO,YQ,qq,bm3,QI,JW,jC,UD,V2,EX,EW,qV,jb,VW,EV,UK,L2.atI,ixN,JZ,HT.sIx,getL,in3,zp,eqF,gu,v7,x6,x5,RK];refine ⟨λk τ G'=>G'=G/\∃ c y:Nat,τ=[some (.int n),some (.int m),some (.int (c:Int)),some (.int (y:Int))]/\c<2 ^ k/\y+pop k c=pop 64 (Builtin.bitAnd n m).toNat,
  ⟨64,rfl,(Builtin.bitAnd n m).toNat,0,by simp;omega,by omega,by simp⟩,?_⟩
 rintro k τ G' ⟨rfl,c,y,rfl,hc,e⟩;simp [PyProof.Rows.bitAnd_m1];by_cases h0:0<c
 ·have hk:1<=k:=by
   rcases Nat.eq_zero_or_pos k with z|z
   ·subst z;simp at hc;omega
   ·exact z
  obtain ⟨k',rfl⟩:∃ k',k=k'+1:=⟨k-1,by omega⟩
  simp [h0];refine ⟨λτ' G''=>G''=G'/\∃ c y:Nat,τ'=[some (.int n),some (.int m),some (.int (c:Int)),some (.int (y:Int))]/\c<2 ^ k'/\y+pop k' c=pop 64 (Builtin.bitAnd n m).toNat,?_,rfl,c/2,y+c%2,?_,?_,?_⟩
  ·rintro τ' G'' ⟨e1,c',y',e2,e3,e4⟩;exact ⟨k',by omega,e1,c',y',e2,e3,e4⟩
  ·simp
  ·rw [Nat.pow_succ] at hc;omega
  ·rw [pop] at e;omega
 ·have hc0:c=0:=by omega
  subst hc0;simp;rw [XC] at e;have e':(NK n m)=decide ((y:Int)%2=1):=by
   unfold NK;rw [← e,Nat.add_zero];by_cases hy:y%2=1
   ·have:(y:Int)%2=1:=by omega
    simp [hy,this]
   ·have:¬ (y:Int)%2=1:=by omega
    simp [hy,this]
  rw [← e'];exact h
def zq (n:Int):Nat->List Int->List Int
 |_,[]=>[]
 |t,m::ms=>(if NK n m then [2 ^ t] else [])++zq n (t+1) ms
theorem YA (n:Int):∀ (t:Nat) (xs ys:List Int),zq n t (xs++ys)=zq n t xs++zq n (t+xs.length) ys
 |_,[],_=>by simp [zq]
 |t,x::xs,ys=>by simp [zq,YA n (t+1) xs ys,Nat.add_assoc,Nat.add_comm 1]
theorem VX (n:Int):∀ (t:Nat) (ms:List Int),(zq n t ms).sum=jn n t ms
 |_,[]=>rfl
 |t,m::ms=>by
  simp only [zq,jn,List.sum_append,VX n (t+1) ms];split<;>simp
theorem QV (n:Int):∀ (t:Nat) (ms:List Int),(zq n t ms).length<=ms.length
 |_,[]=>by simp [zq]
 |t,m::ms=>by
  have:=QV n (t+1) ms;simp only [zq,length_append,length_cons];split<;>simp<;>omega
theorem VS (n:Int):∀ (t:Nat) (ms:List Int) (x:Int),x∈zq n t ms->∃ k,k<t+ms.length/\x=2 ^ k
 |_,[],_,h=>by simp [zq] at h
 |t,m::ms,x,h=>by
  simp only [zq,List.mem_append] at h;rcases h with h|h
  ·split at h
   ·simp at h;exact ⟨t,by simp,h⟩
   ·simp at h
  ·obtain ⟨k,h1,h2⟩:=VS n (t+1) ms x h;exact ⟨k,by simp;omega,h2⟩
def KP:∀ ts G q,WF ts G q->ts.length=2/\UR YL (L0 q) (qq ["masks","number"] ts) G:=by
 rintro ts G q ⟨ms,n,rfl,hl,hm,hn,h⟩;refine ⟨rfl,?_⟩;simp [UR,lc3,EO,jM,cap,qx,qF,gn3,qP,jR,zD,qH,UF,qD,v3,c3,o3,u3,VV,L3.ixT,L3.ixR,zB,iI,iC,iB,zt,zg,UJ,tb3,EU,or3,YN,zL,UG,ju,if3,ch3,cb3,qf,qk,ZX,tyT,jT,jo,je,VO,np3,sp3,qK,qo,qO,ze,YO,YQ,qq,bm3,QI,JW,jC,UD,V2,EX,EW,qV,jb,VW,EV,UK,L2.atI,ixN,JZ,HT.sIx,getL,in3,zp,eqF,gu,v7,x6,x5];refine RU _ (λi ys τ G'=>G'=G/\ys=(zq n 0 (ms.take i)).map T.int/\∃ x0 x1,τ=[x0,x1,some (.int n)]) ⟨rfl,by simp [zq],none,none,rfl⟩ (λi ys τ G' _ hp=>by simp [jM]) ?_ ?_
 ·rintro i z ys τ G' R hz ⟨rfl,rfl,x0,x1,rfl⟩ hR;obtain ⟨a,ha,rfl⟩:=EK hz;rw [getElem?_map] at ha;cases e:ms[i]? with
  |none=>rw [e] at ha;cases ha
  |some m=>
   rw [e] at ha;have:a=T.int m:=by simpa using ha.symm
   subst this;obtain ⟨hi,hm'⟩:=zb0 e;have mm:m∈ms:=by rw [← hm'];exact za6 hi
   simp [qx,qF,gn3,qP,jR,zD,qH,UF,qD,v3,c3,o3,u3,VV,L3.ixT,L3.ixR,zB,iI,iC,iB,zt,zg,UJ,tb3,EU,or3,YN,zL,UG,ju,if3,ch3,cb3,qf,qk,ZX,tyT,jT,jo,je,VO,np3,sp3,qK,qo,qO,ze,YO,YQ,qq,bm3,QI,JW,jC,UD,V2,EX,EW,qV,jb,VW,EV,UK,L2.atI,ixN,JZ,HT.sIx,getL,in3,zp,eqF,gu,v7,x6,x5];refine ⟨n,m,rfl,hn,(hm m mm).1,(hm m mm).2,?_⟩;have tk:ms.take (i+1)=ms.take i++[m]:=by rw [List.take_succ_eq_append_getElem hi,hm']
   have lt:(ms.take i).length=i:=by rw [List.length_take];omega
   have st:zq n 0 (ms.take (i+1))=zq n 0 (ms.take i)++(if NK n m then [2 ^ i] else []):=by
    rw [tk,YA,lt];simp [zq]
   have cl:=QV n 0 (ms.take i);cases ho:NK n m with
   |true=>
    simp;refine ⟨qnU (by omega),by omega,hR _ _ _ ⟨rfl,?_,_,_,rfl⟩⟩;rw [st,ho];simp
   |false=>
    simp;refine hR _ _ _ ⟨rfl,?_,_,_,rfl⟩;rw [st,ho];simp
 ·rintro ys τ G' ⟨rfl,rfl,x0,x1,rfl⟩ p hp;rw [CD,length_map,List.take_length];simp [qiR,getL,qy,XX];refine ⟨⟨by have:=QV n 0 ms;omega,λx hx=>?_⟩,?_⟩
  ·obtain ⟨k,h1,rfl⟩:=VS n 0 ms x hx;have:=CL k;have:=TJ (n:=k) (k:=30) (by omega);omega
  ·rw [VX];exact h _ (zn hp)
def NF {h l:Nat} {i j:Int} (i1:0<=i) (j1:0<=j):0<=i*2 ^ l+j:=by
 have:=Int.mul_nonneg i1 (show (0:Int)<=2 ^ l by have:=CL l;omega);omega
def D0 (n:Nat):∀ ts G q,jY (n+1) ts G q->ts.length=2/\CG (j6 n) WF (UE n) (L0 q) (qq ["dealing","word","kind"] ts) G:=by
 rintro ts G q ⟨d,i,j,rfl,hd,ok,I,h⟩;refine ⟨rfl,?_⟩;unfold CG;refine D4 λnx q1=>?_;have h:=h;have i1:=I.i1;have i2:=I.i2;have j1:=I.j1;have j2:=I.j2;have L:=Dl.lims ok;have r2:=L.r2;have c2:=L.c2;cases d with
 |skew r c b x y=>
  have k:=ok;obtain ⟨k1,k2,k3,k4,k5,k6,k7,k8,k9,k10⟩:=ok;show nx [some (Dl.skew r c b x y).t,some (wdT i j),some (.str "skew")] G;rw [q1,zu rfl,if_pos rfl];simp [Dl.t,wdT,qx,qF,gn3,qP,jR,zD,qH,UF,qD,v3,c3,o3,u3,VV,L3.ixT,L3.ixR,zB,iI,iC,iB,zt,zg,UJ,tb3,EU,or3,YN,zL,UG,ju,if3,ch3,cb3,qf,qk,ZX,tyT,jT,jo,je,VO,np3,sp3,qK,qo,qO,ze,YO,YQ,qq,bm3,QI,JW,jC,UD,V2,EX,EW,qV,jb,VW,EV,UK,L2.atI,ixN,JZ,HT.sIx,getL,in3,zp,eqF,gu,v7,x6,x5];exact ⟨cm' (by omega) (by omega),cm' (by omega) (by omega),by omega,h _ Ex.refl⟩
 |rests r c b x=>
  have k:=ok;obtain ⟨k1,k2,k3,k4,k5,k6,k7,k8,k9⟩:=ok;show nx [some (Dl.rests r c b x).t,some (wdT i j),some (.str "rests")] G;rw [q1,zu rfl,if_neg (by decide),zu rfl,if_pos rfl];simp [Dl.t,wdT,qx,qF,gn3,qP,jR,zD,qH,UF,qD,v3,c3,o3,u3,VV,L3.ixT,L3.ixR,zB,iI,iC,iB,zt,zg,UJ,tb3,EU,or3,YN,zL,UG,ju,if3,ch3,cb3,qf,qk,ZX,tyT,jT,jo,je,VO,np3,sp3,qK,qo,qO,ze,YO,YQ,qq,bm3,QI,JW,jC,UD,V2,EX,EW,qV,jb,VW,EV,UK,L2.atI,ixN,JZ,HT.sIx,getL,in3,zp,eqF,gu,v7,x6,x5];refine ⟨.rests r c b x,i,j,rfl,hd,k,?_⟩;simp;exact ⟨by omega,h _ Ex.refl⟩
 |bits hh l ms=>
  have k:=ok;obtain ⟨k1,k2,k3,k4⟩:=ok;show nx [some (Dl.bits hh l ms).t,some (wdT i j),some (.str "bits")] G;rw [q1,zu rfl,if_neg (by decide),zu rfl,if_neg (by decide),zu rfl,if_pos rfl];simp [Dl.t,wdT,qx,qF,gn3,qP,jR,zD,qH,UF,qD,v3,c3,o3,u3,VV,L3.ixT,L3.ixR,zB,iI,iC,iB,zt,zg,UJ,tb3,EU,or3,YN,zL,UG,ju,if3,ch3,cb3,qf,qk,ZX,tyT,jT,jo,je,VO,np3,sp3,qK,qo,qO,ze,YO,YQ,qq,bm3,QI,JW,jC,UD,V2,EX,EW,qV,jb,VW,EV,UK,L2.atI,ixN,JZ,HT.sIx,getL,in3,zp,eqF,gu,v7,x6,x5];refine ⟨.bits hh l ms,i,j,rfl,hd,k,?_⟩;refine ⟨ms,_,rfl,by omega,λm hm=>⟨(k4 m hm).1,?_⟩,NF (h:=hh) i1 j1,λG' E=>h G' E⟩;have:=(k4 m hm).2;have:=TJ (n:=hh+l) (k:=10) (by omega);omega
 |table b cells=>
  obtain ⟨k1,k2,k3,k4,c,k5,k6,k7⟩:=ok;have e0:cells[0]?=some cells[0]:=v8 (by omega);have eC:(Dl.table b cells).C=c:=by simp [Dl.C,e0,(k7 cells[0] (za6 _)).1]
  have eR:(Dl.table b cells).R=cells.length:=rfl;rw [eR] at i2;rw [eC] at j2;have hi:i.toNat<cells.length:=by omega
  have hrow:=k7 cells[i.toNat] (za6 hi);have hj:j.toNat<cells[i.toNat].length:=by rw [hrow.1];omega
  show nx [some (Dl.table b cells).t,some (wdT i j),some (.str "table")] G;rw [q1,zu rfl,if_neg (by decide),zu rfl,if_neg (by decide),zu rfl,if_neg (by decide),zu rfl,if_pos rfl];simp [Dl.t,wdT,qx,qF,gn3,qP,jR,zD,qH,UF,qD,v3,c3,o3,u3,VV,L3.ixT,L3.ixR,zB,iI,iC,iB,zt,zg,UJ,tb3,EU,or3,YN,zL,UG,ju,if3,ch3,cb3,qf,qk,ZX,tyT,jT,jo,je,VO,np3,sp3,qK,qo,qO,ze,YO,YQ,qq,bm3,QI,JW,jC,UD,V2,EX,EW,qV,jb,VW,EV,UK,JZ,HT.sIx,getL,in3,zp,eqF,gu,v7,x6,x5,jJ (xs:=[T.str (Str.ofString "table"),.int b,.tup (cells.map qdy)]) (i:=2) (by omega) (by simp),jJ (xs:=[T.str (Str.ofString "table"),.int b,.tup (cells.map qdy)]) (i:=0) (by omega) (by simp),jJ (xs:=[T.int i,.int j]) (i:=0) (by omega) (by simp),jJ (xs:=[T.int i,.int j]) (i:=1) (by omega) (by simp)];rw [jJ i1 (by simpa using i2)];simp [hi,qdy,L3.ixT];rw [jJ j1 (by simp;omega)];simp [hj];have:=h G Ex.refl;simpa [Dl.bank,hi,hj] using this
 |joined d e=>
  show nx [some (Dl.joined d e).t,some (wdT i j),some (.str "joined")] G;rw [q1,zu rfl,if_neg (by decide),zu rfl,if_neg (by decide),zu rfl,if_neg (by decide),zu rfl,if_neg (by decide)];simp [Dl.t,wdT,qx,qF,gn3,qP,jR,zD,qH,UF,qD,v3,c3,o3,u3,VV,L3.ixT,L3.ixR,zB,iI,iC,iB,zt,zg,UJ,tb3,EU,or3,YN,zL,UG,ju,if3,ch3,cb3,qf,qk,ZX,tyT,jT,jo,je,VO,np3,sp3,qK,qo,qO,ze,YO,YQ,qq,bm3,QI,JW,jC,UD,V2,EX,EW,qV,jb,VW,EV,UK,L2.atI,ixN,JZ,HT.sIx,getL,in3,zp,eqF,gu,v7,x6,x5];exact ⟨d,e,i,j,rfl,hd,ok,I,h⟩
def qeY {i a b:Int} (h0:0<=i) (h1:i<a*b) (hb:1<=b):0<=i/b/\i/b<a/\0<=i%b/\i%b<b:=
 ⟨Int.ediv_nonneg h0 (by omega),Int.ediv_lt_of_lt_mul (by omega) h1,Int.emod_nonneg _ (by omega),Int.emod_lt_of_pos _ (by omega)⟩
def Inn.up {d e:Dl} {i j:Int} (I:Inn (.joined d e) i j) (Le:Lims e):Inn d (i/e.R) (j/e.C)/\Inn e (i%e.R) (j%e.C):=by
 obtain ⟨i1,i2,j1,j2⟩:=I;obtain ⟨a1,a2,a3,a4⟩:=qeY i1 i2 Le.r1;obtain ⟨b1,b2,b3,b4⟩:=qeY j1 j2 Le.c1;exact ⟨⟨a1,a2,b1,b2⟩,⟨a3,a4,b3,b4⟩⟩
def qcT:∀ ts G q,K7 ts G q->ts.length=3/\SH (L0 q) (qq ["word","rows","columns","i","j"] ts) G:=by
 rintro ts G q ⟨i,j,r,c,rfl,hr,hc,h⟩;refine ⟨rfl,?_⟩;simp [SH,wdT,qx,qF,gn3,qP,jR,zD,qH,UF,qD,v3,c3,o3,u3,VV,L3.ixT,L3.ixR,zB,iI,iC,iB,zt,zg,UJ,tb3,EU,or3,YN,zL,UG,ju,if3,ch3,cb3,qf,qk,ZX,tyT,jT,jo,je,VO,np3,sp3,qK,qo,qO,ze,YO,YQ,qq,bm3,QI,JW,jC,UD,V2,EX,EW,qV,jb,VW,EV,UK,L2.atI,ixN,JZ,HT.sIx,getL,in3,zp,eqF,gu,v7,x6,x5];exact ⟨⟨by omega,by omega⟩,⟨by omega,by omega⟩,by omega,by omega,h⟩
def JH (n:Nat):∀ ts G q,UE n ts G q->ts.length=3/\J2 (zl (n+1)) K7 (jY n) (L0 q) (qq ["one","other","word","rows","columns","banks","upper","lower"] ts) G:=by
 rintro ts G q ⟨d,e,i,j,rfl,hd,ok,I,h⟩;refine ⟨rfl,?_⟩;obtain ⟨kd,ke,kr,kc,kb⟩:=ok;have Le:=Dl.lims ke;obtain ⟨I1,I2⟩:=I.up Le;have:1<=n:=by simp [Dl.dep] at hd;omega
 obtain ⟨m,rfl⟩:∃ m,n=m+1:=⟨n-1,by omega⟩
 have r1:=Le.r1;have r2:=Le.r2;have c1:=Le.c1;have c2:=Le.c2;have b1:=Le.b1;have b2:=Le.b2;simp [J2,qx,qF,gn3,qP,jR,zD,qH,UF,qD,v3,c3,o3,u3,VV,L3.ixT,L3.ixR,zB,iI,iC,iB,zt,zg,UJ,tb3,EU,or3,YN,zL,UG,ju,if3,ch3,cb3,qf,qk,ZX,tyT,jT,jo,je,VO,np3,sp3,qK,qo,qO,ze,YO,YQ,qq,bm3,QI,JW,jC,UD,V2,EX,EW,qV,jb,VW,EV,UK,L2.atI,ixN,JZ,HT.sIx,getL,in3,zp,eqF,gu,v7,x6,x5];refine ⟨e,rfl,by simp [Dl.dep] at hd;omega,ke,?_⟩;simp [W2];refine ⟨i,j,_,_,rfl,⟨by omega,by omega⟩,⟨by omega,by omega⟩,?_⟩;simp;refine ⟨d,_,_,rfl,by simp [Dl.dep] at hd;omega,kd,I1,λG1 E1=>?_⟩;simp;refine ⟨cm (by omega) (by omega),e,_,_,rfl,by simp [Dl.dep] at hd;omega,ke,I2,λG2 E2=>?_⟩;simp;exact h _ (E1.trans E2)
def Lf (G:Gp) (a:Addr) (n:Int):Prop:=∃ o c m,G a=some (.lst [.int o,.int c,.int m])/\0<=o/\0<=m/\m<=n
def Ext (a:Addr) (G G':Gp):Prop:=∀ b o,b≠a->G b=some o->G' b=some o
def Lf.new {G:Gp} {a p:Addr} {n:Int} {ob:O} (h:Lf G a n) (hp:p≠a):Lf (gu G p ob) a n:=by
 obtain ⟨o,c,m,e,r⟩:=h;exact ⟨o,c,m,by rw [zj (Ne.symm hp)];exact e,r⟩
def Lf.mono {G:Gp} {a:Addr} {n k:Int} (h:Lf G a n) (hk:n<=k):Lf G a k:=by
 obtain ⟨o,c,m,e,h1,h2,h3⟩:=h;exact ⟨o,c,m,e,h1,h2,by omega⟩
def Lf.ex {G G':Gp} {a:Addr} {n:Int} (h:Lf G a n) (e:Ex G G'):Lf G' a n:=by
 obtain ⟨o,c,m,e1,h1⟩:=h;exact ⟨o,c,m,e _ _ e1,h1⟩
def Ext.refl {a:Addr} {G:Gp}:Ext a G G:=λ_ _ _ e=>e
def Ext.trans {a:Addr} {G G1 G2:Gp} (x:Ext a G G1) (y:Ext a G1 G2):Ext a G G2:=λb o hb e=>y b o hb (x b o hb e)
def Q0 {a:Addr} {G G':Gp} (h:Ex G G'):Ext a G G':=λb o _ e=>h b o e
def RH:Sp3:=λts G q=>∃ c k,ts=[.int c,.int k]/\0<=k/\k<4294967296/\∀ m,0<=m->m<1999999973->q (.int m) G
def YG:Sp3:=λts G q=>∃ (a:Addr) (k:Int) (ns:List Int),ts=[.ref a,.int k]/\G a=some (.frz (ns.map T.int))/\ns.length<=63/\0<=k/\k<=63/\∀ p o c,G p=none->0<=o->q (.ref p) (gu G p (.lst [.int o,.int c,.int 0]))
def zi:Sp3:=λts G q=>∃ a n many,ts=[.ref a,.int many]/\1<=many/\many<1073741824/\Lf G a n/\n<1073741824/\∀ d G',0<=d->d<many->Lf G' a (n+1)->Ext a G G'->q (.int d) G'
def VU:Sp3:=λts G q=>∃ x y:Int,ts=[.int x,.int y]/\0<=x/\0<=y/\q (.int (Int.gcd x y:Nat)) G
def qaO:∀ ts G q,RH ts G q->ts.length=2/\XI (L0 q) (qq ["_law_cell","_law_k","_law_m"] ts) G:=by
 rintro ts G q ⟨c,k,rfl,h1,h2,h⟩;refine ⟨rfl,?_⟩;simp only [XI,qx,qF,o3,v3,qq,map_cons,List.map_nil,length_cons,length_nil,Nat.zero_add,Nat.reduceAdd,Nat.reduceSub,List.replicate_one,cons_append,List.nil_append,v9,getElem?_pos,x8,c3,iC,Int.reduceLT,Nat.reduceLT,x9,zB,gn3,qP,set_cons_succ,set_cons_zero,za4,true_and];exact ⟨.inl ⟨by omega,by omega⟩,cm (by omega) (by omega),cm (by omega) (by omega),.inl ⟨by omega,by omega⟩,h _ (Int.emod_nonneg _ (by omega)) (Int.emod_lt_of_pos _ (by omega))⟩
def cp:RP 10 18:=⟨by decide,by decide,by decide⟩
def LZ:∀ ts G q,YG ts G q->ts.length=2/\DI (L0 q) (qq ["_law_script","_law_k","_law_cell","_law_own"] ts) G:=by
 rintro ts G q ⟨a,k,ns,rfl,hG,hl,h1,h2,h⟩;refine ⟨rfl,?_⟩;simp only [DI,qx,qF,if3,tb3,o3,v3,qq,map_cons,List.map_nil,length_cons,length_nil,Nat.zero_add,Nat.reduceAdd,Nat.reduceSub,List.reduceReplicate,cons_append,List.nil_append,Nat.reduceLT,getElem?_pos,x9,x8,cb3,qf,v9,qk,jC,getL,hG,iB,length_map,decide_eq_true_eq,gn3,set_cons_succ,set_cons_zero,UD,c3,iC,Int.reduceToNat,Int.reducePow,qP,je,za4,zB,ne_eq,v7,Nat.reduceLeDiff,true_and,gu,ixR,atI,ixN,getElem?_map,Int.lt_irrefl,↓reduceIte,Int.reduceLE,decide_false,Bool.false_eq_true,Int.zero_add];have ck:QT 1000003 k:=cm (by omega) (by omega);by_cases hk:k<ns.length
 ·have hk':k.toNat<ns.length:=by omega
  simp [hk,h1,hk',cp,ck];split
  ·split
   ·exact λp hp=>h p (-ns[k.toNat]) _ hp (by omega)
   ·exact λp hp=>h p 0 _ hp (by omega)
  ·split
   ·exact λp hp=>h p ns[k.toNat] _ hp (by omega)
   ·exact λp hp=>h p 0 _ hp (by omega)
 ·simp [hk,cp,ck];exact λp hp=>h p 0 _ hp (by omega)
def LX:∀ ts G q,zi ts G q->ts.length=2/\EZ RH (L0 q) (qq ["_law_left_here","_law_many","_law_digit"] ts) G:=by
 rintro ts G q ⟨a,n,many,rfl,m1,m2,⟨o,c,m,hG,ho,hm,hn⟩,h3,h⟩;refine ⟨rfl,?_⟩;unfold EZ;refine D4 λnx1 q1=>?_;simp only [qF,o3,v3,qq,map_cons,List.map_nil,length_cons,length_nil,Nat.zero_add,Nat.reduceAdd,Nat.reduceSub,List.replicate_one,cons_append,List.nil_append,v9,getElem?_pos,x8,c3,zB,ne_eq,v7,ze,YO,ixN,Int.zero_le_ofNat,↓reduceIte,Int.reduceToNat,tb3,iB,decide_eq_true_eq,Nat.reduceLT,x9,iC,gn3,set_cons_succ,set_cons_zero,Std.le_refl,Int.natCast_pos,Int.toNat_zero,qP,za4,ixR,getL,atI,qD,cb3,qf,qk,Int.toNat_one,List.length_set,hG,Int.cast_ofNat_Int,Int.reduceLT,Option.bind_some,qy];rw [q1];clear q1;refine D4 λnx2 q2=>?_;simp only [zD,qF,o3,v3,qq,map_cons,List.map_nil,length_cons,length_nil,Nat.zero_add,Nat.reduceAdd,Nat.reduceSub,List.replicate_one,cons_append,List.nil_append,v9,getElem?_pos,x8,c3,zB,ne_eq,v7,ze,YO,ixN,Int.zero_le_ofNat,↓reduceIte,Int.reduceToNat,tb3,iB,decide_eq_true_eq,Nat.reduceLT,x9,iC,gn3,set_cons_succ,set_cons_zero,Std.le_refl,Int.natCast_pos,Int.toNat_zero,qP,za4,ixR,getL,atI,qD,cb3,qf,qk,Int.toNat_one,List.length_set,hG,Int.cast_ofNat_Int,Int.reduceLT,Option.bind_some,qy];split
 ·simp only [qx,qF,o3,v3,length_cons,length_nil,Nat.zero_add,Nat.reduceAdd,v9,getElem?_pos,x8,c3,Nat.reduceLT,x9,iC,gn3,set_cons_succ,set_cons_zero,ze,YO,ixN,Std.le_refl,↓reduceIte,Int.natCast_pos,Int.toNat_zero,qP,za4,ixR,getL,atI,qy,Int.cast_ofNat_Int,Int.reduceLT,Option.bind_some];refine ⟨by omega,⟨by omega,m2⟩,h _ _ (Int.emod_nonneg _ (by omega)) (Int.emod_lt_of_pos _ (by omega)) ⟨o/many,c,m+1,qy,Int.ediv_nonneg ho (by omega),by omega,by omega⟩ λb ob hb e=>?_⟩;rw [zj hb,zj hb];exact e
 ·rw [q2];clear q2;simp only [qF,o3,v3,qq,map_cons,List.map_nil,length_cons,length_nil,Nat.zero_add,Nat.reduceAdd,Nat.reduceSub,List.replicate_one,cons_append,List.nil_append,v9,getElem?_pos,x8,c3,zB,ne_eq,v7,ze,YO,ixN,Int.zero_le_ofNat,↓reduceIte,Int.reduceToNat,tb3,iB,decide_eq_true_eq,Nat.reduceLT,x9,iC,gn3,set_cons_succ,set_cons_zero,Std.le_refl,Int.natCast_pos,Int.toNat_zero,qP,za4,ixR,getL,atI,qD,cb3,qf,qk,Int.toNat_one,List.length_set,hG,Int.cast_ofNat_Int,Int.reduceLT,Option.bind_some,qy];refine ⟨c,m+1,rfl,by omega,by omega,λu u1 u2=>?_⟩;simp only [qF,o3,v3,qq,map_cons,List.map_nil,length_cons,length_nil,Nat.zero_add,Nat.reduceAdd,Nat.reduceSub,List.replicate_one,cons_append,List.nil_append,v9,getElem?_pos,x8,c3,zB,ne_eq,v7,ze,YO,ixN,Int.zero_le_ofNat,↓reduceIte,Int.reduceToNat,tb3,iB,decide_eq_true_eq,Nat.reduceLT,x9,iC,gn3,set_cons_succ,set_cons_zero,Std.le_refl,Int.natCast_pos,Int.toNat_zero,qP,za4,ixR,getL,atI,qD,cb3,qf,qk,Int.toNat_one,List.length_set,hG,Int.cast_ofNat_Int,Int.reduceLT,Option.bind_some,qy];refine ⟨u,m+1+64,rfl,by omega,by omega,λv v1 v2=>?_⟩;refine ⟨⟨by omega,by omega⟩,by omega,h _ _ (Int.emod_nonneg _ (by omega)) (Int.emod_lt_of_pos _ (by omega)) ⟨o,c,m+1,qy,ho,by omega,by omega⟩ λb ob hb e=>?_⟩;rw [zj hb];exact e
def qeH {x y:Int} (hy:0<y):Int.gcd y (x%y)=Int.gcd x y:=by
 rw [Int.emod_def,Int.gcd_comm x y];simp
def qay:∀ ts G q,VU ts G q->ts.length=2/\X0 (L0 q) (qq ["_law_one","_law_other"] ts) G:=by
 rintro ts G q ⟨x,y,rfl,hx,hy,h⟩;refine ⟨rfl,?_⟩;simp only [X0,qx,RK,qq,map_cons,List.map_nil,length_cons,length_nil,Nat.zero_add,Nat.reduceAdd,Nat.sub_self,List.replicate_zero,List.append_nil,tb3,o3,v3,c3,iB,decide_eq_true_eq,YQ,qf,iC,qk,qP];refine ⟨λn τ G'=>G'=G/\∃ u v:Int,τ=[some (.int u),some (.int v)]/\n=v.toNat/\0<=u/\0<=v/\Int.gcd u v=Int.gcd x y,⟨_,rfl,x,y,rfl,rfl,hx,hy,rfl⟩,?_⟩;rintro n τ G' ⟨eG,u,v,rfl,rfl,hu,hv,e⟩;simp;by_cases h0:0<v
 ·simp [h0];refine ⟨λτ' G'=>G'=G/\∃ x' y':Int,τ'=[some (.int x'),some (.int y')]/\y'.toNat<v.toNat/\0<=x'/\0<=y'/\Int.gcd x' y'=Int.gcd x y,λτ' G' ⟨e1,x',y',e2,e3,e4,e5,e6⟩=>⟨y'.toNat,by omega,e1,x',y',e2,rfl,e4,e5,e6⟩,eG,v,u%v,rfl,?_,hv,Int.emod_nonneg _ (by omega),by rw [qeH h0,e]⟩;have:=Int.emod_lt_of_pos u h0;omega
 ·have:v=0:=by omega
  subst this;simp at e;simp [eG];have:u=(Int.gcd x y:Nat):=by omega
  rw [this];exact h
def cop {b p:Int} (hb:1<=b):∃ k:Nat,(k:Int)<b/\Int.gcd b (p+k)=1:=by
 refine ⟨((1-p)%b).toNat,?_,?_⟩
 ·have:=Int.emod_nonneg (1-p) (show b≠0 by omega);have:=Int.emod_lt_of_pos (1-p) (show 0<b by omega);omega
 ·have h1:=Int.emod_nonneg (1-p) (show b≠0 by omega);have h2:=Int.emod_add_mul_ediv (1-p) b;have e:p+(((1-p)%b).toNat:Int)=1+b*(-((1-p)/b)):=by
   rw [Int.toNat_of_nonneg h1,Int.mul_neg];omega
  rw [e];simp
structure Plc (b p0 pl:Int) (i:Nat):Prop where
 lo:p0<=pl
 hi:pl<=p0+i
 at_:Int.gcd b pl=1\/(pl=p0+i/\∀ k:Nat,k<i->Int.gcd b (p0+k)≠1)
def Plc.done {b p0 pl:Int} {n:Nat} (h:Plc b p0 pl n) (hb:1<=b) (hn:b<=n):Int.gcd b pl=1:=by
 rcases h.at_ with h|⟨_,h⟩
 ·exact h
 ·obtain ⟨k,h1,h2⟩:=cop (p:=p0) hb;exact absurd h2 (h k (by omega))
def Plc.next {b p0 pl:Int} {i:Nat} (h:Plc b p0 pl i) (hb:1<=b) (hp:1<=p0) (hg:(1:Int)<(Int.gcd b pl:Nat)):Plc b p0 (pl+1) (i+1):=by
 rcases h.at_ with z|⟨z1,z2⟩
 ·rw [z] at hg;simp at hg
 ·refine ⟨by have:=h.lo;omega,by omega,.inr ⟨by omega,λk hk=>?_⟩⟩;rcases Nat.lt_or_ge k i with q|q
  ·exact z2 k q
  ·have:k=i:=by omega
   subst this;rw [← z1];omega
def Plc.stay {b p0 pl:Int} {i:Nat} (h:Plc b p0 pl i) (hb:1<=b) (hp:1<=p0) (hg:¬ (1:Int)<(Int.gcd b pl:Nat)):Plc b p0 pl (i+1):=by
 have g0:0<Int.gcd b pl:=Int.gcd_pos_of_ne_zero_left _ (by omega);exact ⟨h.lo,by have:=h.hi;omega,.inl (by omega)⟩
def qfa {r c b:Int} (hr:1<=r) (hc:1<=c) (hb:1<=b):1<=-(-r*c/b)/\r*c<=b*-(-r*c/b)/\-(-r*c/b)<=r*c:=by
 have h1:=VZ hr hc;have e:-r*c=-(r*c):=Int.neg_mul ..;rw [e];have h2:=Int.ediv_neg_of_neg_of_pos (a:=-(r*c)) (b:=b) (by omega) (by omega);have h3:=Int.mul_ediv_self_le (x:=-(r*c)) (k:=b) (by omega);have h4:-(r*c)<=-(r*c)/b:=by
  have:=Int.le_ediv_of_mul_le (a:=-(r*c)) (b:=-(r*c)) (c:=b) (by omega) (by
   have:=Int.mul_le_mul_of_nonneg_left hb (show (0:Int)<=r*c by omega);rw [Int.neg_mul];omega)
  exact this
 rw [Int.mul_neg];omega
def U8:Nat->PyData->Prop
 |_,.none=>True
 |_,.bool _=>True
 |_,.int _=>True
 |_,.str _=>True
 |n+1,.list ds=>ds.length<=1000000/\∀ d∈ds,U8 n d
 |n+1,.tuple ds=>ds.length<=1000000/\∀ d∈ds,U8 n d
 |_,_=>False
def jZ:Nat->Sp3
 |0=>DP
 |n+1=>λts G q=>∃ (x y:T) (d:PyData),ts=[x,y]/\Dp G x d/\Dp G y d/\U8 n d/\∀ G',Ex G G'->q (.bl true) G'
def NM {G G':Gp} (e:Ex G G') {x:T} {us:List T} (h:jM G x=some us):jM G' x=some us:=by
 cases x<;>simp [jM] at h ⊢
 ·exact h
 ·exact e.getL h
def qeE (n:Nat):qiV (List.replicate n (.bl true))=some true:=by
 induction n with
 |zero=>rfl
 |succ n ih=>rw [List.replicate_succ];simp [qiV,ih]
def N9 {G:Gp} {n:Nat} {x y:T} {us vs:List T} {ds:List PyData} {q:Q3} (hx:jM G x=some us) (hy:jM G y=some vs) (du:Dps G us ds) (dv:Dps G vs ds) (hl:us.length<=1000000) (hd:∀ d∈ds,∃ m,n=m+1/\U8 m d) (h:∀ G',Ex G G'->q (.bl true) G') :
  K5 (λG=>jM G x=some us/\jM G y=some vs) (qK 2 (qo (gn3 0) (qo (gn3 1) qO))) tt3 (cb3 (jZ n) (qf (v3 0) (qf (v3 1) qk))) (λx G1=>VW [x] G1 q) (qbs us vs) [] [none,none] G:=by
 have e1:=du.length;have e2:=dv.length;refine RU _ (λi ys τ G'=>Ex G G'/\ys=List.replicate i (.bl true)/\∃ x0 x1,τ=[x0,x1]) ⟨Ex.refl,rfl,none,none,rfl⟩ (λi ys τ G' _ hp=>⟨NM hp.1 hx,NM hp.1 hy⟩) ?_ ?_
 ·rintro i z ys τ G' R hz ⟨E,rfl,x0,x1,rfl⟩ hR;obtain ⟨a,b,ha,hb,rfl⟩:=TR hz;obtain ⟨d,hd1,da⟩:=du.get ha;obtain ⟨d',hd2,db⟩:=dv.get hb;rw [hd1] at hd2;cases hd2;obtain ⟨m,rfl,dl⟩:=hd d (za1 hd1);have hi:=(zb0 ha).1;simp only [qK,length_cons,length_nil,Nat.zero_add,Nat.reduceAdd,qo,gn3,qO,tt3,↓reduceIte,cb3,qf,v3,set_cons_zero,set_cons_succ,v9,getElem?_pos,x8,za4,x9,qk,List.length_replicate,v7,true_and];refine ⟨a,b,d,rfl,da.up E,db.up E,dl,λG2 E2=>⟨by omega,hR _ _ _ ⟨E.trans E2,?_,_,_,rfl⟩⟩⟩;rw [List.replicate_succ']
 ·rintro ys τ G' ⟨E,rfl,x0,x1,rfl⟩ p hp;simp [VW,getL,qy,qeE];exact h _ (E.trans (zn hp))
def qel {n:Nat} {ds:List PyData} (h:U8 n (.list ds)):ds.length<=1000000/\∀ d∈ds,∃ m,n=m+1/\U8 m d:=by
 cases n with
 |zero=>exact h.elim
 |succ n=>exact ⟨h.1,λd hd=>⟨n,rfl,h.2 d hd⟩⟩
def qbd {n:Nat} {ds:List PyData} (h:U8 n (.tuple ds)):ds.length<=1000000/\∀ d∈ds,∃ m,n=m+1/\U8 m d:=by
 cases n with
 |zero=>exact h.elim
 |succ n=>exact ⟨h.1,λd hd=>⟨n,rfl,h.2 d hd⟩⟩
def qnB {x:T} {G:Gp} {q:Q3} (h:zg x x=some true) (k:q (.bl true) G):zt false x x G q:=by
 unfold zt;rw [h];exact k
def qcG {ta tb:TE3} {e:Ends3} {τ:St3} {G:Gp} {x:T} (h:∀ q',q' x G->ta τ G q') (k:x=.bl true) (h2:tb τ G e.rt):qP (zL ta tb) e τ G:=h _ (by subst k;exact h2)
def qqy {ta tb:TE3} {τ:St3} {G:Gp} {x:T} (ha:∀ q',q' x G->ta τ G q') (hb:∀ q',q' x G->tb τ G q') (h:zg x x=some true):∀ q',q' (.bl true) G->o3 (zt false) ta tb τ G q':=λq' k=>ha _ (hb _ (qnB h k))
def qaF {c:TT3} {a b:TS3} {e:Ends3} {τ:St3} {G:Gp} (h:∀ A,A=a->zD c A b e τ G):zD c a b e τ G:=h _ rfl
def JX (n:Nat):∀ ts G q,jZ (n+1) ts G q->ts.length=2/\C1 (jZ n) (L0 q) (qq ["_law_found","_law_due"] ts) G:=by
 rintro ts G q ⟨x,y,d,rfl,hx,hy,hd,h⟩;refine ⟨rfl,?_⟩;have h0:=h G Ex.refl;cases hx with
 |non=>cases hy;exact h0
 |bl b=>cases hy;cases b<;>exact h0
 |int i=>cases hy;exact qnB (x:=.int i) (by simp [zg]) h0
 |str s=>
  cases hy;refine D4 λnx1 q1=>?_;refine qaF λA1 hA=>?_;clear hA;show nx1 _ _;rw [q1];clear q1;refine D4 λnx2 q2=>?_;refine qaF λA2 hA=>?_;show A2 _ _ _;rw [hA];exact qcG (qqy (x:=.str s) (λ_ k=>k) (λ_ k=>k) (by simp [zg])) rfl h0
 |tup dx=>
  cases hy with
  |tup dy=>
   rename_i xs ds ys;have e1:=dx.length;have e2:=dy.length;obtain ⟨l1,l2⟩:=qbd hd;have key:=N9 (n:=n) (x:=.tup xs) (y:=.tup ys) (us:=xs) (vs:=ys) (q:=q) rfl rfl dx dy (by omega) l2 h;have e3:xs.length=ys.length:=by omega
   refine D4 λnx1 q1=>?_;clear q1;refine qaF λA1 hA=>?_;show A1 _ _ _;rw [hA];clear hA;refine D4 λnx2 q2=>?_;refine qaF λA2 hA=>?_;show nx2 _ _;rw [q2];clear q2;exact qcG (qqy (x:=.int ys.length) (λ_ k=>by rw [← e3] at k;exact k) (λ_ k=>k) (by simp [zg])) rfl key
 |lst gx dx=>
  cases hy with
  |lst gy dy=>
   rename_i p1 xs ds p2 ys;have e1:=dx.length;have e2:=dy.length;obtain ⟨l1,l2⟩:=qel hd;have key:=N9 (n:=n) (x:=.ref p1) (y:=.ref p2) (us:=xs) (vs:=ys) (q:=q) gx gy dx dy (by omega) l2 h;have e3:xs.length=ys.length:=by omega
   refine D4 λnx1 q1=>?_;clear q1;refine qaF λA1 hA=>?_;simp only [zD,tb3,ZX,v3,qq,map_cons,List.map_nil,length_cons,length_nil,Nat.zero_add,Nat.reduceAdd,Nat.sub_self,List.replicate_zero,List.append_nil,za4,getElem?_pos,x9,x8,tyT,gx,gy,Option.isSome_some,↓reduceIte,jT,BEq.rfl,String.reduceBEq,Bool.and_self,Bool.or_false,Bool.or_self,or3,o3,v9,zt,zg,decide_true,Bool.not_true,Bool.false_eq_true,qD];rw [hA];clear hA;refine D4 λnx2 q2=>?_;refine qaF λA2 hA=>?_;clear hA;simp only [zD,tb3,ZX,v3,qq,map_cons,List.map_nil,length_cons,length_nil,Nat.zero_add,Nat.reduceAdd,Nat.sub_self,List.replicate_zero,List.append_nil,za4,getElem?_pos,x9,x8,tyT,gx,gy,Option.isSome_some,↓reduceIte,jT,BEq.rfl,String.reduceBEq,Bool.and_self,Bool.or_false,Bool.or_self,or3,o3,v9,zt,zg,decide_true,Bool.not_true,Bool.false_eq_true,qD];rw [q2];clear q2;simp only [jM,VW,qq,map_cons,List.map_nil,length_cons,length_nil,Nat.zero_add,Nat.reduceAdd,Nat.sub_self,List.replicate_zero,List.append_nil,za4,getElem?_pos,x9,x8,gy,↓reduceIte,o3,v3,v9,gx,zt,zg,decide_true,Bool.false_eq_true,qP,zL,cb3,qf,qk,jC,e3,lc3,qaM,cap] at key ⊢;exact key
def zV:Nat->Sp3
 |0=>DP
 |n+1=>λts G q=>∃ d:Dl,ts=[d.t]/\d.dep<=n/\d.Ok/\∀ G',Ex G G'->q (W2 d) G'
def qdJ:∀ {d:Nat},d<=8->L2.atI [T.int 1,.int 2,.int 4,.int 8,.int 16,.int 32,.int 64,.int 128,.int 256] (d:Int)=some (.int (2 ^ d))
 |0,_=>rfl
 |1,_=>rfl
 |2,_=>rfl
 |3,_=>rfl
 |4,_=>rfl
 |5,_=>rfl
 |6,_=>rfl
 |7,_=>rfl
 |8,_=>rfl
 |k+9,h=>absurd h (Nat.not_le.mpr (za0 (Nat.lt_succ_self _) (Nat.le_add_left _ _)))
def qee:∀ {d:Nat},d<=4->L2.atI [T.int 1,.int 2,.int 4,.int 8,.int 16] (d:Int)=some (.int (2 ^ d))
 |0,_=>rfl
 |1,_=>rfl
 |2,_=>rfl
 |3,_=>rfl
 |4,_=>rfl
 |k+5,h=>absurd h (Nat.not_le.mpr (za0 (Nat.lt_succ_self _) (Nat.le_add_left _ _)))
def qbj {α:Type} {x:α} {xs:List α}:L2.atI (x::xs) 0=some x:=by simp [L2.atI,ixN]
def qdT {α:Type} {x y:α} {xs:List α}:L2.atI (x::y::xs) 1=some y:=by
 rw [jJ (by omega) (by simp;omega)];rfl
def qcJ {α:Type} {x y z:α} {xs:List α}:L2.atI (x::y::z::xs) 2=some z:=by
 rw [jJ (by omega) (by simp;omega)];rfl
def qnN {α:Type} {x y z w:α} {xs:List α}:L2.atI (x::y::z::w::xs) 3=some w:=by
 rw [jJ (by omega) (by simp;omega)];rfl
def zx {s l:Str} {xs:List T} {R S:TS3} {d:Ends3} {τ:St3} {G:Gp} (hτ:τ[0]?=some (some (T.tup (.str s::xs)))):qx (zD (tb3 (o3 (zt false) (o3 ix3 (v3 0) (c3 (.int 0))) (c3 (.str l)))) R qD) S d τ G=(if s=l then R { d with nx:=S d } τ G else S d τ G):=by
 simp only [qx,zD,tb3,o3,v3,hτ,c3,L3.ixT,qbj,zt,zg,qD];by_cases e:s=l<;>simp [e]
theorem qbU:∀ (k n:Nat),pop (k+1) n=pop k n+n/2 ^ k%2
 |0,n=>by simp [pop]
 |k+1,n=>by
  have e1:pop (k+2) n=n%2+pop (k+1) (n/2):=rfl;have e2:pop (k+1) n=n%2+pop k (n/2):=rfl;rw [e1,e2,qbU k (n/2),Nat.div_div_eq_div_mul,show 2*2 ^ k=2 ^ (k+1) by rw [Nat.pow_succ,Nat.mul_comm]];omega
def qnw {k k' n:Nat} (h:n<2 ^ k) (hk:k<=k'):pop k' n=pop k n:=by
 induction hk with
 |refl=>rfl
 |step hk ih=>rw [XD _ n (za0 h (Nat.pow_le_pow_right (by omega) hk)),ih]
def DY:Sp3:=λts G q=>∃ n:Int,ts=[.int n]/\0<=n/\n<512/\∀ G',Ex G G'->q (.bl (pop 64 n.toNat%2==1)) G'
def qaC:∀ ts G q,DY ts G q->ts.length=1/\X7 (L0 q) (qq ["_law_number","_law_found","_law_t"] ts) G:=by
 rintro ts G q ⟨n,rfl,n0,n1,h⟩;refine ⟨rfl,?_⟩;obtain ⟨m,rfl⟩:=Int.eq_ofNat_of_zero_le n0;simp only [X7,qx,qF,c3,gn3,WU,jf,qf,qk,Int.reducePow,Int.reduceNeg,Int.neg_ofNat_le_ofNat,Int.reduceLT,and_self,Int.reduceToNat,qq,map_cons,List.map_nil,length_cons,length_nil,Nat.zero_add,Nat.reduceAdd,Nat.add_one_sub_one,List.reduceReplicate,cons_append,List.nil_append,set_cons_succ,set_cons_zero,true_and];refine LH _ (λi τ G'=>Ex G G'/\∃ x2,τ=[some (.int m),some (.bl (pop i m%2==1)),x2]) ⟨Ex.refl,none,rfl⟩ (λ_ _ _ _ _=>True.intro) ?_ ?_
 ·rintro i z τ G' nx hz ⟨E,x2,rfl⟩ hn;obtain ⟨hi,rfl⟩:=qcM hz;have hi9:i<=8:=Nat.le_of_lt_succ hi;simp only [gn3,qF,o3,v3,Int.zero_add,set_cons_succ,set_cons_zero,length_cons,length_nil,Nat.zero_add,Nat.reduceAdd,Nat.reduceLT,getElem?_pos,x9,x8,v9,je,qf,c3,qk,v7,Nat.reduceLeDiff,za4,iC,Int.reduceLT,zt,zg,Bool.false_eq_true,↓reduceIte,true_and,ixR,getL,gu];intro p hp;rw [qdJ hi9];have hp2:=CL i;have hp3:=TJ (n:=i) (k:=8) hi9;simp only;refine ⟨⟨by omega,by omega⟩,hn _ _ ⟨E.trans (zn hp),some (.int i),?_⟩⟩;have e1:((m:Int)/2 ^ i)=((m/2 ^ i:Nat):Int):=by rw [p2];exact (Int.natCast_ediv _ _).symm
  have e2:decide ((m:Int)/2 ^ i%2=1)=(m/2 ^ i%2==1):=by
   rw [e1];by_cases hb:m/2 ^ i%2=1
   ·have z:((m/2 ^ i:Nat):Int)%2=1:=by omega
    rw [za8 z,hb];rfl
   ·have z:¬ ((m/2 ^ i:Nat):Int)%2=1:=by omega
    rw [za7 z];exact (beq_eq_false_iff_ne.mpr hb).symm
  have e3:(pop (i+1) m%2==1)=!(decide ((pop i m%2==1)=decide ((m:Int)/2 ^ i%2=1))):=by
   rw [e2,qbU];have h1:pop i m%2=0\/pop i m%2=1:=by omega
   have h2:m/2 ^ i%2=0\/m/2 ^ i%2=1:=by omega
   rcases h1 with h1|h1<;>rcases h2 with h2|h2<;>simp [Nat.add_mod,h1,h2]
  rw [e3]
  all_goals try simp
 ·rintro τ G' ⟨E,x2,rfl⟩;rw [qg3];simp only [qP,v3,length_cons,length_nil,Nat.zero_add,Nat.reduceAdd,Nat.reduceLT,getElem?_pos,x9,x8];have:=h G' E;rw [show (m:Int).toNat=m from rfl,qnw (k:=9) (k':=64) (by omega) (by omega)] at this;simpa using this
def QZ:Nat->Sp3
 |0=>DP
 |n+1=>λts G q=>∃ (d:Dl) (i j:Int),ts=[d.t,.int i,.int j]/\d.dep<=n/\d.Ok/\Inn d i j/\∀ G',Ex G G'->q (.int (d.bank i j)) G'
def qgW {ms:List Int} {i j c:Int} {n:Int} {G:Gp} {q:Q3} (hn:n=i*c+j) (hc:QT i c) (h0:0<=n) (hl:ms.length<=5) (hm:∀ m∈ms,0<=m/\m<512) (h:∀ p G',Ex G G'->G' p=none->q (.ref p) (gu G' p (.lst ((zq n 0 ms).map T.int)))) :
  K5 (λG=>jM G (.tup (ms.map T.int))=some (ms.map T.int)) (qK 2 (qo (gn3 0) (qo (gn3 1) qO))) (tb3 (cb3 DY (qf (o3 (iI Builtin.bitAnd) (o3 zB (o3 (iC QT (·*·)) (v3 3) (v3 4)) (v3 2)) (v3 1)) qk))) (o3 ix3 (je (qf (c3 (.int 1)) (qf (c3 (.int 2)) (qf (c3 (.int 4)) (qf (c3 (.int 8)) (qf (c3 (.int 16)) qk)))))) (v3 0)) q (qcf (ms.map T.int)) [] [none,none,some (.int j),some (.int i),some (.int c)] G:=by
 refine RU _ (λk ys τ G'=>Ex G G'/\ys=(zq n 0 (ms.take k)).map T.int/\∃ x0 x1,τ=[x0,x1,some (.int j),some (.int i),some (.int c)]) ⟨Ex.refl,by simp [zq],none,none,rfl⟩ (λ_ ys τ G' _ hp=>rfl) ?_ ?_
 ·rintro k z ys τ G' R hz ⟨E,rfl,x0,x1,rfl⟩ hR;obtain ⟨a,ha,rfl⟩:=EK hz;rw [getElem?_map] at ha;cases e:ms[k]? with
  |none=>rw [e] at ha;cases ha
  |some m=>
   rw [e] at ha;have:a=T.int m:=by simpa using ha.symm
   subst this;obtain ⟨hi,hm'⟩:=zb0 e;have mm:=hm m (by rw [← hm'];exact za6 hi);have hr:=PyProof.Rows.bitAnd_range n mm.1;simp [qx,qF,gn3,qP,jR,zD,qH,UF,qD,v3,c3,o3,u3,VV,L3.ixT,L3.ixR,zB,iI,iC,iB,zt,zg,UJ,tb3,EU,or3,YN,zL,UG,ju,if3,ch3,cb3,qf,qk,ZX,tyT,jT,jo,je,VO,np3,sp3,qK,qo,qO,ze,YO,YQ,qq,bm3,QI,JW,jC,UD,V2,EX,EW,qV,jb,VW,EV,UK,JZ,HT.sIx,getL,in3,zp,eqF,gu,v7,x6,x5,hc,← hn];refine ⟨_,rfl,hr.1,by omega,λG2 E2=>?_⟩;have tk:ms.take (k+1)=ms.take k++[m]:=by rw [List.take_succ_eq_append_getElem hi,hm']
   have lt:(ms.take k).length=k:=by rw [List.length_take];omega
   have st:zq n 0 (ms.take (k+1))=zq n 0 (ms.take k)++(if NK n m then [2 ^ k] else []):=by
    rw [tk,YA,lt];simp [zq]
   have cl:=QV n 0 (ms.take k);have eo:(pop 64 (Builtin.bitAnd n m).toNat%2==1)=NK n m:=rfl;rw [eo];cases ho:NK n m with
   |true=>
    simp;intro p hp;have e5:=qee (d:=k) (by omega);simp [L3.ixR,getL,qy,e5];refine ⟨by omega,hR _ _ _ ⟨E.trans (E2.trans (zn hp)),?_,_,_,rfl⟩⟩;rw [st,ho];simp
   |false=>
    simp;refine hR _ _ _ ⟨E.trans E2,?_,_,_,rfl⟩;rw [st,ho];simp
 ·rintro ys τ G' ⟨E,rfl,x0,x1,rfl⟩ p hp;rw [CD,length_map,List.take_length];exact h p G' E hp
def UM (n:Nat):∀ ts G q,QZ (n+1) ts G q->ts.length=3/\DG (zV (n+1)) DY (QZ n) (L0 q) (qq ["_law_dealing_here","_law_i","_law_j","_law_rows","_law_columns","_law_banks","_law_some","_law_high","_law_wide","_law_more"] ts) G:=by
 rintro ts G q ⟨d,i,j,rfl,hd,ok,I,h⟩;refine ⟨rfl,?_⟩;have i1:=I.i1;have i2:=I.i2;have j1:=I.j1;have j2:=I.j2;have L:=Dl.lims ok;have r2:=L.r2;have c1:=L.c1;have c2:=L.c2;have b1:=L.b1;have b2:=L.b2;unfold DG;refine D4 λnx1 q1=>?_;simp only [qF,cb3,qf,qk,v3,qq,List.map,List.length,cons_append,x6];refine ⟨d,rfl,hd,ok,λG1 E1=>?_⟩;simp [W2,qK,qo,qO,gn3];cases d with
 |skew r c b x y=>
  obtain ⟨k1,k2,k3,k4,k5,k6,k7,k8,k9,k10⟩:=ok;simp only [Dl.t];rw [q1,zx rfl,if_pos rfl];simp [L2.atI,ixN,qx,qF,gn3,qP,jR,zD,qH,UF,qD,v3,c3,o3,u3,VV,L3.ixT,L3.ixR,zB,iI,iC,iB,zt,zg,UJ,tb3,EU,or3,YN,zL,UG,ju,if3,ch3,cb3,qf,qk,ZX,tyT,jT,jo,je,VO,np3,sp3,qK,qo,qO,ze,YO,YQ,qq,bm3,QI,JW,jC,UD,V2,EX,EW,qV,jb,VW,EV,UK,JZ,HT.sIx,getL,in3,zp,eqF,gu,v7,x6,x5];exact ⟨cm' (by omega) (by omega),cm' (by omega) (by omega),by simp only [Dl.B];omega,h _ E1⟩
 |rests r c b x=>
  simp only [Dl.t];rw [q1,zx rfl,if_neg (by decide),zx rfl,if_pos rfl];simp [qx,qF,gn3,qP,jR,zD,qH,UF,qD,v3,c3,o3,u3,VV,L3.ixT,L3.ixR,zB,iI,iC,iB,zt,zg,UJ,tb3,EU,or3,YN,zL,UG,ju,if3,ch3,cb3,qf,qk,ZX,tyT,jT,jo,je,VO,np3,sp3,qK,qo,qO,ze,YO,YQ,qq,bm3,QI,JW,jC,UD,V2,EX,EW,qV,jb,VW,EV,UK,JZ,HT.sIx,getL,in3,zp,eqF,gu,v7,x6,x5];exact ⟨cm (by omega) (by omega),by omega,h _ E1⟩
 |bits hh l ms=>
  obtain ⟨k1,k2,k3,k4⟩:=ok;simp only [Dl.t];rw [q1,zx rfl,if_neg (by decide),zx rfl,if_neg (by decide),zx rfl,if_pos rfl];refine D4 λnx2 q2=>?_;simp [qbj,qnN,lc3,EO,cap,qx,qF,gn3,qP,jR,zD,qH,UF,qD,v3,c3,o3,u3,VV,L3.ixT,L3.ixR,zB,iI,iC,iB,zt,zg,UJ,tb3,EU,or3,YN,zL,UG,ju,if3,ch3,cb3,qf,qk,ZX,tyT,jT,jo,je,VO,np3,sp3,qK,qo,qO,ze,YO,YQ,qq,bm3,QI,JW,jC,UD,V2,EX,EW,qV,jb,VW,EV,UK,JZ,HT.sIx,getL,in3,zp,eqF,gu,v7,x6,x5];refine qgW (n:=i*2 ^ l+j) rfl (cm (by omega) (by omega)) (NF (h:=hh) i1 j1) k3 (λm hm=>⟨(k4 m hm).1,?_⟩) λp G2 E2 hp=>?_
  ·have:=(k4 m hm).2;have:=TJ (n:=hh+l) (k:=8) (by omega);omega
  ·try rw [q2]
   simp [qiR,getL,qy,XX,qx,qF,gn3,qP,jR,zD,qH,UF,qD,v3,c3,o3,u3,VV,L3.ixT,L3.ixR,zB,iI,iC,iB,zt,zg,UJ,tb3,EU,or3,YN,zL,UG,ju,if3,ch3,cb3,qf,qk,ZX,tyT,jT,jo,je,VO,np3,sp3,qK,qo,qO,ze,YO,YQ,qq,bm3,QI,JW,jC,UD,V2,EX,EW,qV,jb,VW,EV,UK,JZ,HT.sIx,getL,in3,zp,eqF,gu,v7,x6,x5];refine ⟨⟨by have:=QV (i*2 ^ l+j) 0 ms;omega,λx hx=>?_⟩,?_⟩
   ·obtain ⟨k,h1,rfl⟩:=VS _ 0 ms x hx;have:=CL k;have:=TJ (n:=k) (k:=30) (by omega);omega
   ·rw [VX];exact h _ (E1.trans (E2.trans (zn hp)))
 |table b cells=>
  obtain ⟨k1,k2,k3,k4,c,k5,k6,k7⟩:=ok;have e0:cells[0]?=some cells[0]:=v8 (by omega);have eC:(Dl.table b cells).C=c:=by simp [Dl.C,e0,(k7 cells[0] (za6 _)).1]
  have eR:(Dl.table b cells).R=cells.length:=rfl;rw [eR] at i2;rw [eC] at j2;have hi:i.toNat<cells.length:=by omega
  have hrow:=k7 cells[i.toNat] (za6 hi);have hj:j.toNat<cells[i.toNat].length:=by rw [hrow.1];omega
  simp only [Dl.t];rw [q1,zx rfl,if_neg (by decide),zx rfl,if_neg (by decide),zx rfl,if_neg (by decide),zx rfl,if_pos rfl];simp [qcJ,qx,qF,gn3,qP,jR,zD,qH,UF,qD,v3,c3,o3,u3,VV,L3.ixT,L3.ixR,zB,iI,iC,iB,zt,zg,UJ,tb3,EU,or3,YN,zL,UG,ju,if3,ch3,cb3,qf,qk,ZX,tyT,jT,jo,je,VO,np3,sp3,qK,qo,qO,ze,YO,YQ,qq,bm3,QI,JW,jC,UD,V2,EX,EW,qV,jb,VW,EV,UK,JZ,HT.sIx,getL,in3,zp,eqF,gu,v7,x6,x5];rw [jJ i1 (by simpa using i2)];simp [hi,qdy,L3.ixT];rw [jJ j1 (by simp;omega)];simp [hj];have:=h G1 E1;simpa [Dl.bank,hi,hj] using this
 |joined d e=>
  obtain ⟨kd,ke,kr,kc,kb⟩:=ok;have Le:=Dl.lims ke;obtain ⟨I1,I2⟩:=I.up Le;have:1<=n:=by simp [Dl.dep] at hd;omega
  obtain ⟨m,rfl⟩:∃ m,n=m+1:=⟨n-1,by omega⟩
  have r1:=Le.r1;have r2:=Le.r2;have c1:=Le.c1;have c2:=Le.c2;have b1:=Le.b1;have b2:=Le.b2;simp only [Dl.t];rw [q1,zx rfl,if_neg (by decide),zx rfl,if_neg (by decide),zx rfl,if_neg (by decide),zx rfl,if_neg (by decide)];simp [qdT,qcJ,qx,qF,gn3,qP,jR,zD,qH,UF,qD,v3,c3,o3,u3,VV,L3.ixT,L3.ixR,zB,iI,iC,iB,zt,zg,UJ,tb3,EU,or3,YN,zL,UG,ju,if3,ch3,cb3,qf,qk,ZX,tyT,jT,jo,je,VO,np3,sp3,qK,qo,qO,ze,YO,YQ,qq,bm3,QI,JW,jC,UD,V2,EX,EW,qV,jb,VW,EV,UK,JZ,HT.sIx,getL,in3,zp,eqF,gu,v7,x6,x5];refine ⟨e,rfl,by simp [Dl.dep] at hd;omega,ke,λG2 E2=>?_⟩;simp [W2];refine ⟨⟨by omega,by omega⟩,⟨by omega,by omega⟩,d,_,_,rfl,by simp [Dl.dep] at hd;omega,kd,I1,λG3 E3=>?_⟩;simp;refine ⟨cm (by omega) (by omega),by omega,by omega,e,_,_,rfl,by simp [Dl.dep] at hd;omega,ke,I2,λG4 E4=>?_⟩;simp;exact h _ (E1.trans (E2.trans (E3.trans E4)))
structure SD (k n:Nat) (d:PyData):Prop where
 sh:d.showable=true
 nd:d.hasDict=false
 dp:d.depth<=k
 lv:d.leavesShort 13=true
 bk:d.bulk<=n
def SD.mono {k n k' n':Nat} {d:PyData} (h:SD k n d) (hk:k<=k') (hn:n<=n'):SD k' n' d:=⟨h.sh,h.nd,za2 h.dp hk,h.lv,za2 h.bk hn⟩
def QC (k n:Nat) {i:Int} (h:-1000000<=i/\i<=1000000):SD k n (.int i):=by
 refine ⟨?_,rfl,Nat.zero_le _,?_,Nat.zero_le _⟩
 ·simp only [PyData.showable];have:i.natAbs<2 ^ 20:=by omega
  have h2:i.natAbs.log2<20\/i.natAbs=0:=by
   rcases Nat.eq_zero_or_pos i.natAbs with z|z
   ·exact .inr z
   ·exact .inl ((Nat.log2_lt (by omega)).mpr this)
  rcases h2 with h2|h2
  ·simp;omega
  ·simp [h2]
 ·have:=PyProof.Rows.intsShortAll_ints2 [i] (by intro n hn;simp at hn;subst hn;omega);simpa [PyData.intsShortAll,PyData.intsShort,PyData.leavesShort] using this
def RF (k n:Nat) {x:Str} (h:x.cps.size<=n) (hc:(x.cps.toList.all λc=>decide (c<16 ^ 8))=true):SD k n (.str x):=⟨rfl,rfl,Nat.zero_le _,hc,h⟩
structure SDs (k n:Nat) (ds:List PyData):Prop where
 sh:PyData.showableAll ds=true
 nd:PyData.hasDictAll ds=false
 dp:PyData.depthAll ds<=k
 lv:PyData.leavesShortAll 13 ds=true
 bk:PyData.bulkAll ds<=n
def UX (k n:Nat):SDs k n []:=⟨rfl,rfl,Nat.zero_le _,rfl,Nat.zero_le _⟩
def qN {k n m s:Nat} {d:PyData} {ds:List PyData} (h:SD k n d) (t:SDs k m ds) (hs:n+1+m<=s):SDs k s (d::ds):=by
 refine ⟨?_,?_,?_,?_,?_⟩
 ·simp [PyData.showableAll,h.sh,t.sh]
 ·simp [PyData.hasDictAll,h.nd,t.nd]
 ·simp only [PyData.depthAll];exact Nat.max_le.mpr ⟨h.dp,t.dp⟩
 ·simp [PyData.leavesShortAll,h.lv,t.lv]
 ·simp only [PyData.bulkAll];have:=h.bk;have:=t.bk;omega
def QK {k n:Nat} {ds:List PyData} (t:SDs k n ds):SD (k+1) n (.tuple ds):=by
 refine ⟨?_,?_,?_,?_,?_⟩
 ·simpa [PyData.showable] using t.sh
 ·simpa [PyData.hasDict] using t.nd
 ·simp only [PyData.depth];have:=t.dp;omega
 ·simpa [PyData.leavesShort] using t.lv
 ·simp only [PyData.bulk];exact t.bk
theorem X2 {k n:Nat}:∀ {ds:List PyData},(∀ d∈ds,SD k n d)->SDs k (ds.length*(n+1)) ds
 |[],_=>UX _ _
 |d::ds,h=>qN (h d (by simp)) (X2 λx hx=>h x (by simp [hx])) (by rw [length_cons,Nat.succ_mul];omega)
def SO {k:Nat} {ns:List Int} (h:∀ n∈ns,-1000000<=n/\n<=1000000):SDs k ns.length (ns.map PyData.int):=by
 have:=X2 (k:=k) (n:=0) (ds:=ns.map PyData.int) (by intro d hd;obtain ⟨i,hi,rfl⟩:=mem_map.mp hd;exact QC _ _ (h i hi));simpa using this
theorem _root_.L3.Dps.append {G:Gp}:∀ {xs ys:List T} {ds es:List PyData},Dps G xs ds->Dps G ys es->Dps G (xs++ys) (ds++es)
 |_,_,_,_,.nil,b=>b
 |_,_,_,_,.cons a t,b=>.cons a (L3.Dps.append t b)
theorem _root_.L3.Dps.take {G:Gp}:∀ {xs:List T} {ds:List PyData} (i:Nat),Dps G xs ds->Dps G (xs.take i) (ds.take i)
 |_,_,0,_=>.nil
 |_,_,_+1,.nil=>.nil
 |_,_,i+1,.cons a t=>.cons a (L3.Dps.take i t)
theorem _root_.L3.Dps.drop {G:Gp}:∀ {xs:List T} {ds:List PyData} (i:Nat),Dps G xs ds->Dps G (xs.drop i) (ds.drop i)
 |_,_,0,h=>h
 |_,_,_+1,.nil=>.nil
 |_,_,i+1,.cons a t=>L3.Dps.drop i t
end Bk
namespace Pu
open PySem L2 L3
def cif {α:Type} (P:Prop) (a b:α):α:=@ite α P (Classical.propDecidable P) a b
def jt {α:Type} {P:Prop} {a b:α} (h:P):cif P a b=a:=@if_pos P (Classical.propDecidable P) h α a b
def qa5 {α:Type} {P:Prop} {a b:α} (h:¬ P):cif P a b=b:=@if_neg P (Classical.propDecidable P) h α a b
structure Tru (b:Bool):Prop where
 h:b=true
mutual
inductive Dq (G:Gp):T->PyData->Prop
 |non:Dq G .non .none
 |bl (b:Bool):Dq G (.bl b) (.bool b)
 |int (i:Int):Dq G (.int i) (.int i)
 |str (x:Str):Dq G (.str x) (.str x)
 |tup {xs:List T} {ds:List PyData}:Dqs G xs ds->Dq G (.tup xs) (.tuple ds)
 |lst {p:Addr} {xs:List T} {ds:List PyData}:G p=some (.lst xs)->Dqs G xs ds->Dq G (.ref p) (.list ds)
inductive Dqs (G:Gp):List T->List PyData->Prop
 |nil:Dqs G [] []
 |cons {x:T} {d:PyData} {xs:List T} {ds:List PyData}:Dq G x d->Dqs G xs ds->Dqs G (x::xs) (d::ds)
end
mutual
theorem Dq.up {G G':Gp} (e:Ex G G'):∀ {x:T} {d:PyData},Dq G x d->Dq G' x d
 |_,_,.non=>.non
 |_,_,.bl b=>.bl b
 |_,_,.int i=>.int i
 |_,_,.str x=>.str x
 |_,_,.tup h=>.tup (Dqs.up e h)
 |_,_,.lst h1 h2=>.lst (e _ _ h1) (Dqs.up e h2)
theorem Dqs.up {G G':Gp} (e:Ex G G'):∀ {x:List T} {d:List PyData},Dqs G x d->Dqs G' x d
 |_,_,.nil=>.nil
 |_,_,.cons a b=>.cons (Dq.up e a) (Dqs.up e b)
end
def qL {G:Gp} {p:Addr} {xs:List T} (h:G p=some (.lst xs)):getL G p=some xs:=by unfold getL;rw [h]
mutual
theorem Dq.dp {G:Gp}:∀ {x:T} {d:PyData},Dq G x d->Dp G x d
 |_,_,.non=>.non
 |_,_,.bl b=>.bl b
 |_,_,.int i=>.int i
 |_,_,.str x=>.str x
 |_,_,.tup h=>.tup (Dqs.dp h)
 |_,_,.lst h1 h2=>.lst (qL h1) (Dqs.dp h2)
theorem Dqs.dp {G:Gp}:∀ {x:List T} {d:List PyData},Dqs G x d->Dps G x d
 |_,_,.nil=>.nil
 |_,_,.cons a b=>.cons (Dq.dp a) (Dqs.dp b)
end
theorem Dqs.length {G:Gp}:∀ {xs:List T} {ds:List PyData},Dqs G xs ds->xs.length=ds.length
 |_,_,.nil=>rfl
 |_,_,.cons _ b=>by simp [Dqs.length b]
theorem Dqs.get {G:Gp}:∀ {xs:List T} {ds:List PyData} {i:Nat} {d:PyData},Dqs G xs ds->ds[i]?=some d->∃ x,xs[i]?=some x/\Dq G x d
 |_,_,_,_,.nil,e=>by simp at e
 |_,_,0,_,.cons r _,e=>by simp at e;subst e;exact ⟨_,rfl,r⟩
 |_,_,i+1,d,.cons _ t,e=>by
  obtain ⟨u,h1,h2⟩:=Dqs.get (i:=i) (d:=d) t (by simpa using e);exact ⟨u,by simpa using h1,h2⟩
theorem Dqs.append {G:Gp}:∀ {xs:List T} {ds:List PyData} {ys:List T} {es:List PyData},Dqs G xs ds->Dqs G ys es->Dqs G (xs++ys) (ds++es)
 |_,_,_,_,.nil,h=>h
 |_,_,_,_,.cons a b,h=>.cons a (Dqs.append b h)
theorem Dqs.drop {G:Gp}:∀ {xs:List T} {ds:List PyData} (n:Nat),Dqs G xs ds->Dqs G (xs.drop n) (ds.drop n)
 |_,_,0,h=>h
 |_,_,_+1,.nil=>.nil
 |_,_,n+1,.cons _ b=>Dqs.drop n b
theorem Dqs.take {G:Gp}:∀ {xs:List T} {ds:List PyData} (n:Nat),Dqs G xs ds->Dqs G (xs.take n) (ds.take n)
 |_,_,0,h=>by simp;exact .nil
 |_,_,_+1,.nil=>.nil
 |_,_,n+1,.cons a b=>.cons a (Dqs.take n b)
theorem Dqs.set {G:Gp}:∀ {xs:List T} {ds:List PyData} (n:Nat) {x:T} {d:PyData},Dqs G xs ds->Dq G x d->Dqs G (xs.set n x) (ds.set n d)
 |_,_,_,_,_,.nil,_=>.nil
 |_,_,0,_,_,.cons _ b,h=>.cons h b
 |_,_,n+1,_,_,.cons a b,h=>.cons a (Dqs.set n b h)
theorem Dqs.ints {G:Gp}:∀ {ns:List Int} {xs:List T},Dqs G xs (ns.map PyData.int)->xs=ns.map T.int
 |[],_,.nil=>rfl
 |n::ns,_,.cons a b=>by cases a;rw [Dqs.ints b];rfl
theorem Dqs.ofInts {G:Gp}:∀ (ns:List Int),Dqs G (ns.map T.int) (ns.map PyData.int)
 |[]=>.nil
 |n::r=>.cons (.int n) (Dqs.ofInts r)
def rs (D:Addr->Prop) (G:Gp):Gp:=λb=>cif (D b) none (G b)
def qR {D:Addr->Prop} {G:Gp} {b:Addr} {o:O} (h:rs D G b=some o):¬ D b/\G b=some o:=by
 unfold rs cif at h;split at h
 ·cases h
 ·rename_i n;exact ⟨n,h⟩
def jU {D:Addr->Prop} {G:Gp} {b:Addr} (n:¬ D b):rs D G b=G b:=by unfold rs;exact qa5 n
def YH {D:Addr->Prop} {G:Gp}:Ex (rs D G) G:=λb o h=>(qR h).2
def jV {D:Addr->Prop} {G G':Gp} (e:Ex G G'):Ex (rs D G) (rs D G'):=λb o h=>by
 obtain ⟨n,h⟩:=qR h;rw [jU n];exact e _ _ h
def zy {D D':Addr->Prop} {G:Gp} (h:∀ b,D' b->D b):Ex (rs D G) (rs D' G):=λb o e=>by
 obtain ⟨n,e⟩:=qR e;rw [jU λz=>n (h b z)];exact e
def Dom (D:Addr->Prop) (G:Gp):Prop:=∀ b,D b->G b≠none
def Dom.up {D:Addr->Prop} {G G':Gp} (h:Dom D G) (e:Ex G G'):Dom D G':=λb d z=>by
 cases g:G b with
 |none=>exact h b d g
 |some o=>rw [e _ _ g] at z;cases z
def qkP {D:Addr->Prop} {G:Gp} {p:Addr} {o:O} (hd:Dom D G) (hp:G p=none):rs D (gu G p o) p=some o:=by
 rw [jU λz=>hd p z hp,qy]
inductive Sl where
 |un|sh (d:PyData)|ow (ds:List PyData)|dc (kvs:List (Int×PyData))|on (dss:List (List PyData))|rg (d:PyData)
abbrev Rho:=List Sl
def Sl.d:Sl->Option PyData
 |.un=>none|.sh d=>some d|.ow ds=>some (.list ds)|.dc _=>none|.on dss=>some (.list (dss.map PyData.list))|.rg d=>some d
def vw (ρ:Rho) (i:Nat):Option PyData:=(ρ[i]?).bind Sl.d
def CV (fv:List Nat) (D:Addr->Prop) (G:Gp) (τ:St3) (ρ:Rho):Prop:=∀ i∈fv,∀ d,vw ρ i=some d->∃ t,τ[i]?=some (some t)/\Dq (rs D G) t d
theorem CV.up {fv:List Nat} {D:Addr->Prop} {G G':Gp} {τ:St3} {ρ:Rho} (h:CV fv D G τ ρ) (e:Ex G G'):CV fv D G' τ ρ:=λi hi d hd=>
 let ⟨t,a,b⟩:=h i hi d hd;⟨t,a,b.up (jV e)⟩
def CV.l {fv gv:List Nat} {D:Addr->Prop} {G:Gp} {τ:St3} {ρ:Rho} (h:CV (fv++gv) D G τ ρ):CV fv D G τ ρ:=λi hi=>h i (by simp [hi])
def CV.r {fv gv:List Nat} {D:Addr->Prop} {G:Gp} {τ:St3} {ρ:Rho} (h:CV (fv++gv) D G τ ρ):CV gv D G τ ρ:=λi hi=>h i (by simp [hi])
def WH:PyData->Bool
 |.none=>true|.bool _=>true|.int _=>true|.str _=>true|_=>false
def Nw (D:Addr->Prop) (G G':Gp) (x:T) (d:PyData):Prop:=WH d=true\/∃ p xs ds,x=.ref p/\d=.list ds/\G p=none/\G' p=some (.lst xs)/\Dqs (rs (λb=>D b\/b=p) G') xs ds
def Nw.back {D:Addr->Prop} {G0 G G':Gp} {x:T} {d:PyData} (h:Nw D G G' x d) (e:Ex G0 G):Nw D G0 G' x d:=by
 rcases h with h|⟨p,xs,ds,a,b,c,r⟩
 ·exact .inl h
 refine .inr ⟨p,xs,ds,a,b,?_,r⟩;cases z:G0 p with
 |none=>rfl
 |some o=>rw [e _ _ z] at c;cases c
structure PuE (t:TE3) where
 f:Rho->Option PyData
 fv:List Nat
 nw:Bool
 ok:∀ {D τ ρ G} {q:Q3} {d},CV fv D G τ ρ->Dom D G->f ρ=some d->(∀ x G',Ex G G'->Dq (rs D G') x d->(nw=true->Nw D G G' x d)->q x G')->t τ G q
structure PuC (t:TT3) where
 f:Rho->Option Bool
 fv:List Nat
 ok:∀ {D τ ρ G} {q:Bool->Gp->Prop} {k},CV fv D G τ ρ->Dom D G->f ρ=some k->(∀ G',Ex G G'->q k G')->t τ G q
structure PuA (t:TA3) where
 f:Rho->Option (List PyData)
 fv:List Nat
 n:Nat
 ln:∀ {ρ d},f ρ=some d->d.length=n
 ok:∀ {D τ ρ G} {q:List T->Gp->Prop} {d},CV fv D G τ ρ->Dom D G->f ρ=some d->(∀ x G',Ex G G'->Dqs (rs D G') x d->q x G')->t τ G q
structure PuO (t:TO3) where
 f:Rho->Option (Option Int)
 fv:List Nat
 ok:∀ {D τ ρ G} {q:Option Int->Gp->Prop} {k},CV fv D G τ ρ->Dom D G->f ρ=some k->(∀ G',Ex G G'->q k G')->t τ G q
structure PuI (t:TI3) where
 f:Rho->Option (List PyData)
 fv:List Nat
 /-- numbers alone -/
 nm:Bool
 ok:∀ {D τ ρ G} {r:List T->(Gp->Prop)->Gp->Prop} {ds},CV fv D G τ ρ->Dom D G->f ρ=some ds ->
  (∀ items stay G',Ex G G'->Dqs (rs D G') items ds->(∀ G'',(nm=true\/Ex (rs D G') G'')->stay G'')->(nm=true->∃ ns:List Int,ds=ns.map PyData.int)->r items stay G')->t τ G r
structure OpD (r:R3) where
 f:PyData->PyData->Option PyData
 nw:Bool
 ok:∀ {D G x y d e v} {q:Q3},Dq (rs D G) x d->Dq (rs D G) y e->Dom D G->f d e=some v->(∀ z G',Ex G G'->Dq (rs D G') z v->(nw=true->Nw D G G' z v)->q z G')->r x y G q
structure FnD (r:List T->Gp->Q3->Prop) where
 f:List PyData->Option PyData
 nw:Bool
 ok:∀ {D G xs ds v} {q:Q3},Dqs (rs D G) xs ds->Dom D G->f ds=some v->(∀ z G',Ex G G'->Dq (rs D G') z v->(nw=true->Nw D G G' z v)->q z G')->r xs G q
def bV (i:Nat):PuE (v3 i):=⟨λρ=>vw ρ i,[i],false,λhv hd hf k=>by
 obtain ⟨t,e,h⟩:=hv i (by simp) _ hf;unfold v3;rw [e];exact k t _ Ex.refl h (λz=>by cases z)⟩
def z9 (i:Int):PuE (c3 (.int i)):=⟨λ_=>some (.int i),[],false,λhv hd hf k=>by cases hf;exact k _ _ Ex.refl (.int i) (λz=>by cases z)⟩
def bBl (i:Bool):PuE (c3 (.bl i)):=⟨λ_=>some (.bool i),[],false,λhv hd hf k=>by cases hf;exact k _ _ Ex.refl (.bl i) (λz=>by cases z)⟩
def qdz (i:Str):PuE (c3 (.str i)):=⟨λ_=>some (.str i),[],false,λhv hd hf k=>by cases hf;exact k _ _ Ex.refl (.str i) (λz=>by cases z)⟩
def bO {r:R3} {ta tb:TE3} (R:OpD r) (a:PuE ta) (b:PuE tb):PuE (o3 r ta tb):=
 ⟨λρ=>(a.f ρ).bind λx=>(b.f ρ).bind λy=>R.f x y,a.fv++b.fv,R.nw,λhv hd hf k=>by
  obtain ⟨x,e1,hf⟩:=obb hf;obtain ⟨y,e2,hf⟩:=obb hf;exact a.ok hv.l hd e1 λx' G1 E1 D1 _=>b.ok (hv.r.up E1) (hd.up E1) e2 λy' G2 E2 D2 _=>R.ok (D1.up (jV E2)) D2 ((hd.up E1).up E2) hf λz G3 E3 D3 N3=>k z G3 ((E1.trans E2).trans E3) D3 λh=>(N3 h).back (E1.trans E2)⟩
def qM:PuA qk:=⟨λ_=>some [],[],0,(λh=>by cases h;rfl),λhv hd hf k=>by cases hf;exact k _ _ Ex.refl .nil⟩
def qj {ta:TE3} {tr:TA3} (a:PuE ta) (r:PuA tr):PuA (qf ta tr):=
 ⟨λρ=>(a.f ρ).bind λx=>(r.f ρ).bind λxs=>some (x::xs),a.fv++r.fv,r.n+1,(λhf=>by
  obtain ⟨x,e1,hf⟩:=obb hf;obtain ⟨xs,e2,hf⟩:=obb hf;cases hf;simp [r.ln e2]),λhv hd hf k=>by
  obtain ⟨x,e1,hf⟩:=obb hf;obtain ⟨xs,e2,hf⟩:=obb hf;cases hf;exact a.ok hv.l hd e1 λx' G1 E1 D1 _=>r.ok (hv.r.up E1) (hd.up E1) e2 λy' G2 E2 D2=>k _ G2 (E1.trans E2) (.cons (D1.up (jV E2)) D2)⟩
def few {n:Nat} (h:Tru (Nat.ble n 1000)):n<=sizeLine:=za2 (Nat.le_of_ble_eq_true h.h) (by rw [v7];omega)
def NX {t:TA3} (a:PuA t) (hn:Tru (Nat.ble a.n 1000)):PuE (jo t):=⟨λρ=>(a.f ρ).map .tuple,a.fv,false,λhv hd hf k=>by
 obtain ⟨xs,e1,rfl⟩:=za9 hf;exact a.ok hv hd e1 λx G1 E1 D1=>⟨by rw [D1.length,a.ln e1];exact few hn,k _ _ E1 (.tup D1) (λz=>by cases z)⟩⟩
def WK {D:Addr->Prop} {G:Gp} {p:Addr} {xs:List T} {ds:List PyData} (hp:G p=none) (h:Dqs (rs D G) xs ds):Nw D G (gu G p (.lst xs)) (.ref p) (.list ds):=
 .inr ⟨p,xs,ds,rfl,rfl,hp,qy,h.up λb o e=>by
  obtain ⟨n,e⟩:=qR e;have:b≠p:=by rintro rfl;rw [hp] at e;cases e
  rw [jU (by rintro (z|z);exact n z;exact this z),zj this];exact e⟩
def UI {D:Addr->Prop} {G:Gp} {p:Addr} {xs:List T} {ds:List PyData} (hd:Dom D G) (hp:G p=none) (h:Dqs (rs D G) xs ds):Dq (rs D (gu G p (.lst xs))) (.ref p) (.list ds):=
 .lst (qkP hd hp) (h.up (jV (zn hp)))
def MK {t:TA3} (a:PuA t) (hn:Tru (Nat.ble a.n 1000)):PuE (je t):=⟨λρ=>(a.f ρ).map .list,a.fv,true,λhv hd hf k=>by
 obtain ⟨xs,e1,rfl⟩:=za9 hf;exact a.ok hv hd e1 λx G1 E1 D1=>⟨by rw [D1.length,a.ln e1];exact few hn,λp hp=>k _ _ (E1.trans (zn hp)) (UI (hd.up E1) hp D1) λ_=>(WK hp D1).back E1⟩⟩
def zh {r:List T->Gp->Q3->Prop} {t:TA3} (R:FnD r) (a:PuA t):PuE (cb3 r t):=
 ⟨λρ=>(a.f ρ).bind R.f,a.fv,R.nw,λhv hd hf k=>by
  obtain ⟨x,e1,hf⟩:=obb hf;exact a.ok hv hd e1 λx' G1 E1 D1=>R.ok D1 (hd.up E1) hf λz G3 E3 D3 N3=>k z G3 (E1.trans E3) D3 λh=>(N3 h).back E1⟩
def asB:PyData->Option Bool
 |.bool b=>some b
 |_=>none
def asI:PyData->Option Int
 |.int b=>some b
 |_=>none
def qeR {d:PyData} {b:Bool} (h:asB d=some b):d=.bool b:=by cases d<;>simp [asB] at h;subst h;rfl
def ED {d:PyData} {b:Int} (h:asI d=some b):d=.int b:=by cases d<;>simp [asI] at h;subst h;rfl
def bTb {t:TE3} (a:PuE t):PuC (tb3 t):=⟨λρ=>(a.f ρ).bind asB,a.fv,λhv hd hf k=>by
 obtain ⟨x,e1,hf⟩:=obb hf;have:=qeR hf;subst this;exact a.ok hv hd e1 λx' G1 E1 D1 _=>by cases D1;exact k G1 E1⟩
def bOr {t u:TT3} (a:PuC t) (b:PuC u):PuC (or3 t u):=⟨λρ=>(a.f ρ).bind λk=>if k then some true else b.f ρ,a.fv++b.fv,λhv hd hf k=>by
 obtain ⟨x,e1,hf⟩:=obb hf;refine a.ok hv.l hd e1 λG1 E1=>?_;cases x with
 |false=>exact b.ok (hv.r.up E1) (hd.up E1) hf λG2 E2=>k G2 (E1.trans E2)
 |true=>cases hf;exact k G1 E1⟩
def qmO {t:TT3} (a:PuC t):PuC (YN t):=⟨λρ=>(a.f ρ).map (! ·),a.fv,λhv hd hf k=>by
 obtain ⟨x,e1,hf⟩:=za9 hf;subst hf;exact a.ok hv hd e1 λG1 E1=>k G1 E1⟩
def bTt:PuC tt3:=⟨λ_=>some true,[],λhv hd hf k=>by cases hf;exact k _ Ex.refl⟩
def qoB {ta tb:TE3} (a:PuE ta) (b:PuE tb):PuE (UG ta tb):=⟨λρ=>((a.f ρ).bind asB).bind λk=>if k then some (.bool true) else b.f ρ,a.fv++b.fv,false,λhv hd hf k=>by
 obtain ⟨x,e1,hf⟩:=obb hf;obtain ⟨y,e1,e2⟩:=obb e1;have:=qeR e2;subst this;refine a.ok hv.l hd e1 λx' G1 E1 D1 _=>?_;cases D1;cases x with
 |false=>exact b.ok (hv.r.up E1) (hd.up E1) hf λz G2 E2 D2 _=>k z G2 (E1.trans E2) D2 (λz=>by cases z)
 |true=>cases hf;exact k _ G1 E1 (.bl true) (λz=>by cases z)⟩
def qoe {ta:TE3} (a:PuE ta):PuE (u3 VV ta):=⟨λρ=>((a.f ρ).bind asI).map λi=>.int (-i),a.fv,false,λhv hd hf k=>by
 obtain ⟨x,e1,hf⟩:=za9 hf;obtain ⟨y,e1,e2⟩:=obb e1;have:=ED e2;subst this;subst hf;refine a.ok hv hd e1 λx' G1 E1 D1 _=>?_;cases D1;exact k _ G1 E1 (.int _) (λz=>by cases z)⟩
def bNp:PuO np3:=⟨λ_=>some none,[],λhv hd hf k=>by cases hf;exact k _ Ex.refl⟩
def bSp {t:TE3} (a:PuE t):PuO (sp3 t):=⟨λρ=>((a.f ρ).bind asI).map some,a.fv,λhv hd hf k=>by
 obtain ⟨x,e1,hf⟩:=za9 hf;obtain ⟨y,e1,e2⟩:=obb e1;have:=ED e2;subst this;subst hf;refine a.ok hv hd e1 λx' G1 E1 D1 _=>?_;cases D1;exact k G1 E1⟩
def Dqs.cut {G:Gp} {xs:List T} {ds:List PyData} (h:Dqs G xs ds) (lo hi:Option Int):Dqs G (JZ xs lo hi) (JZ ds lo hi):=by
 unfold JZ;rw [h.length];exact (h.drop _).take _
def slD (d:PyData) (lo hi:Option Int):Option PyData:=match d with
 |.tuple xs=>cif (HT.sIx xs.length 0 lo=0/\HT.sIx xs.length xs.length hi=xs.length) none (some (.tuple (JZ xs lo hi)))
 |.list xs=>some (.list (JZ xs lo hi))
 |_=>none
def bSl {te:TE3} {tl th:TO3} (a:PuE te) (l:PuO tl) (h:PuO th):PuE (VO te tl th):=⟨λρ=>(a.f ρ).bind λd=>(l.f ρ).bind λlo=>(h.f ρ).bind λhi=>slD d lo hi,a.fv++(l.fv++h.fv),false,λhv hd hf k=>by
 obtain ⟨d,e1,hf⟩:=obb hf;obtain ⟨lo,e2,hf⟩:=obb hf;obtain ⟨hi,e3,hf⟩:=obb hf;refine a.ok hv.l hd e1 λx' G1 E1 D1 _=>l.ok (hv.r.l.up E1) (hd.up E1) e2 λG2 E2=>h.ok (hv.r.r.up (E1.trans E2)) (hd.up (E1.trans E2)) e3 λG3 E3=>?_;have E:=(E1.trans E2).trans E3;have D3:=(D1.up (jV E2)).up (jV E3);unfold slD at hf;cases D3 with
 |tup hs=>
  simp only [cif] at hf;split at hf
  ·cases hf
  ·rename_i n;cases hf;exact ⟨by rw [hs.length];exact n,k _ _ E (.tup (hs.cut _ _)) (λz=>by cases z)⟩
 |lst g hs=>
  simp only at hf;cases hf;simp only [sl3,qL (qR g).2];intro p hp;exact k _ _ (E.trans (zn hp)) (UI (hd.up E) hp (hs.cut _ _)) (λz=>by cases z)
 |_=>simp at hf⟩
def D8:List PyData->Option (List Int)
 |[]=>some []
 |.int i::r=>(D8 r).map (i::·)
 |_=>none
def qbu (ns:List Int):D8 (ns.map PyData.int)=some ns:=by
 induction ns with
 |nil=>rfl
 |cons n r ih=>simp [D8,ih]
theorem qaa:∀ {xs:List PyData} {ns:List Int},D8 xs=some ns->xs=ns.map PyData.int
 |[],_,h=>by simp [D8] at h;subst h;rfl
 |.int i::r,ns,h=>by
  simp only [D8] at h;obtain ⟨ms,e,rfl⟩:=za9 h;rw [qaa e];rfl
 |.none::r,ns,h=>by simp [D8] at h
 |.bool _::r,ns,h=>by simp [D8] at h
 |.str _::r,ns,h=>by simp [D8] at h
 |.list _::r,ns,h=>by simp [D8] at h
 |.tuple _::r,ns,h=>by simp [D8] at h
 |.dict _::r,ns,h=>by simp [D8] at h
def qcr (d:PyData):Option PyData:=match d with
 |.list ds=>(D8 ds).bind λns=>cif (ns.length<4000) (some (.int (C0 ns))) none
 |_=>none
def qnF {te:TE3} (a:PuE te):PuE (qhG te):=⟨λρ=>(a.f ρ).bind qcr,a.fv,false,λhv hd hf k=>by
 obtain ⟨d,e1,hf⟩:=obb hf;refine a.ok hv hd e1 λx' G1 E1 D1 _=>?_;unfold qcr at hf;cases D1 with
 |lst g hs=>
  simp only at hf;obtain ⟨ns,en,hf⟩:=obb hf;unfold cif at hf;split at hf
  ·rename_i hl;cases hf;have:=qaa en;subst this;have:=hs.ints;subst this;simp only [qL (qR g).2,XX];exact ⟨hl,k _ _ E1 (.int _) (λz=>by cases z)⟩
  ·cases hf
 |_=>simp at hf⟩
def opI (g:Int->Int->Int):OpD (iI g):=⟨λd e=>match d,e with|.int i,.int j=>some (.int (g i j))|_,_=>none,false,λ{D G x y d e v q} hx hy hd hf k=>by
 cases hx<;>try (simp at hf;done)
 cases hy<;>try (simp at hf;done)
 cases hf;exact k _ _ Ex.refl (.int _) (λz=>by cases z)⟩
def cI (C:Int->Int->Prop) (g:Int->Int->Int) (d e:PyData):Option PyData:=match d,e with|.int i,.int j=>cif (C i j) (some (.int (g i j))) none|_,_=>none
def opC (C:Int->Int->Prop) (g:Int->Int->Int):OpD (iC C g):=⟨cI C g,false,λ{D G x y d e v q} hx hy hd hf k=>by
 unfold cI at hf;cases hx<;>try (simp at hf;done)
 cases hy<;>try (simp at hf;done)
 simp only [cif] at hf;split at hf
 ·rename_i c;cases hf;exact ⟨c,k _ _ Ex.refl (.int _) (λz=>by cases z)⟩
 ·cases hf⟩
def opB (g:Int->Int->Bool):OpD (iB g):=⟨λd e=>match d,e with|.int i,.int j=>some (.bool (g i j))|_,_=>none,false,λ{D G x y d e v q} hx hy hd hf k=>by
 cases hx<;>try (simp at hf;done)
 cases hy<;>try (simp at hf;done)
 cases hf;exact k _ _ Ex.refl (.bl _) (λz=>by cases z)⟩
def qiM:PyData->PyData->Option Bool
 |.none,.none=>some true|.none,.int _=>some false|.int _,.none=>some false|.none,.bool _=>some false|.bool _,.none=>some false|.none,.str _=>some false|.str _,.none=>some false
 |.int i,.int j=>some (decide (i=j))|.bool i,.bool j=>some (decide (i=j))|.str i,.str j=>some (decide (i=j))
 |.int _,.str _=>some false|.str _,.int _=>some false|.bool _,.str _=>some false|.str _,.bool _=>some false
 |_,_=>none
def qaX {G:Gp} {x y:T} {d e:PyData} (hx:Dq G x d) (hy:Dq G y e):zg x y=qiM d e:=by
 cases hx<;>cases hy<;>rfl
def eqD (neg:Bool) (d e:PyData):Option PyData:=match qiM d e with
 |some k=>some (.bool (if neg then !k else k))
 |none=>cif (dpt d<=40/\dpt d≠0) ((jS d e).map λb=>.bool (if neg then !b else b)) none
def qaK (neg:Bool):OpD (zt neg):=⟨eqD neg,false,λ{D G x y d e v q} hx hy hd hf k=>by
 unfold zt;rw [qaX hx hy];unfold eqD at hf;cases h:qiM d e with
 |some b=>rw [h] at hf;cases hf;exact k _ _ Ex.refl (.bl _) (λz=>by cases z)
 |none=>
  rw [h] at hf;simp only [cif] at hf ⊢;split at hf
  ·rename_i c;obtain ⟨b,e1,rfl⟩:=za9 hf;exact ⟨d,e,b,(hx.up YH).dp,(hy.up YH).dp,e1,c.1,c.2,k _ _ Ex.refl (.bl _) (λz=>by cases z)⟩
  ·cases hf⟩
def ixD (d e:PyData):Option PyData:=match d,e with
 |.tuple xs,.int i=>atI xs i
 |.list xs,.int i=>atI xs i
 |_,_=>none
theorem Dqs.atI {G:Gp} {xs:List T} {ds:List PyData} {i:Int} {d:PyData} (h:Dqs G xs ds) (e:L2.atI ds i=some d):∃ x,L2.atI xs i=some x/\Dq G x d:=by
 unfold L2.atI at e ⊢;rw [h.length];obtain ⟨j,e1,e2⟩:=obb e;obtain ⟨x,hx,r⟩:=h.get e2;exact ⟨x,by rw [e1];exact hx,r⟩
def LA:OpD ix3:=⟨ixD,false,λ{D G x y d e v q} hx hy hd hf k=>by
 unfold ixD at hf;cases hx with
 |tup hs=>
  cases hy<;>try (simp at hf;done)
  obtain ⟨x,e1,r⟩:=hs.atI hf;simp only [ix3,e1];exact k _ _ Ex.refl r (λz=>by cases z)
 |lst g hs=>
  cases hy<;>try (simp at hf;done)
  obtain ⟨x,e1,r⟩:=hs.atI hf;simp only [ix3,qL (qR g).2,e1];exact k _ _ Ex.refl r (λz=>by cases z)
 |_=>simp at hf⟩
def qlV (d e:PyData):Option PyData:=match d,e with
 |.tuple xs,.tuple ys=>cif (xs≠[]/\xs.length+ys.length<=sizeLine) (some (.tuple (xs++ys))) none
 |.list xs,.list ys=>cif (xs.length+ys.length<=sizeLine) (some (.list (xs++ys))) none
 |.int i,.int j=>some (.int (i+j))
 |_,_=>none
def DK:OpD zB:=⟨qlV,false,λ{D G x y d e v q} hx hy hd hf k=>by
  unfold qlV at hf;cases hx with
  | int i => cases hy <;> try (simp at hf;done)
             cases hf;exact k _ _ Ex.refl (.int _) (λz=>by cases z)
  |tup hs=>
    cases hy<;>try (simp at hf;done)
    rename_i hs2;simp only [cif] at hf;split at hf
    · rename_i c;cases hf;refine ⟨?_,by rw [hs.length,hs2.length];exact c.2,k _ _ Ex.refl (.tup (hs.append hs2)) (λz=>by cases z)⟩;rintro rfl;cases hs;exact c.1 rfl
    · cases hf
  |lst g hs=>
    cases hy<;>try (simp at hf;done)
    rename_i g2 hs2;simp only [cif] at hf;split at hf
    · rename_i c;cases hf;simp only [zB,(qR g).2,(qR g2).2];exact ⟨by rw [hs.length,hs2.length];exact c,λp hp=>k _ _ (zn hp) (UI hd hp (hs.append hs2)) (λz=>by cases z)⟩
    · cases hf
  |_=>simp at hf⟩
def qiT (d e:PyData):Option PyData:=match d,e with
 |.list xs,.list ys=>cif (xs.length+ys.length<=sizeLine) (some (.list (xs++ys))) none
 |_,_=>none
def qcQ:OpD zB:=⟨qiT,true,λ{D G x y d e v q} hx hy hd hf k=>by
 unfold qiT at hf;cases hx with
 |lst g hs=>
  cases hy<;>try (simp at hf;done)
  rename_i g2 hs2;simp only [cif] at hf;split at hf
  ·rename_i c;cases hf;simp only [zB,(qR g).2,(qR g2).2];exact ⟨by rw [hs.length,hs2.length];exact c,λp hp=>k _ _ (zn hp) (UI hd hp (hs.append hs2)) λ_=>WK hp (hs.append hs2)⟩
  ·cases hf
 |_=>simp at hf⟩
def qnT:List PyData->Option PyData
 |[.tuple xs]=>some (.int xs.length)
 |[.list xs]=>some (.int xs.length)
 |_=>none
def qfv:FnD jC:=⟨qnT,false,λ{D G xs ds v q} hx hd hf k=>by
 unfold qnT at hf;split at hf
 ·cases hx with
  |cons a b=>cases b;cases a;rename_i hs;cases hf;simp only [jC];rw [hs.length];exact k _ _ Ex.refl (.int _) (λz=>by cases z)
 ·cases hx with
  |cons a b=>cases b;cases a;rename_i g hs;cases hf;simp only [jC,qL (qR g).2];rw [hs.length];exact k _ _ Ex.refl (.int _) (λz=>by cases z)
 ·cases hf⟩
def qnY:List PyData->Option PyData
 |[.tuple xs]=>some (.tuple xs)
 |[.list xs]=>some (.tuple xs)
 |_=>none
def qn1:FnD qV:=⟨qnY,false,λ{D G xs ds v q} hx hd hf k=>by
 unfold qnY at hf;split at hf
 ·cases hx with
  |cons a b=>cases b;cases a;rename_i hs;cases hf;exact k _ _ Ex.refl (.tup hs) (λz=>by cases z)
 ·cases hx with
  |cons a b=>cases b;cases a;rename_i g hs;cases hf;simp only [qV,qL (qR g).2];exact k _ _ Ex.refl (.tup hs) (λz=>by cases z)
 ·cases hf⟩
def qoa:List PyData->Option PyData
 |[.tuple xs]=>some (.list xs)
 |[.list xs]=>some (.list xs)
 |_=>none
def qoS:FnD jb:=⟨qoa,true,λ{D G xs ds v q} hx hd hf k=>by
 unfold qoa at hf;split at hf
 ·cases hx with
  |cons a b=>cases b;cases a;rename_i hs;cases hf;exact λp hp=>k _ _ (zn hp) (UI hd hp hs) λ_=>WK hp hs
 ·cases hx with
  |cons a b=>cases b;cases a;rename_i g hs;cases hf;simp only [jb,qL (qR g).2];exact λp hp=>k _ _ (zn hp) (UI hd hp hs) λ_=>WK hp hs
 ·cases hf⟩
def PSp (F:List PyData->Option PyData) (fr:Bool):Sp3:=λts G q=>∃ (D:Addr->Prop) (ds:List PyData) (d:PyData),Dqs (rs D G) ts ds/\Dom D G/\F ds=some d/\∀ x G',Ex G G'->Dq (rs D G') x d->(fr=true->Nw D G G' x d)->q x G'
def DE (F:List PyData->Option PyData) (fr:Bool):FnD (PSp F fr):=⟨F,fr,λ{D G xs ds v q} hx hd hf k=>⟨D,ds,v,hx,hd,hf,k⟩⟩
def qaR:PyData->Option (List PyData)
 |.tuple xs=>some xs
 |.list xs=>some xs
 |_=>none
def qdC {t:TE3} (a:PuE t):PuI (VI t):=⟨λρ=>(a.f ρ).bind qaR,a.fv,false,λ{D τ ρ G r ds} hv hd hf k=>by
 obtain ⟨d,e1,hf⟩:=obb hf;refine a.ok hv hd e1 λx G1 E1 D1 _=>?_;unfold qaR at hf;cases D1 with
 |tup hs=>cases hf;exact k _ _ _ E1 hs (λ_ _=>trivial) (λz=>by cases z)
 |lst g hs=>
  cases hf;simp only [qL (qR g).2];refine k _ _ _ E1 hs (λG2 h=>?_) (λz=>by cases z);rcases h with h|h
  ·cases h
  ·exact qL (h _ _ g)
 |_=>simp at hf⟩
def jQ (lo:Int) (n:Nat):List Int:=(List.range n).map λ(i:Nat)=>lo+(i:Int)
def M8 (lo:Int) (n:Nat):qaB lo n=(jQ lo n).map T.int:=by simp [qaB,jQ,map_map,Function.comp_def]
def qce:List PyData->Option (List PyData)
 |[.int j]=>cif (-(2 ^ 62)<=j/\j<2 ^ 62) (some ((jQ 0 j.toNat).map PyData.int)) none
 |[.int i,.int j]=>cif (-(2 ^ 62)<=i/\i<2 ^ 62/\-(2 ^ 62)<=j/\j<2 ^ 62) (some ((jQ i (j-i).toNat).map PyData.int)) none
 |_=>none
def TZ {t:TA3} (a:PuA t):PuI (jf t):=⟨λρ=>(a.f ρ).bind qce,a.fv,true,λ{D τ ρ G r ds} hv hd hf k=>by
 obtain ⟨d,e1,hf⟩:=obb hf;refine a.ok hv hd e1 λx G1 E1 D1=>?_;unfold qce at hf;split at hf
 ·unfold cif at hf;split at hf
  ·rename_i c;cases hf;cases D1 with
   |cons a b=>cases b;cases a;simp only;rw [M8];exact ⟨c,k _ _ _ E1 (Dqs.ofInts _) (λ_ _=>trivial) λ_=>⟨_,rfl⟩⟩
  ·cases hf
 ·unfold cif at hf;split at hf
  ·rename_i c;cases hf;cases D1 with
   |cons a b=>cases b with
    |cons b c'=>cases c';cases a;cases b;simp only;rw [M8];exact ⟨c,k _ _ _ E1 (Dqs.ofInts _) (λ_ _=>trivial) λ_=>⟨_,rfl⟩⟩
  ·cases hf
 ·cases hf⟩
def qpd (us vs:List PyData):List PyData:=(us.zip vs).map λp=>.tuple [p.1,p.2]
theorem Dqs.zip {G:Gp}:∀ {xs:List T} {ds:List PyData} {ys:List T} {es:List PyData},Dqs G xs ds->Dqs G ys es->Dqs G (qbs xs ys) (qpd ds es)
 |_,_,_,_,.nil,_=>by simp [qbs,qpd];exact .nil
 |_,_,_,_,.cons _ _,.nil=>by simp [qbs,qpd];exact .nil
 |_,_,_,_,.cons a b,.cons c d=>.cons (.tup (.cons a (.cons c .nil))) (Dqs.zip b d)
def qeM {G:Gp} {x:T} {d:PyData} {ds:List PyData} (h:Dq G x d) (e:qaR d=some ds):∃ us,jM G x=some us/\Dqs G us ds:=by
 unfold qaR at e;cases h with
 |tup hs=>cases e;exact ⟨_,rfl,hs⟩
 |lst g hs=>cases e;exact ⟨_,qL g,hs⟩
 |_=>simp at e
def qf0 {G G':Gp} {x:T} {us:List T} (e:Ex G G') (h:jM G x=some us):jM G' x=some us:=by
 cases x with
 |tup xs=>exact h
 |ref p=>exact e.getL h
 |_=>cases h
def enD (k:Nat):List PyData->List PyData
 |[]=>[]
 |x::r=>.tuple [.int (k:Int),x]::enD (k+1) r
theorem Dqs.enum {G:Gp}:∀ {xs:List T} {ds:List PyData} (k:Nat),Dqs G xs ds->Dqs G (QQ k xs) (enD k ds)
 |_,_,_,.nil=>.nil
 |_,_,k,.cons a b=>.cons (.tup (.cons (.int _) (.cons a .nil))) (Dqs.enum (k+1) b)
def qdM {t:TA3} (a:PuA t):PuI (EO t):=⟨λρ=>(a.f ρ).bind λds=>match ds with|[d]=>(qaR d).map λus=>enD 0 us|_=>none,a.fv,false,λ{D τ ρ G r ds} hv hd hf k=>by
 obtain ⟨d,e1,hf⟩:=obb hf;refine a.ok hv hd e1 λx G1 E1 D1=>?_;split at hf
 ·obtain ⟨us,e2,rfl⟩:=za9 hf;cases D1 with
  |cons a b=>
   cases b;obtain ⟨us',h1,h2⟩:=qeM a e2;simp only [qf0 YH h1];refine k _ _ _ E1 (h2.enum 0) (λG2 h=>?_) (λz=>by cases z);rcases h with h|h
   ·cases h
   ·exact qf0 h h1
 ·cases hf⟩
inductive Bd (H:Gp):List (Nat×T)->List (Nat×PyData)->Prop
 |nil:Bd H [] []
 |cons {i:Nat} {x:T} {d:PyData} {ts:List (Nat×T)} {bs:List (Nat×PyData)}:Dq H x d->Bd H ts bs->Bd H ((i,x)::ts) ((i,d)::bs)
theorem Bd.append {H:Gp}:∀ {ts:List (Nat×T)} {bs:List (Nat×PyData)} {us:List (Nat×T)} {cs:List (Nat×PyData)},Bd H ts bs->Bd H us cs->Bd H (ts++us) (bs++cs)
 |_,_,_,_,.nil,h=>h
 |_,_,_,_,.cons a b,h=>.cons a (Bd.append b h)
theorem Bd.up {H H':Gp} (e:Ex H H'):∀ {ts:List (Nat×T)} {bs:List (Nat×PyData)},Bd H ts bs->Bd H' ts bs
 |_,_,.nil=>.nil
 |_,_,.cons a b=>.cons (a.up e) (Bd.up e b)
def sets:St3->List (Nat×T)->St3
 |τ,[]=>τ
 |τ,p::r=>sets (τ.set p.1 (some p.2)) r
def QP:Rho->List (Nat×PyData)->Rho
 |ρ,[]=>ρ
 |ρ,p::r=>QP (ρ.set p.1 (.sh p.2)) r
theorem NQ:∀ (τ:St3) (a b:List (Nat×T)),sets τ (a++b)=sets (sets τ a) b
 |τ,[],b=>rfl
 |τ,p::a,b=>by simp only [cons_append,sets];exact NQ _ a b
structure PuG (g:TG3) where
 f:PyData->Option (List (Nat×PyData))
 tg:List Nat
 at':∀ {d bs},f d=some bs->∀ p∈bs,p.1∈tg
 ok:∀ {H x d bs},Dq H x d->f d=some bs->∃ ts,Bd H ts bs/\∀ τ G (q:St3->Gp->Prop),q (sets τ ts) G->g x τ G q
structure PuGs (g:LP) where
 f:List PyData->Option (List (Nat×PyData))
 tg:List Nat
 at':∀ {d bs},f d=some bs->∀ p∈bs,p.1∈tg
 ok:∀ {H x d bs},Dqs H x d->f d=some bs->∃ ts,Bd H ts bs/\∀ τ G (q:St3->Gp->Prop),q (sets τ ts) G->g x τ G q
def gN (i:Nat):PuG (gn3 i):=⟨λd=>some [(i,d)],[i],λh p hp=>by cases h;simp at hp;subst hp;simp,λhx h=>by cases h;exact ⟨_,.cons hx .nil,λτ G q hq=>hq⟩⟩
def MC:PuGs qO:=⟨λds=>match ds with|[]=>some []|_=>none,[],(λh p hp=>by split at h;cases h;cases hp;cases h),λhx h=>by
 split at h
 ·cases h;cases hx;exact ⟨[],.nil,λτ G q hq=>hq⟩
 ·cases h⟩
def jg {t:TG3} {u:LP} (a:PuG t) (b:PuGs u):PuGs (qo t u):=⟨λds=>match ds with|d::r=>(a.f d).bind λx=>(b.f r).map λy=>x++y|[]=>none,a.tg++b.tg,(λh p hp=>by
 split at h
 ·obtain ⟨x,e1,h⟩:=obb h;obtain ⟨y,e2,rfl⟩:=za9 h;rcases List.mem_append.mp hp with z|z
  ·exact List.mem_append.mpr (.inl (a.at' e1 p z))
  ·exact List.mem_append.mpr (.inr (b.at' e2 p z))
 ·cases h),λhx h=>by
 split at h
 ·obtain ⟨x,e1,h⟩:=obb h;obtain ⟨y,e2,rfl⟩:=za9 h;cases hx with
  |cons hx hr=>
   obtain ⟨ts,b1,k1⟩:=a.ok hx e1;obtain ⟨us,b2,k2⟩:=b.ok hr e2;refine ⟨ts++us,b1.append b2,λτ G q hq=>k1 τ G _ (k2 _ G q ?_)⟩;rw [← NQ];exact hq
 ·cases h⟩
def LW {u:LP} (n:Nat) (b:PuGs u):PuG (qK n u):=⟨λd=>match d with|.tuple ds=>if ds.length=n then b.f ds else none|_=>none,b.tg,(λh p hp=>by
 split at h
 ·split at h
  ·exact b.at' h p hp
  ·cases h
 ·cases h),λhx h=>by
 split at h
 ·split at h
  ·rename_i c;cases hx with
   |tup hs=>
    obtain ⟨ts,b1,k1⟩:=b.ok hs h;exact ⟨ts,b1,λτ G q hq=>⟨by rw [hs.length];exact c,k1 τ G q hq⟩⟩
  ·cases h
 ·cases h⟩
structure VA (D:Addr->Prop) (G:Gp) (τ:St3) (ρ:Rho):Prop where
 len:ρ.length=τ.length
 vw:∀ i d,vw ρ i=some d->∃ t,τ[i]?=some (some t)/\Dq (rs D G) t d
def VA.view {D:Addr->Prop} {G:Gp} {τ:St3} {ρ:Rho} (h:VA D G τ ρ) (fv:List Nat):CV fv D G τ ρ:=λi _ d e=>h.vw i d e
def VA.upx {D:Addr->Prop} {G G':Gp} {τ:St3} {ρ:Rho} (h:VA D G τ ρ) (e:Ex (rs D G) (rs D G')):VA D G' τ ρ:=⟨h.len,λi d hd=>let ⟨t,a,b⟩:=h.vw i d hd;⟨t,a,b.up e⟩⟩
def VA.up {D:Addr->Prop} {G G':Gp} {τ:St3} {ρ:Rho} (h:VA D G τ ρ) (e:Ex G G'):VA D G' τ ρ:=h.upx (jV e)
def qgq {ρ:Rho} {i j:Nat} {s:Sl}:vw (ρ.set i s) j=if i=j then (if i<ρ.length then s.d else none) else vw ρ j:=by
 unfold vw;rw [getElem?_set];split
 ·subst j;split
  ·rfl
  ·rfl
 ·rfl
theorem VA.set {D:Addr->Prop} {G:Gp} {τ:St3} {ρ:Rho} (h:VA D G τ ρ) {i:Nat} {x:T} {d:PyData} (hx:Dq (rs D G) x d):VA D G (τ.set i (some x)) (ρ.set i (.sh d)):=by
 refine ⟨by simp [h.len],λj e he=>?_⟩;rw [qgq] at he;split at he
 ·subst j;split at he
  ·rename_i l;cases he;refine ⟨x,?_,hx⟩;rw [getElem?_set,if_pos rfl,if_pos (by rw [← h.len];exact l)]
  ·cases he
 ·rename_i n;obtain ⟨t,a,b⟩:=h.vw j e he;exact ⟨t,by rw [getElem?_set,if_neg n];exact a,b⟩
theorem VA.sets {D:Addr->Prop} {G:Gp}:∀ {ts:List (Nat×T)} {bs:List (Nat×PyData)} {τ:St3} {ρ:Rho},VA D G τ ρ->Bd (rs D G) ts bs->VA D G (Pu.sets τ ts) (QP ρ bs)
 |_,_,_,_,h,.nil=>h
 |_,_,_,_,h,.cons a b=>by unfold Pu.sets QP;exact VA.sets (h.set a) b
theorem VA.keep {D:Addr->Prop} {G:Gp} {ρ:Rho}:∀ {ts:List (Nat×T)} {τ:St3},VA D G τ ρ->(∀ p∈ts,Pu.vw ρ p.1=none)->VA D G (Pu.sets τ ts) ρ
 |[],_,h,_=>h
 |p::r,τ,h,hn=>VA.keep (ts:=r) ⟨by rw [List.length_set];exact h.len,λj d hd=>by
   have:p.1≠j:=by rintro rfl;rw [hn p (by simp)] at hd;cases hd
   obtain ⟨t,a,b⟩:=h.vw j d hd;exact ⟨t,by rw [getElem?_set,if_neg this];exact a,b⟩⟩ λq hq=>hn q (by simp [hq])
def WL (m:List (Option Nat)) (ρ:Rho):Rho:=m.map λo=>match o with|some j=>(match vw ρ j with|some d=>.sh d|none=>.un)|none=>.un
theorem VA.cap {m:List (Option Nat)} {D:Addr->Prop} {G:Gp} {τ:St3} {ρ:Rho} (h:CV (m.filterMap id) D G τ ρ):VA D G (L3.cap m τ) (WL m ρ):=by
 refine ⟨by simp [WL,L3.cap],λi d hd=>?_⟩;unfold Pu.vw WL at hd;rw [getElem?_map] at hd;cases e:m[i]? with
 |none=>rw [e] at hd;cases hd
 |some o=>
  rw [e] at hd;cases o with
  |none=>cases hd
  |some j=>
   simp only [Option.map_some,Option.bind_some] at hd;cases e2:Pu.vw ρ j with
   |none=>rw [e2] at hd;cases hd
   |some d'=>
    rw [e2] at hd;have hd':d'=d:=by simpa [Sl.d] using hd
    subst hd';obtain ⟨t,a,b⟩:=h j (List.mem_filterMap.mpr ⟨some j,za1 e,rfl⟩) d' e2;refine ⟨t,?_,b⟩;unfold L3.cap;rw [getElem?_map,e];simp [a]
def DX {m:List (Option Nat)} {ρ:Rho} {i:Nat} (h:m[i]?=some none):vw (WL m ρ) i=none:=by
 unfold vw WL;rw [getElem?_map,h];rfl
def lcP (h:PyData->Option (Option PyData)):List PyData->Option (List PyData)
 |[]=>some []
 |d::r=>(h d).bind λo=>(lcP h r).bind λys=>some (match o with|some y=>y::ys|none=>ys)
def lcH (gf:PyData->Option (List (Nat×PyData))) (cf:Rho->Option Bool) (ef:Rho->Option PyData) (ρ:Rho) (d:PyData):Option (Option PyData):=
 (gf d).bind λbs=>(cf (QP ρ bs)).bind λk=>if k then (ef (QP ρ bs)).map some else some none
def YE {h:PyData->Option (Option PyData)} {α:Type} {g:α->PyData} {k:α->PyData} {xs:List α} (hh:∀ a∈xs,h (g a)=some (some (k a))):lcP h (xs.map g)=some (xs.map k):=by
 induction xs with
 |nil=>rfl
 |cons a r ih=>simp only [map_cons,lcP,hh a (by simp),Option.bind_some,ih λb hb=>hh b (by simp [hb])]
theorem qaD {H:Gp}:∀ {ts:List (Nat×T)} {bs:List (Nat×PyData)},Bd H ts bs->∀ p∈ts,∃ q∈bs,q.1=p.1
 |_,_,.nil,p,hp=>by cases hp
 |_,_,.cons a b,p,hp=>by
  rcases mem_cons.mp hp with rfl|hp
  ·exact ⟨_,za5,rfl⟩
  ·obtain ⟨q,hq,e⟩:=qaD b p hp;exact ⟨q,by simp [hq],e⟩
theorem qeN {stay:Gp->Prop} {g:TG3} {tif:TT3} {te:TE3} {q:Q3} (pg:PuG g) (pc:PuC tif) (pe:PuE te) {D:Addr->Prop} {ρ0:Rho} {G0:Gp} (hs:∀ G,Ex G0 G->stay G) (hm:∀ i∈pg.tg,vw ρ0 i=none) (fin:List PyData) (hfin:fin.length<=sizeLine)
  (k:∀ G ys,Ex G0 G->Dqs (rs D G) ys fin->∀ p,G p=none->q (.ref p) (gu G p (.lst ys))) :
  ∀ (ds:List PyData) (items ys:List T) (es fs:List PyData) (τ:St3) (G:Gp),Dqs (rs D G0) items ds->VA D G τ ρ0->Ex G0 G->Dom D G->Dqs (rs D G) ys es->lcP (lcH pg.f pc.f pe.f ρ0) ds=some fs->es++fs=fin->K5 stay g tif te q items ys τ G
 |_,_,ys,es,fs,τ,G,.nil,va,E,hd,hy,hf,hl=>by
  cases hf;rw [List.append_nil] at hl;subst hl;exact ⟨hs G E,k G ys E hy⟩
 |d::ds,x::items,ys,es,fs,τ,G,.cons hx hr,va,E,hd,hy,hf,hl=>by
  unfold lcP at hf;obtain ⟨o,e1,hf⟩:=obb hf;obtain ⟨QR,e2,hf⟩:=obb hf;unfold lcH at e1;obtain ⟨bs,e3,e1⟩:=obb e1;obtain ⟨c,e4,e1⟩:=obb e1;obtain ⟨ts,bd,kg⟩:=pg.ok (hx.up (jV E)) e3;refine ⟨hs G E,kg τ G _ ?_⟩;have va1:=va.sets bd;have va2:=va.keep (ts:=ts) λp hp=>by
   obtain ⟨q,hq,e⟩:=qaD bd p hp;rw [← e];exact hm _ (pg.at' e3 q hq)
  refine pc.ok (va1.view _) hd e4 λG1 E1=>?_;cases c with
  |true=>
   rw [if_pos rfl];rw [if_pos rfl] at e1;obtain ⟨y,e5,rfl⟩:=za9 e1;simp only [Option.some.injEq] at hf;subst hf;refine pe.ok ((va1.up E1).view _) (hd.up E1) e5 λz G2 E2 D2 _=>⟨?_,?_⟩
   ·rw [hy.length];rw [← hl] at hfin;simp at hfin;omega
   ·refine qeN pg pc pe hs hm fin hfin k ds items (ys++[z]) (es++[y]) QR _ G2 hr ((va2.up E1).up E2) (E.trans (E1.trans E2)) ((hd.up E1).up E2) (((hy.up (jV E1)).up (jV E2)).append (.cons D2 .nil)) e2 ?_;rw [← hl];simp
  |false=>
   rw [if_neg v6];simp at e1;subst e1;simp only [Option.some.injEq] at hf;subst hf;exact qeN pg pc pe hs hm fin hfin k ds items ys es QR _ G1 hr (va2.up E1) (E.trans E1) (hd.up E1) (hy.up (jV E1)) e2 hl
def lcF (pi:Rho->Option (List PyData)) (h:Rho->PyData->Option (Option PyData)) (m:List (Option Nat)) (ρ:Rho):Option PyData:=
 (pi ρ).bind λds=>(lcP (h (WL m ρ)) ds).bind λfs=>cif (fs.length<=sizeLine) (some (.list fs)) none
def bLc {wi:TI3} {g:TG3} {tif:TT3} {te:TE3} (pi:PuI wi) (pg:PuG g) (pc:PuC tif) (pe:PuE te) (m:List (Option Nat)) (hm:Tru (pg.tg.all λi=>m[i]?==some none)):PuE (lc3 wi g tif te m):=
 ⟨lcF pi.f (lcH pg.f pc.f pe.f) m,pi.fv++m.filterMap id,true,λ{D τ ρ G q d} hv hd hf k=>by
  unfold lcF at hf;obtain ⟨ds,e1,hf⟩:=obb hf;obtain ⟨fs,e2,hf⟩:=obb hf;unfold cif at hf;split at hf
  ·rename_i hl;cases hf;refine pi.ok hv.l hd e1 λitems stay G1 E1 D1 hs _=>?_;have va:=(VA.cap (m:=m) hv.r).up E1;refine qeN pg pc pe (D:=D) (ρ0:=WL m ρ) (G0:=G1) (λG2 E2=>hs G2 (.inr (YH.trans E2))) (λi hi=>DX ?_) fs hl (λG2 ys E2 D2 p hp=>?_) ds items [] [] fs _ G1 D1 va Ex.refl (hd.up E1) .nil e2 (by simp)
   ·have:=List.all_eq_true.mp hm.h i hi;simpa using this
   ·exact k _ _ ((E1.trans E2).trans (zn hp)) (UI ((hd.up E1).up E2) hp D2) λ_=>(WK hp D2).back (E1.trans E2)
  ·cases hf⟩
def E0 (p:Addr) (G G':Gp):Prop:=∀ b o,b≠p->G b=some o->G' b=some o
def E0.refl {p:Addr} {G:Gp}:E0 p G G:=λ_ _ _ e=>e
def E0.trans {p:Addr} {G G1 G2:Gp} (a:E0 p G G1) (b:E0 p G1 G2):E0 p G G2:=λx o n e=>b x o n (a x o n e)
def E0.of {p:Addr} {G G1:Gp} (a:Ex G G1):E0 p G G1:=λx o _ e=>a x o e
def E0.wr {p:Addr} {G:Gp} {o:O}:E0 p G (gu G p o):=λb ob n e=>by rw [zj n];exact e
theorem E0.rs {p:Addr} {D:Addr->Prop} {G G1:Gp} (a:E0 p G G1):Ex (rs (λb=>D b\/b=p) G) (rs (λb=>D b\/b=p) G1):=λb o h=>by
 obtain ⟨n,h⟩:=qR h;rw [jU n];exact a b o (λz=>n (.inr z)) h
def qjx {D:Addr->Prop} {G:Gp} {p:Addr} {o:O} (h:Dom D G):Dom D (gu G p o):=λb d z=>by
 by_cases e:b=p
 ·subst e;rw [qy] at z;cases z
 ·rw [zj e] at z;exact h b d z
theorem qhQ {p:Addr} {stay:Gp->Prop} {g:TG3} {tif:TT3} {te:TE3} {N:St3->Gp->Prop} (pg:PuG g) (pc:PuC tif) (pe:PuE te) {D:Addr->Prop} {ρ0:Rho} {G0:Gp} (hs:∀ G,Ex (rs (λb=>D b\/b=p) G0) G->stay G) (hm:∀ i∈pg.tg,vw ρ0 i=none) (fin:List PyData) (hfin:fin.length<=sizeLine)
  (k:∀ τ G ys,VA (λb=>D b\/b=p) G τ ρ0->E0 p G0 G->Dom (λb=>D b\/b=p) G->G p=some (.lst ys)->Dqs (rs (λb=>D b\/b=p) G) ys fin->N τ G) :
  ∀ (ds:List PyData) (items ys:List T) (es fs:List PyData) (τ:St3) (G:Gp),Dqs (rs (λb=>D b\/b=p) G0) items ds->VA (λb=>D b\/b=p) G τ ρ0->E0 p G0 G->Dom (λb=>D b\/b=p) G->G p=some (.lst ys)->Dqs (rs (λb=>D b\/b=p) G) ys es->lcP (lcH pg.f pc.f pe.f ρ0) ds=some fs->es++fs=fin->qiX p stay g tif te N items τ G
 |_,_,ys,es,fs,τ,G,.nil,va,E,hd,gp,hy,hf,hl=>by
  cases hf;rw [List.append_nil] at hl;subst hl;exact ⟨hs G (E.rs.trans YH),k τ G ys va E hd gp hy⟩
 |d::ds,x::items,ys,es,fs,τ,G,.cons hx hr,va,E,hd,gp,hy,hf,hl=>by
  unfold lcP at hf;obtain ⟨o,e1,hf⟩:=obb hf;obtain ⟨QR,e2,hf⟩:=obb hf;unfold lcH at e1;obtain ⟨bs,e3,e1⟩:=obb e1;obtain ⟨c,e4,e1⟩:=obb e1;obtain ⟨ts,bd,kg⟩:=pg.ok (hx.up E.rs) e3;refine ⟨hs G (E.rs.trans YH),kg τ G _ ?_⟩;have va1:=va.sets bd;have va2:=va.keep (ts:=ts) λp hp=>by
   obtain ⟨q,hq,e⟩:=qaD bd p hp;rw [← e];exact hm _ (pg.at' e3 q hq)
  refine pc.ok (va1.view _) hd e4 λG1 E1=>?_;cases c with
  |true=>
   rw [if_pos rfl];rw [if_pos rfl] at e1;obtain ⟨y,e5,rfl⟩:=za9 e1;simp only [Option.some.injEq] at hf;subst hf;refine pe.ok ((va1.up E1).view _) (hd.up E1) e5 λz G2 E2 D2 _=>?_;simp only [E2 _ _ (E1 _ _ gp)];have W:E0 p G2 (gu G2 p (.lst (ys++[z]))):=E0.wr;refine ⟨?_,?_⟩
   ·rw [hy.length];rw [← hl] at hfin;simp at hfin;omega
   ·refine qhQ pg pc pe hs hm fin hfin k ds items (ys++[z]) (es++[y]) QR _ _ hr (((va2.up E1).up E2).upx W.rs) ((E.trans (E0.of (E1.trans E2))).trans W) (qjx ((hd.up E1).up E2)) qy ((((hy.up (jV E1)).up (jV E2)).append (.cons D2 .nil)).up W.rs) e2 ?_;rw [← hl];simp
  |false=>
   rw [if_neg v6];simp at e1;subst e1;simp only [Option.some.injEq] at hf;subst hf;exact qhQ pg pc pe hs hm fin hfin k ds items ys es QR _ G1 hr (va2.up E1) (E.trans (E0.of E1)) (hd.up E1) (E1 _ _ gp) (hy.up (jV E1)) e2 hl
def qg4 (h:PyData->Option (Option (List PyData))):List PyData->Option (List PyData)
 |[]=>some []
 |d::r=>(h d).bind λo=>(qg4 h r).bind λys=>some (match o with|some y=>y++ys|none=>ys)
def qnx (gf:PyData->Option (List (Nat×PyData))) (cf:Rho->Option Bool) (it:Rho->Option (List PyData)) (h:Rho->PyData->Option (Option PyData)) (ρ:Rho) (d:PyData):Option (Option (List PyData)):=
 (gf d).bind λbs=>(cf (QP ρ bs)).bind λk=>if k then ((it (QP ρ bs)).bind λds=>lcP (h (QP ρ bs)) ds).map some else some none
theorem R5:∀ {bs:List (Nat×PyData)} {ρ:Rho} {i:Nat},(∀ p∈bs,p.1≠i)->vw (QP ρ bs) i=vw ρ i
 |[],_,_,_=>rfl
 |p::r,ρ,i,h=>by
  unfold QP;rw [R5 (λq hq=>h q (by simp [hq])),qgq,if_neg (h p (by simp))]
theorem M5:∀ (bs:List (Nat×PyData)) (ρ:Rho),(QP ρ bs).length=ρ.length
 |[],τ=>rfl
 |p::r,τ=>by unfold QP;rw [M5 r];simp
theorem qbD {p:Addr} {stay:Gp->Prop} {g g2:TG3} {tif tif2:TT3} {wi2:TI3} {te:TE3} {q:Q3} (pg:PuG g) (pc:PuC tif) (pi2:PuI wi2) (pg2:PuG g2) (pc2:PuC tif2) (pe:PuE te) {D:Addr->Prop} {ρ0:Rho} {G0:Gp} (hs:∀ G,Ex (rs (λb=>D b\/b=p) G0) G->stay G) (hm:∀ i∈pg.tg,vw ρ0 i=none) (hm2:∀ i∈pg2.tg,vw ρ0 i=none) (hdj:∀ i∈pg2.tg,i∉pg.tg) (fin:List PyData) (hfin:fin.length<=sizeLine)
  (k:∀ G ys,E0 p G0 G->G p=some (.lst ys)->Dqs (rs (λb=>D b\/b=p) G) ys fin->q (.ref p) G) :
  ∀ (ds:List PyData) (items ys:List T) (es fs:List PyData) (τ:St3) (G:Gp),Dqs (rs (λb=>D b\/b=p) G0) items ds->VA (λb=>D b\/b=p) G τ ρ0->E0 p G0 G->Dom (λb=>D b\/b=p) G->G p=some (.lst ys)->Dqs (rs (λb=>D b\/b=p) G) ys es->qg4 (qnx pg.f pc.f pi2.f (lcH pg2.f pc2.f pe.f) ρ0) ds=some fs->es++fs=fin->qbZ p stay g tif wi2 g2 tif2 te q items τ G
 |_,_,ys,es,fs,τ,G,.nil,va,E,hd,gp,hy,hf,hl=>by
  cases hf;rw [List.append_nil] at hl;subst hl;exact ⟨hs G (E.rs.trans YH),k G ys E gp hy⟩
 |d::ds,x::items,ys,es,fs,τ,G,.cons hx hr,va,E,hd,gp,hy,hf,hl=>by
  unfold qg4 at hf;obtain ⟨o,e1,hf⟩:=obb hf;obtain ⟨QR,e2,hf⟩:=obb hf;unfold qnx at e1;obtain ⟨bs,e3,e1⟩:=obb e1;obtain ⟨c,e4,e1⟩:=obb e1;obtain ⟨ts,bd,kg⟩:=pg.ok (hx.up E.rs) e3;refine ⟨hs G (E.rs.trans YH),kg τ G _ ?_⟩;have va1:=va.sets bd;have va2:=va.keep (ts:=ts) λp hp=>by
   obtain ⟨q,hq,e⟩:=qaD bd p hp;rw [← e];exact hm _ (pg.at' e3 q hq)
  refine pc.ok (va1.view _) hd e4 λG1 E1=>?_;cases c with
  |true=>
   rw [if_pos rfl];rw [if_pos rfl] at e1;obtain ⟨y,e5,rfl⟩:=za9 e1;obtain ⟨ds2,e6,e5⟩:=obb e5;simp only [Option.some.injEq] at hf;subst hf;refine pi2.ok ((va1.up E1).view _) (hd.up E1) e6 λitems2 stay2 G2 E2 D2 hs2 _=>?_;have l2:(es++y).length<=sizeLine:=by
    rw [← hl] at hfin;simp at hfin ⊢;omega
   refine qhQ pg2 pc2 pe (ρ0:=QP ρ0 bs) (G0:=G2) (λG3 E3=>hs2 G3 (.inr E3)) (λi hi=>?_) (es++y) l2 (λτ3 G3 zs va3 E3 hd3 gp3 hz=>?_) ds2 items2 ys es y _ G2 D2 ((va1.up E1).up E2) E0.refl ((hd.up E1).up E2) (E2 _ _ (E1 _ _ gp)) ((hy.up (jV E1)).up (jV E2)) e5 rfl
   ·rw [R5 λq hq e=>hdj i hi (by rw [← e];exact pg.at' e3 q hq)];exact hm2 i hi
   ·have E4:E0 p G G3:=(E0.of (E1.trans E2)).trans E3;have va4:VA (λb=>D b\/b=p) G3 τ3 ρ0:=⟨by rw [← va3.len,M5],λi d' hd'=>va3.vw i d' (by
     rw [R5 λq hq e=>?_];exact hd';rw [← e,hm _ (pg.at' e3 q hq)] at hd';cases hd')⟩
    exact qbD pg pc pi2 pg2 pc2 pe hs hm hm2 hdj fin hfin k ds items zs (es++y) QR τ3 G3 hr va4 (E.trans E4) hd3 gp3 hz e2 (by rw [← hl];simp)
  |false=>
   rw [if_neg v6];simp at e1;subst e1;simp only [Option.some.injEq] at hf;subst hf;exact qbD pg pc pi2 pg2 pc2 pe hs hm hm2 hdj fin hfin k ds items ys es QR _ G1 hr (va2.up E1) (E.trans (E0.of E1)) (hd.up E1) (E1 _ _ gp) (hy.up (jV E1)) e2 hl
def qmT (pi:Rho->Option (List PyData)) (h:Rho->PyData->Option (Option (List PyData))) (m:List (Option Nat)) (ρ:Rho):Option PyData:=
 (pi ρ).bind λds=>(qg4 (h (WL m ρ)) ds).bind λfs=>cif (fs.length<=sizeLine) (some (.list fs)) none
def SN {h:PyData->Option (Option (List PyData))} {α:Type} {g:α->PyData} {k:α->List PyData} {xs:List α} (hh:∀ a∈xs,h (g a)=some (some (k a))):qg4 h (xs.map g)=some (xs.flatMap k):=by
 induction xs with
 |nil=>rfl
 |cons a r ih=>simp only [map_cons,qg4,hh a (by simp),Option.bind_some,ih λb hb=>hh b (by simp [hb]),List.flatMap_cons]
def qjV {wi wi2:TI3} {g g2:TG3} {tif tif2:TT3} {te:TE3} (pi:PuI wi) (pg:PuG g) (pc:PuC tif) (pi2:PuI wi2) (pg2:PuG g2) (pc2:PuC tif2) (pe:PuE te) (m:List (Option Nat)) (hm:Tru (pg.tg.all λi=>m[i]?==some none)) (hm2:Tru (pg2.tg.all λi=>m[i]?==some none)) (hdj:Tru (pg2.tg.all λi=>!pg.tg.contains i)):PuE (qi0 wi g tif wi2 g2 tif2 te m):=
 ⟨qmT pi.f (qnx pg.f pc.f pi2.f (lcH pg2.f pc2.f pe.f)) m,pi.fv++m.filterMap id,true,λ{D τ ρ G q d} hv hd hf k=>by
  unfold qmT at hf;obtain ⟨ds,e1,hf⟩:=obb hf;obtain ⟨fs,e2,hf⟩:=obb hf;unfold cif at hf;split at hf
  ·rename_i hl;cases hf;refine pi.ok hv.l hd e1 λitems stay G1 E1 D1 hs _ p hp=>?_;have va:=(VA.cap (m:=m) hv.r).up E1;have np:∀ {b o},G1 b=some o->b≠p:=λe=>by rintro rfl;rw [hp] at e;cases e
   have X1:Ex (rs D G1) (rs (λb=>D b\/b=p) (gu G1 p (.lst []))):=λb o e=>by
    obtain ⟨n,e⟩:=qR e;rw [jU (by rintro (z|z);exact n z;exact np e z),zj (np e)];exact e
   refine qbD pg pc pi2 pg2 pc2 pe (D:=D) (ρ0:=WL m ρ) (G0:=gu G1 p (.lst [])) (p:=p) (λG2 E2=>hs G2 (.inr (X1.trans E2))) (λi hi=>DX ?_) (λi hi=>DX ?_) (λi hi hj=>?_) fs hl (λG2 ys E2 gp D2=>?_) ds items [] [] fs _ _ (D1.up X1) ⟨va.len,λi d hd=>let ⟨t,a,b⟩:=va.vw i d hd;⟨t,a,b.up X1⟩⟩ E0.refl ?_ qy .nil e2 (by simp)
   ·simpa using List.all_eq_true.mp hm.h i hi
   ·simpa using List.all_eq_true.mp hm2.h i hi
   ·have:=List.all_eq_true.mp hdj.h i hi;simp at this;exact this hj
   ·have EE:Ex G1 G2:=λb o e=>E2 b o (np e) (by rw [zj (np e)];exact e);have hdp:¬ D p:=λz=>(hd.up E1) p z hp;refine k _ _ (E1.trans EE) (.lst (by rw [jU hdp];exact gp) (D2.up (zy λb z=>.inl z))) λ_=>Nw.back (.inr ⟨p,ys,fs,rfl,rfl,hp,gp,D2⟩) E1
   ·intro b hb z;by_cases e:b=p
    ·subst e;rw [qy] at z;cases z
    ·rw [zj e] at z;rcases hb with hb|hb
     ·exact (hd.up E1) b hb z
     ·exact e hb
  ·cases hf⟩
def AD (D:Addr->Prop) (A:Nat->Addr->Prop) (b:Addr):Prop:=D b\/∃ i,A i b
def Ons (R G:Gp) (B:Addr->Prop) (qs:List Addr) (dss:List (List PyData)):Prop:=qs.length=dss.length/\∀ (j:Nat) (q:Addr) (ds:List PyData),qs[j]?=some q->dss[j]?=some ds->B q/\∃ ys,G q=some (.lst ys)/\Dqs R ys ds
def SlR (R G:Gp) (B:Addr->Prop) (t:Option (Option T)):Sl->Prop
 |.un=>True
 |.sh d=>∃ x,t=some (some x)/\Dq R x d
 |.ow ds=>∃ p xs,B p/\t=some (some (.ref p))/\G p=some (.lst xs)/\Dqs R xs ds
 |.dc kvs=>∃ p ks,B p/\t=some (some (.ref p))/\G p=some (.dct ks)/\ks.map (λq=>q.1)=kvs.map (λq=>q.1)/\Dqs R (ks.map λq=>q.2) (kvs.map λq=>q.2)
 |.on dss=>∃ p qs,B p/\t=some (some (.ref p))/\G p=some (.lst (qs.map T.ref))/\(p::qs).Nodup/\Ons R G B qs dss
 |.rg d=>∃ x,t=some (some x)/\Dq (rs (λb=>¬ B b) G) x d
section
variable {R R' G G':Gp} {B B':Addr->Prop} {t:Option (Option T)} {s:Sl}
def Ons.mono {qs:List Addr} {dss:List (List PyData)} (h:Ons R G B qs dss) (hr:Ex R R') (hg:∀ q∈qs,∀ o,B q->G q=some o->G' q=some o) (hb:∀ p,B p->B' p):Ons R' G' B' qs dss:=
 ⟨h.1,λj q ds a b=>let ⟨c,ys,d,e⟩:=h.2 j q ds a b;⟨hb _ c,ys,hg _ (za1 a) _ c d,e.up hr⟩⟩
theorem SlR.mono (h:SlR R G B t s) (hr:Ex R R') (hg:s≠.un->∀ p o,B p->G p=some o->G' p=some o) (hb:∀ p,B p->B' p):SlR R' G' B' t s:=by
 by_cases n:s=.un
 ·subst n;trivial
 replace hg:=hg n
 cases s with
 |un=>trivial
 |sh d=>obtain ⟨x,a,b⟩:=h;exact ⟨x,a,b.up hr⟩
 |ow ds=>obtain ⟨p,xs,a,b,c,d⟩:=h;exact ⟨p,xs,hb _ a,b,hg _ _ a c,d.up hr⟩
 |dc ds=>obtain ⟨p,xs,a,b,c,d,e⟩:=h;exact ⟨p,xs,hb _ a,b,hg _ _ a c,d,e.up hr⟩
 |on ds=>obtain ⟨p,xs,a,b,c,d,e⟩:=h;exact ⟨p,xs,hb _ a,b,hg _ _ a c,d,e.mono hr (λq _=>hg q) hb⟩
 |rg d=>obtain ⟨x,a,b⟩:=h;exact ⟨x,a,b.up λq o e=>by
   obtain ⟨n,e⟩:=qR e;rw [jU λz=>n λy=>z (hb q y)];exact hg q o (Classical.not_not.mp n) e⟩
theorem Ons.dqs:∀ {qs:List Addr} {dss:List (List PyData)},Ons R G B qs dss->Ex R R'->(∀ p o,B p->G p=some o->R' p=some o)->Dqs R' (qs.map T.ref) (dss.map PyData.list)
 |[],[],_,_,_=>.nil
 |q::qs,ds::dss,h,hr,hg=>by
  obtain ⟨a,ys,b,c⟩:=h.2 0 q ds rfl rfl;exact .cons (.lst (hg _ _ a b) (c.up hr)) (Ons.dqs ⟨by simpa using h.1,λj q ds x y=>h.2 (j+1) q ds x y⟩ hr hg)
 |[],_::_,h,_,_=>by cases h.1
 |_::_,[],h,_,_=>by cases h.1
def SlR.vis (h:SlR R G B t s) {d:PyData} (hs:s.d=some d) (hr:Ex R R') (hg:∀ p o,B p->G p=some o->R' p=some o):∃ x,t=some (some x)/\Dq R' x d:=by
 cases s with
 |un=>cases hs
 |sh d=>cases hs;obtain ⟨x,a,b⟩:=h;exact ⟨x,a,b.up hr⟩
 |ow ds=>cases hs;obtain ⟨p,xs,a,b,c,d⟩:=h;exact ⟨_,b,.lst (hg _ _ a c) (d.up hr)⟩
 |dc ds=>cases hs
 |on ds=>cases hs;obtain ⟨p,xs,a,b,c,d,e⟩:=h;exact ⟨_,b,.lst (hg _ _ a c) (e.dqs hr hg)⟩
 |rg d=>cases hs;obtain ⟨x,a,b⟩:=h;exact ⟨x,a,b.up λq o e=>by
   obtain ⟨n,e⟩:=qR e;exact hg q o (Classical.not_not.mp n) e⟩
end
structure RS (D:Addr->Prop) (G0:Gp) (A:Nat->Addr->Prop) (τ:St3) (ρ:Rho) (G:Gp):Prop where
 ex:Ex G0 G
 dm:Dom D G0
 fr:∀ i p,A i p->G0 p=none
 da:∀ i p,A i p->G p≠none
 inj:∀ i j p,A i p->A j p->i=j
 len:ρ.length=τ.length
 sl:∀ (i:Nat) (s:Sl),ρ[i]?=some s->SlR (rs (AD D A) G) G (A i) τ[i]? s
section
variable {D:Addr->Prop} {G0 G G':Gp} {A A':Nat->Addr->Prop} {τ:St3} {ρ:Rho}
theorem RS.sh (h:RS D G0 A τ ρ G) (i:Nat) (d:PyData) (e:ρ[i]?=some (Sl.sh d)):∃ t,τ[i]?=some (some t)/\Dq (rs (AD D A) G) t d:=h.sl i _ e
theorem RS.ow (h:RS D G0 A τ ρ G) (i:Nat) (ds:List PyData) (e:ρ[i]?=some (Sl.ow ds)):∃ p xs,A i p/\τ[i]?=some (some (.ref p))/\G p=some (.lst xs)/\Dqs (rs (AD D A) G) xs ds:=h.sl i _ e
def RS.nd (h:RS D G0 A τ ρ G) {i:Nat} {p:Addr} (e:A i p):¬ D p:=λz=>h.dm p z (h.fr i p e)
def RS.dom (h:RS D G0 A τ ρ G):Dom (AD D A) G:=λb hb=>by
 rcases hb with hb|⟨i,hi⟩
 ·exact (h.dm.up h.ex) b hb
 ·exact h.da i b hi
def RS.domD (h:RS D G0 A τ ρ G):Dom D G:=h.dm.up h.ex
def RS.keep (h:RS D G0 A τ ρ G) {W:Addr->Prop} (hg:∀ b o,¬ W b->G b=some o->G' b=some o) (hW:∀ b,W b->∃ j,A j b/\ρ[j]?=some Sl.un/\G' b≠none):RS D G0 A τ ρ G':=by
 have out:∀ b,W b->AD D A b:=λb z=>let ⟨j,a,_⟩:=hW b z;.inr ⟨j,a⟩
 have X:Ex (rs (AD D A) G) (rs (AD D A) G'):=λb o e=>by
  obtain ⟨n,e⟩:=qR e;rw [jU n];exact hg b o (λz=>n (out b z)) e
 refine ⟨λb o e=>hg b o (λz=>?_) (h.ex b o e),h.dm,h.fr,λi p a z=>?_,h.inj,h.len,λi s e=>(h.sl i s e).mono X (λnu p o a g=>hg p o (λz=>?_) g) λ_ z=>z⟩
 ·obtain ⟨j,a,_⟩:=hW b z;rw [h.fr j b a] at e;cases e
 ·by_cases c:W p
  ·obtain ⟨j,_,_,n⟩:=hW p c;exact n z
  ·cases g:G p with
   |none=>exact h.da i p a g
   |some o=>rw [hg p o c g] at z;cases z
 ·obtain ⟨j,b,u,_⟩:=hW p z;have:=h.inj i j p a b;subst this;rw [u] at e;cases e;exact nu rfl
def RS.up (h:RS D G0 A τ ρ G) (e:Ex G G'):RS D G0 A τ ρ G':=h.keep (W:=λ_=>False) (λb o _ z=>e b o z) λ_ z=>z.elim
def RS.viewAll (h:RS D G0 A τ ρ G) (fv:List Nat):CV fv D G τ ρ:=λi _ d hd=>by
 unfold vw at hd;obtain ⟨s,e,hd⟩:=obb hd;exact (h.sl i s e).vis hd (zy λb z=>.inl z) λp o a g=>by rw [jU (h.nd a)];exact g
def RS.view (h:RS D G0 A τ ρ G) {fv:List Nat} (hn:∀ i∈fv,∀ p,¬ A i p):CV fv (AD D A) G τ ρ:=λi hi d hd=>by
 unfold vw at hd;obtain ⟨s,e,hd⟩:=obb hd;exact (h.sl i s e).vis hd (λ_ _ z=>z) λp o a=>(hn i hi p a).elim
def Sl.dem:Sl->Sl
 |.ow ds=>.sh (.list ds)
 |.dc _=>.un
 |.on dss=>.sh (.list (dss.map PyData.list))
 |.rg d=>.sh d
 |s=>s
def dm:List Bool->Rho->Rho
 |b::m,s::r=>(match b with|true=>s.dem|false=>s)::dm m r
 |_,r=>r
def mkb (m:List Bool) (i:Nat):Bool:=(m[i]?).getD false
theorem qaz:∀ (m:List Bool) (ρ:Rho) (i:Nat),(dm m ρ)[i]?=(ρ[i]?).map λs=>if mkb m i=true then s.dem else s
 |[],ρ,i=>by simp [dm,mkb]
 |b::m,[],i=>by simp [dm]
 |b::m,s::r,0=>by cases b<;>simp [dm,mkb]
 |b::m,s::r,i+1=>by
  have:=qaz m r i;simp only [dm,x5,mkb] at this ⊢;exact this
def qoK (s:Sl):s.dem.d=s.d:=by cases s<;>rfl
def qpo (m:List Bool) (ρ:Rho) (i:Nat):vw (dm m ρ) i=vw ρ i:=by
 unfold vw;rw [qaz];cases ρ[i]? with
 |none=>rfl
 |some s=>
  simp only [Option.map_some,Option.bind_some];split
  ·exact qoK s
  ·rfl
theorem qfN:∀ (m:List Bool) (ρ:Rho),(dm m ρ).length=ρ.length
 |[],ρ=>rfl
 |b::m,[]=>rfl
 |b::m,s::r=>by simp [dm,qfN m r]
def Ad (m:List Bool) (A:Nat->Addr->Prop):Nat->Addr->Prop:=λi p=>A i p/\mkb m i=false
def qma (s:Sl):s.dem=.un\/∃ d,s.dem=.sh d/\s.d=some d:=by cases s<;>simp [Sl.dem,Sl.d]
def RS.dem (h:RS D G0 A τ ρ G) (m:List Bool):RS D G0 (Ad m A) τ (Pu.dm m ρ) G:=by
 have less:Ex (rs (AD D A) G) (rs (AD D (Ad m A)) G):=zy λb z=>by
  rcases z with z|⟨i,z⟩
  ·exact .inl z
  ·exact .inr ⟨i,z.1⟩
 refine ⟨h.ex,h.dm,λi p e=>h.fr i p e.1,λi p e=>h.da i p e.1,λi j p a b=>h.inj i j p a.1 b.1,by rw [qfN];exact h.len,λi s e=>?_⟩;rw [qaz] at e;obtain ⟨s',e1,rfl⟩:=za9 e;have q:=h.sl i s' e1;split
 ·rename_i hm;rcases qma s' with z|⟨d,z,hd⟩<;>rw [z]
  ·trivial
  ·refine q.vis hd less λp o a g=>?_;rw [jU]
   ·exact g
   ·rintro (z|⟨j,z⟩)
    ·exact h.nd a z
    ·have:=h.inj i j p a z.1;subst this;rw [z.2] at hm;cases hm
 ·rename_i hm;exact q.mono less (λ_ _ _ _ z=>z) λp z=>⟨z,by simpa using hm⟩
def RS.viewD (h:RS D G0 A τ ρ G) {m:List Bool} {fv:List Nat} (hm:Tru (fv.all (mkb m))):CV fv (AD D (Ad m A)) G τ ρ:=by
 have:=(h.dem m).view (fv:=fv) λi hi p z=>by have q:=List.all_eq_true.mp hm.h i hi;rw [z.2] at q;cases q
 intro i hi d hd;exact this i hi d (by rw [qpo];exact hd)
def Rg (A:Nat->Addr->Prop) (i:Nat) (B:Addr->Prop):Nat->Addr->Prop:=λj p=>(j=i/\B p)\/(j≠i/\A j p)
def RS.upd (h:RS D G0 A τ ρ G) (i:Nat) {x:T} {s:Sl} {B W:Addr->Prop} (hg:∀ b o,¬ W b->G b=some o->G' b=some o) (hW:∀ b,W b->∃ j,A j b/\(j=i\/(ρ[j]?=some Sl.un/\G' b≠none))) (hB:∀ b,B b->(A i b\/G b=none)/\G' b≠none)
  (hs:Ex (rs (AD D A) G) (rs (AD D (Rg A i B)) G')->SlR (rs (AD D (Rg A i B)) G') G' B (some (some x)) s):RS D G0 (Rg A i B) (τ.set i (some x)) (ρ.set i s) G':=by
 have X:Ex (rs (AD D A) G) (rs (AD D (Rg A i B)) G'):=λb o e=>by
  obtain ⟨n,e⟩:=qR e;rw [jU]
  ·exact hg b o (λz=>let ⟨j,a,_⟩:=hW b z;n (.inr ⟨j,a⟩)) e
  ·rintro (z|⟨j,⟨rfl,z⟩|⟨_,z⟩⟩)
   ·exact n (.inl z)
   ·rcases (hB b z).1 with z|z
    ·exact n (.inr ⟨j,z⟩)
    ·rw [z] at e;cases e
   ·exact n (.inr ⟨j,z⟩)
 have ng:∀ p,G p=none->G0 p=none:=λp g=>by
  cases z:G0 p with
  |none=>rfl
  |some o=>rw [h.ex _ _ z] at g;cases g
 refine ⟨λb o e=>hg b o (λz=>?_) (h.ex b o e),h.dm,λj p e=>?_,λj p e=>?_,λj k p a b=>?_,by simp [h.len],λj s' e=>?_⟩
 ·obtain ⟨j,a,_⟩:=hW b z;rw [h.fr j b a] at e;cases e
 ·rcases e with ⟨rfl,z⟩|⟨_,z⟩
  ·rcases (hB p z).1 with z|z
   ·exact h.fr j p z
   ·exact ng p z
  ·exact h.fr j p z
 ·rcases e with ⟨rfl,z⟩|⟨n,z⟩
  ·exact (hB p z).2
  ·intro g;by_cases c:W p
   ·obtain ⟨k,a,b|⟨_,b⟩⟩:=hW p c
    ·exact n ((h.inj j k p z a).trans b)
    ·exact b g
   ·cases g':G p with
    |none=>exact h.da j p z g'
    |some o=>rw [hg p o c g'] at g;cases g
 ·rcases a with ⟨rfl,a⟩|⟨n,a⟩<;>rcases b with ⟨rfl,b⟩|⟨n',b⟩
  ·rfl
  ·rcases (hB p a).1 with z|z
   ·exact h.inj _ _ p z b
   ·exact absurd z (h.da k p b)
  ·rcases (hB p b).1 with z|z
   ·exact h.inj _ _ p a z
   ·exact absurd z (h.da j p a)
  ·exact h.inj j k p a b
 ·rw [getElem?_set] at e ⊢;split at e
  ·rename_i hj;subst hj;split at e
   ·rename_i hl;cases e;rw [if_pos rfl,if_pos (by rw [← h.len];exact hl)];exact (hs X).mono (λ_ _ z=>z) (λ_ _ _ _ z=>z) λp z=>.inl ⟨rfl,z⟩
   ·cases e
  ·rename_i hj;rw [if_neg hj];refine (h.sl j s' e).mono X (λnu p o a g=>hg p o (λz=>?_) g) λp z=>.inr ⟨λy=>hj y.symm,z⟩;obtain ⟨k,b,y|⟨y,_⟩⟩:=hW p z
   ·exact hj ((h.inj j k p a b).trans y).symm
   ·have:=h.inj j k p a b;subst this;rw [e] at y;cases y;exact nu rfl
abbrev Er (A:Nat->Addr->Prop) (i:Nat):Nat->Addr->Prop:=Rg A i λ_=>False
def qfR {i j:Nat} {p:Addr} (h:Er A i j p):A j p/\j≠i:=by
 rcases h with ⟨_,z⟩|⟨n,z⟩
 ·exact z.elim
 ·exact ⟨z,n⟩
def RS.put (h:RS D G0 A τ ρ G) (i:Nat) {x:T} {d:PyData} (hx:Dq (rs (AD D A) G) x d):RS D G0 (Er A i) (τ.set i (some x)) (ρ.set i (.sh d)) G:=
 h.upd i (W:=λ_=>False) (λ_ _ _ z=>z) (λ_ z=>z.elim) (λ_ z=>z.elim) λX=>⟨x,rfl,hx.up X⟩
theorem RS.puts:∀ {ts:List (Nat×T)} {bs:List (Nat×PyData)} {A:Nat->Addr->Prop} {τ:St3} {ρ:Rho},RS D G0 A τ ρ G->Bd (rs (AD D A) G) ts bs->∃ A',RS D G0 A' (sets τ ts) (QP ρ bs) G
 |_,_,A,_,_,h,.nil=>⟨A,h⟩
 |_,_,A,_,_,h,.cons (i:=i) a b=>by
  unfold sets QP;exact RS.puts (h.put i a) (b.up (zy λb z=>by
   rcases z with z|⟨j,z⟩
   ·exact .inl z
   ·exact .inr ⟨j,(qfR z).1⟩))
def RS.putN (h:RS D G0 A τ ρ G) (i:Nat) {x:T} {d:PyData} {ds:List PyData} (hd:d=.list ds) (E:Ex G G') (hx:Nw (AD D A) G G' x d):RS D G0 (Rg A i λb=>x=.ref b) (τ.set i (some x)) (ρ.set i (.ow ds)) G':=by
 rcases hx with hx|⟨p,xs,ds',rfl,e',gp,gp',hs⟩
 ·rw [hd] at hx;cases hx
 rw [hd] at e';cases e';refine h.upd i (W:=λ_=>False) (λb o _ z=>E b o z) (λ_ z=>z.elim) (λb z=>by cases z;exact ⟨.inr gp,by rw [gp'];simp⟩) λ_=>⟨p,xs,rfl,rfl,gp',hs.up (zy λb z=>?_)⟩
 rcases z with z|⟨j,⟨_,z⟩|⟨_,z⟩⟩
 ·exact .inl (.inl z)
 ·cases z;exact .inr rfl
 ·exact .inl (.inr ⟨j,z⟩)
def EL {i:Nat} {t:Option T} (h:τ[i]?=some t):τ.set i t=τ:=by
 apply List.ext_getElem?;intro j;rw [getElem?_set];split
 ·rename_i e;subst e;split
  ·exact h.symm
  ·rename_i n;rw [List.getElem?_eq_none (by omega)] at h;cases h
 ·rfl
def SB {i:Nat}:Rg A i (A i)=A:=funext λj=>funext λp=>propext ⟨λz=>by
 rcases z with ⟨rfl,z⟩|⟨_,z⟩<;>exact z,λz=>by
 by_cases c:j=i
 ·subst c;exact .inl ⟨rfl,z⟩
 ·exact .inr ⟨c,z⟩⟩
def RS.wr (h:RS D G0 A τ ρ G) {i:Nat} {p:Addr} {xs:List T} {ds:List PyData} (hi:A i p) (ht:τ[i]?=some (some (.ref p))) (hs:Dqs (rs (AD D A) G) xs ds):RS D G0 A τ (ρ.set i (.ow ds)) (gu G p (.lst xs)):=by
 have:=h.upd i (G':=gu G p (.lst xs)) (x:=.ref p) (s:=.ow ds) (B:=A i) (W:=λb=>b=p) (λb o n z=>by rw [zj n];exact z) (λb z=>⟨i,by rw [z];exact hi,.inl rfl⟩) (λb z=>⟨.inl z,by
  by_cases c:b=p
  ·rw [c,qy];simp
  ·rw [zj c];exact h.da i b z⟩) λX=>⟨p,xs,hi,rfl,qy,hs.up X⟩
 rw [EL ht,SB] at this;exact this
def RS.base {Gb:Gp} (h:RS D Gb A τ ρ G) (e:Ex G0 Gb) (hd:Dom D G0):RS D G0 A τ ρ G:=
 ⟨e.trans h.ex,hd,(λi p a=>by
  cases z:G0 p with
  |none=>rfl
  |some o=>have:=h.fr i p a;rw [e _ _ z] at this;cases this),h.da,h.inj,h.len,h.sl⟩
end
inductive Ot where
 |nx (ρ:Rho)|bk (ρ:Rho)|ct (ρ:Rho)|rt (d:PyData) (fr:Bool)
def qli (D:Addr->Prop) (G0:Gp) (e:Ends3):Ot->Prop
 |.nx ρ=>∀ A τ G,RS D G0 A τ ρ G->e.nx τ G
 |.bk ρ=>∀ A τ G,RS D G0 A τ ρ G->e.bk τ G
 |.ct ρ=>∀ A τ G,RS D G0 A τ ρ G->e.ct τ G
 |.rt d fr=>∀ x G,Ex G0 G->Dq (rs D G) x d->(fr=true->Nw D G0 G x d)->e.rt x G
theorem qli.base {D:Addr->Prop} {G0 Gb:Gp} {e:Ends3} {o:Ot} (h:qli D G0 e o) (x:Ex G0 Gb) (hd:Dom D G0):qli D Gb e o:=by
 cases o with
 |nx ρ=>exact λA τ G r=>h A τ G (r.base x hd)
 |bk ρ=>exact λA τ G r=>h A τ G (r.base x hd)
 |ct ρ=>exact λA τ G r=>h A τ G (r.base x hd)
 |rt d fr=>exact λy G a b c=>h y G (x.trans a) b λz=>(c z).back x
structure PuS (t:TS3) where
 f:Nat->Rho->Option Ot
 ok:∀ {D G0 A τ ρ G n o} {e:Ends3},RS D G0 A τ ρ G->f n ρ=some o->qli D G0 e o->t e τ G
def qbw:PuS qD:=⟨λ_ ρ=>some (.nx ρ),λh hf k=>by cases hf;exact k _ _ _ h⟩
def qrY:PuS UF:=⟨λ_ ρ=>none,λh hf k=>by cases hf⟩
def qnZ (a b:Nat->Rho->Option Ot) (n:Nat) (ρ:Rho):Option Ot:=(a n ρ).bind λo=>match o with|.nx ρ'=>b n ρ'|o=>some o
def C6 {t u:TS3} (a:PuS t) (b:PuS u):PuS (qx t u):=⟨qnZ a.f b.f,λ{D G0 A τ ρ G n o e} h hf k=>by
 unfold qnZ at hf;obtain ⟨o1,e1,hf⟩:=obb hf;refine a.ok h e1 ?_;cases o1 with
 |nx ρ'=>exact λA' τ' G' h'=>b.ok h' hf k
 |bk ρ'=>cases hf;exact k
 |ct ρ'=>cases hf;exact k
 |rt d fr=>cases hf;exact k⟩
def sIf {c:TT3} {t u:TS3} (pc:PuC c) (a:PuS t) (b:PuS u):PuS (zD c t u):=⟨λn ρ=>(pc.f ρ).bind λk=>if k then a.f n ρ else b.f n ρ,λh hf k=>by
 obtain ⟨o1,e1,hf⟩:=obb hf;refine pc.ok (h.viewAll _) h.domD e1 λG1 E1=>?_;cases o1 with
 |true=>exact a.ok (h.up E1) hf k
 |false=>exact b.ok (h.up E1) hf k⟩
def qdw {t:TE3} (a:PuE t):PuS (qP t):=⟨λ_ ρ=>(a.f ρ).map λd=>.rt d a.nw,λh hf k=>by
 obtain ⟨d,e1,rfl⟩:=za9 hf;exact a.ok (h.viewAll _) h.domD e1 λx G1 E1 D1 N1=>k x G1 (h.ex.trans E1) D1 λz=>(N1 z).back h.ex⟩
def qdx (ρ:Rho) (i:Nat):Option Ot:=match ρ[i]? with|some (.ow ds)=>some (.rt (.list ds) true)|some (.sh d)=>some (.rt d false)|_=>none
def qhk (i:Nat):PuS (qP (v3 i)):=⟨λ_ ρ=>qdx ρ i,λh hf k=>by
 unfold qdx at hf;split at hf
 ·rename_i ds e;cases hf;obtain ⟨p,xs,b,c,g,f⟩:=h.ow i _ e;simp only [qP,v3,c];refine k _ _ h.ex (.lst (by rw [jU (h.nd b)];exact g) (f.up (zy λb z=>.inl z))) λ_=>.inr ⟨p,xs,ds,rfl,rfl,h.fr i p b,g,f.up (zy λq z=>?_)⟩;rcases z with z|z
  ·exact .inl z
  ·subst z;exact .inr ⟨i,b⟩
 ·rename_i d e;cases hf;obtain ⟨t,b,c⟩:=h.sh i _ e;simp only [qP,v3,b];exact k _ _ h.ex (c.up (zy λb z=>.inl z)) (λz=>by cases z)
 ·cases hf⟩
def WD {H H':Gp} {x:T} {d:PyData} (h:Dq H x d) (s:WH d=true):Dq H' x d:=by
 cases h<;>first|(constructor;done)|(simp [WH] at s;done)
def qrN:PyData->Sl
 |.list ds=>.ow ds
 |d=>.sh d
def NW (m:List Bool) (nw:Bool) (i:Nat) (d:PyData) (ρ:Rho):Rho:=if WH d then ρ.set i (.sh d) else (dm m ρ).set i (if nw then qrN d else .sh d)
def qip {t:TE3} (a:PuE t) (i:Nat) (m:List Bool) (hm:Tru (a.fv.all (mkb m))):PuS (qF t (gn3 i)):=⟨λ_ ρ=>(a.f ρ).map λd=>.nx (NW m a.nw i d ρ),λ{D G0 A τ ρ G n o e} h hf k=>by
 obtain ⟨d,e1,rfl⟩:=za9 hf;refine a.ok (h.viewD hm) (h.dem m).dom e1 λx G1 E1 D1 N1=>?_;unfold NW at k;show e.nx (τ.set i (some x)) G1;split at k
 ·rename_i hs;exact k _ _ _ ((h.up E1).put i (WD D1 hs))
 ·split at k
  ·rename_i hn;have N:=N1 hn;rcases id N with h2|⟨p,xs,ds,h1,h2,_⟩
   ·exact absurd h2 (by assumption)
   subst h2;exact k _ _ _ ((h.dem m).putN i rfl E1 N)
  ·exact k _ _ _ (((h.dem m).up E1).put i D1)⟩
def K4 {t:TE3} {g:TG3} (a:PuE t) (pg:PuG g) (m:List Bool) (hm:Tru (a.fv.all (mkb m))):PuS (qF t g):=⟨λ_ ρ=>(a.f ρ).bind λd=>(pg.f d).map λbs=>.nx (QP (dm m ρ) bs),λ{D G0 A τ ρ G n o e} h hf k=>by
 obtain ⟨d,e1,hf⟩:=obb hf;obtain ⟨bs,e2,rfl⟩:=za9 hf;refine a.ok (h.viewD hm) (h.dem m).dom e1 λx G1 E1 D1 N1=>?_;obtain ⟨ts,bd,kg⟩:=pg.ok D1 e2;refine kg _ _ _ ?_;obtain ⟨A',h'⟩:=((h.dem m).up E1).puts bd;exact k _ _ _ h'⟩
def qqk {D:Addr->Prop} {A:Nat->Addr->Prop} {G:Gp} {i:Nat}:Ex (rs (AD D A) G) (rs (AD D (Er A i)) G):=zy λb z=>by
 rcases z with z|⟨j,z⟩
 ·exact .inl z
 ·exact .inr ⟨j,(qfR z).1⟩
def slot (ρ:Rho) (i:Nat):Option (List PyData):=match ρ[i]? with|some (.ow ds)=>some ds|_=>none
def ZN {ρ:Rho} {i:Nat} {ds:List PyData} (h:slot ρ i=some ds):ρ[i]?=some (.ow ds):=by
 unfold slot at h;split at h
 ·rename_i e;cases h;exact e
 ·cases h
def dmS (m:List Bool) (d:PyData) (ρ:Rho):Rho:=if WH d then ρ else dm m ρ
def RS.evalS {D:Addr->Prop} {G0 G:Gp} {A:Nat->Addr->Prop} {τ:St3} {ρ:Rho} (h:RS D G0 A τ ρ G) {t:TE3} (a:PuE t) (m:List Bool) (hm:Tru (a.fv.all (mkb m))) {d:PyData} (hf:a.f ρ=some d):∃ A1,RS D G0 A1 τ (dmS m d ρ) G/\∀ q:Q3,(∀ x G',Ex G G'->Dq (rs (AD D A1) G') x d->q x G')->t τ G q:=by
 unfold dmS;by_cases hs:WH d=true
 ·rw [if_pos hs];exact ⟨A,h,λq k=>a.ok (h.viewAll _) h.domD hf λx G1 E1 D1 _=>k x G1 E1 (WD D1 hs)⟩
 ·rw [if_neg hs];exact ⟨Ad m A,h.dem m,λq k=>a.ok (h.viewD hm) (h.dem m).dom hf λx G1 E1 D1 _=>k x G1 E1 D1⟩
def qmR (i:Nat) (d:PyData) (ρ:Rho):Option Ot:=(slot ρ i).bind λds=>cif (ds.length<sizeLine) (some (.nx (ρ.set i (.ow (ds++[d]))))) none
def qqZ {t:TE3} (a:PuE t) (i:Nat) (m:List Bool) (hm:Tru (a.fv.all (mkb m))):PuS (qH (bm3 QI (v3 i) (qf t qk))):=⟨λ_ ρ=>(a.f ρ).bind λd=>qmR i d (dmS m d ρ),λ{D G0 A τ ρ G n o e} h hf k=>by
 obtain ⟨d,e1,hf⟩:=obb hf;obtain ⟨A1,h1,ev⟩:=h.evalS a m hm e1;unfold qmR at hf;obtain ⟨ds,e2,hf⟩:=obb hf;unfold cif at hf;split at hf
 ·rename_i hl;cases hf;obtain ⟨p,xs,b,c,g,f⟩:=h1.ow i _ (ZN e2);simp only [qH,bm3,v3,c,qL g];refine ⟨rfl,ev _ λx G1 E1 D1=>?_⟩;simp only [qk,QI,E1 _ _ g];exact ⟨by rw [f.length];exact hl,k _ _ _ ((h1.up E1).wr b c ((f.up (jV E1)).append (.cons D1 .nil)))⟩
 ·cases hf⟩
def qhI {t:TE3} (a:PuE t):PuS (qH t):=⟨λ_ ρ=>(a.f ρ).map λ_=>.nx ρ,λh hf k=>by
 obtain ⟨d,e1,rfl⟩:=za9 hf;exact a.ok (h.viewAll _) h.domD e1 λx G1 E1 D1 N1=>k _ _ _ (h.up E1)⟩
def T3 (gf:PyData->Option (List (Nat×PyData))) (bf:Rho->Option Ot):List PyData->Rho->Option Ot
 |[],ρ=>some (.nx ρ)
 |d::r,ρ=>(gf d).bind λbs=>(bf (QP ρ bs)).bind λo=>match o with
  |.nx ρ'=>T3 gf bf r ρ'
  |.ct ρ'=>T3 gf bf r ρ'
  |.bk ρ'=>some (.nx ρ')
  |.rt d b=>some (.rt d b)
theorem M1 {stay:Gp->Prop} {g:TG3} {tb:TS3} {e:Ends3} (pg:PuG g) (pb:PuS tb) {D:Addr->Prop} {G0:Gp} {n:Nat} {o:Ot} {items0:List T} (hs:∀ A τ ρ G,RS D G0 A τ ρ G->stay G) (k:qli D G0 e o) :
  ∀ (ds:List PyData) (items:List T),(∀ A τ ρ G,RS D G0 A τ ρ G->Dqs (rs (AD D A) G) items ds)->∀ A τ ρ G,RS D G0 A τ ρ G->T3 pg.f (pb.f n) ds ρ=some o->CO stay g tb e items τ G
 |[],items,hi,A,τ,ρ,G,h,hf=>by
  cases hf;have:=hi _ _ _ _ h;cases this;exact ⟨hs _ _ _ _ h,k _ _ _ h⟩
 |d::ds,items,hi,A,τ,ρ,G,h,hf=>by
  have hh:=hi _ _ _ _ h;cases hh with
  |cons hx hr=>
   rename_i x items;unfold T3 at hf;obtain ⟨bs,e1,hf⟩:=obb hf;obtain ⟨o1,e2,hf⟩:=obb hf;obtain ⟨ts,bd,kg⟩:=pg.ok hx e1;refine ⟨hs _ _ _ _ h,kg _ _ _ ?_⟩;obtain ⟨A',h'⟩:=h.puts bd;refine pb.ok h' e2 ?_;have hi':∀ A τ ρ G,RS D G0 A τ ρ G->Dqs (rs (AD D A) G) items ds:=λA τ ρ G h=>by
    have:=hi _ _ _ _ h;cases this with
    |cons a b=>exact b
   cases o1 with
   |nx ρ'=>exact λA2 τ2 G2 h2=>M1 (items0:=items0) pg pb hs k ds items hi' _ _ _ _ h2 hf
   |ct ρ'=>exact λA2 τ2 G2 h2=>M1 (items0:=items0) pg pb hs k ds items hi' _ _ _ _ h2 hf
   |bk ρ'=>cases hf;exact k
   |rt d fr=>cases hf;exact k
def qn5 (pi:Rho->Option (List PyData)) (nm:Bool) (m:List Bool) (gf:PyData->Option (List (Nat×PyData))) (bf:Nat->Rho->Option Ot) (n:Nat) (ρ:Rho):Option Ot:=(pi ρ).bind λds=>T3 gf (bf n) ds (if nm then ρ else dm m ρ)
def qhD {wi:TI3} {g:TG3} {tb:TS3} (pi:PuI wi) (pg:PuG g) (pb:PuS tb) (m:List Bool) (hm:Tru (pi.fv.all (mkb m))):PuS (WU wi g tb):=⟨qn5 pi.f pi.nm m pg.f pb.f,λ{D G0 A τ ρ G n o e} h hf k=>by
 unfold qn5 at hf;obtain ⟨ds,e1,hf⟩:=obb hf;refine pi.ok (h.viewD hm) (h.dem m).dom e1 λitems stay G1 E1 D1 hs hnm=>?_;cases hb:pi.nm with
 |true=>
  rw [hb,if_pos rfl] at hf;obtain ⟨ns,rfl⟩:=hnm hb;have:=D1.ints;subst this;exact M1 (items0:=[]) pg pb (λ_ _ _ _ _=>hs _ (.inl hb)) k _ _ (λA τ ρ G _=>Dqs.ofInts _) _ _ _ _ (h.up E1) hf
 |false=>
  rw [hb,if_neg v6] at hf;have h1:=(h.dem m).up E1;have b1:Ex G0 (rs (λb=>∃ i,Ad m A i b) G1):=λb o e=>by
   rw [jU]
   ·exact h1.ex _ _ e
   ·rintro ⟨i,z⟩;rw [h1.fr i _ z] at e;cases e
  have h2:RS D (rs (λb=>∃ i,Ad m A i b) G1) (Ad m A) τ (dm m ρ) G1:=⟨YH,h.dm.up b1,λi p z=>by unfold rs;exact jt ⟨i,z⟩,h1.da,h1.inj,h1.len,h1.sl⟩
  have X:∀ A2 τ2 ρ2 G2,RS D (rs (λb=>∃ i,Ad m A i b) G1) A2 τ2 ρ2 G2->Ex (rs (AD D (Ad m A)) G1) (rs (AD D A2) G2):=λA2 τ2 ρ2 G2 r b o e=>by
   obtain ⟨n1,e⟩:=qR e;have eb:rs (λb=>∃ i,Ad m A i b) G1 b=some o:=by rw [jU (λz=>n1 (.inr z))];exact e
   rw [jU]
   ·exact r.ex _ _ eb
   ·rintro (z|⟨i,z⟩)
    ·exact n1 (.inl z)
    ·rw [r.fr i _ z] at eb;cases eb
  exact M1 (items0:=[]) pg pb (λA2 τ2 ρ2 G2 r=>hs _ (.inr ((X _ _ _ _ r).trans YH))) (k.base b1 h.dm) _ _ (λA2 τ2 ρ2 G2 r=>D1.up (X _ _ _ _ r)) _ _ _ _ h2 hf⟩
def TW (fr:Bool):Option Ot->Option PyData
 |some (.rt d b)=>if fr=true/\b=false then (match d with|.none=>some .none|_=>none) else some d
 |some (.nx _)=>if fr then none else some .none
 |_=>none
def st (ds:List PyData) (N:Nat):Rho:=ds.map Sl.sh++List.replicate (N-ds.length) .un
def qj2 {D:Addr->Prop} {G:Gp} {ts:List T} {ds:List PyData} (N:List Str) (hs:Dqs (rs D G) ts ds) (hd:Dom D G):RS D G (λ_ _=>False) (qq N ts) (st ds N.length) G:=by
 refine ⟨Ex.refl,hd,(λi p e=>e.elim),(λi p e=>e.elim),(λi j p e=>e.elim),(by simp [st,qq,hs.length]),λi s e=>?_⟩;unfold st at e;unfold qq;by_cases hi:i<ds.length
 ·rw [List.getElem?_append_left (by simpa using hi),getElem?_map] at e;obtain ⟨d2,e3,rfl⟩:=za9 e;obtain ⟨x,e5,hx⟩:=hs.get e3;refine ⟨x,?_,hx.up (zy λb z=>?_)⟩
  ·rw [List.getElem?_append_left (by simp [hs.length];exact hi),getElem?_map,e5];rfl
  ·rcases z with z|⟨i,z⟩
   ·exact z
   ·exact z.elim
 ·rw [List.getElem?_append_right (by simpa using hi),List.getElem?_replicate] at e;split at e<;>cases e
  trivial
def run (f:Nat->Rho->Option Ot) (k N n:Nat) (fr:Bool) (ds:List PyData):Option PyData:=if ds.length=k then TW fr (f n (st ds N)) else none
def JF {t:TS3} (b:PuS t) (N:List Str) (k n:Nat) (fr:Bool):∀ ts G q,PSp (run b.f k N.length n fr) fr ts G q->ts.length=k/\t { nx:=λ_ G'=>q .non G',rt:=q } (qq N ts) G:=by
 rintro ts G q ⟨D,ds,d,hs,hd,hf,h⟩;unfold run at hf;split at hf
 ·rename_i hk;refine ⟨by rw [hs.length];exact hk,?_⟩;have r:=qj2 N hs hd;unfold TW at hf;split at hf
  ·rename_i d' b' e;split at hf
   ·split at hf
    ·cases hf;exact b.ok r e λx G' a c z=>h x G' a c λ_=>.inl rfl
    ·cases hf
   ·rename_i hb;cases hf;exact b.ok r e λx G' a c z=>h x G' a c λw=>z (by
     cases b' with
     |true=>rfl
     |false=>exact absurd ⟨w,rfl⟩ hb)
  ·rename_i ρ' e;split at hf
   ·cases hf
   ·rename_i hb;cases hf;exact b.ok r e λA τ G' r'=>h .non G' r'.ex .non λw=>absurd w hb
  ·cases hf
 ·cases hf
def qq1 {i:Nat}:(bV i).f=λρ=>vw ρ i:=id rfl
def qfC {i:Int}:(z9 i).f=λ_=>some (.int i):=id rfl
def qki {i:Bool}:(bBl i).f=λ_=>some (.bool i):=id rfl
def qe1 {i:Str}:(qdz i).f=λ_=>some (.str i):=id rfl
def qq2 {r:R3} {ta tb:TE3} {R:OpD r} {a:PuE ta} {b:PuE tb}:(bO R a b).f=λρ=>(a.f ρ).bind λx=>(b.f ρ).bind λy=>R.f x y:=id rfl
def qgt:qM.f=λ_=>some []:=id rfl
def qdk {ta:TE3} {tr:TA3} {a:PuE ta} {r:PuA tr}:(qj a r).f=λρ=>(a.f ρ).bind λx=>(r.f ρ).bind λxs=>some (x::xs):=id rfl
def qfA {t:TA3} {a:PuA t} {hn:Tru (Nat.ble a.n 1000)}:(NX a hn).f=λρ=>(a.f ρ).map .tuple:=id rfl
def qgI {t:TA3} {a:PuA t} {hn:Tru (Nat.ble a.n 1000)}:(MK a hn).f=λρ=>(a.f ρ).map .list:=id rfl
def qbS {r:List T->Gp->Q3->Prop} {t:TA3} {R:FnD r} {a:PuA t}:(zh R a).f=λρ=>(a.f ρ).bind R.f:=id rfl
def qme {t:TE3} {a:PuE t}:(bTb a).f=λρ=>(a.f ρ).bind asB:=id rfl
def qmM {t u:TT3} {a:PuC t} {b:PuC u}:(bOr a b).f=λρ=>(a.f ρ).bind λk=>if k then some true else b.f ρ:=id rfl
def qeT {t:TT3} {a:PuC t}:(qmO a).f=λρ=>(a.f ρ).map (! ·):=id rfl
def qnR:bTt.f=λ_=>some true:=id rfl
def qfK {ta tb:TE3} {a:PuE ta} {b:PuE tb}:(qoB a b).f=λρ=>((a.f ρ).bind asB).bind λk=>if k then some (.bool true) else b.f ρ:=id rfl
def qfS {ta:TE3} {a:PuE ta}:(qoe a).f=λρ=>((a.f ρ).bind asI).map λi=>.int (-i):=id rfl
def qlg:bNp.f=λ_=>some none:=id rfl
def qj4 {t:TE3} {a:PuE t}:(bSp a).f=λρ=>((a.f ρ).bind asI).map some:=id rfl
def qmb {te:TE3} {tl th:TO3} {a:PuE te} {l:PuO tl} {h:PuO th}:(bSl a l h).f=λρ=>(a.f ρ).bind λd=>(l.f ρ).bind λlo=>(h.f ρ).bind λhi=>slD d lo hi:=id rfl
def qcm {te:TE3} {a:PuE te}:(qnF a).f=λρ=>(a.f ρ).bind qcr:=id rfl
def qkd {wi:TI3} {g:TG3} {tif:TT3} {te:TE3} {pi:PuI wi} {pg:PuG g} {pc:PuC tif} {pe:PuE te} {m:List (Option Nat)} {hm:Tru (pg.tg.all λi=>m[i]?==some none)}:(bLc pi pg pc pe m hm).f=lcF pi.f (lcH pg.f pc.f pe.f) m:=id rfl
def qgr {wi wi2:TI3} {g g2:TG3} {tif tif2:TT3} {te:TE3} {pi:PuI wi} {pg:PuG g} {pc:PuC tif} {pi2:PuI wi2} {pg2:PuG g2} {pc2:PuC tif2} {pe:PuE te} {m:List (Option Nat)} {hm:Tru (pg.tg.all λi=>m[i]?==some none)} {hm2:Tru (pg2.tg.all λi=>m[i]?==some none)} {hdj:Tru (pg2.tg.all λi=>!pg.tg.contains i)}:(qjV pi pg pc pi2 pg2 pc2 pe m hm hm2 hdj).f=qmT pi.f (qnx pg.f pc.f pi2.f (lcH pg2.f pc2.f pe.f)) m:=id rfl
def qfl:qfv.f=qnT:=id rfl
def qe8:qn1.f=qnY:=id rfl
def qgl:qoS.f=qoa:=id rfl
def qde {F:List PyData->Option PyData} {fr:Bool}:(DE F fr).f=F:=id rfl
def qjh {g:Int->Int->Int} {i j:Int}:(opI g).f (.int i) (.int j)=some (.int (g i j)):=id rfl
def qnn {g:Int->Int->Bool} {i j:Int}:(opB g).f (.int i) (.int j)=some (.bool (g i j)):=id rfl
def qlA {C:Int->Int->Prop} {g:Int->Int->Int}:(opC C g).f=cI C g:=id rfl
def qfn {n:Bool}:(qaK n).f=eqD n:=id rfl
def qe6:LA.f=ixD:=id rfl
def qda:DK.f=qlV:=id rfl
def MZ:qcQ.f=qiT:=id rfl
def qff {t:TE3} {a:PuE t}:(qdC a).f=λρ=>(a.f ρ).bind qaR:=id rfl
def qf9 {t:TA3} {a:PuA t}:(TZ a).f=λρ=>(a.f ρ).bind qce:=id rfl
def qc7 {t:TA3} {a:PuA t}:(qdM a).f=λρ=>(a.f ρ).bind λds=>match ds with|[d]=>(qaR d).map λus=>enD 0 us|_=>none:=id rfl
def qbH {t:TE3} {a:PuE t}:(qdC a).nm=false:=id rfl
def MY {t:TA3} {a:PuA t}:(qdM a).nm=false:=id rfl
def qci {t:TA3} {a:PuA t}:(TZ a).nm=true:=id rfl
def qqs {i:Nat}:(gN i).f=λd=>some [(i,d)]:=id rfl
def qfh:MC.f []=some []:=id rfl
def qa2 {t:TG3} {u:LP} {a:PuG t} {b:PuGs u} {d:PyData} {r:List PyData}:(jg a b).f (d::r)=(a.f d).bind λx=>(b.f r).map λy=>x++y:=id rfl
def qfU {u:LP} {n:Nat} {b:PuGs u} {ds:List PyData}:(LW n b).f (.tuple ds)=if ds.length=n then b.f ds else none:=id rfl
def qbt:qbw.f=λ_ ρ=>some (.nx ρ):=id rfl
def qgs {t u:TS3} {a:PuS t} {b:PuS u}:(C6 a b).f=qnZ a.f b.f:=id rfl
def qky {c:TT3} {t u:TS3} {pc:PuC c} {a:PuS t} {b:PuS u}:(sIf pc a b).f=λn ρ=>(pc.f ρ).bind λk=>if k then a.f n ρ else b.f n ρ:=id rfl
def qfI {t:TE3} {a:PuE t}:(qdw a).f=λ_ ρ=>(a.f ρ).map λd=>.rt d a.nw:=id rfl
def qds {i:Nat}:(qhk i).f=λ_ ρ=>qdx ρ i:=id rfl
def qfX {t:TE3} {a:PuE t} {i:Nat} {m:List Bool} {hm:Tru (a.fv.all (mkb m))}:(qip a i m hm).f=λ_ ρ=>(a.f ρ).map λd=>.nx (NW m a.nw i d ρ):=id rfl
def qcW {t:TE3} {g:TG3} {a:PuE t} {pg:PuG g} {m:List Bool} {hm:Tru (a.fv.all (mkb m))}:(K4 a pg m hm).f=λ_ ρ=>(a.f ρ).bind λd=>(pg.f d).map λbs=>.nx (QP (dm m ρ) bs):=id rfl
def qfe {t:TE3} {a:PuE t} {i:Nat} {m:List Bool} {hm:Tru (a.fv.all (mkb m))}:(qqZ a i m hm).f=λ_ ρ=>(a.f ρ).bind λd=>qmR i d (dmS m d ρ):=id rfl
def qdl {t:TE3} {a:PuE t}:(qhI a).f=λ_ ρ=>(a.f ρ).map λ_=>.nx ρ:=id rfl
def qgh {wi:TI3} {g:TG3} {tb:TS3} {pi:PuI wi} {pg:PuG g} {pb:PuS tb} {m:List Bool} {hm:Tru (pi.fv.all (mkb m))}:(qhD pi pg pb m hm).f=qn5 pi.f pi.nm m pg.f pb.f:=id rfl
def qga {i:Bool}:(bBl i).nw=false:=id rfl
def qle {r:R3} {ta tb:TE3} {R:OpD r} {a:PuE ta} {b:PuE tb}:(bO R a b).nw=R.nw:=id rfl
def qb8 {t:TA3} {a:PuA t} {hn:Tru (Nat.ble a.n 1000)}:(NX a hn).nw=false:=id rfl
def qc5 {t:TA3} {a:PuA t} {hn:Tru (Nat.ble a.n 1000)}:(MK a hn).nw=true:=id rfl
def M2 {r:List T->Gp->Q3->Prop} {t:TA3} {R:FnD r} {a:PuA t}:(zh R a).nw=R.nw:=id rfl
def N0 {F:List PyData->Option PyData} {fr:Bool}:(DE F fr).nw=fr:=id rfl
def qbW {ta tb:TE3} {a:PuE ta} {b:PuE tb}:(qoB a b).nw=false:=id rfl
def qcu {ta:TE3} {a:PuE ta}:(qoe a).nw=false:=id rfl
def qfk {wi:TI3} {g:TG3} {tif:TT3} {te:TE3} {pi:PuI wi} {pg:PuG g} {pc:PuC tif} {pe:PuE te} {m:List (Option Nat)} {hm:Tru (pg.tg.all λi=>m[i]?==some none)}:(bLc pi pg pc pe m hm).nw=true:=id rfl
def qb1 {wi wi2:TI3} {g g2:TG3} {tif tif2:TT3} {te:TE3} {pi:PuI wi} {pg:PuG g} {pc:PuC tif} {pi2:PuI wi2} {pg2:PuG g2} {pc2:PuC tif2} {pe:PuE te} {m:List (Option Nat)} {hm:Tru (pg.tg.all λi=>m[i]?==some none)} {hm2:Tru (pg2.tg.all λi=>m[i]?==some none)} {hdj:Tru (pg2.tg.all λi=>!pg.tg.contains i)}:(qjV pi pg pc pi2 pg2 pc2 pe m hm hm2 hdj).nw=true:=id rfl
def qc3:qfv.nw=false:=id rfl
def qby:LA.nw=false:=id rfl
def NS:DK.nw=false:=id rfl
def qcq {n:Bool}:(qaK n).nw=false:=id rfl
def qqA {s:Sl} {r:Rho}:vw (s::r) 0=s.d:=id rfl
def qqw {s:Sl} {r:Rho} {i:Nat}:vw (s::r) (i+1)=vw r i:=id rfl
def qmr {d:PyData}:(Sl.sh d).d=some d:=id rfl
def qjY {ds:List PyData}:(Sl.ow ds).d=some (.list ds):=id rfl
def qls:Sl.un.d=none:=id rfl
def qdo {r:Rho} {ds:List PyData}:slot (.ow ds::r) 0=some ds:=id rfl
def qfH {s:Sl} {r:Rho} {i:Nat}:slot (s::r) (i+1)=slot r i:=id rfl
def qbo {r:Rho} {ds:List PyData}:qdx (.ow ds::r) 0=some (.rt (.list ds) true):=id rfl
def qaU {r:Rho} {d:PyData}:qdx (.sh d::r) 0=some (.rt d false):=id rfl
def qgo {s:Sl} {r:Rho} {i:Nat}:qdx (s::r) (i+1)=qdx r i:=id rfl
def qkh {xs:List PyData} {i:Int}:ixD (.tuple xs) (.int i)=L2.atI xs i:=id rfl
def qkl {xs:List PyData} {i:Int}:ixD (.list xs) (.int i)=L2.atI xs i:=id rfl
def at0 {α:Type} {a:α} {r:List α}:L2.atI (a::r) 0=some a:=by simp [L2.atI,ixN]
def at1 {α:Type} {a b:α} {r:List α}:L2.atI (a::b::r) 1=some b:=by
 have h:ixN (a::b::r).length 1=some 1:=by unfold ixN;rw [if_pos (by omega),if_pos (by simp;omega)];rfl
 unfold L2.atI;rw [h];rfl
def at4 {α:Type} {a b c d e:α} {r:List α}:L2.atI (a::b::c::d::e::r) 4=some e:=by
 have h:ixN (a::b::c::d::e::r).length 4=some 4:=by unfold ixN;rw [if_pos (by omega),if_pos (by simp;omega)];rfl
 unfold L2.atI;rw [h];rfl
def atN {α:Type} {xs:List α} {k:Nat} (h:k<xs.length):L2.atI xs (k:Int)=xs[k]?:=by
 have e:ixN xs.length (k:Int)=some k:=by unfold ixN;rw [if_pos (by omega),if_pos (by omega)];rfl
 unfold L2.atI;rw [e];rfl
def eqS {n:Bool} {a b:Str}:eqD n (.str a) (.str b)=some (.bool (if n then !decide (a=b) else decide (a=b))):=id rfl
def eqI {n:Bool} {a b:Int}:eqD n (.int a) (.int b)=some (.bool (if n then !decide (a=b) else decide (a=b))):=id rfl
def qb0 {C:Int->Int->Prop} {g:Int->Int->Int} {i j:Int} (h:C i j):cI C g (.int i) (.int j)=some (.int (g i j)):=by simp only [cI];exact jt h
def XV {i j:Int} (h:-1000000<i/\i<1000000):cI QT (·*·) (.int i) (.int j)=some (.int (i*j)):=qb0 (.inl ⟨by omega,by omega⟩)
def KJ {i j:Int} (h:0<j):cI (λ_ j=>0<j) (·%·) (.int i) (.int j)=some (.int (i%j)):=qb0 h
def qc9 {i j:Int} (h:0<j/\j<1073741824):cI RY (·/·) (.int i) (.int j)=some (.int (i/j)):=qb0 h
def qqR {i j:Int}:qlV (.int i) (.int j)=some (.int (i+j)):=id rfl
def LO {j:Int} (h:-1000000000<=j/\j<1000000000):qce [.int j]=some ((jQ 0 j.toNat).map PyData.int):=by simp only [qce];exact jt ⟨by omega,by omega⟩
def qqU {i j:Int} (h:-1000000000<=i/\i<1000000000/\-1000000000<=j/\j<1000000000):qce [.int i,.int j]=some ((jQ i (j-i).toNat).map PyData.int):=by simp only [qce];exact jt ⟨by omega,by omega,by omega,by omega⟩
def MV {pi:Rho->Option (List PyData)} {h:Rho->PyData->Option (Option PyData)} {m:List (Option Nat)} {ρ:Rho} {ds fs:List PyData} (h1:pi ρ=some ds) (h2:lcP (h (WL m ρ)) ds=some fs) (h3:fs.length<=16777216):lcF pi h m ρ=some (.list fs):=by unfold lcF;rw [h1];simp only [Option.bind_some,h2];exact jt h3
def MN {pi:Rho->Option (List PyData)} {h:Rho->PyData->Option (Option (List PyData))} {m:List (Option Nat)} {ρ:Rho} {ds fs:List PyData} (h1:pi ρ=some ds) (h2:qg4 (h (WL m ρ)) ds=some fs) (h3:fs.length<=16777216):qmT pi h m ρ=some (.list fs):=by unfold qmT;rw [h1];simp only [Option.bind_some,h2];exact jt h3
def qim {i:Nat} {d:PyData} {ρ:Rho} {ds:List PyData} (h:slot ρ i=some ds) (hl:ds.length<16777216):qmR i d ρ=some (.nx (ρ.set i (.ow (ds++[d])))):=by unfold qmR;rw [h];simp only [Option.bind_some];exact jt hl
def qd5 {gf:PyData->Option (List (Nat×PyData))} {bf:Rho->Option Ot} {α:Type} {g:α->PyData} (xs:List α) (I:Nat->Rho->Prop) {ρ:Rho} (h0:I 0 ρ)
  (hs:∀ i x ρ,xs[i]?=some x->I i ρ->∃ bs ρ',gf (g x)=some bs/\(bf (QP ρ bs)=some (.nx ρ')\/bf (QP ρ bs)=some (.ct ρ'))/\I (i+1) ρ'):∃ ρ',T3 gf bf (xs.map g) ρ=some (.nx ρ')/\I xs.length ρ':=by
 have key:∀ (r:List α) (i:Nat) (ρ:Rho),xs.drop i=r->i<=xs.length->I i ρ->∃ ρ',T3 gf bf (r.map g) ρ=some (.nx ρ')/\I xs.length ρ':=by
  intro r;induction r with
  |nil=>
   intro i ρ e hi h;have:i=xs.length:=by
    have:=congrArg List.length e;simp at this;omega
   subst this;exact ⟨ρ,rfl,h⟩
  |cons x r ih=>
   intro i ρ e hi h;have hl:i<xs.length:=by
    have:=congrArg List.length e;simp at this;omega
   have e':=List.drop_eq_getElem_cons hl;rw [e] at e';injection e' with e1 e2;obtain ⟨bs,ρ',h1,h2,h3⟩:=hs i x ρ (by rw [v8 hl,e1]) h;obtain ⟨ρ2,h4,h5⟩:=ih (i+1) ρ' e2.symm hl h3;refine ⟨ρ2,?_,h5⟩;simp only [map_cons,T3,h1,Option.bind_some];rcases h2 with h2|h2<;>(rw [h2];exact h4)
 exact key xs 0 ρ (by simp) (Nat.zero_le _) h0
def qcC {gf:PyData->Option (List (Nat×PyData))} {bf:Rho->Option Ot} {α:Type} {g:α->PyData} (xs:List α) (n:Nat) (x:α) (hn:xs[n]?=some x) (I:Nat->Rho->Prop) {ρ:Rho} {o:Ot} (h0:I 0 ρ)
  (hs:∀ i x ρ,i<n->xs[i]?=some x->I i ρ->∃ bs ρ',gf (g x)=some bs/\(bf (QP ρ bs)=some (.nx ρ')\/bf (QP ρ bs)=some (.ct ρ'))/\I (i+1) ρ')
  (he:∀ ρ,I n ρ->∃ bs,gf (g x)=some bs/\((∃ d b,o=.rt d b/\bf (QP ρ bs)=some (.rt d b))\/∃ ρ',o=.nx ρ'/\bf (QP ρ bs)=some (.bk ρ'))):T3 gf bf (xs.map g) ρ=some o:=by
 have hl:=(zb0 hn).1;have key:∀ (k i:Nat) (ρ:Rho),i+k=n->I i ρ->T3 gf bf ((xs.drop i).map g) ρ=some o:=by
  intro k;induction k with
  |zero=>
   intro i ρ e h;have:i=n:=by omega
   subst this;obtain ⟨bs,h1,h2⟩:=he ρ h;rw [List.drop_eq_getElem_cons hl];have ex:xs[i]=x:=by
    rw [v8 hl] at hn;exact Option.some.inj hn
   rw [ex];simp only [map_cons,T3,h1,Option.bind_some];rcases h2 with ⟨d,b,rfl,h2⟩|⟨ρ',rfl,h2⟩<;>(rw [h2];rfl)
  |succ k ih=>
   intro i ρ e h;have hi:i<xs.length:=by omega
   obtain ⟨bs,ρ',h1,h2,h3⟩:=hs i xs[i] ρ (by omega) (v8 hi) h;rw [List.drop_eq_getElem_cons hi];simp only [map_cons,T3,h1,Option.bind_some];rcases h2 with h2|h2<;>(rw [h2];exact ih (i+1) ρ' (by omega) h3)
 exact key n 0 ρ (by omega) h0
def sqk (b:Nat->Rho->Option Ot) (n:Nat) (o:Ot):Option Ot:=match o with|.nx ρ'=>b n ρ'|o=>some o
def qfm {a b:Nat->Rho->Option Ot} {n:Nat} {ρ:Rho}:qnZ a b n ρ=(a n ρ).bind (sqk b n):=id rfl
def qgf {b:Nat->Rho->Option Ot} {n:Nat} {ρ:Rho}:sqk b n (.nx ρ)=b n ρ:=id rfl
def qgH {b:Nat->Rho->Option Ot} {n:Nat} {d:PyData} {f:Bool}:sqk b n (.rt d f)=some (.rt d f):=id rfl
def qcb {d:PyData}:TW true (some (.rt d true))=some d:=id rfl
def qe9 {d:PyData} {b:Bool}:TW false (some (.rt d b))=some d:=by simp [TW]
def qaT {ρ:Rho}:TW false (some (.nx ρ))=some .none:=id rfl
def qjO {b:Bool}:asB (.bool b)=some b:=id rfl
def qmH {b:Int}:asI (.int b)=some b:=id rfl
def qgw {xs:List PyData}:qnT [.list xs]=some (.int xs.length):=id rfl
def qfj {xs:List PyData}:qnY [.list xs]=some (.tuple xs):=id rfl
def qf7 {xs:List PyData}:qoa [.list xs]=some (.list xs):=id rfl
def qhJ {xs:List Int} (h:xs.length<4000):qcr (.list (xs.map PyData.int))=some (.int (C0 xs)):=by simp only [qcr,qbu,Option.bind_some];exact jt h
def qfP {xs:List PyData}:qaR (.tuple xs)=some xs:=id rfl
def qgE {xs:List PyData}:qaR (.list xs)=some xs:=id rfl
def qln {m:List Bool} {nw:Bool} {i:Nat} {v:Int} {ρ:Rho}:NW m nw i (.int v) ρ=ρ.set i (.sh (.int v)):=id rfl
def qlR {m:List Bool} {nw:Bool} {i:Nat} {v:Str} {ρ:Rho}:NW m nw i (.str v) ρ=ρ.set i (.sh (.str v)):=id rfl
def qhL {m:List Bool} {nw:Bool} {i:Nat} {v:List PyData} {ρ:Rho}:NW m nw i (.tuple v) ρ=(dm m ρ).set i (.sh (.tuple v)):=by cases nw<;>rfl
def qgy {m:List Bool} {i:Nat} {v:List PyData} {ρ:Rho}:NW m true i (.list v) ρ=(dm m ρ).set i (.ow v):=id rfl
def qgi {m:List Bool} {i:Nat} {v:List PyData} {ρ:Rho}:NW m false i (.list v) ρ=(dm m ρ).set i (.sh (.list v)):=id rfl
def qlS {m:List Bool} {v:Int} {ρ:Rho}:dmS m (.int v) ρ=ρ:=id rfl
def qlB {m:List Bool} {v:List PyData} {ρ:Rho}:dmS m (.tuple v) ρ=dm m ρ:=id rfl
def qks {m:List Bool} {v:List PyData} {ρ:Rho}:dmS m (.list v) ρ=dm m ρ:=id rfl
def qqC {ρ:Rho}:dm [] ρ=ρ:=id rfl
def qqP {m:List Bool} {s:Sl} {ρ:Rho}:dm (true::m) (s::ρ)=s.dem::dm m ρ:=id rfl
def qqW {m:List Bool} {s:Sl} {ρ:Rho}:dm (false::m) (s::ρ)=s::dm m ρ:=id rfl
def qkY {ds:List PyData}:(Sl.ow ds).dem=.sh (.list ds):=id rfl
def qku {d:PyData}:(Sl.sh d).dem=.sh d:=id rfl
def qk1 {ρ:Rho}:WL [] ρ=[]:=id rfl
def qjC {m:List (Option Nat)} {ρ:Rho}:WL (none::m) ρ=.un::WL m ρ:=id rfl
def cp (o:Option PyData):Sl:=match o with|some d=>.sh d|none=>.un
def qmw {m:List (Option Nat)} {j:Nat} {ρ:Rho}:WL (some j::m) ρ=cp (vw ρ j)::WL m ρ:=id rfl
def qqL {d:PyData}:cp (some d)=.sh d:=id rfl
def qfJ {pi:Rho->Option (List PyData)} {m:List Bool} {gf:PyData->Option (List (Nat×PyData))} {bf:Nat->Rho->Option Ot} {n:Nat} {ρ:Rho}:qn5 pi false m gf bf n ρ=(pi ρ).bind λds=>T3 gf (bf n) ds (dm m ρ):=id rfl
def qge {ρ:Rho}:QP ρ []=ρ:=id rfl
def qfy {ρ:Rho} {i:Nat} {d:PyData} {r:List (Nat×PyData)}:QP ρ ((i,d)::r)=QP (ρ.set i (.sh d)) r:=id rfl
def CQ {gf:PyData->Option (List (Nat×PyData))} {cf:Rho->Option Bool} {ef:Rho->Option PyData} {ρ:Rho} {d:PyData}:lcH gf cf ef ρ d=(gf d).bind λbs=>(cf (QP ρ bs)).bind λk=>if k then (ef (QP ρ bs)).map some else some none:=id rfl
def qcx {gf:PyData->Option (List (Nat×PyData))} {cf:Rho->Option Bool} {it:Rho->Option (List PyData)} {h:Rho->PyData->Option (Option PyData)} {ρ:Rho} {d:PyData}:qnx gf cf it h ρ d=(gf d).bind λbs=>(cf (QP ρ bs)).bind λk=>if k then ((it (QP ρ bs)).bind λds=>lcP (h (QP ρ bs)) ds).map some else some none:=id rfl
def Nx (o:Option Ot) (P:Rho->Prop):Prop:=match o with|some (.nx ρ)=>P ρ|some (.ct ρ)=>P ρ|_=>False
def qiy {ρ:Rho} {P:Rho->Prop}:Nx (some (.nx ρ)) P=P ρ:=id rfl
def qjJ {o:Option Ot} {P:Rho->Prop} (h:Nx o P):∃ ρ,(o=some (.nx ρ)\/o=some (.ct ρ))/\P ρ:=by
 unfold Nx at h;split at h
 ·exact ⟨_,.inl rfl,h⟩
 ·exact ⟨_,.inr rfl,h⟩
 ·exact h.elim
section
variable {gf:PyData->Option (List (Nat×PyData))} {bf:Rho->Option Ot} {α:Type} {g:α->PyData} {ρ:Rho} {Q:Option Ot->Prop} {F:Ot->Option Ot}
def EN (xs:List α) (I:Nat->Rho->Prop) (h0:I 0 ρ) (hs:∀ i x ρ,xs[i]?=some x->I i ρ->Nx ((gf (g x)).bind λbs=>bf (QP ρ bs)) (I (i+1))) (k:∀ ρ',I xs.length ρ'->Q (some (.nx ρ'))):Q (T3 gf bf (xs.map g) ρ):=by
 obtain ⟨ρ',e,h⟩:=qd5 (gf:=gf) (bf:=bf) (g:=g) xs I h0 λi x ρ hx hi=>by
  obtain ⟨ρ2,e,h⟩:=qjJ (hs i x ρ hx hi);cases e1:gf (g x) with
  |none=>rw [e1] at e;rcases e with e|e<;>cases e
  |some bs=>rw [e1] at e;exact ⟨bs,ρ2,rfl,e,h⟩
 rw [e];exact k ρ' h
def qbx (xs:List α) (I:Nat->Rho->Prop) (h0:I 0 ρ) (hs:∀ i x ρ,xs[i]?=some x->I i ρ->Nx ((gf (g x)).bind λbs=>bf (QP ρ bs)) (I (i+1))) (k:∀ ρ',I xs.length ρ'->Q (F (.nx ρ'))):Q ((T3 gf bf (xs.map g) ρ).bind F):=
 EN (Q:=λo=>Q (o.bind F)) xs I h0 hs k
def KB (xs:List α) (n:Nat) (x:α) (d:PyData) (b:Bool) (hn:xs[n]?=some x) (I:Nat->Rho->Prop) (h0:I 0 ρ) (hs:∀ i x ρ,i<n->xs[i]?=some x->I i ρ->Nx ((gf (g x)).bind λbs=>bf (QP ρ bs)) (I (i+1))) (he:∀ ρ,I n ρ->((gf (g x)).bind λbs=>bf (QP ρ bs))=some (.rt d b)) (k:Q (some (.rt d b))):Q (T3 gf bf (xs.map g) ρ):=by
 rw [qcC (gf:=gf) (bf:=bf) (g:=g) xs n x hn I h0 (λi x ρ hi hx hI=>by
  obtain ⟨ρ2,e,h⟩:=qjJ (hs i x ρ hi hx hI);cases e1:gf (g x) with
  |none=>rw [e1] at e;rcases e with e|e<;>cases e
  |some bs=>rw [e1] at e;exact ⟨bs,ρ2,rfl,e,h⟩) (o:=.rt d b) λρ hI=>by
  have:=he ρ hI;cases e1:gf (g x) with
  |none=>rw [e1] at this;cases this
  |some bs=>rw [e1] at this;exact ⟨bs,rfl,.inl ⟨d,b,rfl,this⟩⟩]
 exact k
def qhK (xs:List α) (n:Nat) (x:α) (d:PyData) (b:Bool) (hn:xs[n]?=some x) (I:Nat->Rho->Prop) (h0:I 0 ρ) (hs:∀ i x ρ,i<n->xs[i]?=some x->I i ρ->Nx ((gf (g x)).bind λbs=>bf (QP ρ bs)) (I (i+1))) (he:∀ ρ,I n ρ->((gf (g x)).bind λbs=>bf (QP ρ bs))=some (.rt d b)) (k:Q (F (.rt d b))):Q ((T3 gf bf (xs.map g) ρ).bind F):=
 KB (Q:=λo=>Q (o.bind F)) xs n x d b hn I h0 hs he k
end
def qqq {α:Type} {us:List α} (h:us.length=1):∃ a0,us=[a0]:=List.length_eq_one_iff.mp h
def qqB {α:Type} {us:List α} (h:us.length=2):∃ a0 a1,us=[a0,a1]:=by
 obtain ⟨a0,r,rfl⟩:=List.exists_cons_of_length_pos (show 0<us.length by omega);obtain ⟨a1,rfl⟩:=qqq (show r.length=1 by simpa using h);exact ⟨a0,a1,rfl⟩
def qqp {α:Type} {us:List α} (h:us.length=3):∃ a0 a1 a2,us=[a0,a1,a2]:=by
 obtain ⟨a0,r,rfl⟩:=List.exists_cons_of_length_pos (show 0<us.length by omega);obtain ⟨a1,a2,rfl⟩:=qqB (show r.length=2 by simpa using h);exact ⟨a0,a1,a2,rfl⟩
def qqE {α:Type} {us:List α} (h:us.length=4):∃ a0 a1 a2 a3,us=[a0,a1,a2,a3]:=by
 obtain ⟨a0,r,rfl⟩:=List.exists_cons_of_length_pos (show 0<us.length by omega);obtain ⟨a1,a2,a3,rfl⟩:=qqp (show r.length=3 by simpa using h);exact ⟨a0,a1,a2,a3,rfl⟩
def qqv {α:Type} {us:List α} (h:us.length=5):∃ a0 a1 a2 a3 a4,us=[a0,a1,a2,a3,a4]:=by
 obtain ⟨a0,r,rfl⟩:=List.exists_cons_of_length_pos (show 0<us.length by omega);obtain ⟨a1,a2,a3,a4,rfl⟩:=qqE (show r.length=4 by simpa using h);exact ⟨a0,a1,a2,a3,a4,rfl⟩
def qrh {α:Type} {us:List α} (h:us.length=6):∃ a0 a1 a2 a3 a4 a5,us=[a0,a1,a2,a3,a4,a5]:=by
 obtain ⟨a0,r,rfl⟩:=List.exists_cons_of_length_pos (show 0<us.length by omega);obtain ⟨a1,a2,a3,a4,a5,rfl⟩:=qqv (show r.length=5 by simpa using h);exact ⟨a0,a1,a2,a3,a4,a5,rfl⟩
end Pu
namespace Pv
open PySem L2 L3 Pu
open Bk (Dl)
def pD (p:Int×Int):PyData:=.tuple [.int p.1,.int p.2]
def qft (r:List Int):PyData:=.tuple (r.map PyData.int)
def dlD:Dl->PyData
 |.skew r c b x y=>.tuple [.str "skew",.int r,.int c,.int b,.int x,.int y]
 |.rests r c b p=>.tuple [.str "rests",.int r,.int c,.int b,.int p]
 |.bits h l ms=>.tuple [.str "bits",.int h,.int l,.tuple (ms.map PyData.int)]
 |.table b cells=>.tuple [.str "table",.int b,.tuple (cells.map qft)]
 |.joined d e=>.tuple [.str "joined",dlD d,dlD e]
end Pv
namespace Pu
open PySem L2 L3
open Bk (Lf Ext)
section
variable {D:Addr->Prop} {a:Addr} {G G' G0:Gp} {n n':Nat} {fv gv:List Nat} {l:Nat} {τ:St3} {ρ:Rho}
def ES (e:Ext a G G') (h:D a):Ex (rs D G) (rs D G'):=λb o x=>by
 obtain ⟨n,x⟩:=qR x;rw [jU n];exact e b o (by rintro rfl;exact n h) x
def DW {k:Int} (h:Lf G a k):G a≠none:=by
 obtain ⟨o,c,m,e,_⟩:=h;rw [e];simp
def jO {k:Int} (hd:Dom D G) (e:Ext a G G') (lf:Lf G' a k):Dom D G':=λb hb z=>by
 by_cases h:b=a
 ·subst h;exact DW lf z
 ·cases g:G b with
  |none=>exact hd b hb g
  |some o=>rw [e b o h g] at z;cases z
def Nw.backx {x:T} {d:PyData} {k:Int} (h:Nw D G G' x d) (e:Ext a G0 G) (lf:Lf G a k):Nw D G0 G' x d:=by
 rcases h with h|⟨p,xs,ds,h1,h2,c,r⟩
 ·exact .inl h
 refine .inr ⟨p,xs,ds,h1,h2,?_,r⟩;cases z:G0 p with
 |none=>rfl
 |some o=>
  by_cases hp:p=a
  ·subst hp;exact absurd c (DW lf)
  ·rw [e p o hp z] at c;cases c
structure Ln (fv:List Nat) (l:Nat) (D:Addr->Prop) (G:Gp) (τ:St3) (ρ:Rho) (a:Addr) (n:Nat):Prop where
 v:CV fv D G τ ρ
 d:Dom D G
 da:D a
 tl:τ[l]?=some (some (.ref a))
 ul:vw ρ l=none
 lf:Lf G a n
theorem Ln.up (h:Ln fv l D G τ ρ a n) (e:Ext a G G') (lf:Lf G' a n'):Ln fv l D G' τ ρ a n':=
 ⟨λi hi d hd=>let ⟨t,x,y⟩:=h.v i hi d hd;⟨t,x,y.up (ES e h.da)⟩,jO h.d e lf,h.da,h.tl,h.ul,lf⟩
def Ln.fst (h:Ln (fv++gv) l D G τ ρ a n):Ln fv l D G τ ρ a n:=⟨h.v.l,h.d,h.da,h.tl,h.ul,h.lf⟩
def Ln.snd (h:Ln (fv++gv) l D G τ ρ a n):Ln gv l D G τ ρ a n:=⟨h.v.r,h.d,h.da,h.tl,h.ul,h.lf⟩
end
abbrev QD:=PyData->Nat->Prop
structure PwE (l:Nat) (t:TE3) where
 w:Rho->Nat->QD->Prop
 fv:List Nat
 nw:Bool
 mono:∀ {ρ n} {Q Q':QD},w ρ n Q->(∀ d m,Q d m->Q' d m)->w ρ n Q'
 ok:∀ {D τ ρ G a n} {q:Q3} {Q:QD},Ln fv l D G τ ρ a n->w ρ n Q->(∀ x d G' n',Q d n'->Ext a G G'->Lf G' a n'->Dq (rs D G') x d->(nw=true->Nw D G G' x d)->q x G')->t τ G q
structure PwC (l:Nat) (t:TT3) where
 w:Rho->Nat->(Bool->Nat->Prop)->Prop
 fv:List Nat
 mono:∀ {ρ n} {Q Q':Bool->Nat->Prop},w ρ n Q->(∀ d m,Q d m->Q' d m)->w ρ n Q'
 ok:∀ {D τ ρ G a n} {q:Bool->Gp->Prop} {Q:Bool->Nat->Prop},Ln fv l D G τ ρ a n->w ρ n Q->(∀ k G' n',Q k n'->Ext a G G'->Lf G' a n'->q k G')->t τ G q
structure PwA (l:Nat) (t:TA3) where
 w:Rho->Nat->(List PyData->Nat->Prop)->Prop
 fv:List Nat
 k:Nat
 mono:∀ {ρ n} {Q Q':List PyData->Nat->Prop},w ρ n Q->(∀ d m,Q d m->Q' d m)->w ρ n Q'
 ok:∀ {D τ ρ G a n} {q:List T->Gp->Prop} {Q:List PyData->Nat->Prop},Ln fv l D G τ ρ a n->w ρ n Q->(∀ x d G' n',Q d n'->d.length=k->Ext a G G'->Lf G' a n'->Dqs (rs D G') x d->q x G')->t τ G q
structure PwI (l:Nat) (t:TI3) where
 w:Rho->Nat->(List PyData->Nat->Prop)->Prop
 fv:List Nat
 nm:Bool
 mono:∀ {ρ n} {Q Q':List PyData->Nat->Prop},w ρ n Q->(∀ d m,Q d m->Q' d m)->w ρ n Q'
 ok:∀ {D τ ρ G a n} {r:List T->(Gp->Prop)->Gp->Prop} {Q:List PyData->Nat->Prop},Ln fv l D G τ ρ a n->w ρ n Q ->
  (∀ items stay ds G' n',Q ds n'->Ext a G G'->Lf G' a n'->Dqs (rs D G') items ds->(∀ G'',(nm=true\/Ex (rs D G') G'')->stay G'')->(nm=true->∃ ns:List Int,ds=ns.map PyData.int)->r items stay G')->t τ G r
structure DrD (r:List T->Gp->Q3->Prop) where
 W:List PyData->Nat->QD->Prop
 nw:Bool
 mono:∀ {ds n} {Q Q':QD},W ds n Q->(∀ d m,Q d m->Q' d m)->W ds n Q'
 ok:∀ {D:Addr->Prop} {G:Gp} {a:Addr} {n:Nat} {ts:List T} {ds:List PyData} {q:Q3} {Q:QD},Lf G a n->D a->Dom D G->Dqs (rs D G) ts ds->W ds n Q->(∀ x d G' n',Q d n'->Ext a G G'->Lf G' a n'->Dq (rs D G') x d->(nw=true->Nw D G G' x d)->q x G')->r (.ref a::ts) G q
section
variable {l:Nat}
def eOf {t:TE3} (b:PuE t):PwE l t:=⟨λρ n Q=>∃ d,b.f ρ=some d/\Q d n,b.fv,b.nw,λ⟨d,h1,h2⟩ h=>⟨d,h1,h _ _ h2⟩,λh ⟨d,h1,h2⟩ k=>
 b.ok h.v h.d h1 λx G1 E1 D1 N1=>k x d G1 _ h2 (Bk.Q0 E1) (h.lf.ex E1) D1 N1⟩
def cOf {t:TT3} (b:PuC t):PwC l t:=⟨λρ n Q=>∃ d,b.f ρ=some d/\Q d n,b.fv,λ⟨d,h1,h2⟩ h=>⟨d,h1,h _ _ h2⟩,λh ⟨d,h1,h2⟩ k=>
 b.ok h.v h.d h1 λG1 E1=>k d G1 _ h2 (Bk.Q0 E1) (h.lf.ex E1)⟩
def aOf {t:TA3} (b:PuA t):PwA l t:=⟨λρ n Q=>∃ d,b.f ρ=some d/\Q d n,b.fv,b.n,λ⟨d,h1,h2⟩ h=>⟨d,h1,h _ _ h2⟩,λh ⟨d,h1,h2⟩ k=>
 b.ok h.v h.d h1 λx G1 E1 D1=>k x d G1 _ h2 (b.ln h1) (Bk.Q0 E1) (h.lf.ex E1) D1⟩
def iOf {t:TI3} (b:PuI t):PwI l t:=⟨λρ n Q=>∃ d,b.f ρ=some d/\Q d n,b.fv,b.nm,λ⟨d,h1,h2⟩ h=>⟨d,h1,h _ _ h2⟩,λh ⟨d,h1,h2⟩ k=>
 b.ok h.v h.d h1 λitems stay G1 E1 D1 s nm=>k items stay d G1 _ h2 (Bk.Q0 E1) (h.lf.ex E1) D1 s nm⟩
def eO {r:R3} {ta tb:TE3} (R:OpD r) (a:PwE l ta) (b:PwE l tb):PwE l (o3 r ta tb):=
 ⟨λρ n Q=>a.w ρ n λx n1=>b.w ρ n1 λy n2=>∃ v,R.f x y=some v/\Q v n2,a.fv++b.fv,R.nw,λh k=>a.mono h λx n1 h=>b.mono h λy n2 ⟨v,h1,h2⟩=>⟨v,h1,k _ _ h2⟩,λh hw k=>
  a.ok h.fst hw λx dx G1 n1 h1 E1 L1 D1 _=>b.ok (h.snd.up E1 L1) h1 λy dy G2 n2 ⟨v,e,hq⟩ E2 L2 D2 _=>R.ok (D1.up (ES E2 h.da)) D2 (jO (jO h.d E1 L1) E2 L2) e λz G3 E3 D3 N3=>k z v G3 n2 hq ((E1.trans E2).trans (Bk.Q0 E3)) (L2.ex E3) D3 λz=>(N3 z).backx (E1.trans E2) L2⟩
def jB {ta:TE3} {tr:TA3} (a:PwE l ta) (r:PwA l tr):PwA l (qf ta tr):=
 ⟨λρ n Q=>a.w ρ n λx n1=>r.w ρ n1 λxs n2=>Q (x::xs) n2,a.fv++r.fv,r.k+1,λh k=>a.mono h λx n1 h=>r.mono h λxs n2 h=>k _ _ h,λh hw k=>
  a.ok h.fst hw λx dx G1 n1 h1 E1 L1 D1 _=>r.ok (h.snd.up E1 L1) h1 λy dy G2 n2 hq hl E2 L2 D2=>k _ _ G2 n2 hq (by simp [hl]) (E1.trans E2) L2 (.cons (D1.up (ES E2 h.da)) D2)⟩
def qf2 {t:TA3} (b:PwA l t) (hn:Tru (Nat.ble b.k 1000)):PwE l (jo t):=⟨λρ n Q=>b.w ρ n λxs n1=>Q (.tuple xs) n1,b.fv,false,λh k=>b.mono h λxs n1 h=>k _ _ h,λh hw k=>
 b.ok h hw λx dx G1 n1 h1 hl E1 L1 D1=>⟨by rw [D1.length,hl];exact few hn,k _ _ _ _ h1 E1 L1 (.tup D1) (λz=>by cases z)⟩⟩
def qqM {t:TA3} (b:PwA l t) (hn:Tru (Nat.ble b.k 1000)):PwE l (je t):=⟨λρ n Q=>b.w ρ n λxs n1=>Q (.list xs) n1,b.fv,true,λh k=>b.mono h λxs n1 h=>k _ _ h,λh hw k=>
 b.ok h hw λx dx G1 n1 h1 hl E1 L1 D1=>⟨by rw [D1.length,hl];exact few hn,λp hp=>k _ _ _ _ h1 (E1.trans (Bk.Q0 (zn hp))) (L1.ex (zn hp)) (UI (jO h.d E1 L1) hp D1) λ_=>(WK hp D1).backx E1 L1⟩⟩
def qhZ {r:List T->Gp->Q3->Prop} {t:TA3} (R:FnD r) (b:PwA l t):PwE l (cb3 r t):=⟨λρ n Q=>b.w ρ n λxs n1=>∃ v,R.f xs=some v/\Q v n1,b.fv,R.nw,λh k=>b.mono h λxs n1 ⟨v,h1,h2⟩=>⟨v,h1,k _ _ h2⟩,λh hw k=>
 b.ok h hw λx dx G1 n1 ⟨v,e,hq⟩ hl E1 L1 D1=>R.ok D1 (jO h.d E1 L1) e λz G3 E3 D3 N3=>k z v G3 n1 hq (E1.trans (Bk.Q0 E3)) (L1.ex E3) D3 λz=>(N3 z).backx E1 L1⟩
def eDr {r:List T->Gp->Q3->Prop} {t:TA3} (R:DrD r) (b:PwA l t):PwE l (cb3 r (qf (v3 l) t)):=⟨λρ n Q=>b.w ρ n λxs n1=>R.W xs n1 Q,b.fv,R.nw,λh k=>b.mono h λxs n1 h=>R.mono h k,λ{D τ ρ G a n q Q} h hw k=>by
 simp only [cb3,qf,v3,h.tl];exact b.ok h hw λx dx G1 n1 hW hl E1 L1 D1=>R.ok L1 h.da (jO h.d E1 L1) D1 hW λz d G3 n3 hq E3 L3 D3 N3=>k z d G3 n3 hq (E1.trans E3) L3 D3 λz=>(N3 z).backx E1 L1⟩
def iR {t:TA3} (b:PwA l t):PwI l (jf t):=⟨λρ n Q=>b.w ρ n λxs n1=>∃ ds,qce xs=some ds/\Q ds n1,b.fv,true,λh k=>b.mono h λxs n1 ⟨v,h1,h2⟩=>⟨v,h1,k _ _ h2⟩,λh hw k=>b.ok h hw λx dx G1 n1 ⟨ds,e,hq⟩ hl E1 L1 D1=>by
 unfold qce at e;split at e
 ·unfold cif at e;split at e
  ·rename_i c;cases e;cases D1 with
   |cons a b=>cases b;cases a;simp only;rw [M8];exact ⟨c,k _ _ _ _ _ hq E1 L1 (Dqs.ofInts _) (λ_ _=>trivial) λ_=>⟨_,rfl⟩⟩
  ·cases e
 ·unfold cif at e;split at e
  ·rename_i c;cases e;cases D1 with
   |cons a b=>cases b with
    |cons b c'=>cases c';cases a;cases b;simp only;rw [M8];exact ⟨c,k _ _ _ _ _ hq E1 L1 (Dqs.ofInts _) (λ_ _=>trivial) λ_=>⟨_,rfl⟩⟩
  ·cases e
 ·cases e⟩
def iS {t:TE3} (b:PwE l t):PwI l (VI t):=⟨λρ n Q=>b.w ρ n λd n1=>∃ ds,qaR d=some ds/\Q ds n1,b.fv,false,λh k=>b.mono h λxs n1 ⟨v,h1,h2⟩=>⟨v,h1,k _ _ h2⟩,λh hw k=>b.ok h hw λx dx G1 n1 ⟨ds,e,hq⟩ E1 L1 D1 _=>by
 unfold qaR at e;cases D1 with
 |tup hs=>cases e;exact k _ _ _ _ _ hq E1 L1 hs (λ_ _=>trivial) (λz=>by cases z)
 |lst g hs=>
  cases e;simp only [qL (qR g).2];refine k _ _ _ _ _ hq E1 L1 hs (λG2 h=>?_) (λz=>by cases z);rcases h with h|h
  ·cases h
  ·exact qL (h _ _ g)
 |_=>simp at e⟩
end
def lcW (gf:PyData->Option (List (Nat×PyData))) (cw:Rho->Nat->(Bool->Nat->Prop)->Prop) (ew:Rho->Nat->QD->Prop) (ρ:Rho):List PyData->Nat->(List PyData->Nat->Prop)->Prop
 |[],n,Q=>Q [] n
 |d::r,n,Q=>∃ bs,gf d=some bs/\cw (QP ρ bs) n λk n1=>if k then ew (QP ρ bs) n1 λy n2=>lcW gf cw ew ρ r n2 λys n3=>Q (y::ys) n3 else lcW gf cw ew ρ r n1 Q
theorem EM {l:Nat} {g:TG3} {tif:TT3} {te:TE3} (pg:PuG g) (pc:PwC l tif) (pe:PwE l te) {ρ:Rho}:∀ {ds:List PyData} {n:Nat} {Q Q':List PyData->Nat->Prop},lcW pg.f pc.w pe.w ρ ds n Q->(∀ d m,Q d m->Q' d m)->lcW pg.f pc.w pe.w ρ ds n Q'
 |[],n,Q,Q',h,k=>k _ _ h
 |d::r,n,Q,Q',⟨bs,e,h⟩,k=>⟨bs,e,pc.mono h λj m h=>by
   cases j with
   |true=>rw [if_pos rfl] at h ⊢;exact pe.mono h λy m2 h=>EM pg pc pe h λys m3 h=>k _ _ h
   |false=>exact EM pg pc pe h k⟩
def VA.ext {D:Addr->Prop} {a:Addr} {G G':Gp} {τ:St3} {ρ:Rho} (h:VA D G τ ρ) (e:Ext a G G') (da:D a):VA D G' τ ρ:=h.upx (ES e da)
theorem qdp:∀ {ts:List (Nat×T)} {τ:St3} {i:Nat},(∀ p∈ts,p.1≠i)->(sets τ ts)[i]?=τ[i]?
 |[],_,_,_=>rfl
 |p::r,τ,i,h=>by
  unfold sets;rw [qdp λq hq=>h q (by simp [hq]),getElem?_set,if_neg (h p (by simp))]
theorem qbM {l:Nat} {stay:Gp->Prop} {g:TG3} {tif:TT3} {te:TE3} {q:Q3} (pg:PuG g) (pc:PwC l tif) (pe:PwE l te) {D:Addr->Prop} {a:Addr} {ρ0:Rho} {G0:Gp} (da:D a) (hs:∀ G,Ext a G0 G->stay G) (hm:∀ i∈pg.tg,vw ρ0 i=none) (hl:∀ i∈pg.tg,i≠l) {Q:List PyData->Nat->Prop}
  (k:∀ G ys fs n,Q fs n->fs.length<=sizeLine->Ext a G0 G->Lf G a n->Dqs (rs D G) ys fs->∀ p,G p=none->q (.ref p) (gu G p (.lst ys))) :
  vw ρ0 l=none->∀ (ds:List PyData) (items ys:List T) (es:List PyData) (τ:St3) (G:Gp) (n:Nat),Dqs (rs D G0) items ds->VA D G τ ρ0->τ[l]?=some (some (.ref a))->Ext a G0 G->Dom D G->Lf G a n->Dqs (rs D G) ys es->lcW pg.f pc.w pe.w ρ0 ds n (λfs n=>(es++fs).length<=sizeLine/\Q (es++fs) n)->ds.length+es.length<=sizeLine->K5 stay g tif te q items ys τ G
 |_,_,_,ys,es,τ,G,n,.nil,va,tl,E,hd,lf,hy,hw,_=>by
  obtain ⟨h1,h2⟩:=hw;rw [List.append_nil] at h1 h2;exact ⟨hs G E,k G ys es n h2 h1 E lf hy⟩
 |ul,d::ds,x::items,ys,es,τ,G,n,.cons hx hr,va,tl,E,hd,lf,hy,⟨bs,e3,hw⟩,hz=>by
  obtain ⟨ts,bd,kg⟩:=pg.ok (hx.up (ES E da)) e3;refine ⟨hs G E,kg τ G _ ?_⟩;have va1:=va.sets bd;have at1:∀ p∈ts,p.1∈pg.tg:=λp hp=>by
   obtain ⟨q,hq,e⟩:=qaD bd p hp;rw [← e];exact pg.at' e3 q hq
  have va2:=va.keep (ts:=ts) λp hp=>hm _ (at1 p hp);have tl1:(sets τ ts)[l]?=some (some (.ref a)):=by rw [qdp λp hp=>hl _ (at1 p hp)];exact tl
  have ul1:vw (QP ρ0 bs) l=none:=by rw [R5 λp hp=>hl _ (pg.at' e3 p hp)];exact ul
  refine pc.ok ⟨va1.view _,hd,da,tl1,ul1,lf⟩ hw λc G1 n1 hc E1 L1=>?_;cases c with
  |true=>
   rw [if_pos rfl] at hc ⊢;refine pe.ok ⟨(va1.ext E1 da).view _,jO hd E1 L1,da,tl1,ul1,L1⟩ hc λz y G2 n2 hq E2 L2 D2 _=>⟨?_,?_⟩
   ·rw [hy.length];simp at hz;omega
   ·refine qbM pg pc pe da hs hm hl k ul ds items (ys++[z]) (es++[y]) _ G2 n2 hr ((va2.ext E1 da).ext E2 da) tl1 ((E.trans E1).trans E2) (jO (jO hd E1 L1) E2 L2) L2 (((hy.up (ES E1 da)).up (ES E2 da)).append (.cons D2 .nil)) ?_ (by simp at hz ⊢;omega);refine EM pg pc pe hq λfs m h=>?_;rw [List.append_assoc];exact h
  |false=>
   rw [if_neg v6] at hc ⊢;exact qbM pg pc pe da hs hm hl k ul ds items ys es _ G1 n1 hr (va2.ext E1 da) tl1 (E.trans E1) (jO hd E1 L1) L1 (hy.up (ES E1 da)) hc (by simp at hz;omega)
def qrL {l:Nat} (it:Rho->Nat->(List PyData->Nat->Prop)->Prop) (h:Rho->List PyData->Nat->(List PyData->Nat->Prop)->Prop) (m:List (Option Nat)) (ρ:Rho) (n:Nat) (Q:QD):Prop:=
 it ρ n λds n1=>ds.length<=16777216/\h (WL m ρ) ds n1 λfs n2=>fs.length<=16777216/\Q (.list fs) n2
def eLc {l:Nat} {wi:TI3} {g:TG3} {tif:TT3} {te:TE3} (l2:Nat) (pi:PwI l wi) (pg:PuG g) (pc:PwC l2 tif) (pe:PwE l2 te) (m:List (Option Nat)) (hm:Tru (pg.tg.all λi=>m[i]?==some none)) (hl:Tru (m[l2]?==some (some l))):PwE l (lc3 wi g tif te m):=
 ⟨qrL (l:=l) pi.w (lcW pg.f pc.w pe.w) m,pi.fv++(m.filterMap id).filter (· != l),true,λh k=>pi.mono h λds n1 ⟨h1,h⟩=>⟨h1,EM pg pc pe h λfs n2 ⟨h2,h⟩=>⟨h2,k _ _ h⟩⟩,λ{D τ ρ G a n q Q} h hw k=>by
  have hl':m[l2]?=some (some l):=by simpa using hl.h
  refine pi.ok h.fst hw λitems stay ds G1 n1 ⟨h1,hw1⟩ E1 L1 D1 hs _=>?_;have hv:CV (m.filterMap id) D G τ ρ:=λi hi d hd=>by
   by_cases e:i=l
   ·subst e;rw [h.ul] at hd;cases hd
   ·exact h.snd.v i (List.mem_filter.mpr ⟨hi,by simpa using e⟩) d hd
  have va:=(VA.cap (m:=m) hv).ext E1 h.da;refine qbM pg pc pe (D:=D) (a:=a) (ρ0:=WL m ρ) (G0:=G1) h.da (λG2 E2=>hs G2 (.inr ((ES E2 h.da).trans YH))) (λi hi=>DX ?_) (λi hi e=>?_) (Q:=λfs n=>Q (.list fs) n) (λG2 ys fs n2 hq hlen E2 L2 D2 p hp=>?_) ?_ ds items [] [] _ G1 n1 D1 va ?_ Bk.Ext.refl (jO h.d E1 L1) L1 .nil ?_ ?_
  ·simpa using List.all_eq_true.mp hm.h i hi
  ·subst e;have:=List.all_eq_true.mp hm.h i hi;rw [hl'] at this;simp at this
  ·exact k _ _ _ _ hq ((E1.trans E2).trans (Bk.Q0 (zn hp))) (L2.ex (zn hp)) (UI (jO (jO h.d E1 L1) E2 L2) hp D2) λ_=>(WK hp D2).backx (E1.trans E2) L2
  ·unfold vw WL;rw [getElem?_map,hl'];simp only [Option.map_some,Option.bind_some,h.ul];rfl
  ·unfold L3.cap;rw [getElem?_map,hl'];simp [h.tl]
  ·refine EM pg pc pe hw1 λfs m ⟨h2,h3⟩=>⟨?_,by simpa using h3⟩
   rw [v7];simpa using h2
  ·rw [v7];simpa using h1⟩
structure RL (l:Nat) (a:Addr) (z0:Option (Option T)×Nat) (D:Addr->Prop) (G0:Gp) (A:Nat->Addr->Prop) (τ:St3) (ρ:Rho) (G:Gp) (n:Nat):Prop where
 r:RS D G0 A τ ρ G
 al:A l a
 tl:τ[l]?=some (some (.ref a))
 ul:ρ[l]?=some Sl.un
 lf:Lf G a n
 tz:τ[0]?=z0.1/\τ.length=z0.2
section
variable {l:Nat} {a:Addr} {z0:Option (Option T)×Nat} {D:Addr->Prop} {G0 G G':Gp} {A:Nat->Addr->Prop} {τ:St3} {ρ:Rho} {n n':Nat}
def RL.vl (h:RL l a z0 D G0 A τ ρ G n):vw ρ l=none:=by unfold vw;rw [h.ul];rfl
def RL.up (h:RL l a z0 D G0 A τ ρ G n) (e:Ext a G G') (lf:Lf G' a n'):RL l a z0 D G0 A τ ρ G' n':=
 ⟨h.r.keep (W:=λb=>b=a) e λb z=>⟨l,by rw [z];exact h.al,h.ul,by rw [z];exact DW lf⟩,h.al,h.tl,h.ul,lf,h.tz⟩
def RL.ne (h:RL l a z0 D G0 A τ ρ G n) {i:Nat} {p:Addr} {s:Sl} (hp:A i p) (e:ρ[i]?=some s) (hs:s≠.un):p≠a:=by
 rintro rfl;have:=h.r.inj i l _ hp h.al;subst this;rw [h.ul] at e;cases e;exact hs rfl
def RL.all (h:RL l a z0 D G0 A τ ρ G n) (fv:List Nat):Ln fv l (λb=>D b\/b=a) G τ ρ a n:=by
 refine ⟨λi _ d hd=>?_,λb hb=>?_,.inr rfl,h.tl,h.vl,h.lf⟩
 ·unfold vw at hd;obtain ⟨s,e,hd⟩:=obb hd;refine (h.r.sl i s e).vis hd (zy λb z=>?_) λp o q g=>?_
  ·rcases z with z|z
   ·exact .inl z
   ·subst z;exact .inr ⟨l,h.al⟩
  ·rw [jU]
   ·exact g
   ·rintro (z|z)
    ·exact h.r.nd q z
    ·exact h.ne q e (by rintro rfl;cases hd) z
 ·rcases hb with hb|hb
  ·exact h.r.domD b hb
  ·subst hb;exact DW h.lf
def qq5 {m:List Bool} (hm:mkb m l=false) (al:A l a):Ad m A l a:=⟨al,hm⟩
theorem RL.dem (h:RL l a z0 D G0 A τ ρ G n) {m:List Bool} (hm:mkb m l=false):RL l a z0 D G0 (Ad m A) τ (Pu.dm m ρ) G n:=
 ⟨h.r.dem m,qq5 hm h.al,h.tl,by rw [qaz,h.ul];simp [hm],h.lf,h.tz⟩
def RL.ln (h:RL l a z0 D G0 A τ ρ G n) {m:List Bool} {fv:List Nat} (hm:mkb m l=false) (hf:Tru (fv.all (mkb m))):Ln fv l (AD D (Ad m A)) G τ ρ a n:=
 ⟨h.r.viewD hf,(h.r.dem m).dom,.inr ⟨l,qq5 hm h.al⟩,h.tl,h.vl,h.lf⟩
theorem RL.put (h:RL l a z0 D G0 A τ ρ G n) {i:Nat} (hi:i≠l) (h0:i≠0) {x:T} {d:PyData} (hx:Dq (rs (AD D A) G) x d):RL l a z0 D G0 (Er A i) (τ.set i (some x)) (ρ.set i (.sh d)) G n:=
 ⟨h.r.put i hx,(.inr ⟨λz=>hi z.symm,h.al⟩),by rw [getElem?_set,if_neg hi];exact h.tl,by rw [getElem?_set,if_neg hi];exact h.ul,h.lf,⟨by rw [getElem?_set,if_neg h0];exact h.tz.1,by rw [List.length_set];exact h.tz.2⟩⟩
theorem RL.puts:∀ {ts:List (Nat×T)} {bs:List (Nat×PyData)} {A:Nat->Addr->Prop} {τ:St3} {ρ:Rho},RL l a z0 D G0 A τ ρ G n->Bd (rs (AD D A) G) ts bs->(∀ p∈bs,p.1≠l/\p.1≠0)->∃ A',RL l a z0 D G0 A' (sets τ ts) (QP ρ bs) G n
 |_,_,A,_,_,h,.nil,_=>⟨A,h⟩
 |_,_,A,_,_,h,.cons x b,hn=>by
  unfold sets QP;exact RL.puts (h.put (hn _ za5).1 (hn _ za5).2 x) (b.up qqk) (λp hp=>hn p (u8 _ hp))
theorem RL.upd (h:RL l a z0 D G0 A τ ρ G n) {i:Nat} (hi:i≠l) (h0:i≠0) {x:T} {s:Sl} {B:Addr->Prop} (hg:∀ b o,b≠a->¬ A i b->G b=some o->G' b=some o) (lf:Lf G' a n') (hB:∀ b,B b->(A i b\/G b=none)/\G' b≠none)
  (hs:Ex (rs (AD D A) G) (rs (AD D (Rg A i B)) G')->SlR (rs (AD D (Rg A i B)) G') G' B (some (some x)) s):RL l a z0 D G0 (Rg A i B) (τ.set i (some x)) (ρ.set i s) G' n':=
 ⟨h.r.upd i (W:=λb=>b=a\/A i b) (λb o w z=>hg b o (λy=>w (.inl y)) (λy=>w (.inr y)) z) (λb z=>by
  rcases z with z|z
  ·exact ⟨l,by rw [z];exact h.al,.inr ⟨h.ul,by rw [z];exact DW lf⟩⟩
  ·exact ⟨i,z,.inl rfl⟩) hB hs,.inr ⟨λz=>hi z.symm,h.al⟩,by rw [getElem?_set,if_neg hi];exact h.tl,by rw [getElem?_set,if_neg hi];exact h.ul,lf,⟨by rw [getElem?_set,if_neg h0];exact h.tz.1,by rw [List.length_set];exact h.tz.2⟩⟩
def RL.putN (h:RL l a z0 D G0 A τ ρ G n) {i:Nat} (hi:i≠l) (h0:i≠0) {x:T} {d:PyData} {ds:List PyData} (hd:d=.list ds) (E:Ext a G G') (lf:Lf G' a n') (hx:Nw (AD D A) G G' x d):∃ A',RL l a z0 D G0 A' (τ.set i (some x)) (ρ.set i (.ow ds)) G' n':=by
 rcases hx with hx|⟨p,xs,ds',rfl,e',gp,gp',hs⟩
 ·rw [hd] at hx;cases hx
 rw [hd] at e';cases e';refine ⟨_,h.upd hi h0 (B:=λb=>b=p) (λb o w _ z=>E b o w z) lf (λb z=>by subst z;exact ⟨.inr gp,by rw [gp'];simp⟩) λ_=>⟨p,xs,rfl,rfl,gp',hs.up (zy λb z=>?_)⟩⟩;rcases z with z|⟨j,⟨_,z⟩|⟨_,z⟩⟩
 ·exact .inl (.inl z)
 ·exact .inr z
 ·exact .inl (.inr ⟨j,z⟩)
theorem RL.wr (h:RL l a z0 D G0 A τ ρ G n) {i:Nat} {p:Addr} {xs:List T} {ds ds0:List PyData} (ho:ρ[i]?=some (Sl.ow ds0)) (hi:A i p) (ht:τ[i]?=some (some (.ref p))) (hs:Dqs (rs (AD D A) G) xs ds):RL l a z0 D G0 A τ (ρ.set i (.ow ds)) (gu G p (.lst xs)) n:=by
 have il:i≠l:=by rintro rfl;rw [h.ul] at ho;cases ho
 have pa:p≠a:=by rintro rfl;exact il (h.r.inj i l _ hi h.al)
 exact ⟨h.r.wr hi ht hs,h.al,h.tl,by rw [getElem?_set,if_neg il];exact h.ul,h.lf.new pa,h.tz⟩
end
abbrev QO:=Ot->Nat->Prop
def qcj (l:Nat) (a:Addr) (z0:Option (Option T)×Nat) (D:Addr->Prop) (G0:Gp) (e:Ends3):Ot->Nat->Prop
 |.nx ρ,n=>∀ A τ G,RL l a z0 D G0 A τ ρ G n->e.nx τ G
 |.bk ρ,n=>∀ A τ G,RL l a z0 D G0 A τ ρ G n->e.bk τ G
 |.ct ρ,n=>∀ A τ G,RL l a z0 D G0 A τ ρ G n->e.ct τ G
 |.rt d fr,n=>∀ x G,Ex G0 G->Lf G a n->Dq (rs (λb=>D b\/b=a) G) x d->(fr=true->Nw (λb=>D b\/b=a) G0 G x d)->e.rt x G
structure PwS (l:Nat) (t:TS3) where
 w:Rho->Nat->QO->Prop
 mono:∀ {ρ n} {Q Q':QO},w ρ n Q->(∀ o m,Q o m->Q' o m)->w ρ n Q'
 ok:∀ {a z0 D G0 A τ ρ G n} {e:Ends3} {Q:QO},RL l a z0 D G0 A τ ρ G n->w ρ n Q->(∀ o m,Q o m->qcj l a z0 D G0 e o m)->t e τ G
section
variable {l:Nat}
def XH:PwS l qD:=⟨λρ n Q=>Q (.nx ρ) n,λh k=>k _ _ h,λh hw k=>k _ _ hw _ _ _ h⟩
def sqw (b:Rho->Nat->QO->Prop) (Q:QO):QO:=λo n=>match o with|.nx ρ'=>b ρ' n Q|o=>Q o n
def U2 {t u:TS3} (x:PwS l t) (y:PwS l u):PwS l (qx t u):=⟨λρ n Q=>x.w ρ n (sqw y.w Q),λh k=>x.mono h λo m h=>by
  cases o with
  |nx ρ=>exact y.mono h k
  |bk ρ=>exact k _ _ h
  |ct ρ=>exact k _ _ h
  |rt d f=>exact k _ _ h,λh hw k=>x.ok h hw λo m h=>by
  cases o with
  |nx ρ=>exact λA τ G r=>y.ok r h k
  |bk ρ=>exact k _ _ h
  |ct ρ=>exact k _ _ h
  |rt d f=>exact k _ _ h⟩
def wIf {c:TT3} {t u:TS3} (pc:PwC l c) (x:PwS l t) (y:PwS l u):PwS l (zD c t u):=⟨λρ n Q=>pc.w ρ n λk n1=>if k then x.w ρ n1 Q else y.w ρ n1 Q,λh k=>pc.mono h λj m h=>by
  cases j with
  |true=>rw [if_pos rfl] at h ⊢;exact x.mono h k
  |false=>exact y.mono h k,λh hw k=>pc.ok (h.all _) hw λj G1 n1 hj E1 L1=>by
  cases j with
  |true=>rw [if_pos rfl] at hj ⊢;exact x.ok (h.up E1 L1) hj k
  |false=>exact y.ok (h.up E1 L1) hj k⟩
def qil {a:Addr} {z0:Option (Option T)×Nat} {D:Addr->Prop} {G0 G G':Gp} {A:Nat->Addr->Prop} {τ:St3} {ρ:Rho} {n:Nat} (h:RL l a z0 D G0 A τ ρ G n) (e:Ext a G G'):Ex G0 G':=λb o x=>e b o (by rintro rfl;rw [h.r.fr l _ h.al] at x;cases x) (h.r.ex b o x)
def qaQ {t:TE3} (x:PwE l t):PwS l (qP t):=⟨λρ n Q=>x.w ρ n λd n1=>Q (.rt d x.nw) n1,λh k=>x.mono h λd m h=>k _ _ h,λh hw k=>x.ok (h.all _) hw λy d G1 n1 hq E1 L1 D1 N1=>k _ _ hq y G1 (qil h E1) L1 D1 λz=>(N1 z).back h.r.ex⟩
def qi6 (i:Nat):PwS l (qP (v3 i)):=⟨λρ n Q=>∃ d b,qdx ρ i=some (.rt d b)/\Q (.rt d b) n,λ⟨d,b,h1,h2⟩ k=>⟨d,b,h1,k _ _ h2⟩,λ{a z0 D G0 A τ ρ G n e Q} h ⟨d,b,h1,h2⟩ k=>by
 unfold qdx at h1;split at h1
 ·rename_i ds e;cases h1;obtain ⟨p,xs,b,c,g,f⟩:=h.r.ow i _ e;simp only [qP,v3,c];have pa:p≠a:=by
   rintro rfl;have:=h.r.inj i l _ b h.al;subst this;rw [h.ul] at e;cases e
  refine k _ _ h2 _ _ h.r.ex h.lf (.lst (by rw [jU (by rintro (z|z);exact h.r.nd b z;exact pa z)];exact g) (f.up (zy λb z=>?_))) λ_=>.inr ⟨p,xs,ds,rfl,rfl,h.r.fr i p b,g,f.up (zy λq z=>?_)⟩
  ·rcases z with z|z
   ·exact .inl z
   ·subst z;exact .inr ⟨l,h.al⟩
  ·rcases z with (z|z)|z
   ·exact .inl z
   ·subst z;exact .inr ⟨l,h.al⟩
   ·subst z;exact .inr ⟨i,b⟩
 ·rename_i d e;cases h1;obtain ⟨t,b,c⟩:=h.r.sh i _ e;simp only [qP,v3,b];refine k _ _ h2 _ _ h.r.ex h.lf (c.up (zy λb z=>?_)) (λz=>by cases z);rcases z with z|z
  ·exact .inl z
  ·subst z;exact .inr ⟨l,h.al⟩
 ·cases h1⟩
def MI {t:TE3} (x:PwE l t) (i:Nat) (m:List Bool) (hm:Tru (x.fv.all (mkb m))) (hl:Tru (!mkb m l&&(i != l&&i != 0))):PwS l (qF t (gn3 i)):=⟨λρ n Q=>x.w ρ n λd n1=>Q (.nx (NW m x.nw i d ρ)) n1,λh k=>x.mono h λd m h=>k _ _ h,λ{a z0 D G0 A τ ρ G n e Q} h hw k=>by
 have hl':mkb m l=false/\i≠l/\i≠0:=by simpa using hl.h
 refine x.ok (h.ln hl'.1 hm) hw λy d G1 n1 hq E1 L1 D1 N1=>?_;have k:=k _ _ hq;unfold NW at k;show e.nx (τ.set i (some y)) G1;split at k
 ·rename_i hs;exact k _ _ _ ((h.up E1 L1).put hl'.2.1 hl'.2.2 (WD D1 hs))
 ·split at k
  ·rename_i hn;have N:=N1 hn;rcases id N with h2|⟨p,xs,ds,h1,h2,_⟩
   ·exact absurd h2 (by assumption)
   subst h2;obtain ⟨A',r⟩:=(h.dem hl'.1).putN hl'.2.1 hl'.2.2 rfl E1 L1 N;exact k _ _ _ r
  ·exact k _ _ _ (((h.dem hl'.1).up E1 L1).put hl'.2.1 hl'.2.2 D1)⟩
def qlC {t:TE3} {g:TG3} (x:PwE l t) (pg:PuG g) (m:List Bool) (hm:Tru (x.fv.all (mkb m))) (hl:Tru (!mkb m l&&pg.tg.all (λi=>i != l&&i != 0))):PwS l (qF t g):=⟨λρ n Q=>x.w ρ n λd n1=>∃ bs,pg.f d=some bs/\Q (.nx (QP (dm m ρ) bs)) n1,λh k=>x.mono h λd m ⟨bs,h1,h2⟩=>⟨bs,h1,k _ _ h2⟩,λ{a z0 D G0 A τ ρ G n e Q} h hw k=>by
 have hl':mkb m l=false/\∀ i∈pg.tg,i≠l/\i≠0:=by simpa using hl.h
 refine x.ok (h.ln hl'.1 hm) hw λy d G1 n1 ⟨bs,e2,hq⟩ E1 L1 D1 N1=>?_;obtain ⟨ts,bd,kg⟩:=pg.ok D1 e2;refine kg _ _ _ ?_;obtain ⟨A',h'⟩:=((h.dem hl'.1).up E1 L1).puts bd (λp hp=>hl'.2 _ (pg.at' e2 p hp));exact k _ _ hq _ _ _ h'⟩
def RL.evalS {a:Addr} {z0:Option (Option T)×Nat} {D:Addr->Prop} {G0 G:Gp} {A:Nat->Addr->Prop} {τ:St3} {ρ:Rho} {n:Nat} (h:RL l a z0 D G0 A τ ρ G n) {t:TE3} (x:PwE l t) (m:List Bool) (hm:Tru (x.fv.all (mkb m))) (hl:mkb m l=false) {Q:QD} (hw:x.w ρ n Q) (q:Q3) (k:∀ y d G' n' A1,Q d n'->RL l a z0 D G0 A1 τ (dmS m d ρ) G' n'->Ext a G G'->Dq (rs (AD D A1) G') y d->q y G'):t τ G q:=by
 refine x.ok (h.ln hl hm) hw λy d G1 n1 hq E1 L1 D1 _=>?_;by_cases hs:WH d=true
 ·exact k y d G1 n1 A hq (by unfold dmS;rw [if_pos hs];exact h.up E1 L1) E1 (WD D1 hs)
 ·exact k y d G1 n1 _ hq (by unfold dmS;rw [if_neg hs];exact (h.dem hl).up E1 L1) E1 D1
def qqz {t:TE3} (x:PwE l t) (i:Nat) (m:List Bool) (hm:Tru (x.fv.all (mkb m))) (hl:Tru (!mkb m l)):PwS l (qH (bm3 JW (v3 i) (qf t qk))):=⟨λρ n Q=>∃ ds,slot ρ i=some ds/\x.w ρ n λd n1=>slot (dmS m d ρ) i=some ds/\∃ es,d=.list es/\ds.length+es.length<=16777216/\Q (.nx ((dmS m d ρ).set i (.ow (ds++es)))) n1,λ⟨v,h0,h⟩ k=>⟨v,h0,x.mono h λd m ⟨y,es,h1,h2,h3⟩=>⟨y,es,h1,h2,k _ _ h3⟩⟩,λ{a z0 D G0 A τ ρ G n e Q} h ⟨ds,h0,hw⟩ k=>by
 have hl':mkb m l=false:=by simpa using hl.h
 obtain ⟨p,xs,b,c,g,f⟩:=h.r.ow i _ (ZN h0);simp only [qH,bm3,v3,c,qL g];refine ⟨rfl,h.evalS x m hm hl' hw _ λy d G1 n1 A1 ⟨h1,es,he,h2,hq⟩ r E1 D1=>?_⟩;subst he;obtain ⟨p',xs',b',c',g',f'⟩:=r.r.ow i _ (ZN h1);rw [c] at c';cases c';cases D1 with
 |lst g2 hs2=>
  simp only [qk,JW,g',(qR g2).2];exact ⟨by rw [f'.length,hs2.length,v7];exact h2,k _ _ hq _ _ _ (r.wr (ZN h1) b' c (f'.append hs2))⟩⟩
def qd7 (gf:PyData->Option (List (Nat×PyData))) (bw:Rho->Nat->QO->Prop):List PyData->Rho->Nat->QO->Prop
 |[],ρ,n,Q=>Q (.nx ρ) n
 |d::r,ρ,n,Q=>∃ bs,gf d=some bs/\bw (QP ρ bs) n λo n1=>match o with
  |.nx ρ'=>qd7 gf bw r ρ' n1 Q
  |.ct ρ'=>qd7 gf bw r ρ' n1 Q
  |.bk ρ'=>Q (.nx ρ') n1
  |.rt d b=>Q (.rt d b) n1
theorem XS {g:TG3} {tb:TS3} (pg:PuG g) (pb:PwS l tb):∀ {ds:List PyData} {ρ:Rho} {n:Nat} {Q Q':QO},qd7 pg.f pb.w ds ρ n Q->(∀ o m,Q o m->Q' o m)->qd7 pg.f pb.w ds ρ n Q'
 |[],_,_,_,_,h,k=>k _ _ h
 |d::r,_,_,_,_,⟨bs,e,h⟩,k=>⟨bs,e,pb.mono h λo m h=>by
   cases o with
   |nx ρ=>exact XS pg pb h k
   |ct ρ=>exact XS pg pb h k
   |bk ρ=>exact k _ _ h
   |rt d b=>exact k _ _ h⟩
theorem SI {stay:Gp->Prop} {g:TG3} {tb:TS3} {e:Ends3} (pg:PuG g) (pb:PwS l tb) {a:Addr} {z0:Option (Option T)×Nat} {D:Addr->Prop} {G0:Gp} {Q:QO} (hl:∀ i∈pg.tg,i≠l/\i≠0) (hs:∀ A τ ρ G n,RL l a z0 D G0 A τ ρ G n->stay G) (k:∀ o m,Q o m->qcj l a z0 D G0 e o m) :
  ∀ (ds:List PyData) (items:List T),(∀ A τ ρ G n,RL l a z0 D G0 A τ ρ G n->Dqs (rs (AD D A) G) items ds)->∀ A τ ρ G n,RL l a z0 D G0 A τ ρ G n->qd7 pg.f pb.w ds ρ n Q->CO stay g tb e items τ G
 |[],items,hi,A,τ,ρ,G,n,h,hw=>by
  have:=hi _ _ _ _ _ h;cases this;exact ⟨hs _ _ _ _ _ h,k _ _ hw _ _ _ h⟩
 |d::ds,items,hi,A,τ,ρ,G,n,h,⟨bs,e1,hw⟩=>by
  have hh:=hi _ _ _ _ _ h;cases hh with
  |cons hx hr=>
   rename_i x items;obtain ⟨ts,bd,kg⟩:=pg.ok hx e1;refine ⟨hs _ _ _ _ _ h,kg _ _ _ ?_⟩;obtain ⟨A',h'⟩:=h.puts bd λp hp=>hl _ (pg.at' e1 p hp);have hi':∀ A τ ρ G n,RL l a z0 D G0 A τ ρ G n->Dqs (rs (AD D A) G) items ds:=λA τ ρ G n h=>by
    have:=hi _ _ _ _ _ h;cases this with
    |cons a b=>exact b
   refine pb.ok h' hw λo m hq=>?_;cases o with
   |nx ρ'=>exact λA2 τ2 G2 h2=>SI pg pb hl hs k ds items hi' _ _ _ _ _ h2 hq
   |ct ρ'=>exact λA2 τ2 G2 h2=>SI pg pb hl hs k ds items hi' _ _ _ _ _ h2 hq
   |bk ρ'=>exact k _ _ hq
   |rt d fr=>exact k _ _ hq
theorem RL.base {a:Addr} {z0:Option (Option T)×Nat} {D:Addr->Prop} {G0 Gb G:Gp} {A:Nat->Addr->Prop} {τ:St3} {ρ:Rho} {n:Nat} (h:RL l a z0 D Gb A τ ρ G n) (e:Ex G0 Gb) (hd:Dom D G0):RL l a z0 D G0 A τ ρ G n:=⟨h.r.base e hd,h.al,h.tl,h.ul,h.lf,h.tz⟩
theorem qcj.base {a:Addr} {z0:Option (Option T)×Nat} {D:Addr->Prop} {G0 Gb:Gp} {e:Ends3} {o:Ot} {n:Nat} (h:qcj l a z0 D G0 e o n) (x:Ex G0 Gb) (hd:Dom D G0):qcj l a z0 D Gb e o n:=by
 cases o with
 |nx ρ=>exact λA τ G r=>h A τ G (r.base x hd)
 |bk ρ=>exact λA τ G r=>h A τ G (r.base x hd)
 |ct ρ=>exact λA τ G r=>h A τ G (r.base x hd)
 |rt d fr=>exact λy G p q r z=>h y G (x.trans p) q r λw=>(z w).back x
def qjm {wi:TI3} {g:TG3} {tb:TS3} (pi:PwI l wi) (pg:PuG g) (pb:PwS l tb) (m:List Bool) (hm:Tru (pi.fv.all (mkb m))) (hl:Tru (!mkb m l&&pg.tg.all (λi=>i != l&&i != 0))):PwS l (WU wi g tb):=⟨λρ n Q=>pi.w ρ n λds n1=>qd7 pg.f pb.w ds (if pi.nm then ρ else dm m ρ) n1 Q,λh k=>pi.mono h λd m h=>XS pg pb h k,λ{a z0 D G0 A τ ρ G n e Q} h hw k=>by
 have hl':mkb m l=false/\∀ i∈pg.tg,i≠l/\i≠0:=by simpa using hl.h
 refine pi.ok (h.ln hl'.1 hm) hw λitems stay ds G1 n1 hq E1 L1 D1 hs hnm=>?_;cases hb:pi.nm with
 |true=>
  rw [hb,if_pos rfl] at hq;obtain ⟨ns,rfl⟩:=hnm hb;have:=D1.ints;subst this;exact SI pg pb hl'.2 (λ_ _ _ _ _ _=>hs _ (.inl hb)) k _ _ (λA τ ρ G _ _=>Dqs.ofInts _) _ _ _ _ _ (h.up E1 L1) hq
 |false=>
  rw [hb,if_neg v6] at hq;have h1:=(h.dem hl'.1).up E1 L1;have b1:Ex G0 (rs (λb=>∃ i,Ad m A i b) G1):=λb o e=>by
   rw [jU]
   ·exact h1.r.ex _ _ e
   ·rintro ⟨i,z⟩;rw [h1.r.fr i _ z] at e;cases e
  have h2:RL l a z0 D (rs (λb=>∃ i,Ad m A i b) G1) (Ad m A) τ (dm m ρ) G1 n1:=⟨⟨YH,h.r.dm.up b1,λi p z=>by unfold rs;exact jt ⟨i,z⟩,h1.r.da,h1.r.inj,h1.r.len,h1.r.sl⟩,h1.al,h1.tl,h1.ul,h1.lf,h1.tz⟩
  have X:∀ A2 τ2 ρ2 G2,RS D (rs (λb=>∃ i,Ad m A i b) G1) A2 τ2 ρ2 G2->Ex (rs (AD D (Ad m A)) G1) (rs (AD D A2) G2):=λA2 τ2 ρ2 G2 r b o e=>by
   obtain ⟨n1,e⟩:=qR e;have eb:rs (λb=>∃ i,Ad m A i b) G1 b=some o:=by rw [jU (λz=>n1 (.inr z))];exact e
   rw [jU]
   ·exact r.ex _ _ eb
   ·rintro (z|⟨i,z⟩)
    ·exact n1 (.inl z)
    ·rw [r.fr i _ z] at eb;cases eb
  exact SI pg pb hl'.2 (λA2 τ2 ρ2 G2 n2 r=>hs _ (.inr ((X _ _ _ _ r.r).trans YH))) (λo m hq=>(k o m hq).base b1 h.r.dm) _ _ (λA2 τ2 ρ2 G2 n2 r=>D1.up (X _ _ _ _ r.r)) _ _ _ _ _ h2 hq⟩
end
def DSp (W:List PyData->Nat->QD->Prop) (fr:Bool):Sp3:=λts G q=>∃ (D:Addr->Prop) (a:Addr) (n:Nat) (ts':List T) (ds:List PyData) (Q:QD),ts=.ref a::ts'/\Lf G a n/\D a/\Dom D G/\Dqs (rs D G) ts' ds/\W ds n Q/\∀ x d G' n',Q d n'->Ext a G G'->Lf G' a n'->Dq (rs D G') x d->(fr=true->Nw D G G' x d)->q x G'
structure Wm where
 W:List PyData->Nat->QD->Prop
 mono:∀ {ds n} {Q Q':QD},W ds n Q->(∀ d m,Q d m->Q' d m)->W ds n Q'
def dSp (w:Wm) (fr:Bool):DrD (DSp w.W fr):=⟨w.W,fr,w.mono,λ{D G a n ts ds q Q} lf da hd hs hw k=>⟨D,a,n,ts,ds,Q,rfl,lf,da,hd,hs,hw,k⟩⟩
def qiQ (fr:Bool) (Q:QD):QO:=λo n=>match o with
 |.rt d b=>(fr=true->b=true)/\∃ m,n<=m/\Q d m
 |.nx _=>fr=false/\∃ m,n<=m/\Q .none m
 |_=>False
def qod {t:TS3} (b:PwS 0 t) (k N:Nat) (fr:Bool):Wm:=⟨λds n Q=>ds.length+1=k/\b.w (.un::(ds.map Sl.sh++List.replicate (N-(ds.length+1)) .un)) n (qiQ fr Q),λ⟨h1,h2⟩ k=>⟨h1,b.mono h2 λo m h=>by
 cases o with
 |rt d f=>obtain ⟨h1,m,h2,h3⟩:=h;exact ⟨h1,m,h2,k _ _ h3⟩
 |nx ρ=>obtain ⟨h1,m,h2,h3⟩:=h;exact ⟨h1,m,h2,k _ _ h3⟩
 |bk ρ=>exact h
 |ct ρ=>exact h⟩⟩
def MD {t:TS3} (b:PwS 0 t) (N:List Str) (k:Nat) (fr:Bool):∀ ts G q,DSp (qod b k N.length fr).W fr ts G q->ts.length=k/\t { nx:=λ_ G'=>q .non G',rt:=q } (qq N ts) G:=by
 rintro ts G q ⟨D,a,n,ts',ds,Q,rfl,lf,da,hd,hs,⟨hk,hw⟩,h⟩;refine ⟨by simp [hs.length];omega,?_⟩;have DD:∀ b,(D b/\b≠a)\/b=a↔D b:=λb=>by
  by_cases e:b=a
  ·subst e;simp [da]
  ·simp [e]
 have rr:∀ H,rs (λb=>(D b/\b≠a)\/b=a) H=rs D H:=λH=>by
  have:(λb=>(D b/\b≠a)\/b=a)=D:=funext λb=>propext (DD b);rw [this]
 have ad:AD (λb=>D b/\b≠a) (λi p=>i=0/\p=a)=D:=funext λb=>propext ⟨(λz=>by
   rcases z with z|⟨i,_,z⟩
   ·exact z.1
   ·rw [z];exact da),(λz=>by
   by_cases e:b=a
   ·exact .inr ⟨0,rfl,e⟩
   ·exact .inl ⟨z,e⟩)⟩
 have ga:G a≠none:=DW lf;have r:RL 0 a (some (some (.ref a)),(qq N (.ref a::ts')).length) (λb=>D b/\b≠a) (rs (λb=>b=a) G) (λi p=>i=0/\p=a) (qq N (.ref a::ts')) (.un::(ds.map Sl.sh++List.replicate (N.length-(ds.length+1)) .un)) G n:=by
  refine ⟨⟨YH,λb hb=>by rw [jU (D:=λb=>b=a) hb.2];exact hd b hb.1,λi p e=>by rw [e.2];unfold rs;exact jt rfl,λi p e=>by rw [e.2];exact ga,λi j p e e'=>e.1.trans e'.1.symm,by simp [qq,hs.length],λi s e=>?_⟩,⟨rfl,rfl⟩,by simp [qq],rfl,lf,⟨by simp [qq],rfl⟩⟩;rw [ad];cases i with
  |zero=>cases e;trivial
  |succ i=>
   rw [x5] at e;by_cases hi:i<ds.length
   ·rw [List.getElem?_append_left (by simpa using hi),getElem?_map] at e;obtain ⟨d2,e3,rfl⟩:=za9 e;obtain ⟨x,e5,hx⟩:=hs.get e3;refine ⟨x,?_,hx⟩;unfold qq;rw [List.getElem?_append_left (by simp [hs.length];exact hi),getElem?_map,x5,e5];rfl
   ·rw [List.getElem?_append_right (by simpa using hi),List.getElem?_replicate] at e;split at e<;>cases e
    trivial
 have xe:∀ {G'},Ex (rs (λb=>b=a) G) G'->Ext a G G':=λe b o n x=>e b o (by rw [jU (D:=λb=>b=a) n];exact x);refine b.ok r hw λo m hq=>?_;cases o with
 |rt d f=>
  intro x G' E L Dx0 N;have Dx:=Dx0;rw [rr] at Dx;obtain ⟨hq1,m2,hm,hq2⟩:=hq;refine h x d G' m2 hq2 (xe E) (L.mono (by omega)) Dx λz=>?_;rcases N (hq1 z) with h2|⟨p,xs,ds',h1,h2,c,g,f'⟩
  ·exact .inl h2
  have np:p≠a:=by
   rintro rfl;rw [h1] at Dx0;cases Dx0 with
   |lst g0 _=>exact (qR g0).1 (.inr rfl)
  refine .inr ⟨p,xs,ds',h1,h2,by rw [jU (D:=λb=>b=a) np] at c;exact c,g,f'.up (zy λb z=>?_)⟩;rcases z with z|z
  ·exact .inl ((DD b).mpr z)
  ·exact .inr z
 |nx ρ=>
  obtain ⟨hq1,m2,hm,hq2⟩:=hq;exact λA τ G' r'=>h .non .none G' m2 hq2 (xe r'.r.ex) (r'.lf.mono (by omega)) .non λz=>by rw [hq1] at z;cases z
 |bk ρ=>exact hq.elim
 |ct ρ=>exact hq.elim
end Pu
namespace Pu
open PySem L2 L3
open Bk (Lf Ext Dl)
def okW:QO:=λo _=>match o with|.nx _=>True|.ct _=>True|_=>False
def qqT (K:Int):TE3:=o3 zB (c3 (.int 1)) (cb3 V2 (qf (c3 (.int K)) (qf (cb3 jC (qf (v3 0) qk)) qk)))
def qjw {i:Nat} {τ:St3} {t:T} {G:Gp} {q:Q3} (h:τ[i]?=some (some t)):v3 i τ G q=q t G:=by unfold v3;rw [h]
def qq6 (K:Int) (R:TS3):TS3:=qx (WU (jf (qf (qqT K) qk)) (gn3 1) (qx (qF (cb3 Bk.YG (qf (v3 0) (qf (v3 1) qk))) (gn3 2)) R)) (qP (c3 (.bl true)))
def qeD {R:TS3} (b:PwS 2 R) (N:List Str) (K:Int) (M:Nat) (hK:0<=K/\K<=60) (hN:N.length=M+3) (h:∀ k:Nat,k<=60->b.w ([.un,.sh (.int k),.un]++List.replicate M .un) 0 okW):∀ ts G q,C8 ts G q->ts.length=1/\qq6 K R { nx:=λ_ G'=>q .non G',rt:=q } (qq N ts) G:=by
 rintro ts G q ⟨a,ns,rfl,hG,hl,hq⟩;refine ⟨rfl,?_⟩;have s0:(qq N [T.ref a])[0]?=some (some (.ref a)):=by simp [qq]
 have gl:getL G a=some (ns.map T.int):=by unfold getL;rw [hG]
 simp only [qq6,qx,WU,jf,qqT,qf,qk,o3,c3,cb3,v3,s0,jC,gl,V2,zB,length_map];have cnt:((1+(if ((ns.length:Nat):Int)<K then ((ns.length:Nat):Int) else K)).toNat)<=61:=by split<;>omega
 refine ⟨⟨by split<;>omega,by split<;>omega⟩,?_⟩;refine LH _ (λ_ τ G'=>G' a=some (.frz (ns.map T.int))/\τ[0]?=some (some (.ref a))/\τ.length=M+3) ⟨hG,s0,by simp [qq,hN]⟩ (λ_ _ _ _ _=>True.intro) ?_ ?_
 ·rintro i z τ G' nx hz ⟨gA,t0,tl⟩ hn;obtain ⟨hi,rfl⟩:=qcM hz;have hi2:i<=60:=by omega
  have t1:(τ.set 1 (some (T.int (0+(i:Int)))))[0]?=some (some (.ref a)):=by rw [getElem?_set,if_neg (by omega)];exact t0
  have t2:(τ.set 1 (some (T.int (0+(i:Int)))))[1]?=some (some (T.int (0+(i:Int)))):=by rw [getElem?_set,if_pos rfl,if_pos (by omega)]
  show v3 0 (τ.set 1 (some (T.int (0+(i:Int))))) G' (λx G1=>v3 1 (τ.set 1 (some (T.int (0+(i:Int))))) G1 λy G2=>Bk.YG [x,y] G2 λz G3=>R _ ((τ.set 1 (some (T.int (0+(i:Int))))).set 2 (some z)) G3);rw [qjw t1,qjw t2];refine ⟨a,_,ns,rfl,gA,hl,by omega,by omega,λp o c hp ho=>?_⟩;have pa:a≠p:=by rintro rfl;rw [gA] at hp;cases hp
  have r:RL 2 p (some (some (.ref a)),M+3) (λ_=>False) G' (λj q=>j=2/\q=p) ((τ.set 1 (some (T.int (0+(i:Int))))).set 2 (some (.ref p))) ([.un,.sh (.int i),.un]++List.replicate M .un) (gu G' p (.lst [.int o,.int c,.int 0])) 0:=by
   refine ⟨⟨zn hp,λb z=>z.elim,λj q e=>by rw [e.2];exact hp,λj q e=>by rw [e.2,qy];simp,λj k q e e'=>e.1.trans e'.1.symm,by simp [tl],λj s e=>?_⟩,⟨rfl,rfl⟩,by rw [getElem?_set,if_pos rfl,if_pos (by simp;omega)],rfl,⟨o,c,0,qy,ho,by omega,by omega⟩,⟨by rw [getElem?_set,if_neg (by omega)];exact t1,by simp [tl]⟩⟩
   match j,e with
   |0,e=>cases e;trivial
   |1,e=>
    cases e;refine ⟨.int (0+(i:Int)),by rw [getElem?_set,if_neg (by omega)];exact t2,?_⟩;rw [Int.zero_add];exact .int _
   |2,e=>cases e;trivial
   |j+3,e=>
    simp only [cons_append,List.nil_append,x5,List.getElem?_replicate] at e;split at e<;>cases e
    trivial
  refine b.ok r (h i hi2) λo' m ho'=>?_;cases o' with
  |nx ρ'=>exact λA τ' G2 r2=>hn _ _ ⟨r2.r.ex _ _ gA,r2.tz.1,r2.tz.2⟩
  |ct ρ'=>exact λA τ' G2 r2=>hn _ _ ⟨r2.r.ex _ _ gA,r2.tz.1,r2.tz.2⟩
  |bk ρ'=>exact ho'.elim
  |rt d f=>exact ho'.elim
 ·rintro τ G' ⟨gA,t0,tl⟩;exact hq G'
def qpf {G:Gp} {ts:List T} {i:Int} (h:Dqs G ts [.int i]):ts=[.int i]:=by
 cases h with
 |cons a b=>cases b;cases a;rfl
def lfc {G:Gp} {a:Addr} {n c:Nat} (h:Lf G a ((n:Int)+(c:Int))):Lf G a ((n+c:Nat):Int):=by rw [Int.natCast_add];exact h
def YI:DrD Bk.zi:=⟨λds n Q=>∃ m:Int,ds=[.int m]/\(1<=m/\m<1073741824)/\n<1000000000/\∀ d:Int,0<=d->d<m->Q (.int d) (n+1),false,
 λ⟨m,h1,h2,h3,h4⟩ k=>⟨m,h1,h2,h3,λd x y=>k _ _ (h4 d x y)⟩,λ{D G a n ts ds q Q} lf da hd hs ⟨m,h1,h2,h3,h4⟩ k=>by
 subst h1;have:=qpf hs;subst this;exact ⟨a,n,m,rfl,h2.1,h2.2,lf,by omega,λd G' x y L E=>k _ _ G' (n+1) (h4 d x y) E (lfc (c:=1) L) (.int d) (λz=>by cases z)⟩⟩
def qej (n:Nat):FnD (Bk.jZ (n+1)):=⟨λds=>match ds with|[d,e]=>cif (d=e/\Bk.U8 n d) (some (.bool true)) none|_=>none,false,λ{D G xs ds v q} hx hd hf k=>by
 split at hf
 ·unfold cif at hf;split at hf
  ·rename_i c;cases hf;obtain ⟨rfl,c⟩:=c;cases hx with
   |cons x b=>cases b with
    |cons y b=>
     cases b;exact ⟨_,_,_,rfl,(x.up YH).dp,(y.up YH).dp,c,λG' E=>k _ _ E (.bl true) (λz=>by cases z)⟩
  ·cases hf
 ·cases hf⟩
def qa8 {n:Nat} {d:PyData} (h:Bk.U8 n d):(qej n).f [d,d]=some (.bool true):=jt ⟨rfl,h⟩
def qk7 {l:Nat} {t:TE3} {b:PuE t}:(eOf (l:=l) b).w=λρ n Q=>∃ d,b.f ρ=some d/\Q d n:=id rfl
def qkz {l:Nat} {t:TT3} {b:PuC t}:(cOf (l:=l) b).w=λρ n Q=>∃ d,b.f ρ=some d/\Q d n:=id rfl
def qms {l:Nat} {t:TA3} {b:PuA t}:(aOf (l:=l) b).w=λρ n Q=>∃ d,b.f ρ=some d/\Q d n:=id rfl
def ql4 {l:Nat} {t:TI3} {b:PuI t}:(iOf (l:=l) b).w=λρ n Q=>∃ d,b.f ρ=some d/\Q d n:=id rfl
def qqQ {l:Nat} {r:R3} {ta tb:TE3} {R:OpD r} {a:PwE l ta} {b:PwE l tb}:(eO R a b).w=λρ n Q=>a.w ρ n λx n1=>b.w ρ n1 λy n2=>∃ v,R.f x y=some v/\Q v n2:=id rfl
def qc1 {l:Nat} {ta:TE3} {tr:TA3} {a:PwE l ta} {r:PwA l tr}:(jB a r).w=λρ n Q=>a.w ρ n λx n1=>r.w ρ n1 λxs n2=>Q (x::xs) n2:=id rfl
def qfG {l:Nat} {t:TA3} {b:PwA l t} {hn:Tru (Nat.ble b.k 1000)}:(qf2 b hn).w=λρ n Q=>b.w ρ n λxs n1=>Q (.tuple xs) n1:=id rfl
def qfF {l:Nat} {t:TA3} {b:PwA l t} {hn:Tru (Nat.ble b.k 1000)}:(qqM b hn).w=λρ n Q=>b.w ρ n λxs n1=>Q (.list xs) n1:=id rfl
def qcc {l:Nat} {r:List T->Gp->Q3->Prop} {t:TA3} {R:FnD r} {b:PwA l t}:(qhZ R b).w=λρ n Q=>b.w ρ n λxs n1=>∃ v,R.f xs=some v/\Q v n1:=id rfl
def qlY {l:Nat} {r:List T->Gp->Q3->Prop} {t:TA3} {R:DrD r} {b:PwA l t}:(eDr R b).w=λρ n Q=>b.w ρ n λxs n1=>R.W xs n1 Q:=id rfl
def qqS {l:Nat} {t:TA3} {b:PwA l t}:(iR b).w=λρ n Q=>b.w ρ n λxs n1=>∃ ds,qce xs=some ds/\Q ds n1:=id rfl
def qqJ {l:Nat} {t:TE3} {b:PwE l t}:(iS b).w=λρ n Q=>b.w ρ n λd n1=>∃ ds,qaR d=some ds/\Q ds n1:=id rfl
def qno {l:Nat} {t:TE3} {b:PwE l t}:(iS b).nm=false:=id rfl
def qgv {l:Nat} {t:TI3} {b:PuI t}:(iOf (l:=l) b).nm=b.nm:=id rfl
def qfY {l:Nat} {t:TE3} {b:PuE t}:(eOf (l:=l) b).nw=b.nw:=id rfl
def qm2 {l:Nat} {r:R3} {ta tb:TE3} {R:OpD r} {a:PwE l ta} {b:PwE l tb}:(eO R a b).nw=R.nw:=id rfl
def qbJ {l:Nat} {t:TA3} {b:PwA l t} {hn:Tru (Nat.ble b.k 1000)}:(qf2 b hn).nw=false:=id rfl
def qfb {l:Nat} {r:List T->Gp->Q3->Prop} {t:TA3} {R:DrD r} {b:PwA l t}:(eDr R b).nw=R.nw:=id rfl
def qmJ {l:Nat} {wi:TI3} {g:TG3} {tif:TT3} {te:TE3} {l2:Nat} {pi:PwI l wi} {pg:PuG g} {pc:PwC l2 tif} {pe:PwE l2 te} {m:List (Option Nat)} {hm:Tru (pg.tg.all λi=>m[i]?==some none)} {hl:Tru (m[l2]?==some (some l))}:(eLc l2 pi pg pc pe m hm hl).w=λρ n Q=>pi.w ρ n λds n1=>ds.length<=16777216/\lcW pg.f pc.w pe.w (WL m ρ) ds n1 λfs n2=>fs.length<=16777216/\Q (.list fs) n2:=id rfl
def qfs {l:Nat} {wi:TI3} {g:TG3} {tif:TT3} {te:TE3} {l2:Nat} {pi:PwI l wi} {pg:PuG g} {pc:PwC l2 tif} {pe:PwE l2 te} {m:List (Option Nat)} {hm:Tru (pg.tg.all λi=>m[i]?==some none)} {hl:Tru (m[l2]?==some (some l))}:(eLc l2 pi pg pc pe m hm hl).nw=true:=id rfl
def qb2 {l:Nat}:(XH (l:=l)).w=λρ n Q=>Q (.nx ρ) n:=id rfl
def qfo {l:Nat} {t u:TS3} {x:PwS l t} {y:PwS l u}:(U2 x y).w=λρ n Q=>x.w ρ n (sqw y.w Q):=id rfl
def T7 {b:Rho->Nat->QO->Prop} {Q:QO} {ρ:Rho} {n:Nat}:sqw b Q (.nx ρ) n=b ρ n Q:=id rfl
def qgz {b:Rho->Nat->QO->Prop} {Q:QO} {d:PyData} {f:Bool} {n:Nat}:sqw b Q (.rt d f) n=Q (.rt d f) n:=id rfl
def qnc {l:Nat} {c:TT3} {t u:TS3} {pc:PwC l c} {x:PwS l t} {y:PwS l u}:(wIf pc x y).w=λρ n Q=>pc.w ρ n λk n1=>if k then x.w ρ n1 Q else y.w ρ n1 Q:=id rfl
def qgC {l:Nat} {t:TE3} {x:PwE l t}:(qaQ x).w=λρ n Q=>x.w ρ n λd n1=>Q (.rt d x.nw) n1:=id rfl
def qcP {l:Nat} {i:Nat}:(qi6 (l:=l) i).w=λρ n Q=>∃ d b,qdx ρ i=some (.rt d b)/\Q (.rt d b) n:=id rfl
def qgB {l:Nat} {t:TE3} {x:PwE l t} {i:Nat} {m:List Bool} {hm:Tru (x.fv.all (mkb m))} {hl:Tru (!mkb m l&&(i != l&&i != 0))}:(MI x i m hm hl).w=λρ n Q=>x.w ρ n λd n1=>Q (.nx (NW m x.nw i d ρ)) n1:=id rfl
def qbL {l:Nat} {t:TE3} {g:TG3} {x:PwE l t} {pg:PuG g} {m:List Bool} {hm:Tru (x.fv.all (mkb m))} {hl:Tru (!mkb m l&&pg.tg.all (λi=>i != l&&i != 0))}:(qlC x pg m hm hl).w=λρ n Q=>x.w ρ n λd n1=>∃ bs,pg.f d=some bs/\Q (.nx (QP (dm m ρ) bs)) n1:=id rfl
def qfM {l:Nat} {t:TE3} {x:PwE l t} {i:Nat} {m:List Bool} {hm:Tru (x.fv.all (mkb m))} {hl:Tru (!mkb m l)}:(qqz x i m hm hl).w=λρ n Q=>∃ ds,slot ρ i=some ds/\x.w ρ n λd n1=>slot (dmS m d ρ) i=some ds/\∃ es,d=.list es/\ds.length+es.length<=16777216/\Q (.nx ((dmS m d ρ).set i (.ow (ds++es)))) n1:=id rfl
def qgm {l:Nat} {wi:TI3} {g:TG3} {tb:TS3} {pi:PwI l wi} {pg:PuG g} {pb:PwS l tb} {m:List Bool} {hm:Tru (pi.fv.all (mkb m))} {hl:Tru (!mkb m l&&pg.tg.all (λi=>i != l&&i != 0))}:(qjm pi pg pb m hm hl).w=λρ n Q=>pi.w ρ n λds n1=>qd7 pg.f pb.w ds (if pi.nm then ρ else dm m ρ) n1 Q:=id rfl
def qb4 {ds:List PyData} {n:Nat} {Q:QD}:YI.W ds n Q=(∃ m:Int,ds=[.int m]/\(1<=m/\m<1073741824)/\n<1000000000/\∀ d:Int,0<=d->d<m->Q (.int d) (n+1)):=id rfl
def M4:YI.nw=false:=id rfl
def qlf {w:Wm} {fr:Bool}:(dSp w fr).W=w.W:=id rfl
def qf1 {w:Wm} {fr:Bool}:(dSp w fr).nw=fr:=id rfl
def qbY {Q:QD} {d:PyData} {b:Bool} {n:Nat}:qiQ false Q (.rt d b) n=∃ m,n<=m/\Q d m:=propext ⟨λh=>h.2,λh=>⟨λz=>(v6 z).elim,h⟩⟩
def qe4 {Q:QD} {d:PyData} {n:Nat}:qiQ true Q (.rt d true) n=∃ m,n<=m/\Q d m:=propext ⟨λh=>h.2,λh=>⟨λ_=>rfl,h⟩⟩
def qfc {ρ:Rho} {n:Nat}:okW (.nx ρ) n=True:=id rfl
def qnQ {α:Type} {v:α} {P:α->Prop}:(∃ d,some v=some d/\P d)=P v:=propext ⟨λ⟨d,h1,h2⟩=>by cases h1;exact h2,λh=>⟨v,rfl,h⟩⟩
def qgJ {v:Int} {P:Int->Prop}:(∃ m:Int,[PyData.int v]=[.int m]/\P m)=P v:=propext ⟨λ⟨d,h1,h2⟩=>by cases h1;exact h2,λh=>⟨v,rfl,h⟩⟩
def qjG {d:PyData} {b:Bool} {P:PyData->Bool->Prop}:(∃ d' b',some (Ot.rt d b)=some (.rt d' b')/\P d' b')=P d b:=propext ⟨λ⟨x,y,h1,h2⟩=>by cases h1;exact h2,λh=>⟨d,b,rfl,h⟩⟩
def qfW {m:List Bool} {nw:Bool} {i:Nat} {d:Dl} {ρ:Rho}:NW m nw i (Pv.dlD d) ρ=(dm m ρ).set i (.sh (Pv.dlD d)):=by cases d<;>exact qhL
def qeU {m:List Bool} {d:Int×Int} {ρ:Rho}:dmS m (Pv.pD d) ρ=dm m ρ:=id rfl
def QM {l:Nat} {t u:TS3} {x:PwS l t} {y:PwS l u} {ρ:Rho} {n:Nat} {Q:QO} (h:∀ Y:Rho->Nat->QO->Prop,Y=y.w->x.w ρ n (sqw Y Q)):(U2 x y).w ρ n Q:=h _ rfl
def qcB {ks:List Int} {d:Int} {P:PyData->Prop} (h0:0<=d) (h1:d<(ks.length:Int)) (h:∀ k∈ks,P (.int k)):∃ v,L2.atI (ks.map PyData.int) d=some v/\P v:=by
 obtain ⟨i,rfl⟩:=Int.eq_ofNat_of_zero_le h0;have hi:i<ks.length:=by omega
 refine ⟨.int ks[i],?_,h _ (za6 hi)⟩;have:=atN (xs:=ks.map PyData.int) (k:=i) (by simpa using hi);rw [getElem?_map,v8 hi] at this;exact this
structure Mn (bw:Rho->Nat->QO->Prop):Prop where
 h:∀ ρ n (Q Q':QO),bw ρ n Q->(∀ o m,Q o m->Q' o m)->bw ρ n Q'
def PwS.mn {l:Nat} {t:TS3} (b:PwS l t):Mn b.w:=⟨λ_ _ _ _ h k=>b.mono h k⟩
structure MnE (bw:Rho->Nat->QD->Prop):Prop where
 h:∀ ρ n (Q Q':QD),bw ρ n Q->(∀ o m,Q o m->Q' o m)->bw ρ n Q'
def PwE.mn {l:Nat} {t:TE3} (b:PwE l t):MnE b.w:=⟨λ_ _ _ _ h k=>b.mono h k⟩
structure MnC (bw:Rho->Nat->(Bool->Nat->Prop)->Prop):Prop where
 h:∀ ρ n (Q Q':Bool->Nat->Prop),bw ρ n Q->(∀ o m,Q o m->Q' o m)->bw ρ n Q'
def mnT:MnC (λρ n Q=>Q true n):=⟨λ_ _ _ _ h k=>k _ _ h⟩
section
variable {l:Nat} {g:TG3} {tb:TS3}
def W6 {gf:PyData->Option (List (Nat×PyData))} {bw:Rho->Nat->QO->Prop} {α:Type} {f:α->PyData} (xs:List α) (mono:Mn bw) (I:Nat->Rho->Nat->Prop) {ρ:Rho} {n:Nat} {Q:QO} (h0:I 0 ρ n)
  (hs:∀ i x ρ n,xs[i]?=some x->I i ρ n->∃ bs,gf (f x)=some bs/\bw (QP ρ bs) n λo m=>match o with|.nx ρ'=>I (i+1) ρ' m|.ct ρ'=>I (i+1) ρ' m|.bk ρ'=>Q (.nx ρ') m|.rt d b=>Q (.rt d b) m)
  (k:∀ ρ n,I xs.length ρ n->Q (.nx ρ) n):qd7 gf bw (xs.map f) ρ n Q:=by
 have key:∀ (r:List α) (i:Nat) (ρ:Rho) (n:Nat),xs.drop i=r->i<=xs.length->I i ρ n->qd7 gf bw (r.map f) ρ n Q:=by
  intro r;induction r with
  |nil=>
   intro i ρ n e hi h;have:i=xs.length:=by
    have:=congrArg List.length e;simp at this;omega
   subst this;exact k ρ n h
  |cons x r ih=>
   intro i ρ n e hi h;have hl:i<xs.length:=by
    have:=congrArg List.length e;simp at this;omega
   have e':=List.drop_eq_getElem_cons hl;rw [e] at e';injection e' with e1 e2;obtain ⟨bs,h1,h2⟩:=hs i x ρ n (by rw [v8 hl,e1]) h;refine ⟨bs,h1,mono.h _ _ _ _ h2 λo m h=>?_⟩;cases o with
   |nx ρ'=>exact ih (i+1) ρ' m e2.symm hl h
   |ct ρ'=>exact ih (i+1) ρ' m e2.symm hl h
   |bk ρ'=>exact h
   |rt d b=>exact h
 exact key xs 0 ρ n (by simp) (Nat.zero_le _) h0
theorem WA {gf:PyData->Option (List (Nat×PyData))} {cw:Rho->Nat->(Bool->Nat->Prop)->Prop} {ew:Rho->Nat->QD->Prop} {α β:Type} {f:α->PyData} {gd:β->PyData} {ρ:Rho} (R:β->Prop) (c:Nat) (N:Nat):∀ (xs:List α) (n:Nat) (Q:List PyData->Nat->Prop),
  (∀ x∈xs,∀ n Q,n+c<=N->(∀ b,R b->Q (gd b) (n+c))->∃ bs,gf (f x)=some bs/\cw (QP ρ bs) n λk n1=>if k then ew (QP ρ bs) n1 Q else False) ->
  MnE ew->MnC cw->n+c*xs.length<=N->(∀ bs:List β,bs.length=xs.length->(∀ b∈bs,R b)->Q (bs.map gd) (n+c*xs.length))->lcW gf cw ew ρ (xs.map f) n Q
 |[],n,Q,_,_,_,_,h=>h [] rfl (by simp)
 |x::xs,n,Q,hx,me,mc,hn,h=>by
  have hc:c*(xs.length+1)=c*xs.length+c:=by rw [Nat.mul_succ]
  simp only [length_cons] at hn h;obtain ⟨bs,h1,h2⟩:=hx x (by simp) n (λy n2=>lcW gf cw ew ρ (xs.map f) n2 λys n3=>Q (y::ys) n3) (by omega) λb hb=>by
   refine WA R c N xs (n+c) _ (λz hz=>hx z (by simp [hz])) me mc (by omega) λcs hl hr=>?_;have:=h (b::cs) (by simp [hl]) (by intro z hz;rcases mem_cons.mp hz with rfl|hz;exact hb;exact hr z hz);rw [show n+c*(xs.length+1)=n+c+c*xs.length by omega] at this;exact this
  refine ⟨bs,h1,mc.h _ _ _ _ h2 λk m hk=>?_⟩;cases k with
  |true=>exact hk
  |false=>exact hk.elim
end
def qbF {α β:Type} {x:α} {f:α->Option β}:(some x).bind f=f x:=id rfl
def qfO {α β:Type} {x:α} {f:α->β}:(some x).map f=some (f x):=id rfl
def qjT {α:Type} {x:α} {r:List α}:(x::r).length=r.length+1:=id rfl
def qkV {α:Type}:([]:List α).length=0:=id rfl
def qlZ {α:Type} {x y:α} {r:List α}:(x::r).set 0 y=y::r:=id rfl
def qlX {α:Type} {x y:α} {r:List α} {i:Nat}:(x::r).set (i+1) y=x::r.set i y:=id rfl
def qmG {α:Type} {r:List α}:r++[]=r:=List.append_nil r
def qkE {α:Type} {x:α} {r s:List α}:(x::r)++s=x::(r++s):=id rfl
def qjl {α:Type} {s:List α}:[]++s=s:=id rfl
def qmc {n:Nat}:0+n=n:=Nat.zero_add n
def qlP {p:Prop}:(True/\p)=p:=true_and p
def qkD {α:Type} {a b:α} {i:Decidable True}:@ite α True i a b=a:=if_pos trivial
def qj3 {α:Type} {a b:α} {i:Decidable False}:@ite α False i a b=b:=if_neg not_false
def qnt:(false=true)=False:=Bool.false_eq_true
def qje:(!true)=false:=id rfl
def qkv:(!false)=true:=id rfl
def qjs {i:Decidable True}:@decide True i=true:=decide_true i
def qkN {i:Decidable False}:@decide False i=false:=decide_false i
def qk0 {b:Bool}:(true||b)=true:=Bool.true_or b
def qlU {b:Bool}:(false||b)=b:=Bool.false_or b
def ai{a b:Prop}(x:a)(y:b):a/\b:=⟨x,y⟩
def pwA:=(ai (ai (ai (ai (ai (ai (ai @Pu.qk7 @Pu.qkz) (ai @Pu.qms (ai @Pu.ql4 @Pu.qqQ))) (ai (ai @Pu.qc1 (ai @Pu.qfG @Pu.qfF)) (ai @Pu.qcc (ai @Pu.qlY @Pu.qqS)))) (ai (ai (ai @Pu.qqJ @Pu.qno) (ai @Pu.qgv (ai @Pu.qfY @Pu.qm2))) (ai (ai @Pu.qbJ (ai @Pu.qfb @Pu.qmJ)) (ai @Pu.qfs (ai @Pu.qb2 @Pu.qfo))))) (ai (ai (ai (ai @Pu.T7 @Pu.qgz) (ai @Pu.qnc (ai @Pu.qgC @Pu.qcP))) (ai (ai @Pu.qgB (ai @Pu.qbL @Pu.qfM)) (ai @Pu.qgm (ai @Pu.qb4 @Pu.M4)))) (ai (ai (ai @Pu.qlf (ai @Pu.qf1 @Pu.qbY)) (ai @Pu.qe4 (ai @Pu.qfc @Pu.qgJ))) (ai (ai @Pu.qjG (ai @Pu.qfW @Pu.qeU)) (ai @Pu.qiy (ai @Pu.qq1 @Pu.qfC)))))) (ai (ai (ai (ai (ai @Pu.qki @Pu.qe1) (ai @Pu.qq2 (ai @Pu.qgt @Pu.qdk))) (ai (ai @Pu.qfA (ai @Pu.qgI @Pu.qbS)) (ai @Pu.qme (ai @Pu.qmM @Pu.qeT)))) (ai (ai (ai @Pu.qnR @Pu.qfK) (ai @Pu.qfS (ai @Pu.qlg @Pu.qj4))) (ai (ai @Pu.qmb (ai @Pu.qcm @Pu.qkd)) (ai @Pu.qgr (ai @Pu.qfl @Pu.qe8))))) (ai (ai (ai (ai @Pu.qgl @Pu.qde) (ai @Pu.qjh (ai @Pu.qnn @Pu.qlA))) (ai (ai @Pu.qfn (ai @Pu.qe6 @Pu.qda)) (ai @Pu.MZ (ai @Pu.qff @Pu.qf9)))) (ai (ai (ai @Pu.qc7 (ai @Pu.qbH @Pu.MY)) (ai @Pu.qci (ai @Pu.qqs @Pu.qfh))) (ai (ai @Pu.qa2 (ai @Pu.qfU @Pu.qbt)) (ai @Pu.qgs (ai @Pu.qky @Pu.qfI))))))) (ai (ai (ai (ai (ai (ai @Pu.qds @Pu.qfX) (ai @Pu.qcW (ai @Pu.qfe @Pu.qdl))) (ai (ai @Pu.qgh (ai @Pu.qga @Pu.qle)) (ai @Pu.qb8 (ai @Pu.qc5 @Pu.M2)))) (ai (ai (ai @Pu.N0 @Pu.qbW) (ai @Pu.qcu (ai @Pu.qfk @Pu.qb1))) (ai (ai @Pu.qc3 (ai @Pu.qby @Pu.NS)) (ai @Pu.qcq (ai @Pu.qqA @Pu.qqw))))) (ai (ai (ai (ai @Pu.qmr @Pu.qjY) (ai @Pu.qls (ai @Pu.qdo @Pu.qfH))) (ai (ai @Pu.qbo (ai @Pu.qaU @Pu.qgo)) (ai @Pu.qkh (ai @Pu.qkl @Pu.at0)))) (ai (ai (ai @Pu.at4 (ai @Pu.eqS @Pu.eqI)) (ai @Pu.qqR (ai @Pu.qfm @Pu.qgf))) (ai (ai @Pu.qgH (ai @Pu.qcb @Pu.qe9)) (ai @Pu.qaT (ai @Pu.qjO @Pu.qmH)))))) (ai (ai (ai (ai (ai @Pu.qgw @Pu.qfj) (ai @Pu.qf7 (ai @Pu.qfP @Pu.qgE))) (ai (ai @Pu.qln (ai @Pu.qlR @Pu.qhL)) (ai @Pu.qgy (ai @Pu.qgi @Pu.qlS)))) (ai (ai (ai @Pu.qlB (ai @Pu.qks @Pu.qqC)) (ai @Pu.qqP (ai @Pu.qqW @Pu.qkY))) (ai (ai @Pu.qku (ai @Pu.qk1 @Pu.qjC)) (ai @Pu.qmw (ai @Pu.qqL @Pu.qfJ))))) (ai (ai (ai (ai @Pu.qge @Pu.qfy) (ai @Pu.qnQ (ai @Pu.qbF @Pu.qfO))) (ai (ai @Pu.qjT (ai @Pu.qkV @Pu.qlZ)) (ai @Pu.qlX (ai @Pu.qmG @Pu.qkE)))) (ai (ai (ai @Pu.qjl (ai @Pu.qmc @Pu.qlP)) (ai @Pu.qkD (ai @Pu.qj3 @Pu.qnt))) (ai (ai @Pu.qje (ai @Pu.qkv @Pu.qjs)) (ai @Pu.qkN (ai @Pu.qk0 @Pu.qlU))))))))
end Pu
namespace Pu
open PySem L2 L3
def qq7 {l:Nat} {wi:TI3} {g:TG3} {tif:TT3} {te:TE3} (pi:PwI l wi) (pg:PuG g) (pc:PuC tif) (pe:PuE te) (m:List (Option Nat)) (hm:Tru (pg.tg.all λi=>m[i]?==some none)) (hl:Tru ((m.filterMap id).all λi=>i != l)):PwE l (lc3 wi g tif te m):=
 ⟨λρ n Q=>pi.w ρ n λds n1=>∃ fs,lcP (lcH pg.f pc.f pe.f (WL m ρ)) ds=some fs/\fs.length<=16777216/\Q (.list fs) n1,pi.fv++m.filterMap id,true,λh k=>pi.mono h λds n1 ⟨fs,h1,h2,h⟩=>⟨fs,h1,h2,k _ _ h⟩,λ{D τ ρ G a n q Q} h hw k=>by
  refine pi.ok h.fst hw λitems stay ds G1 n1 ⟨fs,e2,hl2,hq⟩ E1 L1 D1 hs _=>?_;have va:=(VA.cap (m:=m) h.snd.v).ext E1 h.da;have d1:=jO h.d E1 L1;refine qeN pg pc pe (D:=D) (ρ0:=WL m ρ) (G0:=G1) (λG2 E2=>hs G2 (.inr (YH.trans E2))) (λi hi=>DX ?_) fs (by rw [v7];exact hl2) (λG2 ys E2 D2 p hp=>?_) ds items [] [] fs _ G1 D1 va Ex.refl d1 .nil e2 (by simp)
  ·have:=List.all_eq_true.mp hm.h i hi;simpa using this
  ·exact k _ _ _ _ hq ((E1.trans (Bk.Q0 E2)).trans (Bk.Q0 (zn hp))) ((L1.ex E2).ex (zn hp)) (UI (d1.up E2) hp D2) λ_=>(WK hp D2).backx (E1.trans (Bk.Q0 E2)) (L1.ex E2)⟩
def qna {l:Nat} {wi:TI3} {g:TG3} {tif:TT3} {te:TE3} {pi:PwI l wi} {pg:PuG g} {pc:PuC tif} {pe:PuE te} {m:List (Option Nat)} {hm:Tru (pg.tg.all λi=>m[i]?==some none)} {hl:Tru ((m.filterMap id).all λi=>i != l)}:(qq7 pi pg pc pe m hm hl).w=λρ n Q=>pi.w ρ n λds n1=>∃ fs,lcP (lcH pg.f pc.f pe.f (WL m ρ)) ds=some fs/\fs.length<=16777216/\Q (.list fs) n1:=id rfl
open Bk (Lf Ext Dl)
end Pu
namespace Bk
open PySem L2 L3
end Bk
namespace Pu
open PySem L2 L3
open Bk (Lf Ext Dl)
def L4 {H:Gp} {xs:List T} {d:PyData} {ds:List PyData} (h:Dqs H xs (d::ds)):∃ x r,xs=x::r/\Dq H x d/\Dqs H r ds:=by
 cases h with
 |cons a b=>exact ⟨_,_,rfl,a,b⟩
def qax {H:Gp} {xs:List T} (h:Dqs H xs []):xs=[]:=by cases h;rfl
def qrR {H:Gp} {x:T} {i:Int} (h:Dq H x (.int i)):x=.int i:=by cases h;rfl
def qrz {H:Gp} {x:T} {i:Str} (h:Dq H x (.str i)):x=.str i:=by cases h;rfl
def qeZ {H:Gp} {x:T} {ds:List PyData} (h:Dq H x (.tuple ds)):∃ xs,x=.tup xs/\Dqs H xs ds:=by
 cases h with
 |tup a=>exact ⟨_,rfl,a⟩
def WQ {H:Gp} {xs:List T} {i:Int} {ds:List PyData} (h:Dqs H xs (.int i::ds)):∃ r,xs=.int i::r/\Dqs H r ds:=by
 obtain ⟨x,r,rfl,a,b⟩:=L4 h;exact ⟨r,by rw [qrR a],b⟩
def qcH {H:Gp} {xs:List T} {i:Str} {ds:List PyData} (h:Dqs H xs (.str i::ds)):∃ r,xs=.str i::r/\Dqs H r ds:=by
 obtain ⟨x,r,rfl,a,b⟩:=L4 h;exact ⟨r,by rw [qrz a],b⟩
def qiN {H:Gp}:∀ (cs:List (List Int)) {xs:List T},Dqs H xs (cs.map Pv.qft)->xs=cs.map Bk.qdy:=by
 intro cs;induction cs with
 |nil=>intro xs h;exact qax h
 |cons r cs ih=>
  intro xs h;obtain ⟨x,t,rfl,a,b⟩:=L4 h;obtain ⟨ys,rfl,a1⟩:=qeZ a;rw [ih b,Dqs.ints a1];rfl
def qaV {H:Gp} (d:Dl):∀ {x:T},Dq H x (Pv.dlD d)->x=d.t:=by
 induction d with
 |skew r c b x y=>
  intro z h0;obtain ⟨_,rfl,h1⟩:=qeZ h0;obtain ⟨_,rfl,h2⟩:=qcH h1;obtain ⟨_,rfl,h3⟩:=WQ h2;obtain ⟨_,rfl,h4⟩:=WQ h3;obtain ⟨_,rfl,h5⟩:=WQ h4;obtain ⟨_,rfl,h6⟩:=WQ h5;obtain ⟨_,rfl,h7⟩:=WQ h6;rw [qax h7];rfl
 |rests r c b p=>
  intro z h0;obtain ⟨_,rfl,h1⟩:=qeZ h0;obtain ⟨_,rfl,h2⟩:=qcH h1;obtain ⟨_,rfl,h3⟩:=WQ h2;obtain ⟨_,rfl,h4⟩:=WQ h3;obtain ⟨_,rfl,h5⟩:=WQ h4;obtain ⟨_,rfl,h6⟩:=WQ h5;rw [qax h6];rfl
 |bits hh l ms=>
  intro z h0;obtain ⟨_,rfl,h1⟩:=qeZ h0;obtain ⟨_,rfl,h2⟩:=qcH h1;obtain ⟨_,rfl,h3⟩:=WQ h2;obtain ⟨_,rfl,h4⟩:=WQ h3;obtain ⟨_,_,rfl,a0,h5⟩:=L4 h4;obtain ⟨_,rfl,a1⟩:=qeZ a0;rw [qax h5,Dqs.ints a1];rfl
 |table b cells=>
  intro z h0;obtain ⟨_,rfl,h1⟩:=qeZ h0;obtain ⟨_,rfl,h2⟩:=qcH h1;obtain ⟨_,rfl,h3⟩:=WQ h2;obtain ⟨_,_,rfl,a0,h4⟩:=L4 h3;obtain ⟨_,rfl,a1⟩:=qeZ a0;rw [qax h4,qiN cells a1];rfl
 |joined d e ih1 ih2=>
  intro z h0;obtain ⟨_,rfl,h1⟩:=qeZ h0;obtain ⟨_,rfl,h2⟩:=qcH h1;obtain ⟨_,_,rfl,a0,h3⟩:=L4 h2;obtain ⟨_,_,rfl,b0,h4⟩:=L4 h3;rw [qax h4,ih1 a0,ih2 b0];rfl
def qbz:∀ (a b:Int),PyData.int a=PyData.int b->a=b:=λ_ _ h=>by injection h
def qii:∀ (a b:List Int),Pv.qft a=Pv.qft b->a=b:=λa b h=>by
 unfold Pv.qft at h;injection h with h;exact (List.map_inj_right qbz).mp h
theorem RG:∀ (d e:Dl),Pv.dlD d=Pv.dlD e->d=e
 |.skew ..,.skew ..,h=>by simp [Pv.dlD] at h;simp [h]
 |.rests ..,.rests ..,h=>by simp [Pv.dlD] at h;simp [h]
 |.bits _ _ ms,.bits _ _ ns,h=>by
  simp only [Pv.dlD,PyData.tuple.injEq,List.cons.injEq,PyData.int.injEq,and_true,true_and,Int.natCast_inj] at h;have:=(List.map_inj_right qbz).mp h.2.2;simp [h.1,h.2.1,this]
 |.table _ cs,.table _ es,h=>by
  simp only [Pv.dlD,PyData.tuple.injEq,List.cons.injEq,PyData.int.injEq,and_true,true_and] at h;have:=(List.map_inj_right qii).mp h.2;simp [h.1,this]
 |.joined d e,.joined d' e',h=>by
  simp only [Pv.dlD,PyData.tuple.injEq,List.cons.injEq,and_true,true_and] at h;rw [RG d d' h.1,RG e e' h.2]
 |.skew ..,.rests ..,h=>by simp [Pv.dlD] at h
 |.skew ..,.bits ..,h=>by simp [Pv.dlD] at h
 |.skew ..,.table ..,h=>by simp [Pv.dlD] at h
 |.skew ..,.joined ..,h=>by simp [Pv.dlD] at h
 |.rests ..,.skew ..,h=>by simp [Pv.dlD] at h
 |.rests ..,.bits ..,h=>by simp [Pv.dlD] at h
 |.rests ..,.table ..,h=>by simp [Pv.dlD] at h
 |.rests ..,.joined ..,h=>by simp [Pv.dlD] at h
 |.bits ..,.skew ..,h=>by simp [Pv.dlD] at h
 |.bits ..,.rests ..,h=>by simp [Pv.dlD] at h
 |.bits ..,.table ..,h=>by simp [Pv.dlD] at h
 |.bits ..,.joined ..,h=>by simp [Pv.dlD] at h
 |.table ..,.skew ..,h=>by simp [Pv.dlD] at h
 |.table ..,.rests ..,h=>by simp [Pv.dlD] at h
 |.table ..,.bits ..,h=>by simp [Pv.dlD] at h
 |.table ..,.joined ..,h=>by simp only [Pv.dlD,PyData.tuple.injEq,List.cons.injEq,PyData.str.injEq] at h;exact absurd h.1 (by decide)
 |.joined ..,.skew ..,h=>by simp [Pv.dlD] at h
 |.joined ..,.rests ..,h=>by simp [Pv.dlD] at h
 |.joined ..,.bits ..,h=>by simp [Pv.dlD] at h
 |.joined ..,.table ..,h=>by simp only [Pv.dlD,PyData.tuple.injEq,List.cons.injEq,PyData.str.injEq] at h;exact absurd h.1 (by decide)
def the (S:PyData->Prop):Option PyData:=@dite _ (∃ v,S v) (Classical.propDecidable _) (λh=>some (Classical.choose h)) λ_=>none
def U9 {S:PyData->Prop} {v:PyData} (h:the S=some v):S v:=by
 unfold the at h;split at h
 ·rename_i e;cases h;exact Classical.choose_spec e
 ·cases h
def N7 {S:PyData->Prop} {v:PyData} (h:S v) (u:∀ w,S w->w=v):the S=some v:=by
 unfold the;rw [dif_pos ⟨v,h⟩];exact congrArg some (u _ (Classical.choose_spec (⟨v,h⟩:∃ v,S v)))
def siz (d:Dl):PyData:=.tuple [.int d.R,.int d.C,.int d.B]
def qgG (G:Gp) (d:Dl):Dq G (Bk.W2 d) (siz d):=.tup (.cons (.int _) (.cons (.int _) (.cons (.int _) .nil)))
def SzR (n:Nat) (ds:List PyData) (v:PyData):Prop:=∃ d:Dl,ds=[Pv.dlD d]/\d.dep<=n/\d.Ok/\v=siz d
def fSz (n:Nat):FnD (Bk.zl (n+1)):=⟨λds=>the (SzR n ds),false,λ{D G xs ds v q} hx hd hf k=>by
 obtain ⟨d,rfl,h1,h2,rfl⟩:=U9 hf;cases hx with
 |cons a b=>
  cases b;have:=qaV d a;subst this;exact ⟨d,rfl,h1,h2,k _ _ Ex.refl (qgG _ d) (λz=>by cases z)⟩⟩
def qpY (n:Nat):FnD (Bk.zV (n+1)):=⟨λds=>the (SzR n ds),false,λ{D G xs ds v q} hx hd hf k=>by
 obtain ⟨d,rfl,h1,h2,rfl⟩:=U9 hf;cases hx with
 |cons a b=>
  cases b;have:=qaV d a;subst this;exact ⟨d,rfl,h1,h2,λG' E=>k _ _ E (qgG _ d) (λz=>by cases z)⟩⟩
def qcw {n:Nat} {d:Dl} (h1:d.dep<=n) (h2:d.Ok):the (SzR n [Pv.dlD d])=some (siz d):=N7 ⟨d,rfl,h1,h2,rfl⟩ λw ⟨e,a,_,_,b⟩=>by
 injection a with a;rw [b,RG d e a]
def qg2 {n:Nat}:(fSz n).f=λds=>the (SzR n ds):=id rfl
def qfz {n:Nat}:(qpY n).f=λds=>the (SzR n ds):=id rfl
def BkR (n:Nat) (ds:List PyData) (v:PyData):Prop:=∃ (d:Dl) (i j:Int),ds=[Pv.dlD d,.tuple [.int i,.int j]]/\d.dep<=n/\d.Ok/\Bk.Inn d i j/\v=.int (d.bank i j)
def fBk (n:Nat):FnD (Bk.qat n):=⟨λds=>the (BkR n ds),false,λ{D G xs ds v q} hx hd hf k=>by
 obtain ⟨d,i,j,rfl,h1,h2,h3,rfl⟩:=U9 hf;cases hx with
 |cons a b=>cases b with
  |cons c b=>
   cases b;have:=qaV d a;subst this;cases c with
   |tup hs=>cases hs with
    |cons x hs=>cases hs with
     |cons y hs=>
      cases hs;cases x;cases y;exact ⟨d,i,j,rfl,h1,h2,h3,λG' E=>k _ _ E (.int _) (λz=>by cases z)⟩⟩
def qhz {n:Nat} {d:Dl} {i j:Int} (h1:d.dep<=n) (h2:d.Ok) (h3:Bk.Inn d i j):the (BkR n [Pv.dlD d,.tuple [.int i,.int j]])=some (.int (d.bank i j)):=N7 ⟨d,i,j,rfl,h1,h2,h3,rfl⟩ λw ⟨e,i',j',a,_,_,_,b⟩=>by
 simp only [List.cons.injEq,PyData.tuple.injEq,PyData.int.injEq,and_true] at a;rw [b,RG d e a.1,a.2.1,a.2.2]
def LbR (n:Nat) (ds:List PyData) (v:PyData):Prop:=∃ (d:Dl) (i j:Int),ds=[Pv.dlD d,.int i,.int j]/\d.dep<=n/\d.Ok/\Bk.Inn d i j/\v=.int (d.bank i j)
def qqH (n:Nat):FnD (Bk.QZ (n+1)):=⟨λds=>the (LbR n ds),false,λ{D G xs ds v q} hx hd hf k=>by
 obtain ⟨d,i,j,rfl,h1,h2,h3,rfl⟩:=U9 hf;cases hx with
 |cons a b=>cases b with
  |cons x b=>cases b with
   |cons y b=>
    cases b;have:=qaV d a;subst this;cases x;cases y;exact ⟨d,i,j,rfl,h1,h2,h3,λG' E=>k _ _ E (.int _) (λz=>by cases z)⟩⟩
def qqe {n:Nat} {d:Dl} {i j:Int} (h1:d.dep<=n) (h2:d.Ok) (h3:Bk.Inn d i j):the (LbR n [Pv.dlD d,.int i,.int j])=some (.int (d.bank i j)):=N7 ⟨d,i,j,rfl,h1,h2,h3,rfl⟩ λw ⟨e,i',j',a,_,_,_,b⟩=>by
 simp only [List.cons.injEq,PyData.int.injEq,and_true] at a;rw [b,RG d e a.1,a.2.1,a.2.2]
def qkZ {n:Nat}:(qqH n).f=λds=>the (LbR n ds):=id rfl
def LQ (r c:Nat):List (Int×Int):=(List.range r).flatMap λ(i:Nat)=>(List.range c).map λ(j:Nat)=>((i:Int),(j:Int))
end Pu
namespace Pu
open PySem L2 L3
open Bk (Lf Ext Dl SD SDs QK qN UX QC RF SO X2)
theorem qiH:∀ d:Dl,d.Ok->SD (d.dep+4) (8000*4 ^ d.dep) (Pv.dlD d)
 |.skew r c b x y,ok=>by
  simp only [Dl.Ok] at ok;refine (QK (k:=2) (n:=20) ?_).mono (by simp [Dl.dep]) (by simp [Dl.dep]);refine qN (RF (n:=4) 2 (by decide) (by decide)) (m:=15) (qN (n:=0) (m:=12) (QC _ _ (by omega)) (qN (n:=0) (m:=9) (QC _ _ (by omega)) (qN (n:=0) (m:=6) (QC _ _ (by omega)) (qN (n:=0) (m:=3) (QC _ _ (by omega)) (qN (n:=0) (m:=0) (QC _ _ (by omega)) (UX _ _) (by omega)) (by omega)) (by omega)) (by omega)) (by omega)) (by omega)
 |.rests r c b p,ok=>by
  simp only [Dl.Ok] at ok;refine (QK (k:=2) (n:=20) ?_).mono (by simp [Dl.dep]) (by simp [Dl.dep]);refine qN (RF (n:=5) 2 (by decide) (by decide)) (m:=12) (qN (n:=0) (m:=9) (QC _ _ (by omega)) (qN (n:=0) (m:=6) (QC _ _ (by omega)) (qN (n:=0) (m:=3) (QC _ _ (by omega)) (qN (n:=0) (m:=0) (QC _ _ (by omega)) (UX _ _) (by omega)) (by omega)) (by omega)) (by omega)) (by omega)
 |.bits h l ms,ok=>by
  simp only [Dl.Ok] at ok;have p8:(2:Int) ^ (h+l)<=2 ^ 8:=by
   have:=Nat.pow_le_pow_right (n:=2) (by omega) (show h+l<=8 by omega);have e1:((2 ^ (h+l):Nat):Int)=2 ^ (h+l):=by simp
   have e2:((2 ^ 8:Nat):Int)=2 ^ 8:=by simp
   omega
  have e:(2:Int) ^ 8=256:=by decide
  refine (QK (k:=2) (n:=30) ?_).mono (by simp [Dl.dep]) (by simp [Dl.dep]);refine qN (RF (n:=4) 2 (by decide) (by decide)) (m:=16) (qN (n:=0) (m:=12) (QC _ _ (by omega)) (qN (n:=0) (m:=8) (QC _ _ (by omega)) (qN (n:=ms.length) (m:=0) (QK (k:=1) (SO λm hm=>by have:=ok.2.2.2 m hm;omega)) (UX _ _) (by omega)) (by omega)) (by omega)) (by omega)
 |.table b cells,ok=>by
  obtain ⟨b1,b2,l1,l2,c,c1,c2,hc⟩:=ok;have rows:SDs 2 (cells.length*(60+1)) (cells.map Pv.qft):=by
   have:=X2 (k:=2) (n:=60) (ds:=cells.map Pv.qft) (λd hd=>by
    obtain ⟨r,hr,rfl⟩:=mem_map.mp hd;have h:=hc r hr;exact (QK (k:=1) (SO λm hm=>by have:=h.2 m hm;omega)).mono (by omega) (by rw [h.1];exact c2))
   rwa [length_map] at this
  refine (QK (k:=3) (n:=4000) ?_).mono (by simp [Dl.dep]) (by simp [Dl.dep]);refine qN (RF (n:=5) 3 (by decide) (by decide)) (m:=3900) (qN (n:=0) (m:=3800) (QC _ _ (by omega)) (qN (n:=cells.length*(60+1)) (m:=0) (QK (k:=2) rows) (UX _ _) (by omega)) (by omega)) (by omega)
 |.joined d e,ok=>by
  simp only [Dl.Ok] at ok;have a:=qiH d ok.1;have b:=qiH e ok.2.1;have m1:4 ^ d.dep<=4 ^ max d.dep e.dep:=Nat.pow_le_pow_right (by omega) (Nat.le_max_left ..);have m2:4 ^ e.dep<=4 ^ max d.dep e.dep:=Nat.pow_le_pow_right (by omega) (Nat.le_max_right ..);have p0:1<=4 ^ max d.dep e.dep:=Nat.pow_pos (by omega);show SD (max d.dep e.dep+1+4) (8000*4 ^ (max d.dep e.dep+1)) (.tuple [.str "joined",Pv.dlD d,Pv.dlD e]);rw [Nat.pow_succ];generalize 4 ^ max d.dep e.dep=P at m1 m2 p0;generalize hM:max d.dep e.dep=M;have d1:d.dep<=M:=by rw [← hM];exact Nat.le_max_left ..
  have d2:e.dep<=M:=by rw [← hM];exact Nat.le_max_right ..
  refine QK (k:=M+4) ?_;exact qN (n:=6) (m:=16000*P+10) (RF _ _ (by decide) (by decide)) (qN (n:=8000*P) (m:=8000*P+5) (a.mono (by omega) (by omega)) (qN (n:=8000*P) (m:=0) (b.mono (by omega) (by omega)) (UX _ _) (by omega)) (by omega)) (by omega)
end Pu
namespace Pu
open PySem L2 L3
def qeP (st:Bool):List PyData->Option PyData
 |[.none]=>some (.str "None")
 |[.bool b]=>some (.str (if b=true then Str.ofString "True" else Str.ofString "False"))
 |[.int i]=>cif (i.natAbs.log2<1920) (some (.str (Str.ofString (toString i)))) none
 |[.str x]=>match st with
  |true=>some (.str x)
  |false=>cif ((reprText x).length<=sizeLine) (some (.str (reprText x))) none
 |[.list ds]=>cif (ShW (.list ds)) (some (.str (PyData.list ds).shown)) none
 |[.tuple ds]=>cif (ShW (.tuple ds)) (some (.str (PyData.tuple ds).shown)) none
 |_=>none
def VF {α:Type} {c:Prop} {x:α} {d:α} (h:cif c (some x) none=some d):c/\x=d:=by
 unfold cif at h;split at h
 ·rename_i z;exact ⟨z,Option.some.inj h⟩
 ·cases h
def qef (st:Bool):FnD (MQ st):=⟨qeP st,false,λ{D G xs ds v q} hx hd hf k=>by
 cases hx with
 |nil=>cases hf
 |cons a b=>
  cases b with
  |cons b1 b2=>cases a<;>cases hf
  |nil=>
   have dp:=(a.up YH).dp;have fin:∀ (x:Str) {w:PyData},w=v->w=.str x->q (.str x) G:=λx w e1 e2=>k _ _ Ex.refl (by rw [← e1,e2];exact .str _) (λz=>by cases z);cases a with
   |non=>exact fin _ (Option.some.inj hf) rfl
   |bl b=>exact fin _ (Option.some.inj hf) rfl
   |int i=>exact ⟨(VF hf).1,fin _ (VF hf).2 rfl⟩
   |str x=>
    cases st with
    |true=>exact fin _ (Option.some.inj hf) rfl
    |false=>exact ⟨(VF hf).1,fin _ (VF hf).2 rfl⟩
   |tup hs=>exact ⟨_,dp,(VF hf).1,fin _ (VF hf).2 rfl⟩
   |lst g hs=>exact ⟨_,dp,(VF hf).1,fin _ (VF hf).2 rfl⟩⟩
def qbR {st:Bool}:(qef st).f=qeP st:=id rfl
def MW {st:Bool}:(qef st).nw=false:=id rfl
def qjB {st:Bool} {ds:List PyData} (h:ShW (.list ds)):qeP st [.list ds]=some (.str (PyData.list ds).shown):=jt h
def qcA {α:Type} (g:α->PyData) (xs:List α):∀ k,enD k (xs.map g)=(xs.zipIdx k).map λp=>PyData.tuple [.int (p.2:Int),g p.1]:=by
 induction xs with
 |nil=>intro k;rfl
 |cons x xs ih=>intro k;simp only [map_cons,enD,List.zipIdx_cons,ih (k+1)]
def VY {α:Type} {xs:List α} {i n:Nat} {x:α} (h:(xs.zipIdx 0)[i]?=some (x,n)):xs[i]?=some x/\n=i/\i<xs.length:=by
 rw [List.getElem?_zipIdx] at h;obtain ⟨c,hc,e⟩:=za9 h;simp only [Nat.zero_add,Prod.mk.injEq] at e;obtain ⟨rfl,rfl⟩:=e;exact ⟨hc,rfl,(zb0 hc).1⟩
def qn9:List PyData->Option PyData
 |[.int x,.int y]=>cif (0<=x/\0<=y) (some (.int (Int.gcd x y:Nat))) none
 |_=>none
def qqO:FnD Bk.VU:=⟨qn9,false,λ{D G xs ds v q} hx hd hf k=>by
 cases hx with
 |nil=>cases hf
 |cons a b=>
  cases b with
  |nil=>cases a<;>cases hf
  |cons b c=>
   cases c with
   |cons _ _=>cases a<;>cases b<;>cases hf
   |nil=>
    cases a<;>cases b<;>try (cases hf;done)
    rename_i x y;unfold qn9 cif at hf;simp only at hf;split at hf
    ·rename_i z;cases hf;exact ⟨x,y,rfl,z.1,z.2,k _ _ Ex.refl (.int _) (λz=>by cases z)⟩
    ·cases hf⟩
def qmd:qqO.f=qn9:=id rfl
def qfT {xs ys:List PyData} (h:xs.length+ys.length<=16777216):qiT (.list xs) (.list ys)=some (.list (xs++ys)):=jt (by rw [v7];exact h)
open Bk (Lf Ext)
def qpt {m:List Bool} {ρ:Rho} {i:Nat}:vw (dm m ρ) i=vw ρ i:=by
 unfold vw;rw [qaz];cases ρ[i]? with
 |none=>rfl
 |some s=>
  simp only [Option.map_some,Option.bind_some];split
  ·cases s<;>rfl
  ·rfl
def qjF {l:Nat} {t1 t2:TE3} (a:PuE t1) (b:PuE t2) (i j:Nat) (m:List Bool) (ha:Tru a.nw) (hb:Tru b.nw) (h1:Tru (a.fv.all (mkb m))) (h2:Tru (b.fv.all (mkb m))) (hi:Tru (b.fv.all (· != i))) (hl:Tru (!mkb m l&&((i != l&&i != 0)&&(j != l&&j != 0)))):PwS l (YQ i j (qf t1 (qf t2 qk))):=
 ⟨λρ n Q=>∃ ds es,a.f ρ=some (.list ds)/\b.f ρ=some (.list es)/\Q (.nx ((dm m ((dm m ρ).set i (.ow ds))).set j (.ow es))) n,λ⟨ds,es,x,y,z⟩ k=>⟨ds,es,x,y,k _ _ z⟩,λ{a0 z0 D G0 A τ ρ G n e Q} h ⟨ds,es,e1,e2,hq⟩ k=>by
 have hl':mkb m l=false/\(i≠l/\i≠0)/\j≠l/\j≠0:=by simpa using hl.h
 have hd:=h.dem hl'.1;unfold YQ qf;refine a.ok (h.r.viewD h1) hd.r.dom e1 λx G1 E1 D1 N1=>?_;obtain ⟨A1,r1⟩:=hd.putN hl'.2.1.1 hl'.2.1.2 rfl (Bk.Q0 E1) (h.lf.ex E1) (N1 ha.h);have V:=r1.r.viewD h2;refine b.ok (D:=AD D (Ad m A1)) (λv hv d hd'=>?_) (r1.r.dem m).dom e2 λy G2 E2 D2 N2=>?_
 ·have vi:v≠i:=by simpa using List.all_eq_true.mp hi.h v hv
  have e3:vw ((dm m ρ).set i (.ow ds)) v=some d:=by
   have:vw ((dm m ρ).set i (.ow ds)) v=vw (dm m ρ) v:=by
    unfold vw;rw [getElem?_set,if_neg (λz=>vi z.symm)]
   rw [this,qpt];exact hd'
  obtain ⟨t,y1,y2⟩:=V v hv d e3;rw [getElem?_set,if_neg (λz=>vi z.symm)] at y1;exact ⟨t,y1,y2⟩
 ·obtain ⟨A2,r2⟩:=(r1.dem hl'.1).putN hl'.2.2.1 hl'.2.2.2 rfl (Bk.Q0 E2) (r1.lf.ex E2) (N2 hb.h);exact k _ _ hq _ _ _ r2⟩
def qio {l:Nat} {t1 t2:TE3} {a:PuE t1} {b:PuE t2} {i j:Nat} {m:List Bool} {ha:Tru a.nw} {hb:Tru b.nw} {h1:Tru (a.fv.all (mkb m))} {h2:Tru (b.fv.all (mkb m))} {hi:Tru (b.fv.all (· != i))} {hl:Tru (!mkb m l&&((i != l&&i != 0)&&(j != l&&j != 0)))}:(qjF (l:=l) a b i j m ha hb h1 h2 hi hl).w=λρ n Q=>∃ ds es,a.f ρ=some (.list ds)/\b.f ρ=some (.list es)/\Q (.nx ((dm m ((dm m ρ).set i (.ow ds))).set j (.ow es))) n:=id rfl
def RS.unk {D:Addr->Prop} {G0 G:Gp} {A:Nat->Addr->Prop} {τ:St3} {ρ:Rho} (h:RS D G0 A τ ρ G) (s:Nat) (t:Option T):RS D G0 A (τ.set s t) (ρ.set s .un) G:=by
 refine ⟨h.ex,h.dm,h.fr,h.da,h.inj,by rw [List.length_set,List.length_set];exact h.len,λi d x=>?_⟩;rw [getElem?_set] at x;split at x
 ·split at x<;>cases x
  trivial
 ·rename_i c;rw [getElem?_set,if_neg c];exact h.sl i d x
end Pu
namespace Pu
open PySem L2 L3
def SR (ρ:Rho) (i:Nat):Option (List (Int×PyData)):=match ρ[i]? with|some (.dc kvs)=>some kvs|_=>none
def qdY {ρ:Rho} {i:Nat} {kvs:List (Int×PyData)} (h:SR ρ i=some kvs):ρ[i]?=some (.dc kvs):=by
 unfold SR at h;split at h
 ·rename_i e;cases h;exact e
 ·cases h
def V4:List (Int×PyData)->Int->Option PyData
 |[],_=>none
 |p::r,k=>if p.1=k then some p.2 else V4 r k
def NU (kvs:List (Int×PyData)) (k:Int):Bool:=kvs.any λp=>decide (p.1=k)
def qhs (kvs:List (Int×PyData)) (k:Int) (x:PyData):List (Int×PyData):=kvs.map λp=>if p.1=k then (p.1,x) else p
def WN (kvs:List (Int×PyData)) (k:Int) (x:PyData):List (Int×PyData):=if NU kvs k then qhs kvs k x else kvs++[(k,x)]
def DcQ (H:Gp) (ks:List (Int×T)) (kvs:List (Int×PyData)):Prop:=ks.map (λq=>q.1)=kvs.map (λq=>q.1)/\Dqs H (ks.map λq=>q.2) (kvs.map λq=>q.2)
theorem DcQ.up {H H':Gp} {ks:List (Int×T)} {kvs:List (Int×PyData)} (h:DcQ H ks kvs) (e:Ex H H'):DcQ H' ks kvs:=⟨h.1,h.2.up e⟩
theorem DcQ.nil {H:Gp}:DcQ H [] []:=⟨rfl,.nil⟩
theorem DcQ.cons {H:Gp} {a:Int} {x:T} {d:PyData} {ks:List (Int×T)} {kvs:List (Int×PyData)} (h:Dq H x d) (t:DcQ H ks kvs):DcQ H ((a,x)::ks) ((a,d)::kvs):=⟨congrArg (a::·) t.1,.cons h t.2⟩
theorem X4 {H:Gp} {P:List (Int×T)->List (Int×PyData)->Prop} (p0:P [] []) (p1:∀ a x d ks kvs,Dq H x d->DcQ H ks kvs->P ks kvs->P ((a,x)::ks) ((a,d)::kvs)):∀ {ks kvs},DcQ H ks kvs->P ks kvs
 |[],[],_=>p0
 |[],_::_,h=>by have:=h.1;cases this
 |_::_,[],h=>by have:=h.1;cases this
 | (a,x)::ks,(b,d)::kvs,h=>by
  obtain ⟨h1,h2⟩:=h;have e:a=b/\ks.map (λq=>q.1)=kvs.map (λq=>q.1):=by
   rw [map_cons,map_cons] at h1;exact List.cons.inj h1
  obtain ⟨rfl,e⟩:=e;cases h2 with
  |cons q t=>exact p1 _ _ _ _ _ q ⟨e,t⟩ (X4 p0 p1 ⟨e,t⟩)
def DcQ.len {H:Gp} {ks:List (Int×T)} {kvs:List (Int×PyData)} (h:DcQ H ks kvs):ks.length=kvs.length:=by
 have:=congrArg List.length h.1;rw [length_map,length_map] at this;exact this
def DcQ.look {H:Gp} {k:Int} {y:T} {d:PyData} (hy:Dq H y d) {ks:List (Int×T)} {kvs:List (Int×PyData)} (h:DcQ H ks kvs):Dq H ((K9 ks k).getD y) ((V4 kvs k).getD d):=by
 refine X4 (P:=λks kvs=>Dq H ((K9 ks k).getD y) ((V4 kvs k).getD d)) hy (λa x e ks kvs q _ ih=>?_) h;show Dq H ((if a=k then some x else K9 ks k).getD y) ((if a=k then some e else V4 kvs k).getD d);by_cases c:a=k
 ·rw [if_pos c,if_pos c];exact q
 ·rw [if_neg c,if_neg c];exact ih
def DcQ.has {H:Gp} {k:Int} {ks:List (Int×T)} {kvs:List (Int×PyData)} (h:DcQ H ks kvs):qhE ks k=NU kvs k:=by
 refine X4 (P:=λks kvs=>qhE ks k=NU kvs k) rfl (λa x e ks kvs q _ ih=>?_) h;show (decide (a=k)||qhE ks k)=(decide (a=k)||NU kvs k);rw [ih]
def DcQ.rep {H:Gp} {k:Int} {y:T} {d:PyData} (hy:Dq H y d) {ks:List (Int×T)} {kvs:List (Int×PyData)} (h:DcQ H ks kvs):DcQ H (MX ks k y) (qhs kvs k d):=by
 refine X4 (P:=λks kvs=>DcQ H (MX ks k y) (qhs kvs k d)) .nil (λa x e ks kvs q _ ih=>?_) h;show DcQ H ((if a=k then (a,y) else (a,x))::MX ks k y) ((if a=k then (a,d) else (a,e))::qhs kvs k d);by_cases c:a=k
 ·rw [if_pos c,if_pos c];exact ih.cons hy
 ·rw [if_neg c,if_neg c];exact ih.cons q
def DcQ.app {H:Gp} {k:Int} {y:T} {d:PyData} (hy:Dq H y d) {ks:List (Int×T)} {kvs:List (Int×PyData)} (h:DcQ H ks kvs):DcQ H (ks++[(k,y)]) (kvs++[(k,d)]):=
 X4 (P:=λks kvs=>DcQ H (ks++[(k,y)]) (kvs++[(k,d)])) (DcQ.nil.cons hy) (λa x e ks kvs q _ ih=>ih.cons q) h
def DcQ.store {H:Gp} {k:Int} {y:T} {d:PyData} (hy:Dq H y d) {ks:List (Int×T)} {kvs:List (Int×PyData)} (h:DcQ H ks kvs):DcQ H (WM ks k y) (WN kvs k d):=by
 unfold WM WN;rw [h.has];cases NU kvs k with
 |true=>exact h.rep hy
 |false=>exact h.app hy
section
variable {D:Addr->Prop} {G0 G G':Gp} {A A':Nat->Addr->Prop} {τ:St3} {ρ:Rho}
def RS.dcq (h:RS D G0 A τ ρ G) {i:Nat} {kvs:List (Int×PyData)} (e:SR ρ i=some kvs):∃ p ks,A i p/\τ[i]?=some (some (.ref p))/\G p=some (.dct ks)/\DcQ (rs (AD D A) G) ks kvs:=h.sl i _ (qdY e)
def RS.putD (h:RS D G0 A τ ρ G) (i:Nat) {p:Addr} (gp:G p=none):RS D G0 (Rg A i λb=>b=p) (τ.set i (some (.ref p))) (ρ.set i (.dc [])) (gu G p (.dct [])):=
 h.upd i (W:=λ_=>False) (λb o _ z=>zn gp b o z) (λ_ z=>z.elim) (λb z=>by subst z;exact ⟨.inr gp,by rw [qy];simp⟩) λ_=>⟨p,[],rfl,rfl,qy,rfl,.nil⟩
def RS.wrC (h:RS D G0 A τ ρ G) {i:Nat} {p:Addr} {ks:List (Int×T)} {kvs:List (Int×PyData)} (hi:A i p) (ht:τ[i]?=some (some (.ref p))) (hs:DcQ (rs (AD D A) G) ks kvs):RS D G0 A τ (ρ.set i (.dc kvs)) (gu G p (.dct ks)):=by
 have:=h.upd i (G':=gu G p (.dct ks)) (x:=.ref p) (s:=.dc kvs) (B:=A i) (W:=λb=>b=p) (λb o n z=>by rw [zj n];exact z) (λb z=>⟨i,by rw [z];exact hi,.inl rfl⟩) (λb z=>⟨.inl z,by
  by_cases c:b=p
  ·rw [c,qy];simp
  ·rw [zj c];exact h.da i b z⟩) λX=>⟨p,ks,hi,rfl,qy,(hs.up X).1,(hs.up X).2⟩
 rw [EL ht,SB] at this;exact this
end
def qe7 (i:Nat):PuS (qF qdB (gn3 i)):=⟨λ_ ρ=>some (.nx (ρ.set i (.dc []))),λ{D G0 A τ ρ G n o e} h hf k=>by
 cases hf;intro p hp;exact k _ _ _ (h.putD i hp)⟩
def qeC {i:Nat}:(qe7 i).f=λ_ ρ=>some (.nx (ρ.set i (.dc []))):=id rfl
def qn6 (i j:Nat) (k d:PyData) (ρ:Rho):Option Ot:=(asI k).bind λk=>(SR ρ j).bind λkvs=>if WH d then some (.nx (ρ.set i (.sh ((V4 kvs k).getD d)))) else none
def qjR {tk te:TE3} (i j:Nat) (a:PuE tk) (b:PuE te):PuS (qF (qkc MT (v3 j) (qf tk (qf te qk))) (gn3 i)):=⟨λ_ ρ=>(a.f ρ).bind λk=>(b.f ρ).bind λd=>qn6 i j k d ρ,λ{D G0 A τ ρ G n o e} h hf kk=>by
 obtain ⟨kd,e1,hf⟩:=obb hf;obtain ⟨d,e2,hf⟩:=obb hf;unfold qn6 at hf;obtain ⟨k,e3,hf⟩:=obb hf;obtain ⟨kvs,e4,hf⟩:=obb hf;split at hf
 ·rename_i hs;cases hf;have:=ED e3;subst this;obtain ⟨p,ks,b1,c1,g1,q1⟩:=h.dcq e4;simp only [qF,qkc,v3,c1,g1];refine ⟨trivial,?_⟩;refine a.ok (h.viewAll _) h.domD e1 λx G1 E1 D1 _=>?_;cases D1;refine b.ok ((h.up E1).viewAll _) (h.up E1).domD e2 λy G2 E2 D2 _=>?_;simp only [qk,MT,E2 _ _ (E1 _ _ g1)];exact kk _ _ _ (((h.up E1).up E2).put i (((q1.up (jV E1)).up (jV E2)).look (WD D2 hs)))
 ·cases hf⟩
def qen (i:Nat) (k d:PyData) (ρ:Rho):Option Ot:=(asI k).bind λk=>(SR ρ i).bind λkvs=>cif (kvs.length<sizeLine) (some (.nx (ρ.set i (.dc (WN kvs k d))))) none
def qkK {t ti:TE3} (a:PuE t) (i:Nat) (b:PuE ti) (m:List Bool) (hm:Tru (a.fv.all (mkb m))):PuS (qF t (LI (v3 i) ti)):=⟨λ_ ρ=>(a.f ρ).bind λd=>(b.f ρ).bind λk=>qen i k d (dmS m d ρ),λ{D G0 A τ ρ G n o e} h hf k=>by
 obtain ⟨d,e1,hf⟩:=obb hf;obtain ⟨kd,e3,hf⟩:=obb hf;obtain ⟨A1,h1,ev⟩:=h.evalS a m hm e1;unfold qen at hf;obtain ⟨kk,e4,hf⟩:=obb hf;obtain ⟨kvs,e2,hf⟩:=obb hf;unfold cif at hf;split at hf
 ·rename_i hl;cases hf;have:=ED e4;subst this;obtain ⟨p,ks,bb,c,g,f⟩:=h1.dcq e2;refine ev _ λx G1 E1 D1=>?_;simp only [LI,v3,c];refine b.ok ((h.up E1).viewAll _) (h.up E1).domD e3 λy G2 E2 D2 _=>?_;cases D2;simp only [qhj,E2 _ _ (E1 _ _ g)];exact ⟨by rw [f.len];exact hl,k _ _ _ (((h1.up E1).up E2).wrC bb c (((f.up (jV E1)).up (jV E2)).store (D1.up (jV E2))))⟩
 ·cases hf⟩
theorem qbO {H H':Gp}:∀ {xs:List T} {ds:List PyData},Dqs H xs ds->ds.all WH=true->Dqs H' xs ds
 |_,_,.nil,_=>.nil
 |_,_,.cons a b,h=>by
  rw [List.all_cons,Bool.and_eq_true] at h;exact .cons (WD a h.1) (qbO b h.2)
def fBi (n:Nat):FnD (Bk.jY (n+1)):=fBk n
def qlM {n:Nat}:(fBi n).f=λds=>the (BkR n ds):=id rfl
theorem KY {G:Gp}:∀ {xs:List T} {ds:List PyData} (k:Nat),Dqs G xs ds->Dqs G (xs.eraseIdx k) (ds.eraseIdx k)
 |_,_,_,.nil=>by simp;exact .nil
 |_,_,0,.cons a b=>b
 |_,_,k+1,.cons a b=>.cons a (KY k b)
def qdd {l:Nat} {t:TE3} (x:PwE l t) (i j:Nat) (m:List Bool) (hm:Tru (x.fv.all (mkb m))) (hl:Tru (!mkb m l)):PwS l (qH (bm3 QI (v3 i) (qf (bm3 qiS (v3 j) (qf t qk)) qk))):=
  ⟨λρ n Q=>i≠j/\∃ ds es,slot ρ i=some ds/\slot ρ j=some es/\ds.length<16777216/\x.w ρ n λd n1=>∃ (k:Nat) (e:PyData),d=.int (k:Int)/\es[k]?=some e/\Q (.nx ((ρ.set j (.ow (es.eraseIdx k))).set i (.ow (ds++[e])))) n1,
   λ⟨h0,ds,es,h1,h2,h3,h4⟩ k=>⟨h0,ds,es,h1,h2,h3,x.mono h4 λd n1 ⟨kk,e,a,b,c⟩=>⟨kk,e,a,b,k _ _ c⟩⟩,
   λ{a z0 D G0 A τ ρ G n e Q} h ⟨h0,ds,es,h1,h2,h3,hw⟩ k=>by
    have hl':mkb m l=false:=by simpa using hl.h
    obtain ⟨p,xs,b,c,g,f⟩:=h.r.ow i _ (ZN h1);obtain ⟨p',ys,b',c',g',f'⟩:=h.r.ow j _ (ZN h2);simp only [qH,bm3,v3,qf,c,c',qL g,qL g'];refine ⟨rfl,rfl,h.evalS x m hm hl' hw _ λy d G1 n1 A1 ⟨kk,e',hd,he,hq⟩ r E1 D1=>?_⟩;subst hd;cases D1;have r':RL l a z0 D G0 A1 τ ρ G1 n1:=r;obtain ⟨p1,xs1,b1,c1,g1,f1⟩:=r'.r.ow i _ (ZN h1);obtain ⟨p2,ys2,b2,c2,g2,f2⟩:=r'.r.ow j _ (ZN h2);rw [c] at c1;cases c1;rw [c'] at c2;cases c2;obtain ⟨t,ht,dt⟩:=f2.get he;simp only [qk,qiS,g2,Int.toNat_natCast,ht];refine ⟨by omega,?_⟩;have r2:=r'.wr (ZN h2) b2 c' (KY kk f2);have X:Ex (rs (AD D A1) G1) (rs (AD D A1) (gu G1 p' (.lst (ys2.eraseIdx kk)))):=λb o hb=>by
      obtain ⟨nb,e⟩:=qR hb;rw [jU nb,zj (λz=>nb (.inr ⟨j,by rw [z];exact b2⟩))];exact e
    have sl2:slot (ρ.set j (.ow (es.eraseIdx kk))) i=some ds:=by
      unfold slot;rw [List.getElem?_set_ne (Ne.symm h0)];exact h1
    obtain ⟨p3,xs3,b3,c3,g3,f3⟩:=r2.r.ow i _ (ZN sl2);rw [c] at c3;cases c3;simp only [QI,g3];exact ⟨by rw [f3.length,v7];exact h3,k _ _ hq _ _ _ (r2.wr (ZN sl2) b3 c (f3.append (.cons (dt.up X) .nil)))⟩⟩
def qb7 {l:Nat} {t:TE3} {x:PwE l t} {i j:Nat} {m:List Bool} {hm:Tru (x.fv.all (mkb m))} {hl:Tru (!mkb m l)}:(qdd x i j m hm hl).w=λρ n Q=>i≠j/\∃ ds es,slot ρ i=some ds/\slot ρ j=some es/\ds.length<16777216/\x.w ρ n λd n1=>∃ (k:Nat) (e:PyData),d=.int (k:Int)/\es[k]?=some e/\Q (.nx ((ρ.set j (.ow (es.eraseIdx k))).set i (.ow (ds++[e])))) n1:=id rfl
open Bk (Lf Ext)
end Pu
namespace Pu
open PySem L2 L3
open Bk (Dl)
def NuR (n:Nat) (ds:List PyData) (v:PyData):Prop:=∃ (d:Dl) (i j:Int),ds=[Pv.dlD d,.tuple [.int i,.int j]]/\d.dep<=n/\d.Ok/\v=.int (i*d.C+j)
def fNu (n:Nat):FnD (Bk.j6 n):=⟨λds=>the (NuR n ds),false,λ{D G xs ds v q} hx hd hf k=>by
 obtain ⟨d,i,j,rfl,h1,h2,rfl⟩:=U9 hf;cases hx with
 |cons a b=>cases b with
  |cons c b=>
   cases b;have:=qaV d a;subst this;cases c with
   |tup hs=>cases hs with
    |cons x hs=>cases hs with
     |cons y hs=>
      cases hs;cases x;cases y;exact ⟨d,i,j,rfl,h1,h2,k _ _ Ex.refl (.int _) (λz=>by cases z)⟩⟩
def qoN {n:Nat} {d:Dl} {i j:Int} (h1:d.dep<=n) (h2:d.Ok):the (NuR n [Pv.dlD d,.tuple [.int i,.int j]])=some (.int (i*d.C+j)):=N7 ⟨d,i,j,rfl,h1,h2,rfl⟩ λw ⟨e,i',j',a,_,_,b⟩=>by
 simp only [List.cons.injEq,PyData.tuple.injEq,PyData.int.injEq,and_true] at a;rw [b,RG d e a.1,a.2.1,a.2.2]
def qp7 {n:Nat}:(fNu n).f=λds=>the (NuR n ds):=id rfl
end Pu
namespace Pv
open PySem L2 L3 Pu
def qdS {lo:Int} {n i:Nat} {x:Int} (h:(jQ lo n)[i]?=some x):i<n/\x=lo+i:=by
 unfold jQ at h;rw [getElem?_map] at h;obtain ⟨k,e1,e2⟩:=za9 h;obtain ⟨hl,hk⟩:=zb0 e1;simp at hl hk;subst hk;exact ⟨hl,e2.symm⟩
def qz (lo:Int) (n:Nat):(jQ lo n).length=n:=by simp [jQ]
open Bk (Dl)
end Pv
namespace Pv
open PySem L2 L3 Pu
open Bk (pop NK jn jG XC XD Dl zq VX QV VS)
theorem LD (n:Int):∀ (t:Nat) (ms:List Int),jn n (t+1) ms=2*jn n t ms
 |_,[]=>rfl
 |t,m::ms=>by
  simp only [jn,LD n (t+1) ms,Int.pow_succ];split<;>omega
def qbk (n m:Int) (ms:List Int):jG (m::ms) n=(if NK n m then 1 else 0)+2*jG ms n:=by
 unfold jG;rw [jn,LD];simp
theorem NP (n:Int):∀ ms:List Int,0<=jG ms n/\jG ms n<2 ^ ms.length
 |[]=>by simp [jG,jn]
 |m::ms=>by
  have ih:=NP n ms;rw [qbk,length_cons,Int.pow_succ];split<;>omega
end Pv
namespace Pv
open PySem L2 L3 Pu
open Bk (pop NK jn jG XC XD Dl)
end Pv
namespace Pv
open PySem L2 L3 Pu
open Bk (pop NK jn jG Dl)
end Pv
namespace Hd
open PySem L2 L3 PySem.W
def oF (x:Str) (st:Stmt) (pm cd:Value):Obj:=⟨.type "function",none,.func (PySem.W.fnOf x x (QW st) (zW st) (ql st) .none .none .none pm none cd .none),#[]⟩
def oG (x:Str) (st:Stmt):Obj:=⟨.none,none,.func { name:=x,qualname:=x,params:=QW st,body:=.stmts (zW st),scope:=ql st,globals:=0,closure:=[],defaults:=.none,kwdefaults:=.none },#[]⟩
def oC (vs:List Value):Obj:=⟨.type "code",none,.fields vs.toArray,#[]⟩
def oT (vs:List Value):Obj:=⟨.type "tuple",none,.seq vs.toArray 0,#[]⟩
def eD (P:Params):Value×Value->DictEntry
 | (.str x t,v)=>⟨PyData.keyHash P x,.str x t,v⟩
 | (u,v)=>⟨0,u,v⟩
def oD (P:Params) (n:Nat) (es:List (Value×Value)):Obj:=⟨.type "dict",none,.dict (es.map (eD P)).toArray n,#[]⟩
def oK (x:Str) (t l n m:Nat) (a b:Addr) (u v z:Value) (e y q:Nat):Obj:=oC [.str x t,.str x (t+1),.str "/claim/cut.py" (t+2),.int l 0,.int n 0,.int 0 0,.int 0 0,.int 3 0,.ref a,.bool true,.int m 0,.ref b,u,v,z,.ref e,.int y 0,.int l 0,.str "/claim/cut.py" q]
def nmV:List Str->Nat->List Value
 |[],_=>[]
 |x::r,t=>.str x t::nmV r (t+1)
def oN (xs:List Str) (t:Nat):Obj:=oT (nmV xs t)
abbrev nd (o:Obj) (l r:PySem.W.BT):PySem.W.BT:=.node o l r
abbrev lf (o:Obj):PySem.W.BT:=.node o .nil .nil
def qoj {K:Frg} (x:Str) (st:Stmt) (f:Addr) (pm cd:Value) (l:K.lookup f=some (oF x st pm cd)) (c:PySem.W.codeIn K cd x=true) (k:PySem.W.keepIn K (.ref f)=true) :
  Fun K x x st f (PySem.W.fnOf x x (QW st) (zW st) (ql st) .none .none .none pm none cd .none):=qcF l c k
def qoT {K:Frg} {h:Heap} {mg:Str->Option Value} (X:K.In h) (G:h.Ns mainGlobals mg) (n:Str) (v:Value) (e:PySem.W.nsIn K mainGlobals n=some (some v)):mg n=some v:=PySem.W.mg_of X G e
def head {l:OpenLaw} {q:Program} {loose:List Str} {K:Params->Frag} {as:List Addr} {d:DefRec} {N:Nat} {k:Nat} {x:Str} (ha:∀ P,as=(K P).map (·.1))
  (ok:l.wellSaid=true)
  (left:LeftO l.prog q loose (λs=>xlAt q [] s&&recOk [] s) (λs=>as.map s.heap.get?) (λw=>(K w.params).map λp=>some p.2) N)
  (hdef:defOf q l.name=some (d,[])) (hp:l.prog.theDef l.name=some (d.params,d.body,d.scope)) (hk:kwWritten? d.params.kwonlyargs d.params.kw_defaults=some [])
  (hwr:(!l.row.writes||l.row.records.isEmpty)=true) (ok2:(chainsOk q&&opensWell l.prog&&(frees l.row.toRowW&&l.row.within.isEmpty))=true) (hb:l.prog.bare) (hw:l.row.toRowW.promised)
  (hn:l.most=some 63) (hdf:d.params.defaults=[]) (hr:Room k callerA) (hK:∀ w:World,DO (K w.params)=true)
  (F:∀ (w:World) (mg:Str->Option Value) (fa:Addr) (h:Heap),(K w.params).In h->h.Ns mainGlobals mg->mg d.name=some (.ref fa) ->
   ∃ fd:FuncData,(∀ (s:Shared) (u:Value),BindsTo s fd ⟨[u],[]⟩ [(x,u)])/\∀ base:Heap,(K w.params).In base->base.Ns mainGlobals mg->FnOk l.prog w (K w.params) mg base CX0 k fa fd [x] (lSp (K w.params) C8)):l.Holds:=by
 refine holds_law ok λsaid=>?_;exact holds_open (q:=q) (loose:=loose) (Xt:=λs=>xlAt q [] s&&recOk [] s) (XP:=XL q []) (Yf:=Hook.obs (kHook K as ha)) (Ya:=Hook.val (kHook K as ha)) (YP:=Hook.says (kHook K as ha)) (N:=N) left
  (Hook.of (kHook K as ha)) (Hook.keeps (kHook K as ha)) (λs e=>xl_of s (Bool.and_eq_true_iff.mp e).1) XL.keeps hdef hp hk (λs e=>recFacts_of (Bool.and_eq_true_iff.mp e).2) hwr said ok2 hb hw
  (L3.qo1 (l:=l) (k:=k) (x:=x) hn hdf hr (λw h Y=>kIn_of Y) hK F)
end Hd
namespace Hd
open PySem L2 L3 PySem.W PySem.Spec PySem.Calls PyProof.Rows
structure Fb (K:Frg) (mg:Str->Option Value) (x:Str) (st:Stmt) (ps:List Str) (f:Addr) (fd:FuncData):Prop where
 F:Fun K x x st f fd
 b:CS K fd ps []
 m:mg x=some (.ref f)
def sc0 {N ps:List Str} {s:Scope} (h1:s.kind=.function:=by rfl) (h2:s.isCoroutine=false:=by rfl) (h3:s.isGenerator=false:=by rfl) (h4:N.Nodup:=by decide +kernel) (h5:N.take ps.length=ps:=by rfl) (h6:∀ x∈ps,s.names.lookup x=some .local\/s.names.lookup x=some .cell:=by decide +kernel) (h7:∀ y∈s.names,y.2≠.free:=by decide +kernel):FnScope N ps s:=⟨h1,h2,h3,h4,h5,h6,h7⟩
def jfE {P:Program} {w:World} {K:Frg} {mg:Str->Option Value} {base:Heap} {x:Str} {st:Stmt} {f:Addr} {fd:FuncData} {N ps:List Str} {k:Nat} {sp:Sp3} {t3:TS3} (E:Fb K mg x st ps f fd) (S:FnScope N ps (ql st))
  (read:∀ ts G q,sp ts G q->ts.length=ps.length/\t3 { nx:=λ_ G'=>q .non G',rt:=q } (qq N ts) G)
  (body:∀ (cdv:Value) (A:Around) (outer:List Env) (s:Shared) (H:Hp) (E:XK),Room k (A.deeper (envOfC x (ql st) s.heap.objs.size f cdv)) ->
   jB3 (qcO CX0 P w K mg base N x (ql st) f cdv A outer s H E).nox (zW st) t3):Fn3 P w K mg base (k+1) x sp:=qhN E.F S E.b E.m body read
def no {K:Frg} {h:Heap} {mg:Str->Option Value} (X:K.In h) (G:h.Ns mainGlobals mg) (n:Str) (e:PySem.W.nsIn K mainGlobals n=some none:=by kernel_rfl):mg n=none:=PySem.W.mg_none_of X G e
def c1 (P:Params) (M:Str) (q:Nat) (nm:Str) (t:Nat) (ln:Int) (r:Nat):Obj:=oD P 4 [(.str "__module__" (t+7),.str M q),(.str "__qualname__" (t+9),.str nm (t+8)),(.str "__firstlineno__" (t+11),.int ln (t+10)),(.str "__static_attributes__" (t+12),.ref (r+7))]
def c2 (nm:Str) (t:Nat) (ln:Int) (r:Nat):Obj:=oC [.str nm (t+2),.str nm (t+3),.str "/claim/cut.py" (t+4),.int ln 0,.int 0 0,.int 0 0,.int 0 0,.int 0 0,.ref (r+3),.bool false,.int 181 0,.ref (r+4),.none,.none,.none,.none,.int (t+5:Nat) 0,.int ln 0,.str "/claim/cut.py" (t+6)]
def c3 (M:Str) (q r:Nat):Obj:=⟨.type "frame",none,.plain,#[some (.ref (r+5)),some (.ref 3),some (.ref (r+2)),none,some (.str M q),none,some (.ref 0)]⟩
def c4 (P:Params) (M:Str) (q t:Nat) (ln:Int) (r:Nat):Obj:=oD P 2 [(.str "__module__" (t+7),.str M q),(.str "__firstlineno__" (t+11),.int ln (t+10)),(.str "__static_attributes__" (t+12),.ref (r+7)),(.str "__doc__" (t+13),.none)]
def c5 (nm:Str) (b t r:Nat):Obj:=⟨.type "type",none,.cls ({ name:=nm,bases:=[Value.ref b],mro:=[Value.ref (r+9),Value.ref b,Value.type "ValueError",Value.type "Exception",Value.type "BaseException",Value.type "object"],ns:=r+8,qualname:=nm }),#[some (.ref r),none,some (.str nm t),some (.str nm (t+8)),some (.builtin "ValueError.__new__"),some (.bool true)]⟩
def c6 (r:Nat):Obj:=⟨.type "super",none,.fields #[.ref r,.ref r,.ref r],#[]⟩
def c7 (r:Nat):Obj:=⟨.type "builtin_function_or_method",none,.fields #[.builtin "object.__init_subclass__",.ref r],#[]⟩
def oM (P:Params) (n:Nat) (M:Str) (q:Nat) (es:List (Value×Value)):Obj:=oD P n ([(.str "__name__" 165,.str M q),(.str "__doc__" 166,.none),(.str "__package__" 167,.none),(.str "__loader__" 168,.builtin "__main__.__loader__#opaque"),(.str "__spec__" 169,.none),(.str "__annotations__" 170,.ref 6),(.str "__builtins__" 171,.ref 4),(.str "__file__" 173,.str "/claim/cut.py" 172),(.str "__cached__" 174,.none)]++es)
theorem e {K:Frg} {h:Heap} {mg:Str->Option Value} (X:K.In h) (G:h.Ns mainGlobals mg) (x:Str) (st:Stmt) (ps:List Str) (f:Addr) (pm cd:Value) (l:K.lookup f=some (oF x st pm cd):=by kernel_rfl) (c:PySem.W.codeIn K cd x=true:=by kernel_rfl) (k:PySem.W.keepIn K (.ref f)=true:=by kernel_rfl) (e:PySem.W.nsIn K mainGlobals x=some (some (.ref f)):=by kernel_rfl)
  (b:∀ (kV doc pm:Value) (an:Option Addr) (cdv ct:Value) (us:List Value),us.length=ps.length->bindArgs (PySem.W.fnOf x x (QW st) (zW st) (ql st) .none kV doc pm an cdv ct) ⟨us,[]⟩=pure (ps.zip us):=by exact λ_ _ _ _ _ _ us hl=>by first|(obtain ⟨_,rfl⟩:=Pu.qqq hl;rfl)|(obtain ⟨_,_,rfl⟩:=Pu.qqB hl;rfl)|(obtain ⟨_,_,_,rfl⟩:=Pu.qqp hl;rfl)|(obtain ⟨_,_,_,_,rfl⟩:=Pu.qqE hl;rfl)|(obtain ⟨_,_,_,_,_,rfl⟩:=Pu.qqv hl;rfl)|(obtain ⟨_,_,_,_,_,_,rfl⟩:=Pu.qrh hl;rfl)) :
  Fb K mg x st ps f (PySem.W.fnOf x x (QW st) (zW st) (ql st) .none .none .none pm none cd .none):=⟨qcF l c k,(qcF l c k).binds b,PySem.W.mg_of X G e⟩
end Hd
namespace L3
open PySem PySem.Spec PyProof.Rows L2
end L3
namespace Hd
open PySem PySem.Spec PyProof.Rows L2 L3 PySem.W
end Hd
namespace Hd
open PySem L2 L3 PySem.W PySem.Spec PySem.Calls PyProof.Rows
end Hd
namespace Pu
open PySem L2 L3
def zR (ρ:Rho) (i:Nat):Option (List (List PyData)):=match ρ[i]? with|some (.on dss)=>some dss|_=>none
def j4 {ρ:Rho} {i:Nat} {dss:List (List PyData)} (h:zR ρ i=some dss):ρ[i]?=some (.on dss):=by
 unfold zR at h;split at h
 ·rename_i e;cases h;exact e
 ·cases h
section
variable {D:Addr->Prop} {G0 G G':Gp} {A:Nat->Addr->Prop} {τ:St3} {ρ:Rho} {i:Nat} {p q:Addr} {qs:List Addr} {dss:List (List PyData)} {xs ys:List T} {ds:List PyData}
def RS.on (h:RS D G0 A τ ρ G) (e:zR ρ i=some dss):∃ p qs,A i p/\τ[i]?=some (some (.ref p))/\G p=some (.lst (qs.map T.ref))/\(p::qs).Nodup/\Ons (rs (AD D A) G) G (A i) qs dss:=h.sl i _ (j4 e)
def RS.putO (h:RS D G0 A τ ρ G) (gp:G p=none):RS D G0 (Rg A i λb=>b=p) (τ.set i (some (.ref p))) (ρ.set i (.on [])) (gu G p (.lst [])):=
 h.upd i (W:=λ_=>False) (λb o _ z=>zn gp b o z) (λ_ z=>z.elim) (λb z=>by subst z;exact ⟨.inr gp,by rw [qy];simp⟩) λ_=>⟨p,[],rfl,rfl,qy,by simp,rfl,λj q ds a=>by simp at a⟩
def Ons.get {R:Gp} {B:Addr->Prop} {j:Nat} (h:Ons R G B qs dss) (e:dss[j]?=some ds):∃ q ys,qs[j]?=some q/\B q/\G q=some (.lst ys)/\Dqs R ys ds:=by
 have hl:j<qs.length:=by rw [h.1];exact (zb0 e).1
 obtain ⟨a,ys,b,c⟩:=h.2 j _ ds (v8 hl) e;exact ⟨_,ys,v8 hl,a,b,c⟩
def RS.onNew (h:RS D G0 A τ ρ G) (hp:A i p) (ht:τ[i]?=some (some (.ref p))) (gp:G p=some (.lst (qs.map T.ref))) (nd:(p::qs).Nodup) (on:Ons (rs (AD D A) G) G (A i) qs dss) (gq:G q=none) (hy:Dqs (rs (AD D A) G) ys ds):RS D G0 (Rg A i λb=>A i b\/b=q) τ (ρ.set i (.on (dss++[ds]))) (gu (gu G q (.lst ys)) p (.lst (qs.map T.ref++[.ref q]))):=by
 have qp:q≠p:=by rintro rfl;rw [gp] at gq;cases gq
 have at':∀ b o,b≠p->G b=some o->gu (gu G q (.lst ys)) p (.lst (qs.map T.ref++[.ref q])) b=some o:=λb o n z=>by
  rw [zj n,zj (by rintro rfl;rw [gq] at z;cases z)];exact z
 have atq:gu (gu G q (.lst ys)) p (.lst (qs.map T.ref++[.ref q])) q=some (.lst ys):=by rw [zj qp,qy]
 have:=h.upd i (G':=gu (gu G q (.lst ys)) p (.lst (qs.map T.ref++[.ref q]))) (x:=.ref p) (s:=.on (dss++[ds])) (B:=λb=>A i b\/b=q) (W:=λb=>b=p) at' (λb z=>⟨i,by rw [z];exact hp,.inl rfl⟩) (λb z=>by
  rcases z with z|z
  ·refine ⟨.inl z,?_⟩;by_cases c:b=p
   ·rw [c,qy];simp
   ·intro g;cases g':G b with
    |none=>exact h.da i b z g'
    |some o=>rw [at' b o c g'] at g;cases g
  ·subst z;exact ⟨.inr gq,by rw [atq];simp⟩) λX=>⟨p,qs++[q],.inl hp,rfl,by rw [qy,List.map_append];rfl,?_,by simp [on.1],λj q' ds' a b=>?_⟩
 ·rw [EL ht] at this;exact this
 ·have nq:q∉qs:=λz=>by
   obtain ⟨j,hj,e⟩:=List.getElem_of_mem z;obtain ⟨_,ys',b,_⟩:=on.2 j q _ (by rw [v8 hj,e]) (v8 (by rw [← on.1];exact hj));rw [gq] at b;cases b
  rw [← cons_append];refine List.nodup_append.mpr ⟨nd,by simp,λa ha b hb=>?_⟩;rw [List.mem_singleton.mp hb];rintro rfl;rcases mem_cons.mp ha with z|z
  ·exact qp z
  ·exact nq z
 ·by_cases c:j<qs.length
  ·rw [List.getElem?_append_left c] at a;rw [List.getElem?_append_left (by rw [← on.1];exact c)] at b;obtain ⟨c1,ys',c2,c3⟩:=on.2 j q' ds' a b;refine ⟨.inl c1,ys',at' _ _ ?_ c2,c3.up X⟩;rintro rfl;exact (List.nodup_cons.mp nd).1 (za1 a)
  ·rw [List.getElem?_append_right (by omega)] at a;rw [List.getElem?_append_right (by rw [← on.1];omega),← on.1] at b;have z:j-qs.length=0:=by
    have:=(zb0 a).1;simp at this;omega
   rw [z] at a b;cases a;cases b;exact ⟨.inr rfl,ys,atq,hy.up X⟩
def RS.onSet (h:RS D G0 A τ ρ G) (hp:A i p) (ht:τ[i]?=some (some (.ref p))) (gp:G p=some (.lst (qs.map T.ref))) (nd:(p::qs).Nodup) (on:Ons (rs (AD D A) G) G (A i) qs dss) {j:Nat} (hq:qs[j]?=some q) (hA:A i q) (hy:Dqs (rs (AD D A) G) ys ds):RS D G0 A τ (ρ.set i (.on (dss.set j ds))) (gu G q (.lst ys)):=by
 have qp:p≠q:=by rintro rfl;exact (List.nodup_cons.mp nd).1 (za1 hq)
 have:=h.upd i (G':=gu G q (.lst ys)) (x:=.ref p) (s:=.on (dss.set j ds)) (B:=A i) (W:=λb=>b=q) (λb o n z=>by rw [zj n];exact z) (λb z=>⟨i,by rw [z];exact hA,.inl rfl⟩) (λb z=>⟨.inl z,by
  by_cases c:b=q
  ·rw [c,qy];simp
  ·rw [zj c];exact h.da i b z⟩) λX=>⟨p,qs,hp,rfl,by rw [zj qp];exact gp,nd,by rw [List.length_set];exact on.1,λk q' ds' a b=>?_⟩
 ·rw [EL ht,SB] at this;exact this
 ·rw [getElem?_set] at b;split at b
  ·rename_i e;subst e;split at b
   ·cases b;rw [a] at hq;cases hq;exact ⟨hA,ys,qy,hy.up X⟩
   ·cases b
  ·rename_i e;obtain ⟨c1,ys',c2,c3⟩:=on.2 k q' ds' a b;have n:q'≠q:=by
    rintro rfl;exact e ((List.getElem?_inj (zb0 hq).1 (List.nodup_cons.mp nd).2).mp (hq.trans a.symm))
   exact ⟨c1,ys',by rw [zj n];exact c2,c3.up X⟩
end
def qqX (i:Nat):PuS (qF (je qk) (gn3 i)):=⟨λ_ ρ=>some (.nx (ρ.set i (.on []))),λ{D G0 A τ ρ G n o e} h hf k=>by
 cases hf;exact ⟨Nat.zero_le _,λp hp=>k _ _ _ (h.putO hp)⟩⟩
def NA (i:Nat) (ds:List PyData) (ρ:Rho):Option Ot:=(zR ρ i).bind λdss=>if dss.length<1000000 then some (.nx (ρ.set i (.on (dss++[ds])))) else none
def qnu {m:List Bool} {ρ:Rho} {i:Nat} {dss:List (List PyData)} (h:zR (dm m ρ) i=some dss):zR ρ i=some dss:=by
 have e:=j4 h;rw [qaz] at e;obtain ⟨s,e1,e2⟩:=za9 e;unfold zR;split at e2
 ·cases s<;>cases e2
 ·rw [e1,e2]
def qfQ {t:TA3} (a:PuA t) (i:Nat) (m:List Bool) (hm:Tru (a.fv.all (mkb m))):PuS (qH (bm3 QI (v3 i) (qf (je t) qk))):=⟨λ_ ρ=>(a.f ρ).bind λds=>if ds.length<1000000 then NA i ds (dm m ρ) else none,λ{D G0 A τ ρ G n o e} h hf k=>by
 obtain ⟨ds,e1,hf⟩:=obb hf;split at hf
 ·rename_i hl;unfold NA at hf;obtain ⟨dss,e2,hf⟩:=obb hf;split at hf
  ·rename_i hl2;cases hf;obtain ⟨p,qs,b,c,g,nd,on⟩:=h.on (qnu e2);simp only [qH,bm3,v3,c,qL g,qf,je,qk];refine ⟨rfl,a.ok (h.viewD hm) (h.dem m).dom e1 λxs G1 E1 D1=>⟨by rw [D1.length,v7];omega,λq hq=>?_⟩⟩;have h1:=(h.dem m).up E1;obtain ⟨p',qs',b',c',g',nd',on'⟩:=h1.on e2;rw [c] at c';cases c';have qp:p≠q:=by rintro rfl;rw [hq] at g';cases g'
   simp only [QI,zj qp,g'];refine ⟨by rw [length_map,on'.1,v7];omega,k _ _ _ (h1.onNew b' c g' nd' on' hq D1)⟩
  ·cases hf
 ·cases hf⟩
def T6 (i:Nat) (kk:Int) (d:PyData) (ρ:Rho):Option Ot:=(zR ρ i).bind λdss=>(ixN dss.length kk).bind λj=>(dss[j]?).bind λds=>if ds.length<1000000 then some (.nx (ρ.set i (.on (dss.set j (ds++[d]))))) else none
def ql5 {m:List Bool} {d:PyData} {ρ:Rho} {i:Nat} {dss:List (List PyData)} (h:zR (dmS m d ρ) i=some dss):zR ρ i=some dss:=by
 unfold dmS at h;split at h
 ·exact h
 ·exact qnu h
def qfq {tk t:TE3} (b:PuE tk) (a:PuE t) (i:Nat) (m:List Bool) (hm:Tru (a.fv.all (mkb m))):PuS (qH (bm3 QI (o3 ix3 (v3 i) tk) (qf t qk))):=⟨λ_ ρ=>(b.f ρ).bind λk=>(asI k).bind λkk=>(a.f ρ).bind λd=>T6 i kk d (dmS m d ρ),λ{D G0 A τ ρ G n o e} h hf k=>by
 obtain ⟨kd,e1,hf⟩:=obb hf;obtain ⟨kk,e2,hf⟩:=obb hf;obtain ⟨d,e3,hf9⟩:=obb hf;clear hf;unfold T6 at hf9;obtain ⟨dss,e4,hf9⟩:=obb hf9;obtain ⟨j,e5,hf9⟩:=obb hf9;obtain ⟨ds,e6,hf8⟩:=obb hf9;have:=ED e2;subst this;split at hf8
 ·rename_i hl;cases hf8;obtain ⟨p,qs,b1,c1,g1,nd1,on1⟩:=h.on (ql5 e4);obtain ⟨q,ys,hq,Bq,gq,Dy⟩:=on1.get e6;simp only [qH,bm3,o3,v3,c1];refine b.ok (h.viewAll _) h.domD e1 λy G1 E1 D1 _=>?_;cases D1;have at':atI (qs.map T.ref) kk=some (.ref q):=by
   unfold atI;rw [length_map,on1.1,e5,Option.bind_some,getElem?_map,hq];rfl
  simp only [ix3,qL (E1 _ _ g1),at',qL (E1 _ _ gq),qf,qk];refine ⟨rfl,?_⟩;obtain ⟨A1,h1,ev⟩:=(h.up E1).evalS a m hm e3;refine ev _ λx G2 E2 D2=>?_;have h2:=h1.up E2;obtain ⟨p',qs',b2,c2,g2,nd2,on2⟩:=h2.on e4;rw [c1] at c2;cases c2;rw [E2 _ _ (E1 _ _ g1)] at g2;have qe:qs'=qs:=by
   have z:qs.map T.ref=qs'.map T.ref:=by injection g2 with g2;injection g2
   have inj:∀ {a b:List Addr},a.map T.ref=b.map T.ref->a=b:=λ{a}=>by
    induction a with
    |nil=>intro b z;cases b<;>simp_all
    |cons x a ih=>intro b z;cases b with
     |nil=>simp at z
     |cons y b=>simp at z;rw [z.1,ih (by simpa using z.2)]
   exact (inj z).symm
  subst qe;obtain ⟨q',ys',hq',Bq',gq',Dy'⟩:=on2.get e6;rw [hq] at hq';cases hq';simp only [QI,gq'];refine ⟨by rw [Dy'.length,v7];omega,k _ _ _ (h2.onSet b2 c1 (E2 _ _ (E1 _ _ g1)) nd2 on2 hq Bq' (Dy'.append (.cons D2 .nil)))⟩
 ·cases hf8⟩
def NrR (D:Addr->Prop) (G G':Gp) (x:T):PyData ⊕ List (List PyData)->Prop
 |.inl d=>Dq (rs D G') x d
 |.inr dss=>∃ p qs,x=.ref p/\(p::qs).Nodup/\(∀ q∈p::qs,G q=none)/\G' p=some (.lst (qs.map T.ref))/\Ons (rs (λb=>D b\/b∈p::qs) G') G' (λ_=>True) qs dss
def nrD:PyData ⊕ List (List PyData)->PyData
 |.inl d=>d
 |.inr dss=>.list (dss.map PyData.list)
def NrR.dq {D:Addr->Prop} {G G':Gp} {x:T} {r:PyData ⊕ List (List PyData)} (h:NrR D G G' x r) (hd:Dom D G):Dq (rs D G') x (nrD r):=by
 cases r with
 |inl d=>exact h
 |inr dss=>
  obtain ⟨p,qs,rfl,nd,fr,g,on⟩:=h;have vis:∀ b o,b∈p::qs->G' b=some o->rs D G' b=some o:=λb o hb z=>by
   rw [jU λy=>hd b y (fr b hb)];exact z
  refine .lst (vis _ _ za5 g) (Ons.dqs (B:=λb=>b∈p::qs) ⟨on.1,λj q ds a b=>⟨u8 _ (za1 a),(on.2 j q ds a b).2⟩⟩ (zy λb z=>.inl z) λb o hb z=>vis b o hb z)
def PNp (F:List PyData->Option (PyData ⊕ List (List PyData))):Sp3:=λts G q=>∃ (D:Addr->Prop) (ds:List PyData) (r:PyData ⊕ List (List PyData)),Dqs (rs D G) ts ds/\Dom D G/\F ds=some r/\∀ x G',Ex G G'->NrR D G G' x r->q x G'
def fNs (F:List PyData->Option (PyData ⊕ List (List PyData))):FnD (PNp F):=⟨λds=>(F ds).map nrD,false,λ{D G xs ds v q} hx hd hf k=>by
 obtain ⟨r,e,rfl⟩:=za9 hf;exact ⟨D,ds,r,hx,hd,e,λx G' E h=>k x G' E (h.dq hd) (λz=>by cases z)⟩⟩
structure PuN (t:TS3) where
 f:Nat->Rho->Option (PyData ⊕ List (List PyData))
 ok:∀ {D G0 A τ ρ G n r} {e:Ends3},RS D G0 A τ ρ G->f n ρ=some r->(∀ x G',Ex G0 G'->NrR D G0 G' x r->e.rt x G')->t e τ G
def qex (i:Nat):PuN (qP (v3 i)):=⟨λ_ ρ=>(zR ρ i).map .inr,λ{D G0 A τ ρ G n r e} h hf k=>by
 obtain ⟨dss,e1,rfl⟩:=za9 hf;obtain ⟨p,qs,b,c,g,nd,on⟩:=h.on e1;simp only [qP,v3,c];have own:∀ q∈p::qs,A i q:=λq hq=>by
  rcases mem_cons.mp hq with z|z
  ·rw [z];exact b
  ·obtain ⟨j,hj,rfl⟩:=List.getElem_of_mem z;exact (on.2 j _ _ (v8 hj) (v8 (by rw [← on.1];exact hj))).1
 refine k _ _ h.ex ⟨p,qs,rfl,nd,λq hq=>h.fr i q (own q hq),g,on.mono (zy λb z=>?_) (λ_ _ _ _ z=>z) λ_ _=>trivial⟩;rcases z with z|z
 ·exact .inl z
 ·exact .inr ⟨i,own b z⟩⟩
def qa4 {t u:TS3} (a:PuS t) (b:PuN u):PuN (qx t u):=⟨λn ρ=>(a.f n ρ).bind λo=>match o with|.nx ρ'=>b.f n ρ'|_=>none,λ{D G0 A τ ρ G n r e} h hf k=>by
 obtain ⟨o1,e1,hf⟩:=obb hf;refine a.ok h e1 ?_;cases o1 with
 |nx ρ'=>exact λA' τ' G' h'=>b.ok h' hf k
 |bk ρ'=>cases hf
 |ct ρ'=>cases hf
 |rt d fr=>cases hf⟩
def qkO (f:Nat->Rho->Option (PyData ⊕ List (List PyData))) (k N n:Nat) (ds:List PyData):Option (PyData ⊕ List (List PyData)):=if ds.length=k then f n (st ds N) else none
def L6 {t:TS3} (b:PuN t) (N:List Str) (k n:Nat):∀ ts G q,PNp (qkO b.f k N.length n) ts G q->ts.length=k/\t { nx:=λ_ G'=>q .non G',rt:=q } (qq N ts) G:=by
 rintro ts G q ⟨D,ds,r,hs,hd,hf,h⟩;unfold qkO at hf;split at hf
 ·rename_i hk;exact ⟨by rw [hs.length];exact hk,b.ok (qj2 N hs hd) hf h⟩
 ·cases hf
def qnj {i:Nat}:(qqX i).f=λ_ ρ=>some (.nx (ρ.set i (.on []))):=id rfl
def qd6 {t:TA3} {a:PuA t} {i:Nat} {m:List Bool} {hm:Tru (a.fv.all (mkb m))}:(qfQ a i m hm).f=λ_ ρ=>(a.f ρ).bind λds=>if ds.length<1000000 then NA i ds (dm m ρ) else none:=id rfl
def NV {tk t:TE3} {b:PuE tk} {a:PuE t} {i:Nat} {m:List Bool} {hm:Tru (a.fv.all (mkb m))}:(qfq b a i m hm).f=λ_ ρ=>(b.f ρ).bind λk=>(asI k).bind λkk=>(a.f ρ).bind λd=>T6 i kk d (dmS m d ρ):=id rfl
def MG {i:Nat}:(qex i).f=λ_ ρ=>(zR ρ i).map .inr:=id rfl
def qdt {t u:TS3} {a:PuS t} {b:PuN u}:(qa4 a b).f=λn ρ=>(a.f n ρ).bind λo=>match o with|.nx ρ'=>b.f n ρ'|_=>none:=id rfl
def qcK {F:List PyData->Option (PyData ⊕ List (List PyData))}:(fNs F).f=λds=>(F ds).map nrD:=id rfl
theorem qbI:∀ {a b:List Addr},a.map T.ref=b.map T.ref->a=b
 |[],[],_=>rfl
 |[],_::_,z=>by simp at z
 |_::_,[],z=>by simp at z
 |x::a,y::b,z=>by
  simp only [map_cons,List.cons.injEq,T.ref.injEq] at z;rw [z.1,qbI z.2]
section
variable {D:Addr->Prop} {G0 G G':Gp} {A:Nat->Addr->Prop} {τ:St3} {ρ:Rho} {i:Nat} {p q:Addr} {qs:List Addr} {dss:List (List PyData)} {xs ys:List T} {ds:List PyData}
def RS.onAt (h:RS D G0 A τ ρ G) (e:zR ρ i=some dss) (ht:τ[i]?=some (some (.ref p))) (hg:G p=some (.lst (qs.map T.ref))):A i p/\(p::qs).Nodup/\Ons (rs (AD D A) G) G (A i) qs dss:=by
 obtain ⟨p',qs',b,c,g,nd,on⟩:=h.on e;rw [ht] at c;cases c;rw [g] at hg;injection hg with hg;injection hg with hg;have:=qbI hg;subst this;exact ⟨b,nd,on⟩
def RS.onW (h:RS D G0 A τ ρ G) (e:zR ρ i=some dss) (ht:τ[i]?=some (some (.ref p))) (hg:G p=some (.lst (qs.map T.ref))) {j:Nat} (hq:qs[j]?=some q) (hd:dss[j]?=some ds) {es:List PyData} (hy:Dqs (rs (AD D A) G) ys es):RS D G0 A τ (ρ.set i (.on (dss.set j es))) (gu G q (.lst ys))/\gu G q (.lst ys) p=some (.lst (qs.map T.ref)):=by
 obtain ⟨b,nd,on⟩:=h.onAt e ht hg;obtain ⟨q',zs,hq',Bq,gq,_⟩:=on.get hd;rw [hq] at hq';cases hq';have pq:p≠q:=by rintro rfl;exact (List.nodup_cons.mp nd).1 (za1 hq)
 exact ⟨h.onSet b ht hg nd on hq Bq hy,by rw [zj pq];exact hg⟩
end
def fl1:PyData->Option (List PyData)
 |.list ds=>if ds.all WH then some ds else none
 |_=>none
def fls:List PyData->Option (List (List PyData))
 |[]=>some []
 |d::r=>(fl1 d).bind λx=>(fls r).map λxs=>x::xs
def qnz {d:PyData} {ds:List PyData} (h:fl1 d=some ds):d=.list ds/\ds.all WH=true:=by
 unfold fl1 at h;split at h
 ·split at h
  ·rename_i e;cases h;exact ⟨rfl,e⟩
  ·cases h
 ·cases h
theorem qgF {stay:Gp->Prop} {g:TG3} {te:TE3} {q:Q3} (pg:PuG g) (pe:PuE te) (hn:pe.nw=true) {D:Addr->Prop} {ρ0:Rho} {G0:Gp} (hs:∀ G,Ex G0 G->stay G) (hm:∀ i∈pg.tg,vw ρ0 i=none) (fin:List (List PyData)) (hfin:fin.length<=sizeLine)
  (k:∀ G qs,Ex G0 G->qs.Nodup->Ons (λ_=>none) G (λb=>G0 b=none) qs fin->∀ p,G p=none->q (.ref p) (gu G p (.lst (qs.map T.ref)))) :
  ∀ (ds:List PyData) (items:List T) (qs:List Addr) (es:List (List PyData)) (fs:List PyData) (fss:List (List PyData)) (τ:St3) (G:Gp),Dqs (rs D G0) items ds->VA D G τ ρ0->Ex G0 G->Dom D G->qs.Nodup->Ons (λ_=>none) G (λb=>G0 b=none) qs es->lcP (lcH pg.f (λ_=>some true) pe.f ρ0) ds=some fs->fls fs=some fss->es++fss=fin->K5 stay g tt3 te q items (qs.map T.ref) τ G
 |_,_,qs,es,fs,fss,τ,G,.nil,va,E,hd,nd,hy,hf,hf2,hl=>by
  cases hf;cases hf2;rw [List.append_nil] at hl;subst hl;exact ⟨hs G E,k G qs E nd hy⟩
 |d::ds,x::items,qs,es,fs,fss,τ,G,.cons hx hr,va,E,hd,nd,hy,hf,hf2,hl=>by
  unfold lcP at hf;obtain ⟨o,e1,hf⟩:=obb hf;obtain ⟨QR,e2,hf⟩:=obb hf;unfold lcH at e1;obtain ⟨bs,e3,e1⟩:=obb e1;rw [Option.bind_some,if_pos rfl] at e1;obtain ⟨y,e5,rfl⟩:=za9 e1;simp only [Option.some.injEq] at hf;subst hf;unfold fls at hf2;obtain ⟨y',f1,hf2⟩:=obb hf2;obtain ⟨rest',f2,hf2⟩:=za9 hf2;subst hf2;obtain ⟨rfl,fl⟩:=qnz f1;obtain ⟨ts,bd,kg⟩:=pg.ok (hx.up (jV E)) e3;refine ⟨hs G E,kg τ G _ ?_⟩;have va1:=va.sets bd;have va2:=va.keep (ts:=ts) λp hp=>by
   obtain ⟨q,hq,e⟩:=qaD bd p hp;rw [← e];exact hm _ (pg.at' e3 q hq)
  simp only [tt3,if_true];refine pe.ok (va1.view _) hd e5 λz G2 E2 D2 N2=>⟨?_,?_⟩
  ·rw [length_map,hy.1];rw [← hl] at hfin;simp at hfin;omega
  ·rcases N2 hn with z|⟨p,xs,ds',rfl,e',gp,gp',hs'⟩
   ·cases z
   cases e';have np:p∉qs:=λhp=>by
    obtain ⟨j,hj,e⟩:=List.getElem_of_mem hp;obtain ⟨_,zs,g,_⟩:=hy.2 j p _ (by rw [v8 hj,e]) (v8 (by rw [← hy.1];exact hj));rw [gp] at g;cases g
   have ng:G0 p=none:=by
    cases z:G0 p with
    |none=>rfl
    |some o=>rw [E _ _ z] at gp;cases gp
   rw [show qs.map T.ref++[T.ref p]=(qs++[p]).map T.ref by simp];refine qgF pg pe hn hs hm fin hfin k ds items (qs++[p]) (es++[y']) QR rest' _ G2 hr (va2.up E2) (E.trans E2) (hd.up E2) ?_ ⟨by simp [hy.1],λj q' ds'' a b=>?_⟩ e2 f2 (by rw [← hl];simp)
   ·exact List.nodup_append.mpr ⟨nd,by simp,λa ha b hb=>by rw [List.mem_singleton.mp hb];rintro rfl;exact np ha⟩
   ·by_cases c:j<qs.length
    ·rw [List.getElem?_append_left c] at a;rw [List.getElem?_append_left (by rw [← hy.1];exact c)] at b;obtain ⟨c1,ys',c2,c3⟩:=hy.2 j q' ds'' a b;exact ⟨c1,ys',E2 _ _ c2,c3⟩
    ·rw [List.getElem?_append_right (by omega)] at a;rw [List.getElem?_append_right (by rw [← hy.1];omega),← hy.1] at b;have z:j-qs.length=0:=by
      have:=(zb0 a).1;simp at this;omega
     rw [z] at a b;cases a;cases b;exact ⟨ng,xs,gp',qbO hs' fl⟩
def qmu (i:Nat) (fs:List PyData) (ρ:Rho):Option Ot:=(fls fs).bind λdss=>if fs.length<=16777216 then some (.nx (ρ.set i (.on dss))) else none
theorem qc6:∀ {fs:List PyData} {dss:List (List PyData)},fls fs=some dss->dss.length=fs.length
 |[],_,h=>by cases h;rfl
 |d::r,dss,h=>by
  unfold fls at h;obtain ⟨x,_,h⟩:=obb h;obtain ⟨xs,e,rfl⟩:=za9 h;simp [qc6 e]
def qqc {wi:TI3} {g:TG3} {te:TE3} (pi:PuI wi) (pg:PuG g) (pe:PuE te) (m:List (Option Nat)) (i:Nat) (hm:Tru (pg.tg.all λi=>m[i]?==some none)) (hn:Tru pe.nw):PuS (qF (lc3 wi g tt3 te m) (gn3 i)):=⟨λ_ ρ=>(pi.f ρ).bind λds=>(lcP (lcH pg.f (λ_=>some true) pe.f (WL m ρ)) ds).bind λfs=>qmu i fs ρ,λ{D G0 A τ ρ G n o e} h hf k=>by
 obtain ⟨ds,e1,hf⟩:=obb hf;obtain ⟨fs,e2,hf9⟩:=obb hf;clear hf;unfold qmu at hf9;obtain ⟨dss,e3,hf8⟩:=obb hf9;split at hf8
 ·rename_i hl;cases hf8;refine pi.ok (h.viewAll _) h.domD e1 λitems stay G1 E1 D1 hs _=>?_;have va:=(VA.cap (m:=m) (h.viewAll (m.filterMap id))).up E1;refine qgF pg pe hn.h (D:=D) (ρ0:=WL m ρ) (G0:=G1) (λG2 E2=>hs G2 (.inr (YH.trans E2))) (λi hi=>DX ?_) dss (by rw [qc6 e3,v7];exact hl) (λG2 qs E2 nd on p hp=>?_) ds items [] [] fs dss _ G1 D1 va Ex.refl (h.domD.up E1) (by simp) ⟨rfl,λj q ds a b=>by simp at a⟩ e2 e3 (by simp)
  ·have:=List.all_eq_true.mp hm.h i hi;simpa using this
  ·have E3:=(E1.trans E2).trans (zn (o:=.lst (qs.map T.ref)) hp);have np:p∉qs:=λz=>by
    obtain ⟨j,hj,e⟩:=List.getElem_of_mem z;obtain ⟨_,ys,g,_⟩:=on.2 j p _ (by rw [v8 hj,e]) (v8 (by rw [← on.1];exact hj));rw [hp] at g;cases g
   have nw:∀ b,G1 b=none->G b=none:=λb z=>by
    cases y:G b with
    |none=>rfl
    |some o=>rw [E1 _ _ y] at z;cases z
   have nw2:∀ b,G2 b=none->G b=none:=λb z=>by
    cases y:G b with
    |none=>rfl
    |some o=>rw [E2 _ _ (E1 _ _ y)] at z;cases z
   show e.nx (τ.set i (some (.ref p))) _;refine k _ _ _ (h.upd i (B:=λb=>b=p\/b∈qs) (W:=λ_=>False) (λb o _ z=>E3 b o z) (λ_ z=>z.elim) (λb z=>?_) λX=>⟨p,qs,.inl rfl,rfl,qy,List.nodup_cons.mpr ⟨np,nd⟩,on.1,λj q ds a b=>?_⟩)
   ·rcases z with rfl|z
    ·exact ⟨.inr (nw2 _ hp),by rw [qy];simp⟩
    ·obtain ⟨j,hj,e⟩:=List.getElem_of_mem z;obtain ⟨n0,ys,g,_⟩:=on.2 j b _ (by rw [v8 hj,e]) (v8 (by rw [← on.1];exact hj));exact ⟨.inr (nw _ n0),by rw [zj (by rintro rfl;exact np z),g];simp⟩
   ·obtain ⟨_,ys,g,d⟩:=on.2 j q ds a b;have hq:=za1 a;exact ⟨.inr hq,ys,by rw [zj (by rintro rfl;exact np hq)];exact g,d.up λb o z=>by cases z⟩
 ·cases hf8⟩
def qfZ {wi:TI3} {g:TG3} {te:TE3} {pi:PuI wi} {pg:PuG g} {pe:PuE te} {m:List (Option Nat)} {i:Nat} {hm:Tru (pg.tg.all λi=>m[i]?==some none)} {hn:Tru pe.nw}:(qqc pi pg pe m i hm hn).f=λ_ ρ=>(pi.f ρ).bind λds=>(lcP (lcH pg.f (λ_=>some true) pe.f (WL m ρ)) ds).bind λfs=>qmu i fs ρ:=id rfl
section
variable {D:Addr->Prop} {G0 G G':Gp} {A:Nat->Addr->Prop} {τ:St3} {ρ:Rho}
def K2 (i:Nat) (kk pp:Int) (v:PyData) (ρ:Rho):Option Ot:=(zR ρ i).bind λdss=>(ixN dss.length kk).bind λj=>(dss[j]?).bind λds=>(ixN ds.length pp).bind λl=>if WH v then some (.nx (ρ.set i (.on (dss.set j (ds.set l v))))) else none
def MF {tk tp tv:TE3} (bv:PuE tv) (i:Nat) (bk:PuE tk) (bp:PuE tp):PuS (qF tv (ze (o3 ix3 (v3 i) tk) tp)):=⟨λ_ ρ=>(bv.f ρ).bind λv=>(bk.f ρ).bind λk=>(asI k).bind λkk=>(bp.f ρ).bind λp=>(asI p).bind λpp=>K2 i kk pp v ρ,λ{D G0 A τ ρ G n o e} h hf k=>by
 obtain ⟨v,e1,hf⟩:=obb hf;obtain ⟨kd,e2,hf⟩:=obb hf;obtain ⟨kk,e3,hf⟩:=obb hf;obtain ⟨pd,e4,hf⟩:=obb hf;obtain ⟨pp,e5,hf9⟩:=obb hf;clear hf;unfold K2 at hf9;obtain ⟨dss,e6,hf9⟩:=obb hf9;obtain ⟨j,e7,hf9⟩:=obb hf9;obtain ⟨ds,e8,hf9⟩:=obb hf9;obtain ⟨l,e9,hf8⟩:=obb hf9;have:=ED e3;subst this;have:=ED e5;subst this;split at hf8
 ·rename_i hsc;cases hf8;obtain ⟨p,qs,b1,c1,g1,nd1,on1⟩:=h.on e6;simp only [qF,ze,o3,v3,c1];refine bv.ok (h.viewAll _) h.domD e1 λx G1 E1 D1 _=>?_;have h1:=h.up E1;refine bk.ok (h1.viewAll _) h1.domD e2 λy G2 E2 D2 _=>?_;cases D2;have h2:=h1.up E2;obtain ⟨b2,nd2,on2⟩:=h2.onAt e6 c1 (E2 _ _ (E1 _ _ g1));obtain ⟨q,ys,hq,Bq,gq,Dy⟩:=on2.get e8;have at':atI (qs.map T.ref) kk=some (.ref q):=by
   unfold atI;rw [length_map,on2.1,e7,Option.bind_some,getElem?_map,hq];rfl
  simp only [ix3,qL (E2 _ _ (E1 _ _ g1)),at'];refine bp.ok (h2.viewAll _) h2.domD e4 λz G3 E3 D3 _=>?_;cases D3;have h3:=h2.up E3;obtain ⟨b3,nd3,on3⟩:=h3.onAt e6 c1 (E3 _ _ (E2 _ _ (E1 _ _ g1)));have Dy3:=Dy.up (jV (D:=AD D A) E3);simp only [YO,E3 _ _ gq,Dy.length,e9];exact k _ _ _ (h3.onW e6 c1 (E3 _ _ (E2 _ _ (E1 _ _ g1))) hq e8 (Dy3.set l (WD D1 hsc))).1
 ·cases hf8⟩
def qaZ {tk tp tv:TE3} {bv:PuE tv} {i:Nat} {bk:PuE tk} {bp:PuE tp}:(MF bv i bk bp).f=λ_ ρ=>(bv.f ρ).bind λv=>(bk.f ρ).bind λk=>(asI k).bind λkk=>(bp.f ρ).bind λp=>(asI p).bind λpp=>K2 i kk pp v ρ:=id rfl
def JS (ds:List PyData) (p:Nat) (w:PyData):List PyData:=(ds++List.replicate (p+1-ds.length) PyData.none).set p w
def NJ {ρ:Rho} {i j:Nat} {s:Sl} {dss:List (List PyData)} (h:zR ρ i=some dss) (n:j≠i):zR (ρ.set j s) i=some dss:=by
 unfold zR;rw [getElem?_set,if_neg n,j4 h]
def qbb {ρ:Rho} {i:Nat} {dss es:List (List PyData)} (h:zR ρ i=some dss):zR (ρ.set i (.on es)) i=some es:=by
 have:=(zb0 (j4 h)).1;unfold zR;rw [getElem?_set,if_pos rfl,if_pos this]
end
def qeF (im is ip iw:Nat) (fk:Rho->Option PyData) (fc:Rho->Option Bool) (fe:Rho->Option PyData) (ρ:Rho):Option Ot:=(zR ρ im).bind λdss=>(fk ρ).bind λk=>(asI k).bind λkk=>(vw ρ iw).bind λw=>(ixN dss.length kk).bind λj=>(dss[j]?).bind λds=>
 (fc (ρ.set is .un)).bind λc=>(if c then (fe (ρ.set is .un)).bind asI else some ((ds.length:Nat):Int)).bind λpp=>
 if (is<ρ.length/\ip<ρ.length)/\WH w=true/\(0<=pp/\pp<1000000)/\ds.length<1000000 then some (.nx (((ρ.set is .un).set ip (.sh (.int pp))).set im (.on (dss.set j (JS ds pp.toNat w))))) else none
theorem qc8 {R:Gp}:∀ k:Nat,Dqs R (List.replicate k T.non) (List.replicate k PyData.none)
 |0=>.nil
 |k+1=>.cons .non (qc8 k)
theorem NC:∀ k:Nat,(List.replicate k [T.non]).flatten=List.replicate k T.non
 |0=>rfl
 |k+1=>by rw [List.replicate_succ,List.flatten_cons,NC k];rfl
def MH {ρ:Rho} {i j:Nat} {s:Sl} (n:j≠i):vw (ρ.set j s) i=vw ρ i:=by
 unfold vw;rw [getElem?_set,if_neg n]
def qmf {tk te:TE3} {tc:TT3} (im is ip iw:Nat) (bk:PuE tk) (bc:PuC tc) (be:PuE te) (hn:Tru (is != im&&(is != ip&&(is != iw&&(ip != im&&ip != iw))))):PuS (qx (qF (o3 ix3 (v3 im) tk) (gn3 is)) (qx (qF (if3 tc te (cb3 jC (qf (v3 is) qk))) (gn3 ip)) (qx (qH (bm3 JW (v3 is) (qf (o3 qhe (je (qf (c3 .non) qk)) (o3 (iI (·-·)) (o3 zB (v3 ip) (c3 (.int 1))) (cb3 jC (qf (v3 is) qk)))) qk))) (qF (v3 iw) (ze (v3 is) (v3 ip)))))):=⟨λ_ ρ=>qeF im is ip iw bk.f bc.f be.f ρ,λ{D G0 A τ ρ G n o e} h hf k=>by
 obtain ⟨n1,n2,n3,n4,n5⟩:is≠im/\is≠ip/\is≠iw/\ip≠im/\ip≠iw:=by simpa using hn.h
 unfold qeF at hf;obtain ⟨dss,e1,hf⟩:=obb hf;obtain ⟨bd,e2,hf⟩:=obb hf;obtain ⟨kk,e3,hf⟩:=obb hf;obtain ⟨wd,e6,hf⟩:=obb hf;obtain ⟨j,e7,hf⟩:=obb hf;obtain ⟨ds,e8,hf⟩:=obb hf;obtain ⟨c,e9,hf⟩:=obb hf;obtain ⟨pp,e10,hf8⟩:=obb hf;clear hf;have:=ED e3;subst this;split at hf8
 ·rename_i hc;obtain ⟨⟨li,lp⟩,hsc,⟨p0,p1⟩,dl⟩:=hc;cases hf8;obtain ⟨p,qs,b1,c1,g1,nd1,on1⟩:=h.on e1;simp only [qx,qF,o3,v3,c1];refine bk.ok (h.viewAll _) h.domD e2 λy G1 E1 D1 _=>?_;cases D1;have h1:=h.up E1;have g1':=E1 _ _ g1;obtain ⟨_,_,on2⟩:=h1.onAt e1 c1 g1';obtain ⟨q,ys,hq,Bq,gq,Dy⟩:=on2.get e8;have at':atI (qs.map T.ref) kk=some (.ref q):=by
   unfold atI;rw [length_map,on2.1,e7,Option.bind_some,getElem?_map,hq];rfl
  simp only [ix3,qL g1',at',gn3];rw [h.len] at li lp;have h2:=h1.unk is (some (.ref q));have x1:∀ (τ:St3) t,is<τ.length->(τ.set is t)[is]?=some t:=λτ t l=>by rw [getElem?_set,if_pos rfl,if_pos l]
  have x2:∀ {a b:Nat} (τ:St3) t,b≠a->(τ.set b t)[a]?=τ[a]?:=λτ t z=>by rw [getElem?_set,if_neg z]
  have t0:(τ.set is (some (.ref q)))[im]?=some (some (.ref p)):=(x2 _ _ n1).trans c1;have t1:=x1 τ (some (.ref q)) li;have e1':=NJ (s:=.un) e1 n1;have e6':vw (ρ.set is .un) iw=some wd:=(MH n3).trans e6;have jl:j<dss.length:=(zb0 e8).1;have at1:∀ es:List PyData,(dss.set j es)[j]?=some es:=λes=>by rw [getElem?_set,if_pos rfl,if_pos jl]
  have lp1:ip<(τ.set is (some (.ref q))).length:=by rw [List.length_set];exact lp
  generalize τ.set is (some (.ref q))=τ1 at *;generalize ρ.set is .un=ρ1 at *;have yl:ys.length=ds.length:=Dy.length;have fin:∀ G3,Ex G1 G3->qx (qH (bm3 JW (v3 is) (qf (o3 qhe (je (qf (c3 .non) qk)) (o3 (iI (·-·)) (o3 zB (v3 ip) (c3 (.int 1))) (cb3 jC (qf (v3 is) qk)))) qk))) (qF (v3 iw) (ze (v3 is) (v3 ip))) e (τ1.set ip (some (.int pp))) G3:=λG3 E3=>by
   have h3:=(h2.up E3).put ip (d:=.int pp) (.int pp);have s0:(τ1.set ip (some (.int pp)))[im]?=some (some (.ref p)):=(x2 _ _ n4).trans t0;have s1:(τ1.set ip (some (.int pp)))[is]?=some (some (.ref q)):=(x2 _ _ (Ne.symm n2)).trans t1;have s2:(τ1.set ip (some (.int pp)))[ip]?=some (some (.int pp)):=by rw [getElem?_set,if_pos rfl,if_pos lp1]
   have e1'':=NJ (s:=.sh (.int pp)) e1' n4;have e6'':vw (ρ1.set ip (.sh (.int pp))) iw=some wd:=(MH n5).trans e6';have g3:=E3 _ _ g1';have gq3:=E3 _ _ gq;generalize τ1.set ip (some (.int pp))=τ2 at *;generalize ρ1.set ip (.sh (.int pp))=ρ2 at *;generalize Er A ip=A2 at *;simp only [qx,qH,bm3,v3,s1,qL gq3,qf,o3,je,c3,qk];refine ⟨rfl,by rw [v7];simp,λa ha=>?_⟩;have qa:q≠a:=by rintro rfl;rw [gq3] at ha;cases ha
   have gq4:gu G3 a (.lst [T.non]) q=some (.lst ys):=by rw [zj qa];exact gq3
   have ga:gu G3 a (.lst [T.non]) a=some (.lst [T.non]):=qy;have E4:=zn (o:=.lst [T.non]) ha;generalize gu G3 a (.lst [T.non])=G4 at *;simp only [s2,zB,cb3,qf,v3,qk,s1,jC,qL gq4,iI,qhe,ga];refine ⟨⟨by omega,by omega⟩,by rw [v7];simp;omega,λb hb=>?_⟩;have kt:(pp+1-(ys.length:Int)).toNat=pp.toNat+1-ds.length:=by omega
   rw [kt,NC];have qb:q≠b:=by rintro rfl;rw [gq4] at hb;cases hb
   have gq5:gu G4 b (.lst (List.replicate (pp.toNat+1-ds.length) T.non)) q=some (.lst ys):=by rw [zj qb];exact gq4
   have gb:gu G4 b (.lst (List.replicate (pp.toNat+1-ds.length) T.non)) b=some (.lst (List.replicate (pp.toNat+1-ds.length) T.non)):=qy;have E5:=E4.trans (zn (o:=.lst (List.replicate (pp.toNat+1-ds.length) T.non)) hb);generalize gu G4 b (.lst (List.replicate (pp.toNat+1-ds.length) T.non))=G5 at *;simp only [JW,gq5,gb];refine ⟨by rw [List.length_replicate,v7];omega,?_⟩;have h5:=h3.up E5;have g5:=E5 _ _ g3;obtain ⟨_,_,on5⟩:=h5.onAt e1'' s0 g5;obtain ⟨q',ys',hq',_,gq',Dy'⟩:=on5.get e8;rw [hq] at hq';cases hq';rw [gq5] at gq';cases gq';obtain ⟨h6,g6⟩:=h5.onW e1'' s0 g5 hq e8 (Dy'.append (qc8 (pp.toNat+1-ds.length)));have es:=qbb (es:=dss.set j (ds++List.replicate (pp.toNat+1-ds.length) PyData.none)) e1'';obtain ⟨tw,tw1,tw2⟩:=h6.viewAll [iw] iw (by simp) _ (by
    by_cases z:im=iw
    ·subst z;have:=j4 e1'';unfold vw at e6'';rw [this] at e6'';simp [Sl.d] at e6'';subst e6'';cases hsc
    ·rw [MH z];exact e6'')
   obtain ⟨_,_,on6⟩:=h6.onAt es s0 g6;obtain ⟨q',ys'',hq',_,gq6,Dy6⟩:=on6.get (at1 _);rw [hq] at hq';cases hq';have yl6:=Dy6.length;have ixl:ixN ys''.length pp=some pp.toNat:=by
    rw [yl6];unfold ixN;rw [if_pos (by omega),if_pos (by simp;omega)]
   simp only [qF,v3,tw1,ze,s1,s2,YO,gq6,ixl];have:=(h6.onW es s0 g6 hq (at1 _) (Dy6.set pp.toNat (WD tw2 hsc))).1;rw [List.set_set,List.set_set] at this;exact k _ _ _ this
  show if3 tc te _ τ1 G1 _;refine bc.ok (h2.viewAll _) h2.domD e9 λG2 E2=>?_;cases c with
  |true=>
   rw [if_pos rfl] at e10 ⊢;obtain ⟨pd,e11,e12⟩:=obb e10;have:=ED e12;subst this;have h3:=h2.up E2;refine be.ok (h3.viewAll _) h3.domD e11 λz G3 E3 D3 _=>?_;cases D3;exact fin G3 (E2.trans E3)
  |false=>
   rw [if_neg v6] at e10 ⊢;cases e10;simp only [cb3,qf,v3,t1,qk,jC,qL (E2 _ _ gq),yl];exact fin G2 E2
 ·cases hf8⟩
def qhO {tk te:TE3} {tc:TT3} {im is ip iw:Nat} {bk:PuE tk} {bc:PuC tc} {be:PuE te} {hn:Tru (is != im&&(is != ip&&(is != iw&&(ip != im&&ip != iw))))}:(qmf im is ip iw bk bc be hn).f=λ_ ρ=>qeF im is ip iw bk.f bc.f be.f ρ:=id rfl
open Bk (Lf Ext)
section
variable {l:Nat} {a0:Addr} {z0:Option (Option T)×Nat} {D:Addr->Prop} {G0 G G':Gp} {A:Nat->Addr->Prop} {τ:St3} {ρ:Rho} {n:Nat} {i j:Nat} {p q:Addr} {qs:List Addr} {dss:List (List PyData)} {xs ys:List T} {ds:List PyData}
def qob (m:List Bool) (i:Nat) (r:PyData ⊕ List (List PyData)) (ρ:Rho):Rho:=match r with
 |.inl d=>(dm m ρ).set i (.sh d)
 |.inr dss=>(dm m ρ).set i (.on dss)
def qng (F:List PyData->Option (PyData ⊕ List (List PyData))) {t:TA3} (b:PuA t) (i:Nat) (m:List Bool) (hm:Tru (b.fv.all (mkb m))) (hl:Tru (!mkb m l&&(i != l&&i != 0))):PwS l (qF (cb3 (PNp F) t) (gn3 i)):=⟨λρ n Q=>∃ ds r,b.f ρ=some ds/\F ds=some r/\Q (.nx (qob m i r ρ)) n,λ⟨ds,r,h1,h2,h3⟩ k=>⟨ds,r,h1,h2,k _ _ h3⟩,λ{a z0 D G0 A τ ρ G n e Q} h ⟨ds,r,e1,e2,hq⟩ k=>by
 have hl':mkb m l=false/\i≠l/\i≠0:=by simpa using hl.h
 have k:=k _ _ hq;refine b.ok (h.ln hl'.1 hm).v (h.r.dem m).dom e1 λx G1 E1 D1=>?_;have h1:=(h.dem hl'.1).up (Bk.Q0 E1) (h.lf.ex E1);refine ⟨_,ds,r,D1,h1.r.dom,e2,λy G2 E2 R=>?_⟩;show e.nx (τ.set i (some y)) G2;cases r with
 |inl d=>exact k _ _ _ ((h1.up (Bk.Q0 E2) (h1.lf.ex E2)).put hl'.2.1 hl'.2.2 R)
 |inr dss=>
  obtain ⟨p,qs,rfl,nd,fr,g,on⟩:=R;refine k _ _ _ (h1.upd hl'.2.1 hl'.2.2 (B:=λb=>b∈p::qs) (λb o _ _ z=>E2 b o z) (h1.lf.ex E2) (λb z=>⟨.inr (fr b z),?_⟩) λ_=>⟨p,qs,za5,rfl,g,nd,on.1,λj q ds a b=>⟨u8 _ (za1 a),let ⟨_,ys,c,d⟩:=on.2 j q ds a b;⟨ys,c,d.up (zy λb z=>?_)⟩⟩⟩)
  ·rcases mem_cons.mp z with z|z
   ·rw [z,g];simp
   ·obtain ⟨j,hj,rfl⟩:=List.getElem_of_mem z;obtain ⟨_,ys,c,_⟩:=on.2 j _ _ (v8 hj) (v8 (by rw [← on.1];exact hj));rw [c];simp
  ·rcases z with z|⟨j,⟨_,z⟩|⟨_,z⟩⟩
   ·exact .inl (.inl z)
   ·exact .inr z
   ·exact .inl (.inr ⟨j,z⟩)⟩
def RS.forget (h:RS D G0 A τ ρ G) (j:Nat):RS D G0 A τ (ρ.set j .un) G:=by
 refine ⟨h.ex,h.dm,h.fr,h.da,h.inj,by rw [List.length_set];exact h.len,λi s e=>?_⟩;rw [getElem?_set] at e;split at e
 ·split at e<;>cases e
  trivial
 ·exact h.sl i s e
def qad {s:Sl} (h:ρ[j]?=some s):ρ.set j s=ρ:=by
 apply List.ext_getElem?;intro k;rw [getElem?_set];split
 ·rename_i e;subst e;split
  ·exact h.symm
  ·rename_i n;rw [List.getElem?_eq_none (by omega)] at h;cases h
 ·rfl
def qcp {t:TE3} (a:PuE t) {d:PyData} (hc:∀ ρ,a.f ρ=some d) (hf:a.fv=[]) (ij:i≠j) (il:i≠l) (jl:j≠l) (j0:j≠0) {e:Ends3} {all:List Addr}:∀ (QR pre:List Addr) (done todo:List (List PyData)) (τ:St3) (ρ:Rho) (G:Gp),RL l a0 z0 D G0 A τ ρ G n->zR ρ i=some (done++todo)->τ[i]?=some (some (.ref p))->all=pre++QR->G p=some (.lst (all.map T.ref))->pre.length=done.length->(∀ ds∈todo,ds.length<1000000)->ρ[j]?=some .un ->
  (∀ τ' G',RL l a0 z0 D G0 A τ' (ρ.set i (.on (done++todo.map (·++[d])))) G' n->e.nx τ' G')->CO (λG=>getL G p=some (all.map T.ref)) (gn3 j) (qH (bm3 QI (v3 j) (qf t qk))) e (QR.map T.ref) τ G:=by
 intro QR;induction QR with
 |nil=>
  intro pre done todo τ ρ G h sl ht ha gp hl ht2 hj k;refine ⟨qL gp,?_⟩;obtain ⟨p',qs',b,c,g,nd,on⟩:=h.r.on sl;rw [ht] at c;cases c;have l1:todo=[]:=by
   have:=on.1;rw [g] at gp;injection gp with gp;injection gp with gp;have l2:=congrArg List.length gp;simp only [length_map,ha,List.append_nil] at l2;rw [length_append] at this;exact List.eq_nil_of_length_eq_zero (by omega)
  subst l1;have:=k τ G;rw [List.map_nil,qad (j4 sl)] at this;exact this h
 |cons q QR ih=>
  intro pre done todo τ ρ G h sl ht ha gp hl ht2 hj k;obtain ⟨p',qs',b,c,g,nd,on⟩:=h.r.on sl;rw [ht] at c;cases c;have qe:qs'=all:=by
   rw [g] at gp;injection gp with gp;injection gp with gp;have inj:∀ {a b:List Addr},a.map T.ref=b.map T.ref->a=b:=λ{a}=>by
    induction a with
    |nil=>intro b z;cases b<;>simp_all
    |cons x a ih=>intro b z;cases b with
     |nil=>simp at z
     |cons y b=>simp at z;rw [z.1,ih (by simpa using z.2)]
   exact inj gp
  subst qe;cases todo with
  |nil=>
   have:=on.1;rw [ha] at this;simp at this;omega
  |cons ds todo=>
   have hq:qs'[pre.length]?=some q:=by rw [ha];simp
   have hd:(done++ds::todo)[pre.length]?=some ds:=by rw [hl];simp
   obtain ⟨q',ys,hq',Bq,gq,Dy⟩:=on.get hd;rw [hq] at hq';cases hq';have hjl:j<τ.length:=by rw [← h.r.len];exact (zb0 hj).1
   have t2:(τ.set j (some (.ref q)))[j]?=some (some (.ref q)):=by rw [getElem?_set,if_pos rfl,if_pos hjl]
   refine ⟨qL gp,?_⟩;show qH (bm3 QI (v3 j) (qf t qk)) _ (τ.set j (some (.ref q))) G;simp only [qH,bm3,v3,t2,qL gq,qf,qk];refine ⟨rfl,a.ok (D:=AD D A) (ρ:=ρ) (λz hz=>by rw [hf] at hz;cases hz) h.r.dom (hc ρ) λx G1 E1 D1 _=>?_⟩;simp only [QI,E1 _ _ gq];refine ⟨by rw [Dy.length,v7];have:=ht2 ds (by simp);omega,?_⟩;have qa:q≠a0:=h.ne Bq (j4 sl) (by simp);have r1:RS D G0 A (τ.set j (some (.ref q))) ρ G1:=by
    have:=(h.r.up E1).unk j (some (.ref q));rw [qad hj] at this;exact this
   have ht':(τ.set j (some (.ref q)))[i]?=some (some (.ref p)):=by rw [getElem?_set,if_neg (Ne.symm ij)];exact ht
   have on1:=on.mono (R':=rs (AD D A) G1) (G':=G1) (B':=A i) (jV E1) (λq _ o _ z=>E1 _ _ z) λ_ z=>z;have r2:=r1.onSet b ht' (E1 _ _ gp) nd on1 hq Bq ((Dy.up (jV E1)).append (.cons D1 .nil));have e1:(done++ds::todo).set pre.length (ds++[d])=(done++[ds++[d]])++todo:=by rw [hl,List.set_append_right _ _ (u7 _)];simp
   rw [e1] at r2;have pq:p≠q:=by rintro rfl;exact (List.nodup_cons.mp nd).1 (za1 hq)
   have li:i<ρ.length:=by rw [h.r.len];exact (zb0 ht).1
   refine ih (pre++[q]) (done++[ds++[d]]) todo _ _ _ ⟨r2,h.al,by rw [getElem?_set,if_neg jl];exact h.tl,by rw [getElem?_set,if_neg il];exact h.ul,(h.lf.ex E1).new qa,⟨by rw [getElem?_set,if_neg j0];exact h.tz.1,by rw [List.length_set];exact h.tz.2⟩⟩ ?_ ht' (by rw [ha];simp) (by rw [zj pq];exact E1 _ _ gp) (by simp [hl]) (λz hz=>ht2 z (by simp [hz])) (by rw [getElem?_set,if_neg ij];exact hj) λτ' G' r=>?_
   ·unfold zR;rw [getElem?_set,if_pos rfl,if_pos li]
   ·refine k τ' G' ?_;have e2:(done++[ds++[d]])++todo.map (·++[d])=done++(ds::todo).map (·++[d]):=by simp
    rw [List.set_set,e2] at r;exact r
def qdc {t:TE3} (a:PuE t) (i j:Nat) (hf:Tru (a.fv.isEmpty)) (hl:Tru (i != j&&(i != l&&(j != l&&j != 0)))):PwS l (WU (VI (v3 i)) (gn3 j) (qH (bm3 QI (v3 j) (qf t qk)))):=⟨λρ n Q=>∃ dss d,zR ρ i=some dss/\(∀ ρ,a.f ρ=some d)/\(∀ ds∈dss,ds.length<1000000)/\j<ρ.length/\Q (.nx ((ρ.set j .un).set i (.on (dss.map (·++[d]))))) n,λ⟨dss,d,h1,h2,h3,h4,h5⟩ k=>⟨dss,d,h1,h2,h3,h4,k _ _ h5⟩,λ{a0 z0 D G0 A τ ρ G n e Q} h ⟨dss,d,h1,h2,h3,h4,hq⟩ k=>by
 obtain ⟨ij,il,jl,j0⟩:i≠j/\i≠l/\j≠l/\j≠0:=by simpa using hl.h
 obtain ⟨p,qs,b,c,g,nd,on⟩:=h.r.on h1;simp only [WU,VI,v3,c,qL g];have h':RL l a0 z0 D G0 A τ (ρ.set j .un) G n:=⟨h.r.forget j,h.al,h.tl,by rw [getElem?_set,if_neg jl];exact h.ul,h.lf,h.tz⟩
 refine qcp a h2 (List.isEmpty_iff.mp hf.h) ij il jl j0 qs [] [] dss τ _ G h' ?_ c rfl g rfl h3 (by rw [getElem?_set,if_pos rfl,if_pos h4]) λτ' G' r=>k _ _ hq _ _ _ r;unfold zR;rw [getElem?_set,if_neg (Ne.symm ij),j4 h1];rfl⟩
def Ons.rev {R:Gp} {B:Addr->Prop} (h:Ons R G B qs dss):Ons R G B qs.reverse dss.reverse:=by
 refine ⟨by simp [h.1],λj q ds a b=>?_⟩;have hj:j<qs.length:=by have:=(zb0 a).1;simpa using this
 rw [List.getElem?_reverse hj] at a;rw [List.getElem?_reverse (by rw [← h.1];exact hj),← h.1] at b;exact h.2 _ q ds a b
def RS.onRev (h:RS D G0 A τ ρ G) (hp:A i p) (ht:τ[i]?=some (some (.ref p))) (gp:G p=some (.lst (qs.map T.ref))) (nd:(p::qs).Nodup) (on:Ons (rs (AD D A) G) G (A i) qs dss):RS D G0 A τ (ρ.set i (.on dss.reverse)) (gu G p (.lst (qs.map T.ref).reverse)):=by
 have np:=List.nodup_cons.mp nd;have:=h.upd i (G':=gu G p (.lst (qs.map T.ref).reverse)) (x:=.ref p) (s:=.on dss.reverse) (B:=A i) (W:=λb=>b=p) (λb o n z=>by rw [zj n];exact z) (λb z=>⟨i,by rw [z];exact hp,.inl rfl⟩) (λb z=>⟨.inl z,by
  by_cases c:b=p
  ·rw [c,qy];simp
  ·rw [zj c];exact h.da i b z⟩) λX=>⟨p,qs.reverse,hp,rfl,by rw [qy,List.map_reverse],by
   refine List.nodup_cons.mpr ⟨λz=>np.1 (List.mem_reverse.mp z),List.pairwise_reverse.mpr (np.2.imp λh=>Ne.symm h)⟩,(on.rev).mono X (λq hq o _ z=>by
   rw [zj (by rintro rfl;exact np.1 (List.mem_reverse.mp hq))];exact z) λ_ z=>z⟩
 rw [EL ht,SB] at this;exact this
def qnv (i:Nat):PwS l (qH (qi1 qho (v3 i))):=⟨λρ n Q=>∃ dss,zR ρ i=some dss/\Q (.nx (ρ.set i (.on dss.reverse))) n,λ⟨ds,h1,h2⟩ k=>⟨ds,h1,k _ _ h2⟩,λ{a z0 D G0 A τ ρ G n e Q} h ⟨dss,h1,h2⟩ k=>by
 obtain ⟨p,qs,b,c,g,nd,on⟩:=h.r.on h1;simp only [qH,qi1,v3,c,qho,qL g,g];refine ⟨rfl,k _ _ h2 _ _ _ ⟨h.r.onRev b c g nd on,h.al,h.tl,?_,h.lf.new (h.ne b (j4 h1) (by simp)),h.tz⟩⟩;rw [getElem?_set,if_neg (by rintro rfl;have:=j4 h1;rw [h.ul] at this;cases this)];exact h.ul⟩
def qhc {F:List PyData->Option (PyData ⊕ List (List PyData))} {t:TA3} {b:PuA t} {i:Nat} {m:List Bool} {hm:Tru (b.fv.all (mkb m))} {hl:Tru (!mkb m l&&(i != l&&i != 0))}:(qng F b i m hm hl).w=λρ n Q=>∃ ds r,b.f ρ=some ds/\F ds=some r/\Q (.nx (qob m i r ρ)) n:=id rfl
def qcv {t:TE3} {a:PuE t} {i j:Nat} {hf:Tru (a.fv.isEmpty)} {hl:Tru (i != j&&(i != l&&(j != l&&j != 0)))}:(qdc a i j hf hl).w=λρ n Q=>∃ dss d,zR ρ i=some dss/\(∀ ρ,a.f ρ=some d)/\(∀ ds∈dss,ds.length<1000000)/\j<ρ.length/\Q (.nx ((ρ.set j .un).set i (.on (dss.map (·++[d]))))) n:=id rfl
def qh1 {i:Nat}:(qnv (l:=l) i).w=λρ n Q=>∃ dss,zR ρ i=some dss/\Q (.nx (ρ.set i (.on dss.reverse))) n:=id rfl
end
end Pu
namespace K72
open PySem L2 L3 Bk
def top (i : Nat) : Stmt := PySem.Challenge.pw_bankwalk_k72_memories_turned.main.body.getD i (.Pass ⟨0,0,0,0⟩)
variable {P:Program} {w:World} {K:Frg} {mg:Str->Option Value} {base:Heap} {f:Addr} {fd:FuncData} {k:Nat} {sp:Sp3}
section
variable {S0:Sp3} (V0:Fn3 P w K mg base k "size_of" S0) (m1:mg "len" = none) (m2:mg "range" = none) {S3:Sp3} (V3:Fn3 P w K mg base k "odd_in_common" S3) (m4:mg "enumerate" = none) (m5:mg "sum" = none) {S6:Sp3} (V6:Fn3 P w K mg base k "parted" S6) {S7:Sp3} (V7:Fn3 P w K mg base k "bank_in" S7) {S8:Sp3} (V8:Fn3 P w K mg base k "number_of" S8) {S9:Sp3} (V9:Fn3 P w K mg base k "bits_bank" S9) {S10:Sp3} (V10:Fn3 P w K mg base k "joined_bank" S10) {S11:Sp3} (V11:Fn3 P w K mg base k "all_words" S11) {S12:Sp3} (V12:Fn3 P w K mg base k "rests_spots" S12) {S13:Sp3} (V13:Fn3 P w K mg base k "counted_spots" S13) {S14:Sp3} (V14:Fn3 P w K mg base k "is_square" S14) {S15:Sp3} (V15:Fn3 P w K mg base k "beat_banks" S15) (m16:mg "set" = none) {S17:Sp3} (V17:Fn3 P w K mg base k "is_beat" S17) {S18:Sp3} (V18:Fn3 P w K mg base k "refuse_not_square" S18) {S19:Sp3} (V19:Fn3 P w K mg base k "all_pairs" S19) {S20:Sp3} (V20:Fn3 P w K mg base k "first_beat" S20) {S21:Sp3} (V21:Fn3 P w K mg base k "spots_of" S21) (m22:mg "list" = none) (m23:mg "abs" = none) {S24:Sp3} (V24:Fn3 P w K mg base k "_law_mix" S24) {S25:Sp3} (V25:Fn3 P w K mg base k "_law_size" S25) (m26:mg "zip" = none) (m27:mg "tuple" = none) {S28:Sp3} (V28:Fn3 P w K mg base k "_law_odd" S28) {S29:Sp3} (V29:Fn3 P w K mg base k "_law_bank" S29) {S30:Sp3} (V30:Fn3 P w K mg base k "_law_pick" S30) {S31:Sp3} (V31:Fn3 P w K mg base k "_law_gcd" S31) {S32:Sp3} (V32:Fn3 P w K mg base k "_law_same" S32) (m33:mg "isinstance" = none) (m34:mg "all" = none) (m35:mg "str" = none) (m36:mg "bool" = none) (m37:mg "int" = none) {S38:Sp3} (V38:Fn3 P w K mg base k "_law_left" S38) {S39:Sp3} (V39:Fn3 P w K mg base k "_law_square" S39) {S40:Sp3} (V40:Fn3 P w K mg base k "_law_worths" S40) {S41:Sp3} (V41:Fn3 P w K mg base k "_law_memory" S41) {S42:Sp3} (V42:Fn3 P w K mg base k "_law_any_order" S42) {S43:Sp3} (V43:Fn3 P w K mg base k "turn_plan" S43) {S44:Sp3} (V44:Fn3 P w K mg base k "turned" S44) (m45:mg "min" = none)
abbrev JM:Stmt:=top 4
abbrev CH:List Str:=["dealing","kind","rows","columns","banks","other_rows","other_columns","other_banks"]
abbrev XG:List Str:=["dealing"]
def jz:FnScope CH XG (ql JM):=Hd.sc0
def DS (E:Hd.Fb K mg "size_of" JM XG f fd) (read:Rd sp 1 (Bk.XF S0) CH):Fn3 P w K mg base (k+1) "size_of" sp:=
 Hd.jfE E jz read λcdv A outer s H E hr=>(qi (qQ 1 jz.nd (qA (qd 0) qh)) (qi (ji (qX (zd hr.units) qJ (qd 1) zO (qG _)) (qv (qw (zk (qc (M9 qh (qA (qd 0) qh)) (qc (M9 qh (qA (qd 0) qh)) (qc (M9 qh (qI zc zM rfl m1 PySem.boot_len (qc (qA (qd 0) qh) qg))) qg)))))) q5) (qi (ji (qX (zd hr.units) qJ (qd 1) zO (qG _)) (qv (qw (zk (qc (qI zc zM rfl m1 PySem.boot_len (qc (qA (qd 0) qh) qg)) (qc (qI zc zM rfl m1 PySem.boot_len (qc (qA (qA (qd 0) qh) qh) qg)) (qc (qA (qd 0) qh) qg)))))) q5) (qi (ji (qX (zd hr.units) qJ (qd 1) zO (qG _)) (qi (jc (qm V0 hr rfl (qc (qA (qd 0) qh) qg)) (zN rfl (qu (qt (i:=2) (jz.nd)) (qu (qt (i:=3) (jz.nd)) (qu (qt (i:=4) (jz.nd)) zQ))))) (qi (jc (qm V0 hr rfl (qc (qA (qd 0) qh) qg)) (zN rfl (qu (qt (i:=5) (jz.nd)) (qu (qt (i:=6) (jz.nd)) (qu (qt (i:=7) (jz.nd)) zQ))))) (qv (qw (zk (qc (zP (qd 2) (qd 5)) (qc (zP (qd 3) (qd 6)) (qc (zP (qd 4) (qd 7)) qg)))))))) q5) (qv (qw (zk (qc (qA (qd 0) qh) (qc (qA (qd 0) qh) (qc (qA (qd 0) qh) qg))))))))))
abbrev QF:Stmt:=top 5
abbrev UO:List Str:=["dealing","word","rows","columns","banks"]
abbrev U1:List Str:=["dealing","word"]
def ZY:FnScope UO U1 (ql QF):=Hd.sc0
def Y0 (E:Hd.Fb K mg "number_of" QF U1 f fd) (read:Rd sp 2 (Bk.US S0) UO):Fn3 P w K mg base (k+1) "number_of" sp:=
 Hd.jfE E ZY read λcdv A outer s H E hr=>(qi (jc (qm V0 hr rfl (qc (qd 0) qg)) (zN rfl (qu (qt (i:=2) (ZY.nd)) (qu (qt (i:=3) (ZY.nd)) (qu (qt (i:=4) (ZY.nd)) zQ))))) (qv (qw (qT (zP (qA (qd 1) qh) (qd 3)) (qA (qd 1) qh)))))
abbrev j9:Stmt:=top 6
abbrev YF:List Str:=["dealing","rows","columns","banks"]
abbrev U7:List Str:=["dealing"]
def Z9:FnScope YF U7 (ql j9):=Hd.sc0
def U5 (S0:Sp3):TS3:=(qx (qF (cb3 S0 (qf (v3 0) qk)) (qK 3 (qo (gn3 1) (qo (gn3 2) (qo (gn3 3) qO))))) (qP (qi0 (jf (qf (v3 1) qk)) (gn3 0) tt3 (jf (qf (v3 2) qk)) (gn3 1) tt3 (jo (qf (v3 0) (qf (v3 1) qk))) [none,none,some 2])))
def T5 (E:Hd.Fb K mg "all_words" j9 U7 f fd) (read:Rd sp 1 (U5 S0) YF):Fn3 P w K mg base (k+1) "all_words" sp:=
 Hd.jfE E Z9 read λcdv A outer s H E hr=>(qi (jc (qm V0 hr rfl (qc (qd 0) qg)) (zN rfl (qu (qt (i:=1) (Z9.nd)) (qu (qt (i:=2) (Z9.nd)) (qu (qt (i:=3) (Z9.nd)) zQ))))) (qv (qw (qbv ["i","j","columns"] [none,none,some 2] rfl (qS rfl m2 (qc (qd 1) qg) (h1:=by intro _ _ _ h;simpa [qf,qk] using h)) (λ_ _ _=>(jgn 0)) (λ_ _ _=>jx) (λ_ _ _=>(qS rfl m2 (qc (qd 2) qg) (h1:=by intro _ _ _ h;simpa [qf,qk] using h))) (λ_ _ _=>(jgn 1)) (λ_ _ _=>jx) (λ_ _ _=>(zk (qc (qd 0) (qc (qd 1) qg)))) (by kernel_rfl) (by kernel_rfl)))))
abbrev zE:Stmt:=top 7
abbrev ZC:List Str:=["number","mask","common","many"]
abbrev QX:List Str:=["number","mask"]
def zH:FnScope ZC QX (ql zE):=Hd.sc0
def WX (E:Hd.Fb K mg "odd_in_common" zE QX f fd) (read:Rd sp 2 (Bk.ZE) ZC):Fn3 P w K mg base (k+1) "odd_in_common" sp:=
 Hd.jfE E zH read λcdv A outer s H E hr=>(qi (qQ 2 zH.nd (TY (qd 0) (qd 1))) (qi (qQ 3 zH.nd qh) (qi (qae PassesOwn.never (qX qdN WP (qd 2) qh (qG _)) (qi (qbp 3 zH.nd (TY (qd 2) qh)) (qv (qQ 2 zH.nd (qj9 (qd 2) qh))))) (qv (qw (JT (zd hr.units) qJ (TY (qd 3) qh) qh (qG _)))))))
abbrev j5:Stmt:=top 8
abbrev X9:List Str:=["masks","number"]
abbrev U3:List Str:=["masks","number"]
def KK:FnScope X9 U3 (ql j5):=Hd.sc0
def KM (E:Hd.Fb K mg "bits_bank" j5 U3 f fd) (read:Rd sp 2 (Bk.UR S3) X9):Fn3 P w K mg base (k+1) "bits_bank" sp:=
 Hd.jfE E KK read λcdv A outer s H E hr=>(qv (qw (qI (EB rfl) qbC rfl m5 PyProof.Rows.boot_sum (qc (WZ ["t","mask","number"] [none,none,some 1] rfl (SQ rfl m4 (qc (qd 0) qg)) (λ_ _ _=>(zN rfl (qu (jgn 0) (qu (jgn 1) zQ)))) (λ_ _ _=>qfx (EG (qm V3 hr rfl (qc (qd 2) (qc (qd 1) qg))))) (λ_ _ _=>(M9 qh (qd 0))) (by kernel_rfl) (by kernel_rfl)) qg))))
abbrev VB:Stmt:=top 9
abbrev RT:List Str:=["word","rows","columns","i","j"]
abbrev TQ:List Str:=["word","rows","columns"]
def XW:FnScope RT TQ (ql VB):=Hd.sc0
def qbl (E:Hd.Fb K mg "parted" VB TQ f fd) (read:Rd sp 3 (Bk.SH) RT):Fn3 P w K mg base (k+1) "parted" sp:=
 Hd.jfE E XW read λcdv A outer s H E hr=>(qi (jc (qd 0) (zN rfl (qu (qt (i:=3) (XW.nd)) (qu (qt (i:=4) (XW.nd)) zQ)))) (qv (qw (zk (qc (zk (qc (UH (qd 3) (qd 1)) (qc (UH (qd 4) (qd 2)) qg))) (qc (zk (qc (zT (qd 3) (qd 1)) (qc (zT (qd 4) (qd 2)) qg))) qg))))))
abbrev jh:Stmt:=top 10
abbrev J1:List Str:=["one","other","word","rows","columns","banks","upper","lower"]
abbrev JY:List Str:=["one","other","word"]
def zJ:FnScope J1 JY (ql jh):=Hd.sc0
def JJ (E:Hd.Fb K mg "joined_bank" jh JY f fd) (read:Rd sp 3 (Bk.J2 S0 S6 S7) J1):Fn3 P w K mg base (k+1) "joined_bank" sp:=
 Hd.jfE E zJ read λcdv A outer s H E hr=>(qi (jc (qm V0 hr rfl (qc (qd 1) qg)) (zN rfl (qu (qt (i:=3) (zJ.nd)) (qu (qt (i:=4) (zJ.nd)) (qu (qt (i:=5) (zJ.nd)) zQ))))) (qi (jc (qm V6 hr rfl (qc (qd 2) (qc (qd 3) (qc (qd 4) qg)))) (zN rfl (qu (qt (i:=6) (zJ.nd)) (qu (qt (i:=7) (zJ.nd)) zQ)))) (qv (qw (qT (zP (qm V7 hr rfl (qc (qd 0) (qc (qd 6) qg))) (qd 5)) (qm V7 hr rfl (qc (qd 1) (qc (qd 7) qg))))))))
abbrev JO:Stmt:=top 11
abbrev CK:List Str:=["dealing","word","kind"]
abbrev XN:List Str:=["dealing","word"]
def RO:FnScope CK XN (ql JO):=Hd.sc0
def DA (E:Hd.Fb K mg "bank_in" JO XN f fd) (read:Rd sp 2 (Bk.CG S8 S9 S10) CK):Fn3 P w K mg base (k+1) "bank_in" sp:=
 Hd.jfE E RO read λcdv A outer s H E hr=>(qi (qQ 2 RO.nd (qA (qd 0) qh)) (qi (ji (qX (zd hr.units) qJ (qd 2) zO (qG _)) (qv (qw (zT (qT (zP (qA (qd 0) qh) (qA (qd 1) qh)) (zP (qA (qd 0) qh) (qA (qd 1) qh))) (qA (qd 0) qh)))) q5) (qi (ji (qX (zd hr.units) qJ (qd 2) zO (qG _)) (qv (qw (zT (qm V8 hr rfl (qc (qd 0) (qc (qd 1) qg))) (qA (qd 0) qh)))) q5) (qi (ji (qX (zd hr.units) qJ (qd 2) zO (qG _)) (qv (qw (qm V9 hr rfl (qc (qA (qd 0) qh) (qc (qm V8 hr rfl (qc (qd 0) (qc (qd 1) qg))) qg))))) q5) (qi (ji (qX (zd hr.units) qJ (qd 2) zO (qG _)) (qv (qw (qA (qA (qA (qd 0) qh) (qA (qd 1) qh)) (qA (qd 1) qh)))) q5) (qv (qw (qm V10 hr rfl (qc (qA (qd 0) qh) (qc (qA (qd 0) qh) (qc (qd 1) qg)))))))))))
abbrev jm:Stmt:=top 13
abbrev QJ:List Str:=["dealing","rows","columns","banks","places"]
abbrev J5:List Str:=["dealing"]
def jk:FnScope QJ J5 (ql jm):=Hd.sc0
def J9:TS3:=(qx (qF (VO (v3 0) (sp3 (c3 (.int 1))) np3) (qK 4 (qo (gn3 1) (qo (gn3 2) (qo (gn3 3) (qo (gn3 4) qO)))))) (qP (lc3 (jf (qf (o3 (iC QT (·*·)) (v3 1) (v3 2)) qk)) (gn3 0) tt3 (jo (qf (o3 (iC (λ_ j=>0<j) (·%·)) (v3 0) (v3 1)) (qf (o3 (iC (λ_ j=>0<j) (·%·)) (v3 0) (v3 2)) qk))) [none,some 3,some 4])))
def CP (E:Hd.Fb K mg "rests_spots" jm J5 f fd) (read:Rd sp 1 (J9) QJ):Fn3 P w K mg base (k+1) "rests_spots" sp:=
 Hd.jfE E jk read λcdv A outer s H E hr=>(qi (jc (qab (qd 0) (MB qh) qgM) (zN rfl (qu (qt (i:=1) (jk.nd)) (qu (qt (i:=2) (jk.nd)) (qu (qt (i:=3) (jk.nd)) (qu (qt (i:=4) (jk.nd)) zQ)))))) (qv (qw (WZ ["number","banks","places"] [none,some 3,some 4] rfl (qS rfl m2 (qc (zP (qd 1) (qd 2)) qg) (h1:=by intro _ _ _ h;simpa [qf,qk] using h)) (λ_ _ _=>(jgn 0)) (λ_ _ _=>jx) (λ_ _ _=>(zk (qc (zT (qd 0) (qd 1)) (qc (zT (qd 0) (qd 2)) qg)))) (by kernel_rfl) (by kernel_rfl)))))
abbrev zI:Stmt:=top 14
abbrev zY:List Str:=["dealing","counts","spots","word","bank","place"]
abbrev Q5:List Str:=["dealing"]
def zf:FnScope zY Q5 (ql zI):=Hd.sc0
def QY (S11:Sp3) (S7:Sp3):TS3:=(qx (qF qdB (gn3 1)) (qx (qF (je qk) (gn3 2)) (qx (WU (VI (cb3 S11 (qf (v3 0) qk))) (gn3 3) (qx (qF (cb3 S7 (qf (v3 0) (qf (v3 3) qk))) (gn3 4)) (qx (qF (qkc MT (v3 1) (qf (v3 4) (qf (c3 (.int 0)) qk))) (gn3 5)) (qx (qH (bm3 QI (v3 2) (qf (jo (qf (v3 4) (qf (v3 5) qk))) qk))) (qF (o3 zB (v3 5) (c3 (.int 1))) (LI (v3 1) (v3 4))))))) (qP (v3 2)))))
def WS (E:Hd.Fb K mg "counted_spots" zI Q5 f fd) (read:Rd sp 1 (QY S11 S7) zY):Fn3 P w K mg base (k+1) "counted_spots" sp:=
 Hd.jfE E zf read λcdv A outer s H E hr=>(qi (qQ 1 zf.nd qev) (qi (qQ 2 zf.nd (jj qg)) (qi (JN PassesOwn.never rfl (EH (qm V11 hr rfl (qc (qd 0) qg))) (qt (i:=3) (zf.nd)) (qi (qQ 4 zf.nd (qm V7 hr rfl (qc (qd 0) (qc (qd 3) qg)))) (qi (qQ 5 zf.nd (qiK (qd 1) (qc (qd 4) (qc qh qg)))) (qi (JL (YY (qd 2) (qc (zk (qc (qd 4) (qc (qd 5) qg))) qg))) (qv (jc (qT (qd 5) qh) (qiq (qd 1) (qd 4)))))))) (qv (qw (qd 2))))))
abbrev ZH:Stmt:=top 15
abbrev VT:List Str:=["dealing"]
abbrev D5:List Str:=["dealing"]
def ML:FnScope VT D5 (ql ZH):=Hd.sc0
def DU (S12:Sp3) (S13:Sp3):TS3:=(qx (zD (tb3 (o3 (zt false) (o3 ix3 (v3 0) (c3 (.int 0))) (c3 (.str "rests")))) (qP (cb3 S12 (qf (v3 0) qk))) qD) (qP (cb3 S13 (qf (v3 0) qk))))
def MR (E:Hd.Fb K mg "spots_of" ZH D5 f fd) (read:Rd sp 1 (DU S12 S13) VT):Fn3 P w K mg base (k+1) "spots_of" sp:=
 Hd.jfE E ML read λcdv A outer s H E hr=>(qi (ji (qX (zd hr.units) qJ (qA (qd 0) qh) zO (qG _)) (qv (qw (qm V12 hr rfl (qc (qd 0) qg)))) q5) (qv (qw (qm V13 hr rfl (qc (qd 0) qg)))))
abbrev QB:Stmt:=top 17
abbrev YJ:List Str:=["dealing","rows","columns","banks"]
abbrev UN:List Str:=["dealing"]
def ZZ:FnScope YJ UN (ql QB):=Hd.sc0
def UQ (S0:Sp3):TS3:=(qx (qF (cb3 S0 (qf (v3 0) qk)) (qK 3 (qo (gn3 1) (qo (gn3 2) (qo (gn3 3) qO))))) (qP (o3 (zt false) (v3 1) (v3 2))))
def KU (E:Hd.Fb K mg "is_square" QB UN f fd) (read:Rd sp 1 (UQ S0) YJ):Fn3 P w K mg base (k+1) "is_square" sp:=
 Hd.jfE E ZZ read λcdv A outer s H E hr=>(qi (jc (qm V0 hr rfl (qc (qd 0) qg)) (zN rfl (qu (qt (i:=1) (ZZ.nd)) (qu (qt (i:=2) (ZZ.nd)) (qu (qt (i:=3) (ZZ.nd)) zQ))))) (qv (qw (JT (zd hr.units) qJ (qd 1) (qd 2) (qG _)))))
abbrev qY:Stmt:=top 18
abbrev qU:List Str:=["dealing"]
abbrev jr:List Str:=["dealing"]
def UC:FnScope qU jr (ql qY):=Hd.sc0
def js (S14:Sp3):TS3:=(zD (YN (tb3 (cb3 S14 (qf (v3 0) qk)))) UF qD)
def UB (E:Hd.Fb K mg "refuse_not_square" qY jr f fd) (read:Rd sp 1 (js S14) qU):Fn3 P w K mg base (k+1) "refuse_not_square" sp:=
 Hd.jfE E UC read λcdv A outer s H E hr=>(qv (ji (M6 (EG (qm V14 hr rfl (qc (qd 0) qg)))) qea q5))
abbrev QE:Stmt:=top 19
abbrev ZO:List Str:=["dealing","rows","columns","banks"]
abbrev UL:List Str:=["dealing"]
def Z8:FnScope ZO UL (ql QE):=Hd.sc0
def U0 (S0:Sp3):TS3:=(qx (qF (cb3 S0 (qf (v3 0) qk)) (qK 3 (qo (gn3 1) (qo (gn3 2) (qo (gn3 3) qO))))) (qP (qi0 (jf (qf (v3 1) qk)) (gn3 0) tt3 (jf (qf (o3 zB (v3 0) (c3 (.int 1))) (qf (v3 2) qk))) (gn3 1) tt3 (jo (qf (v3 0) (qf (v3 1) qk))) [none,none,some 2])))
def KR (E:Hd.Fb K mg "all_pairs" QE UL f fd) (read:Rd sp 1 (U0 S0) ZO):Fn3 P w K mg base (k+1) "all_pairs" sp:=
 Hd.jfE E Z8 read λcdv A outer s H E hr=>(qi (jc (qm V0 hr rfl (qc (qd 0) qg)) (zN rfl (qu (qt (i:=1) (Z8.nd)) (qu (qt (i:=2) (Z8.nd)) (qu (qt (i:=3) (Z8.nd)) zQ))))) (qv (qw (qbv ["i","j","columns"] [none,none,some 2] rfl (qS rfl m2 (qc (qd 1) qg) (h1:=by intro _ _ _ h;simpa [qf,qk] using h)) (λ_ _ _=>(jgn 0)) (λ_ _ _=>jx) (λ_ _ _=>(LF rfl m2 (qc (qT (qd 0) qh) (qc (qd 2) qg)) (h1:=by intro _ _ _ h;simpa [qf,qk] using h))) (λ_ _ _=>(jgn 1)) (λ_ _ _=>jx) (λ_ _ _=>(zk (qc (qd 0) (qc (qd 1) qg)))) (by kernel_rfl) (by kernel_rfl)))))
abbrev jP:Stmt:=top 20
abbrev JD:List Str:=["dealing","pairs"]
abbrev VC:List Str:=["dealing","pairs"]
def TF:FnScope JD VC (ql jP):=Hd.sc0
def YT (S7:Sp3):TS3:=(qP (qi0 (VI (v3 1)) (qK 2 (qo (gn3 0) (qo (gn3 1) qO))) tt3 (VI (je (qf (jo (qf (v3 0) (qf (v3 1) qk))) (qf (jo (qf (v3 1) (qf (v3 0) qk))) qk)))) (gn3 2) tt3 (cb3 S7 (qf (v3 3) (qf (v3 2) qk))) [none,none,none,some 0]))
def SS (E:Hd.Fb K mg "beat_banks" jP VC f fd) (read:Rd sp 2 (YT S7) JD):Fn3 P w K mg base (k+1) "beat_banks" sp:=
 Hd.jfE E TF read λcdv A outer s H E hr=>(qv (qw (qbv ["i","j","word","dealing"] [none,none,none,some 0] rfl (EH (qd 1)) (λ_ _ _=>(zN rfl (qu (jgn 0) (qu (jgn 1) zQ)))) (λ_ _ _=>jx) (λ_ _ _=>(EH (jj (qc (zk (qc (qd 0) (qc (qd 1) qg))) (qc (zk (qc (qd 1) (qc (qd 0) qg))) qg))))) (λ_ _ _=>(jgn 2)) (λ_ _ _=>jx) (λ_ _ _=>(qm V7 hr rfl (qc (qd 3) (qc (qd 2) qg)))) (by kernel_rfl) (by kernel_rfl))))
abbrev JP:Stmt:=top 21
abbrev VQ:List Str:=["dealing","pairs","banks"]
abbrev X6:List Str:=["dealing","pairs"]
def C2:FnScope VQ X6 (ql JP):=Hd.sc0
def CA (S15:Sp3):TS3:=(qx (qF (cb3 S15 (qf (v3 0) (qf (v3 1) qk))) (gn3 2)) (qP (UG (o3 (iB λi j=>decide (i<j)) (cb3 jC (qf (v3 1) qk)) (c3 (.int 2))) (o3 (zt false) (qhG (v3 2)) (cb3 jC (qf (v3 2) qk))))))
def qaJ (E:Hd.Fb K mg "is_beat" JP X6 f fd) (read:Rd sp 2 (CA S15) VQ):Fn3 P w K mg base (k+1) "is_beat" sp:=
 Hd.jfE E C2 read λcdv A outer s H E hr=>(qi (qQ 2 C2.nd (qm V15 hr rfl (qc (qd 0) (qc (qd 1) qg)))) (qv (qw (qqg (JT qg9 WP (qI zc zM rfl m1 PySem.boot_len (qc (qd 1) qg)) qh (qG _)) (N6 (JT (zd hr.units) qJ (qbG rfl rfl m1 rfl m16 (qd 2)) (qI zc zM rfl m1 PySem.boot_len (qc (qd 2) qg)) (qG _)))))))
abbrev jH:Stmt:=top 22
abbrev j7:List Str:=["dealing","plan","pair","at","beat"]
abbrev VN:List Str:=["dealing","plan","pair"]
def J8:FnScope j7 VN (ql jH):=Hd.sc0
def VH (S17:Sp3):TS3:=(qx (WU (EO (qf (v3 1) qk)) (qK 2 (qo (gn3 3) (qo (gn3 4) qO))) (zD (tb3 (cb3 S17 (qf (v3 0) (qf (o3 zB (v3 4) (je (qf (v3 2) qk))) qk)))) (qP (v3 3)) qD)) (qP (cb3 jC (qf (v3 1) qk))))
def TK (E:Hd.Fb K mg "first_beat" jH VN f fd) (read:Rd sp 3 (VH S17) j7):Fn3 P w K mg base (k+1) "first_beat" sp:=
 Hd.jfE E J8 read λcdv A outer s H E hr=>(qi (JN PassesOwn.never rfl (SQ rfl m4 (qc (qd 1) qg)) (zN rfl (qu (qt (i:=3) (J8.nd)) (qu (qt (i:=4) (J8.nd)) zQ))) (qv (ji (EG (qm V17 hr rfl (qc (qd 0) (qc (qT (qd 4) (jj (qc (qd 2) qg))) qg)))) (qv (qw (qd 3))) q5))) (qv (qw (qI zc zM rfl m1 PySem.boot_len (qc (qd 1) qg)))))
abbrev QA:Stmt:=top 23
abbrev Q7:List Str:=["dealing","plan","pair","at"]
abbrev UY:List Str:=["dealing"]
def JC:FnScope Q7 UY (ql QA):=Hd.sc0
def UZ (S18:Sp3) (S19:Sp3) (S20:Sp3):TS3:=(qx (qH (cb3 S18 (qf (v3 0) qk))) (qx (qF (je qk) (gn3 1)) (qx (WU (VI (cb3 S19 (qf (v3 0) qk))) (gn3 2) (qx (qF (cb3 S20 (qf (v3 0) (qf (v3 1) (qf (v3 2) qk)))) (gn3 3)) (qx (zD (tb3 (o3 (zt false) (v3 3) (cb3 jC (qf (v3 1) qk)))) (qH (bm3 QI (v3 1) (qf (je qk) qk))) qD) (qH (bm3 QI (o3 ix3 (v3 1) (v3 3)) (qf (v3 2) qk)))))) (qP (v3 1)))))
def LM (E:Hd.Fb K mg "turn_plan" QA UY f fd) (read:Rd sp 1 (UZ S18 S19 S20) Q7):Fn3 P w K mg base (k+1) "turn_plan" sp:=
 Hd.jfE E JC read λcdv A outer s H E hr=>(qi (JL (qm V18 hr rfl (qc (qd 0) qg))) (qi (qQ 1 JC.nd (jj qg)) (qi (JN PassesOwn.never rfl (EH (qm V19 hr rfl (qc (qd 0) qg))) (qt (i:=2) (JC.nd)) (qi (qQ 3 JC.nd (qm V20 hr rfl (qc (qd 0) (qc (qd 1) (qc (qd 2) qg))))) (qi (ji (qX (zd hr.units) qJ (qd 3) (qI zc zM rfl m1 PySem.boot_len (qc (qd 1) qg)) (qG _)) (qv (JL (YY (qd 1) (qc (jj qg) qg)))) q5) (qv (JL (YY (qA (qd 1) (qd 3)) (qc (qd 2) qg))))))) (qv (qw (qd 1))))))
abbrev VD:Stmt:=top 24
abbrev XB:List Str:=["dealing","plan","memory","spots","told","beat","i","j","bank","place","other_bank","other_place","worth"]
abbrev R7:List Str:=["dealing","plan","memory"]
def z3:FnScope XB R7 (ql VD):=Hd.sc0
def SY (S18:Sp3) (S21:Sp3) (S8:Sp3):TS3:=(qx (qH (cb3 S18 (qf (v3 0) qk))) (qx (qF (cb3 S21 (qf (v3 0) qk)) (gn3 3)) (qx (qF (lc3 (VI (v3 2)) (gn3 0) tt3 (cb3 jb (qf (v3 0) qk)) [none]) (gn3 4)) (qx (WU (VI (v3 1)) (gn3 5) (WU (VI (v3 5)) (qK 2 (qo (gn3 6) (qo (gn3 7) qO))) (qx (qF (o3 ix3 (v3 3) (cb3 S8 (qf (v3 0) (qf (jo (qf (v3 6) (qf (v3 7) qk))) qk)))) (qK 2 (qo (gn3 8) (qo (gn3 9) qO)))) (qx (qF (o3 ix3 (v3 3) (cb3 S8 (qf (v3 0) (qf (jo (qf (v3 7) (qf (v3 6) qk))) qk)))) (qK 2 (qo (gn3 10) (qo (gn3 11) qO)))) (qx (qF (o3 ix3 (o3 ix3 (v3 4) (v3 8)) (v3 9)) (gn3 12)) (qx (qF (o3 ix3 (o3 ix3 (v3 4) (v3 10)) (v3 11)) (ze (o3 ix3 (v3 4) (v3 8)) (v3 9))) (qF (v3 12) (ze (o3 ix3 (v3 4) (v3 10)) (v3 11))))))))) (qP (v3 4))))))
def qa7 (E:Hd.Fb K mg "turned" VD R7 f fd) (read:Rd sp 3 (SY S18 S21 S8) XB):Fn3 P w K mg base (k+1) "turned" sp:=
 Hd.jfE E z3 read λcdv A outer s H E hr=>(qi (JL (qm V18 hr rfl (qc (qd 0) qg))) (qi (qQ 3 z3.nd (qm V21 hr rfl (qc (qd 0) qg))) (qi (W8 4 ["shelf"] [none] rfl z3.nd (EH (qd 2)) (λ_ _ _=>(jgn 0)) (λ_ _ _=>jx) (λ_ _ _=>(j8 WI NZ rfl m22 PyProof.Rows.boot_list (qc (qd 0) qg))) (by kernel_rfl) (by kernel_rfl) rfl rfl) (qi (JN PassesOwn.never rfl (EH (qd 1)) (qt (i:=5) (z3.nd)) (qv (JN PassesOwn.never rfl (EH (qd 5)) (zN rfl (qu (qt (i:=6) (z3.nd)) (qu (qt (i:=7) (z3.nd)) zQ))) (qi (jc (qA (qd 3) (qm V8 hr rfl (qc (qd 0) (qc (zk (qc (qd 6) (qc (qd 7) qg))) qg)))) (zN rfl (qu (qt (i:=8) (z3.nd)) (qu (qt (i:=9) (z3.nd)) zQ)))) (qi (jc (qA (qd 3) (qm V8 hr rfl (qc (qd 0) (qc (zk (qc (qd 7) (qc (qd 6) qg))) qg)))) (zN rfl (qu (qt (i:=10) (z3.nd)) (qu (qt (i:=11) (z3.nd)) zQ)))) (qi (qQ 12 z3.nd (qA (qA (qd 4) (qd 8)) (qd 9))) (qi (jc (qA (qA (qd 4) (qd 10)) (qd 11)) (T9 (qA (qd 4) (qd 8)) (qd 9))) (qv (jc (qd 12) (T9 (qA (qd 4) (qd 10)) (qd 11))))))))))) (qv (qw (qd 4)))))))
abbrev JV:Stmt:=top 26
abbrev CC:List Str:=["_law_cell","_law_k","_law_m"]
abbrev CB:List Str:=["_law_cell","_law_k"]
def C4:FnScope CC CB (ql JV):=Hd.sc0
def qan (E:Hd.Fb K mg "_law_mix" JV CB f fd) (read:Rd sp 2 (Bk.XI) CC):Fn3 P w K mg base (k+1) "_law_mix" sp:=
 Hd.jfE E C4 read λcdv A outer s H E hr=>(qi (qQ 2 C4.nd (zT (zP (qT (qT (zT (qd 0) qh) (zP (zP (qd 1) (qd 1)) qh)) qh) qh) qh)) (qv (qw (zT (zP (qd 2) (qd 2)) qh))))
abbrev Q6:Stmt:=top 27
abbrev DL:List Str:=["_law_script","_law_k","_law_cell","_law_own"]
abbrev EY:List Str:=["_law_script","_law_k"]
def U4:FnScope DL EY (ql Q6):=Hd.sc0
def L5 (E:Hd.Fb K mg "_law_left" Q6 EY f fd) (read:Rd sp 2 (Bk.DI) DL):Fn3 P w K mg base (k+1) "_law_left" sp:=
 Hd.jfE E U4 read λcdv A outer s H E hr=>(qi (qQ 2 U4.nd (qig (qX qg9 WP (qd 1) (qI zc zM rfl m1 PySem.boot_len (qc (qd 0) qg)) (qG _)) (qA (qd 0) (qd 1)) qh)) (qi (qQ 3 U4.nd (qig (qX qqi WP (qI NR qcz rfl m23 PyProof.Rows.boot_abs (qc (qd 2) qg)) (qbB qh qh) (qG _)) (qI NR qcz rfl m23 PyProof.Rows.boot_abs (qc (qd 2) qg)) qh)) (qv (qw (jj (qc (qd 3) (qc (qT (qd 2) (zP qh (qd 1))) (qc qh qg))))))))
abbrev ZJ:Stmt:=top 28
abbrev DM:List Str:=["_law_left_here","_law_many","_law_digit"]
abbrev DN:List Str:=["_law_left_here","_law_many"]
def XT:FnScope DM DN (ql ZJ):=Hd.sc0
def LY (E:Hd.Fb K mg "_law_pick" ZJ DN f fd) (read:Rd sp 2 (Bk.EZ S24) DM):Fn3 P w K mg base (k+1) "_law_pick" sp:=
 Hd.jfE E XT read λcdv A outer s H E hr=>(qi (jc (qT (qA (qd 0) qh) qh) (T9 (qd 0) qh)) (qi (ji (qX qdN WP (qA (qd 0) qh) qh (qG _)) (qi (qQ 2 XT.nd (zT (qA (qd 0) qh) (qd 1))) (qi (jc (UH (qA (qd 0) qh) (qd 1)) (T9 (qd 0) qh)) (qv (qw (qd 2))))) q5) (qv (qw (zT (UH (qm V24 hr rfl (qc (qm V24 hr rfl (qc (qA (qd 0) qh) (qc (qA (qd 0) qh) qg))) (qc (qT (qA (qd 0) qh) qh) qg))) qh) (qd 1))))))
abbrev JU:Stmt:=top 29
abbrev XR:List Str:=["_law_one","_law_other"]
abbrev X8:List Str:=["_law_one","_law_other"]
def CZ:FnScope XR X8 (ql JU):=Hd.sc0
def qam (E:Hd.Fb K mg "_law_gcd" JU X8 f fd) (read:Rd sp 2 (Bk.X0) XR):Fn3 P w K mg base (k+1) "_law_gcd" sp:=
 Hd.jfE E CZ read λcdv A outer s H E hr=>(qi (qae PassesOwn.never (qX qdN WP (qd 1) qh (qG _)) (qv (qch (i:=0) (j:=1) rfl CZ.nd rfl rfl (by decide) rfl rfl (qc (qd 1) (qc (zT (qd 0) (qd 1)) qg))))) (qv (qw (qd 0))))
abbrev Q1:Stmt:=top 30
abbrev RN:List Str:=["_law_dealing","_law_two","_law_one","_law_other"]
abbrev DZ:List Str:=["_law_dealing"]
def UV:FnScope RN DZ (ql Q1):=Hd.sc0
def DJ (S25:Sp3):TS3:=(qx (zD (tb3 (o3 (in3 false) (o3 ix3 (v3 0) (c3 (.int 0))) (jo (qf (c3 (.str "skew")) (qf (c3 (.str "rests")) qk))))) (qP (VO (v3 0) (sp3 (c3 (.int 1))) (sp3 (c3 (.int 4))))) qD) (qx (zD (tb3 (o3 (zt false) (o3 ix3 (v3 0) (c3 (.int 0))) (c3 (.str "bits")))) (qx (qF (je (qf (c3 (.int 1)) (qf (c3 (.int 2)) (qf (c3 (.int 4)) (qf (c3 (.int 8)) (qf (c3 (.int 16)) (qf (c3 (.int 32)) qk))))))) (gn3 1)) (qP (jo (qf (o3 ix3 (v3 1) (o3 ix3 (v3 0) (c3 (.int 1)))) (qf (o3 ix3 (v3 1) (o3 ix3 (v3 0) (c3 (.int 2)))) (qf (o3 ix3 (v3 1) (cb3 jC (qf (o3 ix3 (v3 0) (c3 (.int 3))) qk))) qk)))))) qD) (qx (zD (tb3 (o3 (zt false) (o3 ix3 (v3 0) (c3 (.int 0))) (c3 (.str "table")))) (qP (jo (qf (cb3 jC (qf (o3 ix3 (v3 0) (c3 (.int 2))) qk)) (qf (cb3 jC (qf (o3 ix3 (o3 ix3 (v3 0) (c3 (.int 2))) (c3 (.int 0))) qk)) (qf (o3 ix3 (v3 0) (c3 (.int 1))) qk))))) qD) (qx (YQ 2 3 (qf (cb3 S25 (qf (o3 ix3 (v3 0) (c3 (.int 1))) qk)) (qf (cb3 S25 (qf (o3 ix3 (v3 0) (c3 (.int 2))) qk)) qk))) (qP (cb3 qV (qf (lc3 (qaM (qf (v3 2) (qf (v3 3) qk))) (qK 2 (qo (gn3 0) (qo (gn3 1) qO))) tt3 (o3 (iC QT (·*·)) (v3 0) (v3 1)) [none,none]) qk)))))))
def UT (E:Hd.Fb K mg "_law_size" Q1 DZ f fd) (read:Rd sp 1 (DJ S25) RN):Fn3 P w K mg base (k+1) "_law_size" sp:=
 Hd.jfE E UV read λcdv A outer s H E hr=>(qi (ji (qX qck qmD (qA (qd 0) qh) (zk (qc zO (qc zO qg))) (by with_unfolding_all rfl)) (qv (qw (qab (qd 0) (MB qh) (MB qh)))) q5) (qi (ji (qX (zd hr.units) qJ (qA (qd 0) qh) zO (qG _)) (qi (qQ 1 UV.nd (jj (qc qh (qc qh (qc qh (qc qh (qc qh (qc qh qg)))))))) (qv (qw (zk (qc (qA (qd 1) (qA (qd 0) qh)) (qc (qA (qd 1) (qA (qd 0) qh)) (qc (qA (qd 1) (qI zc zM rfl m1 PySem.boot_len (qc (qA (qd 0) qh) qg))) qg))))))) q5) (qi (ji (qX (zd hr.units) qJ (qA (qd 0) qh) zO (qG _)) (qv (qw (zk (qc (qI zc zM rfl m1 PySem.boot_len (qc (qA (qd 0) qh) qg)) (qc (qI zc zM rfl m1 PySem.boot_len (qc (qA (qA (qd 0) qh) qh) qg)) (qc (qA (qd 0) qh) qg)))))) q5) (qi (qch (i:=2) (j:=3) rfl UV.nd rfl rfl (by decide) rfl rfl (qc (qm V25 hr rfl (qc (qA (qd 0) qh) qg)) (qc (qm V25 hr rfl (qc (qA (qd 0) qh) qg)) qg))) (qv (qw (j8 QL EA rfl m27 PyProof.Rows.boot_tuple (qc (WZ ["_law_x","_law_y"] [none,none] rfl (qgn rfl m26 (qc (qd 2) (qc (qd 3) qg))) (λ_ _ _=>(zN rfl (qu (jgn 0) (qu (jgn 1) zQ)))) (λ_ _ _=>jx) (λ_ _ _=>(zP (qd 0) (qd 1))) (by kernel_rfl) (by kernel_rfl)) qg))))))))
abbrev JQ:Stmt:=top 31
abbrev CI:List Str:=["_law_number","_law_found","_law_t"]
abbrev XJ:List Str:=["_law_number"]
def V1:FnScope CI XJ (ql JQ):=Hd.sc0
def qal (E:Hd.Fb K mg "_law_odd" JQ XJ f fd) (read:Rd sp 1 (Bk.X7) CI):Fn3 P w K mg base (k+1) "_law_odd" sp:=
 Hd.jfE E V1 read λcdv A outer s H E hr=>(qi (qQ 1 V1.nd qaE) (qi (JN PassesOwn.never rfl (qS rfl m2 (qc qh qg) (h1:=by intro _ _ _ h;simpa [qf,qk] using h)) (qt (i:=2) (V1.nd)) (qv (qQ 1 V1.nd (JT (M0 hr.units) SU (qd 1) (JT (zd hr.units) qJ (zT (UH (qd 0) (qA (jj (qc qh (qc qh (qc qh (qc qh (qc qh (qc qh (qc qh (qc qh (qc qh qg)))))))))) (qd 2))) qh) qh (qG _)) (qG _))))) (qv (qw (qd 1)))))
abbrev ZP:Stmt:=top 32
abbrev RI:List Str:=["_law_dealing","_law_i","_law_j","_law_rows","_law_columns","_law_banks","_law_some","_law_high","_law_wide","_law_more"]
abbrev DT:List Str:=["_law_dealing","_law_i","_law_j"]
def zZ:FnScope RI DT (ql ZP):=Hd.sc0
def U6 (E:Hd.Fb K mg "_law_bank" ZP DT f fd) (read:Rd sp 3 (Bk.DG S25 S28 S29) RI):Fn3 P w K mg base (k+1) "_law_bank" sp:=
 Hd.jfE E zZ read λcdv A outer s H E hr=>(qi (jc (qm V25 hr rfl (qc (qd 0) qg)) (zN rfl (qu (qt (i:=3) (zZ.nd)) (qu (qt (i:=4) (zZ.nd)) (qu (qt (i:=5) (zZ.nd)) zQ))))) (qi (ji (qX (zd hr.units) qJ (qA (qd 0) qh) zO (qG _)) (qv (qw (zT (qT (zP (qA (qd 0) qh) (qd 1)) (zP (qA (qd 0) qh) (qd 2))) (qd 5)))) q5) (qi (ji (qX (zd hr.units) qJ (qA (qd 0) qh) zO (qG _)) (qv (qw (zT (qT (zP (qd 1) (qd 4)) (qd 2)) (qd 5)))) q5) (qi (ji (qX (zd hr.units) qJ (qA (qd 0) qh) zO (qG _)) (qi (W8 6 ["_law_t","_law_mask","_law_j","_law_i","_law_columns"] [none,none,some 2,some 1,some 4] rfl zZ.nd (SQ rfl m4 (qc (qA (qd 0) qh) qg)) (λ_ _ _=>(zN rfl (qu (jgn 0) (qu (jgn 1) zQ)))) (λ_ _ _=>qfx (EG (qm V28 hr rfl (qc (TY (qT (zP (qd 3) (qd 4)) (qd 2)) (qd 1)) qg)))) (λ_ _ _=>(qA (jj (qc qh (qc qh (qc qh (qc qh (qc qh qg)))))) (qd 0))) (by kernel_rfl) (by kernel_rfl) rfl rfl) (qv (qw (qI (EB rfl) qbC rfl m5 PyProof.Rows.boot_sum (qc (qd 6) qg))))) q5) (qi (ji (qX (zd hr.units) qJ (qA (qd 0) qh) zO (qG _)) (qv (qw (qA (qA (qA (qd 0) qh) (qd 1)) (qd 2)))) q5) (qi (jc (qm V25 hr rfl (qc (qA (qd 0) qh) qg)) (zN rfl (qu (qt (i:=7) (zZ.nd)) (qu (qt (i:=8) (zZ.nd)) (qu (qt (i:=9) (zZ.nd)) zQ))))) (qv (qw (qT (zP (qm V29 hr rfl (qc (qA (qd 0) qh) (qc (UH (qd 1) (qd 7)) (qc (UH (qd 2) (qd 8)) qg)))) (qd 9)) (qm V29 hr rfl (qc (qA (qd 0) qh) (qc (zT (qd 1) (qd 7)) (qc (zT (qd 2) (qd 8)) qg)))))))))))))
abbrev jF:Stmt:=top 33
abbrev ZV:List Str:=["_law_left_here","_law_n","_law_way","_law_banks","_law_places","_law_turn","_law_high","_law_masks"]
abbrev YZ:List Str:=["_law_left_here"]
def q0:FnScope ZV YZ (ql jF):=Hd.sc0
def VR (S30:Sp3) (S31:Sp3):TS3:=(qx (qF (o3 zB (c3 (.int 1)) (cb3 S30 (qf (v3 0) (qf (o3 ix3 (je (qf (c3 (.int 8)) (qf (c3 (.int 8)) (qf (c3 (.int 8)) (qf (c3 (.int 8)) (qf (c3 (.int 8)) (qf (c3 (.int 8)) (qf (c3 (.int 8)) (qf (c3 (.int 16)) qk))))))))) (cb3 S30 (qf (v3 0) (qf (c3 (.int 8)) qk)))) qk)))) (gn3 1)) (qx (qF (jo (qf (cb3 S30 (qf (v3 0) (qf (c3 (.int 6)) qk))) (qf (o3 zB (c3 (.int 1)) (cb3 S30 (qf (v3 0) (qf (o3 ix3 (je (qf (c3 (.int 4)) (qf (c3 (.int 9)) (qf (c3 (.int 17)) (qf (c3 (.int 32)) qk))))) (cb3 S30 (qf (v3 0) (qf (c3 (.int 4)) qk)))) qk)))) qk))) (qK 2 (qo (gn3 2) (qo (gn3 3) qO)))) (qx (zD (tb3 (o3 (iB λi j=>decide (i<j)) (v3 2) (c3 (.int 2)))) (qP (jo (qf (c3 (.str "skew")) (qf (v3 1) (qf (v3 1) (qf (v3 3) (qf (cb3 S30 (qf (v3 0) (qf (c3 (.int 20)) qk))) (qf (cb3 S30 (qf (v3 0) (qf (c3 (.int 20)) qk))) qk)))))))) qD) (qx (zD (tb3 (o3 (zt false) (v3 2) (c3 (.int 2)))) (qx (qF (u3 VV (o3 (iC RY (·/·)) (o3 (iC QT (·*·)) (u3 VV (v3 1)) (v3 1)) (v3 3))) (gn3 4)) (qx (WU (jf (qf (c3 (.int 32)) qk)) (gn3 5) (zD (tb3 (o3 (iB λi j=>decide (j<i)) (cb3 S31 (qf (v3 3) (qf (v3 4) qk))) (c3 (.int 1)))) (qF (o3 zB (v3 4) (c3 (.int 1))) (gn3 4)) qD)) (qP (jo (qf (c3 (.str "rests")) (qf (v3 1) (qf (v3 1) (qf (v3 3) (qf (v3 4) qk))))))))) qD) (qx (zD (tb3 (o3 (zt false) (v3 2) (c3 (.int 3)))) (qx (qF (cb3 S30 (qf (v3 0) (qf (c3 (.int 4)) qk))) (gn3 6)) (qx (qF (lc3 (jf (qf (cb3 S30 (qf (v3 0) (qf (c3 (.int 6)) qk))) qk)) (gn3 0) tt3 (cb3 S30 (qf (v3 1) (qf (o3 ix3 (je (qf (c3 (.int 1)) (qf (c3 (.int 4)) (qf (c3 (.int 16)) (qf (c3 (.int 64)) qk))))) (v3 2)) qk))) [none,some 0,some 6]) (gn3 7)) (qP (jo (qf (c3 (.str "bits")) (qf (v3 6) (qf (v3 6) (qf (cb3 qV (qf (v3 7) qk)) qk)))))))) qD) (qx (zD (tb3 (o3 (zt false) (v3 2) (c3 (.int 4)))) (qP (jo (qf (c3 (.str "joined")) (qf (jo (qf (c3 (.str "skew")) (qf (c3 (.int 2)) (qf (c3 (.int 2)) (qf (c3 (.int 3)) (qf (c3 (.int 1)) (qf (cb3 S30 (qf (v3 0) (qf (c3 (.int 3)) qk))) qk))))))) (qf (jo (qf (c3 (.str "skew")) (qf (o3 zB (c3 (.int 1)) (o3 (iC (λ_ j=>0<j) (·%·)) (v3 1) (c3 (.int 4)))) (qf (o3 zB (c3 (.int 1)) (o3 (iC (λ_ j=>0<j) (·%·)) (v3 1) (c3 (.int 4)))) (qf (o3 zB (c3 (.int 1)) (o3 (iC (λ_ j=>0<j) (·%·)) (v3 3) (c3 (.int 5)))) (qf (c3 (.int 1)) (qf (c3 (.int 2)) qk))))))) qk))))) qD) (qP (jo (qf (c3 (.str "table")) (qf (v3 3) (qf (cb3 qV (qf (lc3 (jf (qf (v3 1) qk)) (gn3 0) tt3 (cb3 qV (qf (lc3 (jf (qf (v3 3) qk)) (gn3 0) tt3 (cb3 S30 (qf (v3 1) (qf (v3 2) qk))) [none,some 1,some 2]) qk)) [none,some 0,some 3,some 1]) qk)) qk)))))))))))
def S5 (E:Hd.Fb K mg "_law_square" jF YZ f fd) (read:Rd sp 1 (VR S30 S31) ZV):Fn3 P w K mg base (k+1) "_law_square" sp:=
 Hd.jfE E q0 read λcdv A outer s H E hr=>(qi (qQ 1 q0.nd (qT qh (qm V30 hr rfl (qc (qd 0) (qc (qA (jj (qc qh (qc qh (qc qh (qc qh (qc qh (qc qh (qc qh (qc qh qg))))))))) (qm V30 hr rfl (qc (qd 0) (qc qh qg)))) qg))))) (qi (jc (zk (qc (qm V30 hr rfl (qc (qd 0) (qc qh qg))) (qc (qT qh (qm V30 hr rfl (qc (qd 0) (qc (qA (jj (qc qh (qc qh (qc qh (qc qh qg))))) (qm V30 hr rfl (qc (qd 0) (qc qh qg)))) qg)))) qg))) (zN rfl (qu (qt (i:=2) (q0.nd)) (qu (qt (i:=3) (q0.nd)) zQ)))) (qi (ji (qX qg9 WP (qd 2) qh (qG _)) (qv (qw (zk (qc zO (qc (qd 1) (qc (qd 1) (qc (qd 3) (qc (qm V30 hr rfl (qc (qd 0) (qc qh qg))) (qc (qm V30 hr rfl (qc (qd 0) (qc qh qg))) qg))))))))) q5) (qi (ji (qX (zd hr.units) qJ (qd 2) qh (qG _)) (qi (qQ 4 q0.nd (qgA (UH (zP (qgA (qd 1)) (qd 1)) (qd 3)))) (qi (JN PassesOwn.never rfl (qS rfl m2 (qc qh qg) (h1:=by intro _ _ _ h;simpa [qf,qk] using h)) (qt (i:=5) (q0.nd)) (qv (ji (qX qdN WP (qm V31 hr rfl (qc (qd 3) (qc (qd 4) qg))) qh (qG _)) (qv (qQ 4 q0.nd (qT (qd 4) qh))) q5))) (qv (qw (zk (qc zO (qc (qd 1) (qc (qd 1) (qc (qd 3) (qc (qd 4) qg)))))))))) q5) (qi (ji (qX (zd hr.units) qJ (qd 2) qh (qG _)) (qi (qQ 6 q0.nd (qm V30 hr rfl (qc (qd 0) (qc qh qg)))) (qi (W8 7 ["_law_t","_law_left_here","_law_high"] [none,some 0,some 6] rfl q0.nd (qS rfl m2 (qc (qm V30 hr rfl (qc (qd 0) (qc qh qg))) qg) (h1:=by intro _ _ _ h;simpa [qf,qk] using h)) (λ_ _ _=>(jgn 0)) (λ_ _ _=>jx) (λ_ _ _=>(qm V30 hr rfl (qc (qd 1) (qc (qA (jj (qc qh (qc qh (qc qh (qc qh qg))))) (qd 2)) qg)))) (by kernel_rfl) (by kernel_rfl) rfl rfl) (qv (qw (zk (qc zO (qc (qd 6) (qc (qd 6) (qc (j8 QL EA rfl m27 PyProof.Rows.boot_tuple (qc (qd 7) qg)) qg))))))))) q5) (qi (ji (qX (zd hr.units) qJ (qd 2) qh (qG _)) (qv (qw (zk (qc zO (qc (zk (qc zO (qc qh (qc qh (qc qh (qc qh (qc (qm V30 hr rfl (qc (qd 0) (qc qh qg))) qg))))))) (qc (zk (qc zO (qc (qT qh (zT (qd 1) qh)) (qc (qT qh (zT (qd 1) qh)) (qc (qT qh (zT (qd 3) qh)) (qc qh (qc qh qg))))))) qg)))))) q5) (qv (qw (zk (qc zO (qc (qd 3) (qc (j8 QL EA rfl m27 PyProof.Rows.boot_tuple (qc (WZ ["_law_i","_law_left_here","_law_banks","_law_n"] [none,some 0,some 3,some 1] rfl (qS rfl m2 (qc (qd 1) qg) (h1:=by intro _ _ _ h;simpa [qf,qk] using h)) (λ_ _ _=>(jgn 0)) (λ_ _ _=>jx) (λ_ _ _=>(j8 QL EA rfl m27 PyProof.Rows.boot_tuple (qc (WZ ["_law_j","_law_left_here","_law_banks"] [none,some 1,some 2] rfl (qS rfl m2 (qc (qd 3) qg) (h1:=by intro _ _ _ h;simpa [qf,qk] using h)) (λ_ _ _=>(jgn 0)) (λ_ _ _=>jx) (λ_ _ _=>(qm V30 hr rfl (qc (qd 1) (qc (qd 2) qg)))) (by kernel_rfl) (by kernel_rfl)) qg))) (by kernel_rfl) (by kernel_rfl)) qg)) qg))))))))))))
abbrev jI:Stmt:=top 34
abbrev JE:List Str:=["_law_dealing","_law_worths_here","_law_rows","_law_columns","_law_banks","_law_found","_law_n","_law_worth","_law_here","_law_place"]
abbrev YV:List Str:=["_law_dealing","_law_worths_here"]
def qZ:FnScope JE YV (ql jI):=Hd.sc0
def VG (S25:Sp3) (S29:Sp3):TS3:=(qx (qF (cb3 S25 (qf (v3 0) qk)) (qK 3 (qo (gn3 2) (qo (gn3 3) (qo (gn3 4) qO))))) (qx (qF (lc3 (jf (qf (v3 4) qk)) (gn3 0) tt3 (je qk) [none]) (gn3 5)) (qx (WU (EO (qf (v3 1) qk)) (qK 2 (qo (gn3 6) (qo (gn3 7) qO))) (qx (qF (o3 ix3 (v3 5) (cb3 S29 (qf (v3 0) (qf (o3 (iC RY (·/·)) (v3 6) (v3 3)) (qf (o3 (iC (λ_ j=>0<j) (·%·)) (v3 6) (v3 3)) qk))))) (gn3 8)) (qx (qF (if3 (tb3 (o3 (zt false) (o3 ix3 (v3 0) (c3 (.int 0))) (c3 (.str "rests")))) (o3 (iC (λ_ j=>0<j) (·%·)) (v3 6) (o3 ix3 (v3 0) (c3 (.int 4)))) (cb3 jC (qf (v3 8) qk))) (gn3 9)) (qx (qH (bm3 JW (v3 8) (qf (o3 qhe (je (qf (c3 .non) qk)) (o3 (iI (·-·)) (o3 zB (v3 9) (c3 (.int 1))) (cb3 jC (qf (v3 8) qk)))) qk))) (qF (v3 7) (ze (v3 8) (v3 9))))))) (qP (v3 5)))))
def SC (E:Hd.Fb K mg "_law_memory" jI YV f fd) (read:Rd sp 2 (VG S25 S29) JE):Fn3 P w K mg base (k+1) "_law_memory" sp:=
 Hd.jfE E qZ read λcdv A outer s H E hr=>(qi (jc (qm V25 hr rfl (qc (qd 0) qg)) (zN rfl (qu (qt (i:=2) (qZ.nd)) (qu (qt (i:=3) (qZ.nd)) (qu (qt (i:=4) (qZ.nd)) zQ))))) (qi (W8 5 ["_law_bank_here"] [none] rfl qZ.nd (qS rfl m2 (qc (qd 4) qg) (h1:=by intro _ _ _ h;simpa [qf,qk] using h)) (λ_ _ _=>(jgn 0)) (λ_ _ _=>jx) (λ_ _ _=>(jj qg)) (by kernel_rfl) (by kernel_rfl) rfl rfl) (qi (JN PassesOwn.never rfl (SQ rfl m4 (qc (qd 1) qg)) (zN rfl (qu (qt (i:=6) (qZ.nd)) (qu (qt (i:=7) (qZ.nd)) zQ))) (qi (qQ 8 qZ.nd (qA (qd 5) (qm V29 hr rfl (qc (qd 0) (qc (UH (qd 6) (qd 3)) (qc (zT (qd 6) (qd 3)) qg)))))) (qi (qQ 9 qZ.nd (qig (qX (zd hr.units) qJ (qA (qd 0) qh) zO (qG _)) (zT (qd 6) (qA (qd 0) qh)) (qI zc zM rfl m1 PySem.boot_len (qc (qd 8) qg)))) (qi (JL (KQ (qd 8) (qc (qmV (jj (qc N5 qg)) (NE (qT (qd 9) qh) (qI zc zM rfl m1 PySem.boot_len (qc (qd 8) qg)))) qg))) (qv (jc (qd 7) (T9 (qd 8) (qd 9)))))))) (qv (qw (qd 5))))))
abbrev ZQ:Stmt:=top 35
abbrev RE:List Str:=["_law_found","_law_due"]
abbrev DH:List Str:=["_law_found","_law_due"]
def MM:FnScope RE DH (ql ZQ):=Hd.sc0
def J6 (E:Hd.Fb K mg "_law_same" ZQ DH f fd) (read:Rd sp 2 (Bk.C1 S32) RE):Fn3 P w K mg base (k+1) "_law_same" sp:=
 Hd.jfE E MM read λcdv A outer s H E hr=>(qi (ji (EG (qbE (qd 1) rfl m33 rfl m22 PyProof.Rows.boot_list rfl m27 PyProof.Rows.boot_tuple)) (qi (ji (jpt (qhq (qX (M0 hr.units) SU (WE (qd 0) rfl m33 rfl m22 PyProof.Rows.boot_list) (WE (qd 1) rfl m33 rfl m22 PyProof.Rows.boot_list) (qG _)) (qbQ (qX (M0 hr.units) SU (WE (qd 0) rfl m33 rfl m27 PyProof.Rows.boot_tuple) (WE (qd 1) rfl m33 rfl m27 PyProof.Rows.boot_tuple) (qG _))))) (qv (qw qaE)) q5) (qv (qw (KI (JT (zd hr.units) qJ (qI zc zM rfl m1 PySem.boot_len (qc (qd 0) qg)) (qI zc zM rfl m1 PySem.boot_len (qc (qd 1) qg)) (qG _)) (N6 (qI (CM rfl) qgT rfl m34 PyProof.Rows.boot_all (qc (WZ ["_law_one","_law_other"] [none,none] rfl (qgn rfl m26 (qc (qd 0) (qc (qd 1) qg))) (λ_ _ _=>(zN rfl (qu (jgn 0) (qu (jgn 1) zQ)))) (λ_ _ _=>jx) (λ_ _ _=>(qm V32 hr rfl (qc (qd 0) (qc (qd 1) qg)))) (by kernel_rfl) (by kernel_rfl)) qg))))))) q5) (qi (ji (jpt (qhq (qX qbV MA (qd 1) N5 (qG _)) (qbQ (EG (qbE (qd 1) rfl m33 rfl m35 PyProof.Rows.boot_str rfl m36 PyProof.Rows.boot_bool))))) (qv (qw (KI (JT (zd hr.units) qJ (qd 0) (qd 1) (qG _)) (KI (JT (zd hr.units) qJ (WE (qd 0) rfl m33 rfl m36 PyProof.Rows.boot_bool) (WE (qd 1) rfl m33 rfl m36 PyProof.Rows.boot_bool) (qG _)) (N6 (JT (zd hr.units) qJ (JT qbV MA (qd 0) N5 (qG _)) (JT qbV MA (qd 1) N5 (qG _)) (qG _))))))) q5) (qv (qw (KI (WE (qd 0) rfl m33 rfl m37 PyProof.Rows.boot_int) (KI (qkq (WE (qd 0) rfl m33 rfl m36 PyProof.Rows.boot_bool)) (N6 (JT (zd hr.units) qJ (qd 0) (qd 1) (qG _)))))))))
abbrev zF:Stmt:=top 36
abbrev zX:List Str:=["_law_left_here","_law_some","_law_found","_law_rest","_law_turn"]
abbrev ZL:List Str:=["_law_left_here","_law_some"]
def QH:FnScope zX ZL (ql zF):=Hd.sc0
def ZM (S30:Sp3):TS3:=(qx (YQ 2 3 (qf (je qk) (qf (cb3 jb (qf (v3 1) qk)) qk))) (qx (WU (jf (qf (cb3 jC (qf (v3 1) qk)) qk)) (gn3 4) (qH (bm3 QI (v3 2) (qf (bm3 qiS (v3 3) (qf (cb3 S30 (qf (v3 0) (qf (cb3 jC (qf (v3 3) qk)) qk))) qk)) qk)))) (qP (v3 2))))
def WR (E:Hd.Fb K mg "_law_any_order" zF ZL f fd) (read:Rd sp 2 (ZM S30) zX):Fn3 P w K mg base (k+1) "_law_any_order" sp:=
 Hd.jfE E QH read λcdv A outer s H E hr=>(qi (qch (i:=2) (j:=3) rfl QH.nd rfl rfl (by decide) rfl rfl (qc (jj qg) (qc (j8 WI NZ rfl m22 PyProof.Rows.boot_list (qc (qd 1) qg)) qg))) (qi (JN PassesOwn.never rfl (qS rfl m2 (qc (qI zc zM rfl m1 PySem.boot_len (qc (qd 1) qg)) qg) (h1:=by intro _ _ _ h;simpa [qf,qk] using h)) (qt (i:=4) (QH.nd)) (qv (JL (YY (qd 2) (qc (qi3 (qd 3) (qc (qm V30 hr rfl (qc (qd 0) (qc (qI zc zM rfl m1 PySem.boot_len (qc (qd 3) qg)) qg))) qg)) qg))))) (qv (qw (qd 2)))))
abbrev jL:Stmt:=top 37
abbrev Z7:List Str:=["_law_left_here","_law_many","_law_way"]
abbrev YW:List Str:=["_law_left_here","_law_many"]
def EJ:FnScope Z7 YW (ql jL):=Hd.sc0
def VP (S30:Sp3):TS3:=(qx (qF (cb3 S30 (qf (v3 0) (qf (c3 (.int 4)) qk))) (gn3 2)) (qx (zD (tb3 (o3 (zt false) (v3 2) (c3 (.int 0)))) (qP (lc3 (jf (qf (v3 1) qk)) (gn3 0) tt3 (o3 (iI (·-·)) (o3 (iC QT (·*·)) (v3 0) (v3 0)) (c3 (.int 40))) [none])) qD) (qx (zD (tb3 (o3 (zt false) (v3 2) (c3 (.int 1)))) (qP (lc3 (jf (qf (v3 1) qk)) (gn3 0) tt3 (cb3 S30 (qf (v3 1) (qf (c3 (.int 3)) qk))) [none,some 0])) qD) (qP (lc3 (jf (qf (v3 1) qk)) (gn3 0) tt3 (o3 ix3 (je (qf (o3 (iI (·-·)) (cb3 S30 (qf (v3 2) (qf (o3 (iC RP (λi j=>i ^ j.toNat)) (c3 (.int 10)) (c3 (.int 6))) qk))) (c3 (.int 1000))) (qf (o3 zB (o3 (iC RP (λi j=>i ^ j.toNat)) (c3 (.int 10)) (c3 (.int 30))) (v3 0)) qk))) (o3 (iI (·-·)) (v3 1) (c3 (.int 2)))) [none,some 2,some 0])))))
def TC (E:Hd.Fb K mg "_law_worths" jL YW f fd) (read:Rd sp 2 (VP S30) Z7):Fn3 P w K mg base (k+1) "_law_worths" sp:=
 Hd.jfE E EJ read λcdv A outer s H E hr=>(qi (qQ 2 EJ.nd (qm V30 hr rfl (qc (qd 0) (qc qh qg)))) (qi (ji (qX (zd hr.units) qJ (qd 2) qh (qG _)) (qv (qw (WZ ["_law_n"] [none] rfl (qS rfl m2 (qc (qd 1) qg) (h1:=by intro _ _ _ h;simpa [qf,qk] using h)) (λ_ _ _=>(jgn 0)) (λ_ _ _=>jx) (λ_ _ _=>(NE (zP (qd 0) (qd 0)) qh)) (by kernel_rfl) (by kernel_rfl)))) q5) (qi (ji (qX (zd hr.units) qJ (qd 2) qh (qG _)) (qv (qw (WZ ["_law_n","_law_left_here"] [none,some 0] rfl (qS rfl m2 (qc (qd 1) qg) (h1:=by intro _ _ _ h;simpa [qf,qk] using h)) (λ_ _ _=>(jgn 0)) (λ_ _ _=>jx) (λ_ _ _=>(qm V30 hr rfl (qc (qd 1) (qc qh qg)))) (by kernel_rfl) (by kernel_rfl)))) q5) (qv (qw (WZ ["_law_n","_law_way","_law_left_here"] [none,some 2,some 0] rfl (qS rfl m2 (qc (qd 1) qg) (h1:=by intro _ _ _ h;simpa [qf,qk] using h)) (λ_ _ _=>(jgn 0)) (λ_ _ _=>jx) (λ_ _ _=>(qA (jj (qc (NE (qm V30 hr rfl (qc (qd 2) (qc (qbB qh qh) qg))) qh) (qc (qT (qbB qh qh) (qd 0)) qg))) (NE (qd 1) qh))) (by kernel_rfl) (by kernel_rfl)))))))
abbrev VE:Stmt:=top 38
abbrev qdK:List Str:=["_law_script","_law_k","_law_left_here","_law_dealing","_law_rows","_law_worths_here","_law_memory_here","_law_due","_law_singles","_law_i","_law_loose","_law_plan","_law_kept","_law_found","_law_bank_here"]
abbrev qmZ:List Str:=["_law_script"]
def ZR:FnScope qdK qmZ (ql VE):=Hd.sc0
def qhF (S38:Sp3) (S39:Sp3) (S25:Sp3) (S40:Sp3) (S41:Sp3) (S30:Sp3) (S42:Sp3) (S43:Sp3) (S44:Sp3) (S32:Sp3):TS3:=(qx (WU (jf (qf (o3 zB (c3 (.int 1)) (cb3 V2 (qf (c3 (.int 5)) (qf (cb3 jC (qf (v3 0) qk)) qk)))) qk)) (gn3 1) (qx (qF (cb3 S38 (qf (v3 0) (qf (v3 1) qk))) (gn3 2)) (qx (qF (cb3 S39 (qf (v3 2) qk)) (gn3 3)) (qx (qF (o3 ix3 (cb3 S25 (qf (v3 3) qk)) (c3 (.int 0))) (gn3 4)) (qx (qF (cb3 S40 (qf (v3 2) (qf (o3 (iC QT (·*·)) (v3 4) (v3 4)) qk))) (gn3 5)) (qx (qF (cb3 S41 (qf (v3 3) (qf (v3 5) qk))) (gn3 6)) (qx (qF (cb3 S41 (qf (v3 3) (qf (lc3 (jf (qf (o3 (iC QT (·*·)) (v3 4) (v3 4)) qk)) (gn3 0) tt3 (o3 ix3 (v3 1) (o3 zB (o3 (iC QT (·*·)) (o3 (iC (λ_ j=>0<j) (·%·)) (v3 0) (v3 2)) (v3 2)) (o3 (iC RY (·/·)) (v3 0) (v3 2)))) [none,some 5,some 4]) qk))) (gn3 7)) (qx (qF (je qk) (gn3 8)) (qx (WU (jf (qf (v3 4) qk)) (gn3 9) (qH (bm3 JW (v3 8) (qf (lc3 (jf (qf (o3 zB (v3 9) (c3 (.int 1))) (qf (v3 4) qk))) (gn3 0) tt3 (je (qf (jo (qf (v3 1) (qf (v3 0) qk))) qk)) [none,some 9]) qk)))) (qx (qF (cb3 S42 (qf (v3 2) (qf (o3 zB (v3 8) (lc3 (jf (qf (cb3 S30 (qf (v3 2) (qf (c3 (.int 4)) qk))) qk)) (gn3 0) tt3 (je qk) [none])) qk))) (gn3 10)) (WU (VI (jo (qf (cb3 S43 (qf (v3 3) qk)) (qf (cb3 S42 (qf (v3 2) (qf (v3 8) qk))) (qf (v3 10) qk))))) (gn3 11) (qx (qF (cb3 (MQ true) (qf (je (qf (v3 3) (qf (v3 11) (qf (v3 6) qk)))) qk)) (gn3 12)) (qx (qF (cb3 S44 (qf (v3 3) (qf (v3 11) (qf (v3 6) qk)))) (gn3 13)) (qx (zD (or3 (YN (tb3 (cb3 S32 (qf (v3 13) (qf (v3 7) qk))))) (tb3 (o3 (zt true) (cb3 (MQ true) (qf (je (qf (v3 3) (qf (v3 11) (qf (v3 6) qk)))) qk)) (v3 12)))) (qP (c3 (.bl false))) qD) (qx (zD (YN (tb3 (cb3 S32 (qf (cb3 S44 (qf (v3 3) (qf (v3 11) (qf (v3 13) qk)))) (qf (v3 6) qk))))) (qP (c3 (.bl false))) qD) (qx (WU (VI (v3 13)) (gn3 14) (qH (bm3 QI (v3 14) (qf (c3 (.int 7)) qk)))) (qx (qH (qi1 qho (v3 13))) (zD (YN (tb3 (cb3 S32 (qf (cb3 S44 (qf (v3 3) (qf (v3 11) (qf (v3 6) qk)))) (qf (v3 7) qk))))) (qP (c3 (.bl false))) qD)))))))))))))))))) (qP (c3 (.bl true))))
def qlq (F:Fun K "law" "law" VE f fd) (read:Rd sp 1 (qhF S38 S39 S25 S40 S41 S30 S42 S43 S44 S32) qdK):FnOk P w K mg base CX0 (k+1) f fd qmZ (lSp K sp):=
 qdV (t3:=(qhF S38 S39 S25 S40 S41 S30 S42 S43 S44 S32)) F ZR (λcdv A outer s H E hr=>(qi (JN PassesOwn.never rfl (qS rfl m2 (qc (qT qh (qI (qbP rfl) qiz rfl m45 PyProof.Rows.boot_min (qc qh (qc (qI zc zM rfl m1 PySem.boot_len (qc (qd 0) qg)) qg)))) qg) (h1:=by intro _ _ _ h;simpa [qf,qk] using h)) (qt (i:=1) (ZR.nd)) (qi (qQ 2 ZR.nd (qm V38 hr rfl (qc (qd 0) (qc (qd 1) qg)))) (qi (qQ 3 ZR.nd (qm V39 hr rfl (qc (qd 2) qg))) (qi (qQ 4 ZR.nd (qA (qm V25 hr rfl (qc (qd 3) qg)) qh)) (qi (qQ 5 ZR.nd (qm V40 hr rfl (qc (qd 2) (qc (zP (qd 4) (qd 4)) qg)))) (qi (qQ 6 ZR.nd (qm V41 hr rfl (qc (qd 3) (qc (qd 5) qg)))) (qi (qQ 7 ZR.nd (qm V41 hr rfl (qc (qd 3) (qc (WZ ["_law_n","_law_worths_here","_law_rows"] [none,some 5,some 4] rfl (qS rfl m2 (qc (zP (qd 4) (qd 4)) qg) (h1:=by intro _ _ _ h;simpa [qf,qk] using h)) (λ_ _ _=>(jgn 0)) (λ_ _ _=>jx) (λ_ _ _=>(qA (qd 1) (qT (zP (zT (qd 0) (qd 2)) (qd 2)) (UH (qd 0) (qd 2))))) (by kernel_rfl) (by kernel_rfl)) qg)))) (qi (qQ 8 ZR.nd (jj qg)) (qi (JN PassesOwn.never rfl (qS rfl m2 (qc (qd 4) qg) (h1:=by intro _ _ _ h;simpa [qf,qk] using h)) (qt (i:=9) (ZR.nd)) (qv (JL (KQ (qd 8) (qc (WZ ["_law_j","_law_i"] [none,some 9] rfl (LF rfl m2 (qc (qT (qd 9) qh) (qc (qd 4) qg)) (h1:=by intro _ _ _ h;simpa [qf,qk] using h)) (λ_ _ _=>(jgn 0)) (λ_ _ _=>jx) (λ_ _ _=>(jj (qc (zk (qc (qd 1) (qc (qd 0) qg))) qg))) (by kernel_rfl) (by kernel_rfl)) qg))))) (qi (qQ 10 ZR.nd (qm V42 hr rfl (qc (qd 2) (qc (qT (qd 8) (WZ ["_law_turn"] [none] rfl (qS rfl m2 (qc (qm V30 hr rfl (qc (qd 2) (qc qh qg))) qg) (h1:=by intro _ _ _ h;simpa [qf,qk] using h)) (λ_ _ _=>(jgn 0)) (λ_ _ _=>jx) (λ_ _ _=>(jj qg)) (by kernel_rfl) (by kernel_rfl))) qg)))) (qv (JN PassesOwn.never rfl (EH (zk (qc (qm V43 hr rfl (qc (qd 3) qg)) (qc (qm V42 hr rfl (qc (qd 2) (qc (qd 8) qg))) (qc (qd 10) qg))))) (qt (i:=11) (ZR.nd)) (qi (qQ 12 ZR.nd (j8 (XO hr.gd hr.units) qaf rfl m35 PyProof.Rows.boot_str (qc (jj (qc (qd 3) (qc (qd 11) (qc (qd 6) qg)))) qg))) (qi (qQ 13 ZR.nd (qm V44 hr rfl (qc (qd 3) (qc (qd 11) (qc (qd 6) qg))))) (qi (ji (jpt (qhq (M6 (EG (qm V32 hr rfl (qc (qd 13) (qc (qd 7) qg))))) (qbQ (qX (M0 hr.units) SU (j8 (XO hr.gd hr.units) qaf rfl m35 PyProof.Rows.boot_str (qc (jj (qc (qd 3) (qc (qd 11) (qc (qd 6) qg)))) qg)) (qd 12) (qG _))))) (qv (qw qaE)) q5) (qi (ji (M6 (EG (qm V32 hr rfl (qc (qm V44 hr rfl (qc (qd 3) (qc (qd 11) (qc (qd 13) qg)))) (qc (qd 6) qg))))) (qv (qw qaE)) q5) (qi (JN PassesOwn.never rfl (EH (qd 13)) (qt (i:=14) (ZR.nd)) (qv (JL (YY (qd 14) (qc qh qg))))) (qi (JL (qaw (qd 13))) (qv (ji (M6 (EG (qm V32 hr rfl (qc (qm V44 hr rfl (qc (qd 3) (qc (qd 11) (qc (qd 6) qg)))) (qc (qd 7) qg))))) (qv (qw qaE)) q5)))))))))))))))))))) (qv (qw qaE)))) read
end
end K72
namespace K72
open PySem L2 L3 Pu
def J7:PuS (K72.U5 (Bk.zl 3)):=(C6 (K4 (zh (fSz 2) (qj (bV 0) qM)) (LW 3 (jg (gN 1) (jg (gN 2) (jg (gN 3) MC)))) [true] ⟨rfl⟩) (qdw (qjV (TZ (qj (bV 1) qM)) (gN 0) bTt (TZ (qj (bV 2) qM)) (gN 1) bTt (NX (qj (bV 0) (qj (bV 1) qM)) ⟨rfl⟩) [none,none,some 2] ⟨rfl⟩ ⟨rfl⟩ ⟨rfl⟩)))
def jX:List PyData->Option PyData:=Pu.run J7.f 1 4 1000000000 true
def LJ:Rd (PSp jX true) 1 (K72.U5 (Bk.zl 3)) YF:=JF J7 YF 1 1000000000 true
def KF {x0:PyData}:jX [x0]=TW true (J7.f 1000000000 [.sh x0,.un,.un,.un]):=id rfl
def QN:PuS (K72.J9):=(C6 (K4 (bSl (bV 0) (bSp (z9 1)) bNp) (LW 4 (jg (gN 1) (jg (gN 2) (jg (gN 3) (jg (gN 4) MC))))) [true] ⟨rfl⟩) (qdw (bLc (TZ (qj (bO (opC QT (·*·)) (bV 1) (bV 2)) qM)) (gN 0) bTt (NX (qj (bO (opC (λ_ j=>0<j) (·%·)) (bV 0) (bV 1)) (qj (bO (opC (λ_ j=>0<j) (·%·)) (bV 0) (bV 2)) qM)) ⟨rfl⟩) [none,some 3,some 4] ⟨rfl⟩)))
def ja:List PyData->Option PyData:=Pu.run QN.f 1 5 1000000000 true
def CN:Rd (PSp ja true) 1 (K72.J9) QJ:=JF QN QJ 1 1000000000 true
def CW {x0:PyData}:ja [x0]=TW true (QN.f 1000000000 [.sh x0,.un,.un,.un,.un]):=id rfl
def jD:PuS (K72.QY (PSp jX true) (Bk.jY 3)):=(C6 (qe7 1) (C6 (qip (MK qM ⟨rfl⟩) 2 [] ⟨rfl⟩) (C6 (qhD (qdC (zh (DE jX true) (qj (bV 0) qM))) (gN 3) (C6 (qip (zh (fBi 2) (qj (bV 0) (qj (bV 3) qM))) 4 [true,false,false,true] ⟨rfl⟩) (C6 (qjR 5 1 (bV 4) (z9 0)) (C6 (qqZ (NX (qj (bV 4) (qj (bV 5) qM)) ⟨rfl⟩) 2 [false,false,false,false,true,true] ⟨rfl⟩) (qkK (bO DK (bV 5) (z9 1)) 1 (bV 4) [false,false,false,false,false,true] ⟨rfl⟩)))) [true] ⟨rfl⟩) (qhk 2))))
def zm:List PyData->Option PyData:=Pu.run jD.f 1 6 1000000000 true
def WV:Rd (PSp zm true) 1 (K72.QY (PSp jX true) (Bk.jY 3)) zY:=JF jD zY 1 1000000000 true
def WW {x0:PyData}:zm [x0]=TW true (jD.f 1000000000 [.sh x0,.un,.un,.un,.un,.un]):=id rfl
def JR:PuS (K72.DU (PSp ja true) (PSp zm true)):=(C6 (sIf (bTb (bO (qaK false) (bO LA (bV 0) (z9 0)) (qdz "rests"))) (qdw (zh (DE ja true) (qj (bV 0) qM))) qbw) (qdw (zh (DE zm true) (qj (bV 0) qM))))
def QU:List PyData->Option PyData:=Pu.run JR.f 1 1 1000000000 false
def L7:Rd (PSp QU false) 1 (K72.DU (PSp ja true) (PSp zm true)) VT:=JF JR VT 1 1000000000 false
def CF {x0:PyData}:QU [x0]=TW false (JR.f 1000000000 [.sh x0]):=id rfl
def J3:PuS (K72.UQ (Bk.zl 3)):=(C6 (K4 (zh (fSz 2) (qj (bV 0) qM)) (LW 3 (jg (gN 1) (jg (gN 2) (jg (gN 3) MC)))) [true] ⟨rfl⟩) (qdw (bO (qaK false) (bV 1) (bV 2))))
def j3:List PyData->Option PyData:=Pu.run J3.f 1 4 1000000000 false
def T1:Rd (PSp j3 false) 1 (K72.UQ (Bk.zl 3)) YJ:=JF J3 YJ 1 1000000000 false
def T8 {x0:PyData}:j3 [x0]=TW false (J3.f 1000000000 [.sh x0,.un,.un,.un]):=id rfl
def zA:PuS (K72.js (PSp j3 false)):=(sIf (qmO (bTb (zh (DE j3 false) (qj (bV 0) qM)))) qrY qbw)
def qC:List PyData->Option PyData:=Pu.run zA.f 1 1 1000000000 false
def V5:Rd (PSp qC false) 1 (K72.js (PSp j3 false)) qU:=JF zA qU 1 1000000000 false
def UA {x0:PyData}:qC [x0]=TW false (zA.f 1000000000 [.sh x0]):=id rfl
def YC:PuS (K72.U0 (Bk.zl 3)):=(C6 (K4 (zh (fSz 2) (qj (bV 0) qM)) (LW 3 (jg (gN 1) (jg (gN 2) (jg (gN 3) MC)))) [true] ⟨rfl⟩) (qdw (qjV (TZ (qj (bV 1) qM)) (gN 0) bTt (TZ (qj (bO DK (bV 0) (z9 1)) (qj (bV 2) qM))) (gN 1) bTt (NX (qj (bV 0) (qj (bV 1) qM)) ⟨rfl⟩) [none,none,some 2] ⟨rfl⟩ ⟨rfl⟩ ⟨rfl⟩)))
def jW:List PyData->Option PyData:=Pu.run YC.f 1 4 1000000000 true
def KW:Rd (PSp jW true) 1 (K72.U0 (Bk.zl 3)) ZO:=JF YC ZO 1 1000000000 true
def K3 {x0:PyData}:jW [x0]=TW true (YC.f 1000000000 [.sh x0,.un,.un,.un]):=id rfl
def ZU:PuS (K72.YT (Bk.jY 3)):=(qdw (qjV (qdC (bV 1)) (LW 2 (jg (gN 0) (jg (gN 1) MC))) bTt (qdC (MK (qj (NX (qj (bV 0) (qj (bV 1) qM)) ⟨rfl⟩) (qj (NX (qj (bV 1) (qj (bV 0) qM)) ⟨rfl⟩) qM)) ⟨rfl⟩)) (gN 2) bTt (zh (fBi 2) (qj (bV 3) (qj (bV 2) qM))) [none,none,none,some 0] ⟨rfl⟩ ⟨rfl⟩ ⟨rfl⟩))
def jw:List PyData->Option PyData:=Pu.run ZU.f 2 2 1000000000 true
def SF:Rd (PSp jw true) 2 (K72.YT (Bk.jY 3)) JD:=JF ZU JD 2 1000000000 true
def SM {x0 x1:PyData}:jw [x0,x1]=TW true (ZU.f 1000000000 [.sh x0,.sh x1]):=id rfl
def EF:PuS (K72.CA (PSp jw true)):=(C6 (qip (zh (DE jw true) (qj (bV 0) (qj (bV 1) qM))) 2 [true,true] ⟨rfl⟩) (qdw (qoB (bO (opB λi j=>decide (i<j)) (zh qfv (qj (bV 1) qM)) (z9 2)) (bO (qaK false) (qnF (bV 2)) (zh qfv (qj (bV 2) qM))))))
def ZF:List PyData->Option PyData:=Pu.run EF.f 2 3 1000000000 false
def qaP:Rd (PSp ZF false) 2 (K72.CA (PSp jw true)) VQ:=JF EF VQ 2 1000000000 false
def qav {x0 x1:PyData}:ZF [x0,x1]=TW false (EF.f 1000000000 [.sh x0,.sh x1,.un]):=id rfl
def ZT:PuS (K72.VH (PSp ZF false)):=(C6 (qhD (qdM (qj (bV 1) qM)) (LW 2 (jg (gN 3) (jg (gN 4) MC))) (sIf (bTb (zh (DE ZF false) (qj (bV 0) (qj (bO qcQ (bV 4) (MK (qj (bV 2) qM) ⟨rfl⟩)) qM)))) (qhk 3) qbw) [false,true] ⟨rfl⟩) (qdw (zh qfv (qj (bV 1) qM))))
def jy:List PyData->Option PyData:=Pu.run ZT.f 3 5 1000000000 false
def RW:Rd (PSp jy false) 3 (K72.VH (PSp ZF false)) j7:=JF ZT j7 3 1000000000 false
def TH {x0 x1 x2:PyData}:jy [x0,x1,x2]=TW false (ZT.f 1000000000 [.sh x0,.sh x1,.sh x2,.un,.un]):=id rfl
def YB:PuN (K72.UZ (PSp qC false) (PSp jW true) (PSp jy false)):=(qa4 (qhI (zh (DE qC false) (qj (bV 0) qM))) (qa4 (qqX 1) (qa4 (qhD (qdC (zh (DE jW true) (qj (bV 0) qM))) (gN 2) (C6 (qip (zh (DE jy false) (qj (bV 0) (qj (bV 1) (qj (bV 2) qM)))) 3 [true,true,true] ⟨rfl⟩) (C6 (sIf (bTb (bO (qaK false) (bV 3) (zh qfv (qj (bV 1) qM)))) (qfQ qM 1 [] ⟨rfl⟩) qbw) (qfq (bV 3) (bV 2) 1 [false,false,true] ⟨rfl⟩))) [true] ⟨rfl⟩) (qex 1))))
def jq:List PyData->Option (PyData ⊕ List (List PyData)):=Pu.qkO YB.f 1 4 1000000000
def KC:Rd (PNp jq) 1 (K72.UZ (PSp qC false) (PSp jW true) (PSp jy false)) Q7:=L6 YB Q7 1 1000000000
def K8 {x0:PyData}:jq [x0]=YB.f 1000000000 [.sh x0,.un,.un,.un]:=id rfl
def XA:PuN (K72.SY (PSp qC false) (PSp QU false) (Bk.j6 2)):=(qa4 (qhI (zh (DE qC false) (qj (bV 0) qM))) (qa4 (qip (zh (DE QU false) (qj (bV 0) qM)) 3 [true] ⟨rfl⟩) (qa4 (qqc (qdC (bV 2)) (gN 0) (zh qoS (qj (bV 0) qM)) [none] 4 ⟨rfl⟩ ⟨rfl⟩) (qa4 (qhD (qdC (bV 1)) (gN 5) (qhD (qdC (bV 5)) (LW 2 (jg (gN 6) (jg (gN 7) MC))) (C6 (K4 (bO LA (bV 3) (zh (fNu 2) (qj (bV 0) (qj (NX (qj (bV 6) (qj (bV 7) qM)) ⟨rfl⟩) qM)))) (LW 2 (jg (gN 8) (jg (gN 9) MC))) [true,false,false,true,false,false,true,true] ⟨rfl⟩) (C6 (K4 (bO LA (bV 3) (zh (fNu 2) (qj (bV 0) (qj (NX (qj (bV 7) (qj (bV 6) qM)) ⟨rfl⟩) qM)))) (LW 2 (jg (gN 10) (jg (gN 11) MC))) [true,false,false,true,false,false,true,true] ⟨rfl⟩) (C6 (qip (bO LA (bO LA (bV 4) (bV 8)) (bV 9)) 12 [false,false,false,false,true,false,false,false,true,true] ⟨rfl⟩) (C6 (MF (bO LA (bO LA (bV 4) (bV 10)) (bV 11)) 4 (bV 8) (bV 9)) (MF (bV 12) 4 (bV 10) (bV 11)))))) [false,false,false,false,false,true] ⟨rfl⟩) [false,true] ⟨rfl⟩) (qex 4)))))
def JA:List PyData->Option (PyData ⊕ List (List PyData)):=Pu.qkO XA.f 3 13 1000000000
def qdu:Rd (PNp JA) 3 (K72.SY (PSp qC false) (PSp QU false) (Bk.j6 2)) XB:=L6 XA XB 3 1000000000
def qcs {x0 x1 x2:PyData}:JA [x0,x1,x2]=XA.f 1000000000 [.sh x0,.sh x1,.sh x2,.un,.un,.un,.un,.un,.un,.un,.un,.un,.un]:=id rfl
def ZI:=((wIf (cOf (bTb (bO (opB λi j=>decide (j<i)) (zh qqO (qj (bV 3) (qj (bV 4) qM))) (z9 1)))) (MI (eOf (bO DK (bV 4) (z9 1))) 4 [false,false,false,false,true] ⟨rfl⟩ ⟨rfl⟩) XH):PwS 0 _)
def ZK:=((eDr YI (aOf (qj (bO LA (MK (qj (z9 1) (qj (z9 4) (qj (z9 16) (qj (z9 64) qM)))) ⟨rfl⟩) (bV 2)) qM))):PwE 1 _)
def ZB:=((eDr YI (aOf (qj (bV 2) qM))):PwE 1 _)
def ZG:=((qhZ qn1 (jB (eLc 1 (iOf (TZ (qj (bV 3) qM))) (gN 0) (cOf bTt) ZB [none,some 1,some 2] ⟨rfl⟩ ⟨rfl⟩) (aOf qM))):PwE 1 _)
def JB:PwS 0 (K72.VR Bk.zi Bk.VU):=(U2 (MI (eO DK (eOf (z9 1)) (eDr YI (jB (eO LA (eOf (MK (qj (z9 8) (qj (z9 8) (qj (z9 8) (qj (z9 8) (qj (z9 8) (qj (z9 8) (qj (z9 8) (qj (z9 16) qM)))))))) ⟨rfl⟩)) (eDr YI (aOf (qj (z9 8) qM)))) (aOf qM)))) 1 [] ⟨rfl⟩ ⟨rfl⟩) (U2 (qlC (qf2 (jB (eDr YI (aOf (qj (z9 6) qM))) (jB (eO DK (eOf (z9 1)) (eDr YI (jB (eO LA (eOf (MK (qj (z9 4) (qj (z9 9) (qj (z9 17) (qj (z9 32) qM)))) ⟨rfl⟩)) (eDr YI (aOf (qj (z9 4) qM)))) (aOf qM)))) (aOf qM))) ⟨rfl⟩) (LW 2 (jg (gN 2) (jg (gN 3) MC))) [] ⟨rfl⟩ ⟨rfl⟩) (U2 (wIf (cOf (bTb (bO (opB λi j=>decide (i<j)) (bV 2) (z9 2)))) (qaQ (qf2 (jB (eOf (qdz "skew")) (jB (eOf (bV 1)) (jB (eOf (bV 1)) (jB (eOf (bV 3)) (jB (eDr YI (aOf (qj (z9 20) qM))) (jB (eDr YI (aOf (qj (z9 20) qM))) (aOf qM))))))) ⟨rfl⟩)) XH) (U2 (wIf (cOf (bTb (bO (qaK false) (bV 2) (z9 2)))) (U2 (MI (eOf (qoe (bO (opC RY (·/·)) (bO (opC QT (·*·)) (qoe (bV 1)) (bV 1)) (bV 3)))) 4 [false,true,false,true] ⟨rfl⟩ ⟨rfl⟩) (U2 (qjm (iOf (TZ (qj (z9 32) qM))) (gN 5) ZI [] ⟨rfl⟩ ⟨rfl⟩) (qaQ (eOf (NX (qj (qdz "rests") (qj (bV 1) (qj (bV 1) (qj (bV 3) (qj (bV 4) qM))))) ⟨rfl⟩))))) XH) (U2 (wIf (cOf (bTb (bO (qaK false) (bV 2) (z9 3)))) (U2 (MI (eDr YI (aOf (qj (z9 4) qM))) 6 [] ⟨rfl⟩ ⟨rfl⟩) (U2 (MI (eLc 1 (iR (jB (eDr YI (aOf (qj (z9 6) qM))) (aOf qM))) (gN 0) (cOf bTt) ZK [none,some 0,some 6] ⟨rfl⟩ ⟨rfl⟩) 7 [false,false,false,false,false,false,true] ⟨rfl⟩ ⟨rfl⟩) (qaQ (eOf (NX (qj (qdz "bits") (qj (bV 6) (qj (bV 6) (qj (zh qn1 (qj (bV 7) qM)) qM)))) ⟨rfl⟩))))) XH) (U2 (wIf (cOf (bTb (bO (qaK false) (bV 2) (z9 4)))) (qaQ (qf2 (jB (eOf (qdz "joined")) (jB (qf2 (jB (eOf (qdz "skew")) (jB (eOf (z9 2)) (jB (eOf (z9 2)) (jB (eOf (z9 3)) (jB (eOf (z9 1)) (jB (eDr YI (aOf (qj (z9 3) qM))) (aOf qM))))))) ⟨rfl⟩) (aOf (qj (NX (qj (qdz "skew") (qj (bO DK (z9 1) (bO (opC (λ_ j=>0<j) (·%·)) (bV 1) (z9 4))) (qj (bO DK (z9 1) (bO (opC (λ_ j=>0<j) (·%·)) (bV 1) (z9 4))) (qj (bO DK (z9 1) (bO (opC (λ_ j=>0<j) (·%·)) (bV 3) (z9 5))) (qj (z9 1) (qj (z9 2) qM)))))) ⟨rfl⟩) qM)))) ⟨rfl⟩)) XH) (qaQ (qf2 (jB (eOf (qdz "table")) (jB (eOf (bV 3)) (jB (qhZ qn1 (jB (eLc 1 (iOf (TZ (qj (bV 1) qM))) (gN 0) (cOf bTt) ZG [none,some 0,some 3,some 1] ⟨rfl⟩ ⟨rfl⟩) (aOf qM))) (aOf qM)))) ⟨rfl⟩))))))))
def jv:Wm:=qod JB 1 8 false
def S4:Rd (DSp jv.W false) 1 (K72.VR Bk.zi Bk.VU) ZV:=MD JB ZV 1 false
def RV {n:Nat} {Q:QD}:jv.W [] n Q=(0+1=1/\JB.w [.un,.un,.un,.un,.un,.un,.un,.un] n (qiQ false Q)):=id rfl
def ZW:PuN (K72.VG (Bk.zV 3) (Bk.QZ 3)):=(qa4 (K4 (zh (qpY 2) (qj (bV 0) qM)) (LW 3 (jg (gN 2) (jg (gN 3) (jg (gN 4) MC)))) [true] ⟨rfl⟩) (qa4 (qqc (TZ (qj (bV 4) qM)) (gN 0) (MK qM ⟨rfl⟩) [none] 5 ⟨rfl⟩ ⟨rfl⟩) (qa4 (qhD (qdM (qj (bV 1) qM)) (LW 2 (jg (gN 6) (jg (gN 7) MC))) (qmf 5 8 9 7 (zh (qqH 2) (qj (bV 0) (qj (bO (opC RY (·/·)) (bV 6) (bV 3)) (qj (bO (opC (λ_ j=>0<j) (·%·)) (bV 6) (bV 3)) qM)))) (bTb (bO (qaK false) (bO LA (bV 0) (z9 0)) (qdz "rests"))) (bO (opC (λ_ j=>0<j) (·%·)) (bV 6) (bO LA (bV 0) (z9 4))) ⟨rfl⟩) [false,true] ⟨rfl⟩) (qex 5))))
def zr:List PyData->Option (PyData ⊕ List (List PyData)):=Pu.qkO ZW.f 2 10 1000000000
def TU:Rd (PNp zr) 2 (K72.VG (Bk.zV 3) (Bk.QZ 3)) JE:=L6 ZW JE 2 1000000000
def SG {x0 x1:PyData}:zr [x0,x1]=ZW.f 1000000000 [.sh x0,.sh x1,.un,.un,.un,.un,.un,.un,.un,.un]:=id rfl
def jK:=((qdd (eDr YI (aOf (qj (zh qfv (qj (bV 3) qM)) qM))) 2 3 [false,false,false,true] ⟨rfl⟩ ⟨rfl⟩):PwS 0 _)
def jN:PwS 0 (K72.ZM Bk.zi):=(U2 (qjF (MK qM ⟨rfl⟩) (zh qoS (qj (bV 1) qM)) 2 3 [false,true] ⟨rfl⟩ ⟨rfl⟩ ⟨rfl⟩ ⟨rfl⟩ ⟨rfl⟩ ⟨rfl⟩) (U2 (qjm (iOf (TZ (qj (zh qfv (qj (bV 1) qM)) qM))) (gN 4) jK [false,true] ⟨rfl⟩ ⟨rfl⟩) (qi6 2)))
def zb:Wm:=qod jN 2 5 true
def W4:Rd (DSp zb.W true) 2 (K72.ZM Bk.zi) zX:=MD jN zX 2 true
def WT {x0:PyData} {n:Nat} {Q:QD}:zb.W [x0] n Q=(2=2/\jN.w [.un,.sh x0,.un,.un,.un] n (qiQ true Q)):=id rfl
def Q8:=((eDr YI (aOf (qj (z9 3) qM))):PwE 1 _)
def ZD:=((eO LA (qqM (jB (eO (opI (·-·)) (eDr YI (aOf (qj (bO (opC RP (λi j=>i ^ j.toNat)) (z9 10) (z9 6)) qM))) (eOf (z9 1000))) (aOf (qj (bO DK (bO (opC RP (λi j=>i ^ j.toNat)) (z9 10) (z9 30)) (bV 0)) qM))) ⟨rfl⟩) (eOf (bO (opI (·-·)) (bV 1) (z9 2)))):PwE 2 _)
def Z0:PwS 0 (K72.VP Bk.zi):=(U2 (MI (eDr YI (aOf (qj (z9 4) qM))) 2 [] ⟨rfl⟩ ⟨rfl⟩) (U2 (wIf (cOf (bTb (bO (qaK false) (bV 2) (z9 0)))) (qaQ (eOf (bLc (TZ (qj (bV 1) qM)) (gN 0) bTt (bO (opI (·-·)) (bO (opC QT (·*·)) (bV 0) (bV 0)) (z9 40)) [none] ⟨rfl⟩))) XH) (U2 (wIf (cOf (bTb (bO (qaK false) (bV 2) (z9 1)))) (qaQ (eLc 1 (iOf (TZ (qj (bV 1) qM))) (gN 0) (cOf bTt) Q8 [none,some 0] ⟨rfl⟩ ⟨rfl⟩)) XH) (qaQ (eLc 2 (iOf (TZ (qj (bV 1) qM))) (gN 0) (cOf bTt) ZD [none,some 2,some 0] ⟨rfl⟩ ⟨rfl⟩)))))
def jA:Wm:=qod Z0 2 3 true
def RX:Rd (DSp jA.W true) 2 (K72.VP Bk.zi) Z7:=MD Z0 Z7 2 true
def TX {x0:PyData} {n:Nat} {Q:QD}:jA.W [x0] n Q=(2=2/\Z0.w [.un,.sh x0,.un] n (qiQ true Q)):=id rfl
def qor (zc7:Sp3) (zc6:Sp3) (zc8:Sp3) (zc1:Sp3) (zc4:Sp3) (zb9:Sp3) (zd3:Sp3) (zd4:Sp3) (zc5:Sp3):TS3:=(qx (qF (cb3 zc7 (qf (v3 2) qk)) (gn3 3)) (qx (qF (o3 ix3 (cb3 zc6 (qf (v3 3) qk)) (c3 (.int 0))) (gn3 4)) (qx (qF (cb3 zc8 (qf (v3 2) (qf (o3 (iC QT (·*·)) (v3 4) (v3 4)) qk))) (gn3 5)) (qx (qF (cb3 zc1 (qf (v3 3) (qf (v3 5) qk))) (gn3 6)) (qx (qF (cb3 zc1 (qf (v3 3) (qf (lc3 (jf (qf (o3 (iC QT (·*·)) (v3 4) (v3 4)) qk)) (gn3 0) tt3 (o3 ix3 (v3 1) (o3 zB (o3 (iC QT (·*·)) (o3 (iC (λ_ j=>0<j) (·%·)) (v3 0) (v3 2)) (v3 2)) (o3 (iC RY (·/·)) (v3 0) (v3 2)))) [none,some 5,some 4]) qk))) (gn3 7)) (qx (qF (je qk) (gn3 8)) (qx (WU (jf (qf (v3 4) qk)) (gn3 9) (qH (bm3 JW (v3 8) (qf (lc3 (jf (qf (o3 zB (v3 9) (c3 (.int 1))) (qf (v3 4) qk))) (gn3 0) tt3 (je (qf (jo (qf (v3 1) (qf (v3 0) qk))) qk)) [none,some 9]) qk)))) (qx (qF (cb3 zb9 (qf (v3 2) (qf (o3 zB (v3 8) (lc3 (jf (qf (cb3 zc4 (qf (v3 2) (qf (c3 (.int 4)) qk))) qk)) (gn3 0) tt3 (je qk) [none])) qk))) (gn3 10)) (WU (VI (jo (qf (cb3 zd3 (qf (v3 3) qk)) (qf (cb3 zb9 (qf (v3 2) (qf (v3 8) qk))) (qf (v3 10) qk))))) (gn3 11) (qx (qF (cb3 (MQ true) (qf (je (qf (v3 3) (qf (v3 11) (qf (v3 6) qk)))) qk)) (gn3 12)) (qx (qF (cb3 zd4 (qf (v3 3) (qf (v3 11) (qf (v3 6) qk)))) (gn3 13)) (qx (zD (or3 (YN (tb3 (cb3 zc5 (qf (v3 13) (qf (v3 7) qk))))) (tb3 (o3 (zt true) (cb3 (MQ true) (qf (je (qf (v3 3) (qf (v3 11) (qf (v3 6) qk)))) qk)) (v3 12)))) (qP (c3 (.bl false))) qD) (qx (zD (YN (tb3 (cb3 zc5 (qf (cb3 zd4 (qf (v3 3) (qf (v3 11) (qf (v3 13) qk)))) (qf (v3 6) qk))))) (qP (c3 (.bl false))) qD) (qx (WU (VI (v3 13)) (gn3 14) (qH (bm3 QI (v3 14) (qf (c3 (.int 7)) qk)))) (qx (qH (qi1 qho (v3 13))) (zD (YN (tb3 (cb3 zc5 (qf (cb3 zd4 (qf (v3 3) (qf (v3 11) (qf (v3 6) qk)))) (qf (v3 7) qk))))) (qP (c3 (.bl false))) qD))))))))))))))))
def RR:=((qqz (eOf (bLc (TZ (qj (bO DK (bV 9) (z9 1)) (qj (bV 4) qM))) (gN 0) bTt (MK (qj (NX (qj (bV 1) (qj (bV 0) qM)) ⟨rfl⟩) qM) ⟨rfl⟩) [none,some 9] ⟨rfl⟩)) 8 [false,false,false,false,true,false,false,false,false,true] ⟨rfl⟩ ⟨rfl⟩):PwS 2 _)
def R6:=((U2 (MI (eOf (zh (qef true) (qj (MK (qj (bV 3) (qj (bV 11) (qj (bV 6) qM))) ⟨rfl⟩) qM))) 12 [false,false,false,true,false,false,true,false,false,false,false,true] ⟨rfl⟩ ⟨rfl⟩) (U2 (qng JA (qj (bV 3) (qj (bV 11) (qj (bV 6) qM))) 13 [false,false,false,true,false,false,true,false,false,false,false,true] ⟨rfl⟩ ⟨rfl⟩) (U2 (wIf (cOf (bOr (qmO (bTb (zh (qej 3) (qj (bV 13) (qj (bV 7) qM))))) (bTb (bO (qaK true) (zh (qef true) (qj (MK (qj (bV 3) (qj (bV 11) (qj (bV 6) qM))) ⟨rfl⟩) qM)) (bV 12))))) (qaQ (eOf (bBl false))) XH) (U2 (wIf (cOf (qmO (bTb (zh (qej 3) (qj (zh (fNs JA) (qj (bV 3) (qj (bV 11) (qj (bV 13) qM)))) (qj (bV 6) qM)))))) (qaQ (eOf (bBl false))) XH) (U2 (qdc (z9 7) 13 14 ⟨rfl⟩ ⟨rfl⟩) (U2 (qnv 13) (wIf (cOf (qmO (bTb (zh (qej 3) (qj (zh (fNs JA) (qj (bV 3) (qj (bV 11) (qj (bV 6) qM)))) (qj (bV 7) qM)))))) (qaQ (eOf (bBl false))) XH))))))):PwS 2 _)
def qem:PwS 2 (qor (DSp jv.W false) (Bk.zV 3) (DSp jA.W true) (PNp zr) Bk.zi (DSp zb.W true) (PNp jq) (PNp JA) (Bk.jZ 4)):=(U2 (MI (eDr (dSp jv false) (aOf qM)) 3 [] ⟨rfl⟩ ⟨rfl⟩) (U2 (MI (eOf (bO LA (zh (qpY 2) (qj (bV 3) qM)) (z9 0))) 4 [false,false,false,true] ⟨rfl⟩ ⟨rfl⟩) (U2 (MI (eDr (dSp jA true) (aOf (qj (bO (opC QT (·*·)) (bV 4) (bV 4)) qM))) 5 [false,false,false,false,true] ⟨rfl⟩ ⟨rfl⟩) (U2 (MI (eOf (zh (fNs zr) (qj (bV 3) (qj (bV 5) qM)))) 6 [false,false,false,true,false,true] ⟨rfl⟩ ⟨rfl⟩) (U2 (MI (eOf (zh (fNs zr) (qj (bV 3) (qj (bLc (TZ (qj (bO (opC QT (·*·)) (bV 4) (bV 4)) qM)) (gN 0) bTt (bO LA (bV 1) (bO DK (bO (opC QT (·*·)) (bO (opC (λ_ j=>0<j) (·%·)) (bV 0) (bV 2)) (bV 2)) (bO (opC RY (·/·)) (bV 0) (bV 2)))) [none,some 5,some 4] ⟨rfl⟩) qM)))) 7 [false,false,false,true,true,true] ⟨rfl⟩ ⟨rfl⟩) (U2 (MI (eOf (MK qM ⟨rfl⟩)) 8 [] ⟨rfl⟩ ⟨rfl⟩) (U2 (qjm (iOf (TZ (qj (bV 4) qM))) (gN 9) RR [false,false,false,false,true] ⟨rfl⟩ ⟨rfl⟩) (U2 (MI (eDr (dSp zb true) (jB (eO qcQ (eOf (bV 8)) (qq7 (iR (jB (eDr YI (aOf (qj (z9 4) qM))) (aOf qM))) (gN 0) bTt (MK qM ⟨rfl⟩) [none] ⟨rfl⟩ ⟨rfl⟩)) (aOf qM))) 10 [false,false,false,false,false,false,false,false,true] ⟨rfl⟩ ⟨rfl⟩) (qjm (iS (qf2 (jB (eOf (zh (fNs jq) (qj (bV 3) qM))) (jB (eDr (dSp zb true) (aOf (qj (bV 8) qM))) (aOf (qj (bV 10) qM)))) ⟨rfl⟩)) (gN 11) R6 [false,false,false,true,false,false,false,false,true,false,true] ⟨rfl⟩ ⟨rfl⟩)))))))))
def qnm (h:∀ k:Nat,k<=60->qem.w [.un,.sh (.int k),.un,.un,.un,.un,.un,.un,.un,.un,.un,.un,.un,.un,.un] 0 okW):Rd C8 1 (K72.qhF Bk.YG (DSp jv.W false) (Bk.zV 3) (DSp jA.W true) (PNp zr) Bk.zi (DSp zb.W true) (PNp jq) (PNp JA) (Bk.jZ 4)) qdK:=qeD qem qdK 5 12 ⟨by decide,by decide⟩ rfl h
end K72
namespace K72
open PySem L2 L3 Bk
def qdD {d:Nat} (h:d<=5):L2.atI [T.int 1,.int 2,.int 4,.int 8,.int 16,.int 32] (d:Int)=some (.int (2 ^ d)):=by
 have:d=0\/d=1\/d=2\/d=3\/d=4\/d=5:=by omega
 rcases this with rfl|rfl|rfl|rfl|rfl|rfl<;>rfl
def KT {s l1 l2:Str} {xs:List T} {R S:TS3} {d:Ends3} {τ:St3} {G:Gp} (hτ:τ[0]?=some (some (T.tup (.str s::xs)))):qx (zD (tb3 (o3 (in3 false) (o3 ix3 (v3 0) (c3 (.int 0))) (jo (qf (c3 (.str l1)) (qf (c3 (.str l2)) qk))))) R qD) S d τ G=(if s=l1\/s=l2 then R { d with nx:=S d } τ G else S d τ G):=by
 have s2:[T.str l1,T.str l2].length<=sizeLine:=by simp [v7]
 simp only [qx,zD,tb3,o3,v3,hτ,c3,L3.ixT,qbj,jo,qf,qk,in3,qD];by_cases e1:s=l1
 ·subst e1;simp [zp,eqF,v7]
 ·have e1':¬ l1=s:=λz=>e1 z.symm;by_cases e2:s=l2
  ·subst e2;simp [zp,eqF,v7]
  ·have e2':¬ l2=s:=λz=>e2 z.symm;simp [zp,eqF,v7,e1,e2,e1',e2']
def UU (n:Nat):∀ ts G q,zV (n+1) ts G q->ts.length=1/\DJ (zV n) (L0 q) (qq ["_law_dealing_here","_law_two","_law_one","_law_other"] ts) G:=by
 rintro ts G q ⟨d,rfl,hd,ok,h⟩;refine ⟨rfl,?_⟩;have h0:=h G Ex.refl;unfold DJ;cases d with
 |skew r c b x y=>
  show qx _ _ _ [some (.tup [.str "skew",.int r,.int c,.int b,.int x,.int y]),none,none,none] G;rw [KT rfl,if_pos (.inl rfl)];simp [sl3,qP,VO,sp3,v3,c3,L3.JZ,HT.sIx];exact h0
 |rests r c b x=>
  show qx _ _ _ [some (.tup [.str "rests",.int r,.int c,.int b,.int x]),none,none,none] G;rw [KT rfl,if_pos (.inr rfl)];simp [sl3,qP,VO,sp3,v3,c3,L3.JZ,HT.sIx];exact h0
 |bits hh l ms=>
  obtain ⟨k1,k2,k3,_⟩:=ok;show qx _ _ _ [some (.tup [.str "bits",.int hh,.int l,.tup (ms.map T.int)]),none,none,none] G;rw [KT rfl,if_neg (by decide),zx rfl,if_pos rfl];simp [qx,qF,gn3,qP,jR,zD,qH,UF,qD,v3,c3,o3,u3,VV,L3.ixT,L3.ixR,zB,iI,iC,iB,zt,zg,UJ,tb3,EU,or3,YN,zL,UG,ju,if3,ch3,cb3,qf,qk,ZX,tyT,jT,jo,je,VO,np3,sp3,qK,qo,qO,ze,YO,YQ,qq,bm3,QI,JW,jC,UD,V2,EX,EW,qV,jb,VW,EV,UK,JZ,HT.sIx,getL,in3,zp,eqF,gu,v7,x6,x5];intro p hp;have ix:∀ k:Nat,k<=5->L2.atI [T.int 1,.int 2,.int 4,.int 8,.int 16,.int 32] (k:Int)=some (.int (2 ^ k)):=λk hk=>qdD hk;simp [qx,qF,gn3,qP,jR,zD,qH,UF,qD,v3,c3,o3,u3,VV,L3.ixT,L3.ixR,zB,iI,iC,iB,zt,zg,UJ,tb3,EU,or3,YN,zL,UG,ju,if3,ch3,cb3,qf,qk,ZX,tyT,jT,jo,je,VO,np3,sp3,qK,qo,qO,ze,YO,YQ,qq,bm3,QI,JW,jC,UD,V2,EX,EW,qV,jb,VW,EV,UK,JZ,HT.sIx,getL,in3,zp,eqF,gu,v7,x6,x5,qbj,qdT,qcJ,qnN,ix hh (by omega),ix l (by omega),ix ms.length (by omega)];exact h _ (zn hp)
 |table b cells=>
  have L:=Dl.lims ok;obtain ⟨k1,k2,k3,k4,c,k5,k6,k7⟩:=ok;cases cells with
  |nil=>simp at k3
  |cons row cells=>
   show qx _ _ _ [some (.tup [.str "table",.int b,.tup (qdy row::cells.map qdy)]),none,none,none] G;rw [KT rfl,if_neg (by decide),zx rfl,if_neg (by decide),zx rfl,if_pos rfl];simp [qdy,qbj,qdT,qcJ,qx,qF,gn3,qP,jR,zD,qH,UF,qD,v3,c3,o3,u3,VV,L3.ixT,L3.ixR,zB,iI,iC,iB,zt,zg,UJ,tb3,EU,or3,YN,zL,UG,ju,if3,ch3,cb3,qf,qk,ZX,tyT,jT,jo,je,VO,np3,sp3,qK,qo,qO,ze,YO,YQ,qq,bm3,QI,JW,jC,UD,V2,EX,EW,qV,jb,VW,EV,UK,JZ,HT.sIx,getL,in3,zp,eqF,gu,v7,x6,x5];simpa [W2,Dl.R,Dl.C,Dl.B] using h0
 |joined d e=>
  have Ld:=Dl.lims ok.1;have Le:=Dl.lims ok.2.1;have:1<=n:=by simp [Dl.dep] at hd;omega
  obtain ⟨m,rfl⟩:∃ m,n=m+1:=⟨n-1,by omega⟩
  show qx _ _ _ [some (.tup [.str "joined",d.t,e.t]),none,none,none] G;rw [KT rfl,if_neg (by decide),zx rfl,if_neg (by decide),zx rfl,if_neg (by decide)];refine D4 λnx1 q1=>?_;simp only [YQ,qf,qk,cb3,o3,v3,c3,L3.ixT,qdT,qcJ,x6];refine ⟨d,rfl,by simp [Dl.dep] at hd;omega,ok.1,λG1 E1=>?_⟩;refine ⟨e,rfl,by simp [Dl.dep] at hd;omega,ok.2.1,λG2 E2=>?_⟩;simp;rw [q1];have e1:=Le.r1;have e2:=Le.r2;have e3:=Le.c1;have e4:=Le.c2;have e5:=Le.b1;have e6:=Le.b2;simp [W2,lc3,qaM,jM,qbs,K5,tt3,cap,qx,qF,gn3,qP,jR,zD,qH,UF,qD,v3,c3,o3,u3,VV,L3.ixT,L3.ixR,zB,iI,iC,iB,zt,zg,UJ,tb3,EU,or3,YN,zL,UG,ju,if3,ch3,cb3,qf,qk,ZX,tyT,jT,jo,je,VO,np3,sp3,qK,qo,qO,ze,YO,YQ,qq,bm3,QI,JW,jC,UD,V2,EX,EW,qV,jb,VW,EV,UK,L2.atI,ixN,JZ,HT.sIx,getL,in3,zp,eqF,gu,v7,x6,x5];refine ⟨cm (by omega) (by omega),cm (by omega) (by omega),cm (by omega) (by omega),λp hp=>?_⟩;exact h _ ((E1.trans E2).trans (zn hp))
end K72
namespace K72
open PySem L2 L3 Pu Pv
open Bk (Dl Inn)
abbrev PP:=Int×Int
def Nn (N:Nat) (p:PP):Prop:=(0<=p.1/\p.1<N)/\(0<=p.2/\p.2<N)
def bsD (ps:List PP):PyData:=.list (ps.map pD)
section
variable (b:Int->Int->Int)
def wb (p:PP):List Int:=[b p.1 p.2,b p.2 p.1]
def bb (ps:List PP):List Int:=ps.flatMap (wb b)
def okb (ps:List PP):Bool:=decide (((ps.length:Nat):Int)<2)||decide (((C0 (bb b ps):Nat):Int)=((bb b ps).length:Nat))
def ff (pl:List (List PP)) (p:PP):Nat:=pl.findIdx λs=>okb b (s++[p])
def stp (pl:List (List PP)) (p:PP):List (List PP):=if ff b pl p=pl.length then pl++[[p]] else pl.modify (ff b pl p) (·++[p])
end
def row (N:Nat) (i:Int):List PP:=(jQ (i+1) ((N:Int)-(i+1)).toNat).map λj=>(i,j)
def prs (N:Nat):List PP:=(jQ 0 (N:Int).toNat).flatMap (row N)
def JI {lo:Int} {n:Nat} {x:Int} (h:x∈jQ lo n):lo<=x/\x<lo+n:=by
 unfold jQ at h;obtain ⟨i,hi,rfl⟩:=mem_map.mp h;have:=mem_range.mp hi;omega
def qoC {N:Nat} {i:Int} (h:0<=i/\i<N) {p:PP} (hp:p∈row N i):Nn N p:=by
 obtain ⟨j,hj,rfl⟩:=mem_map.mp hp;have:=JI hj;exact ⟨h,by simp only;omega,by simp only;omega⟩
def qaj {N:Nat} {p:PP} (hp:p∈prs N):Nn N p:=by
 obtain ⟨i,hi,hp⟩:=List.mem_flatMap.mp hp;have:=JI hi;exact qoC (by omega) hp
theorem qbr {b:Int->Int->Int}:∀ {ps:List PP},(bb b ps).length=2*ps.length
 |[]=>rfl
 |p::ps=>by
  have:=qbr (b:=b) (ps:=ps);unfold bb at this ⊢;simp only [List.flatMap_cons,length_append,wb,length_cons,length_nil,this];omega
structure Sq (d:Dl) (N:Nat):Prop where
 ok:d.Ok
 dp:d.dep<=2
 r:d.R=N
 c:d.C=N
 n:N<=16
def Sq.inn {d:Dl} {N:Nat} (h:Sq d N) {p:PP} (hp:Nn N p):Inn d p.1 p.2/\Inn d p.2 p.1:=by
 have:=h.r;have:=h.c;obtain ⟨⟨a,b⟩,c,e⟩:=hp;exact ⟨⟨by omega,by omega,by omega,by omega⟩,⟨by omega,by omega,by omega,by omega⟩⟩
def qrd {d:Dl} {N:Nat} (h:Sq d N) {ps:List PP} (hp:∀ p∈ps,Nn N p) (hl:ps.length<=1000):jw [dlD d,bsD ps]=some (.list ((bb d.bank ps).map PyData.int)):=by
 rw [SM]
 try simp only [Pu.pwA,ZU,bsD]
 rw [MN (ds:=ps.map pD) (fs:=ps.flatMap λp=>(wb d.bank p).map PyData.int)]
 ·try simp only [Pu.pwA,bb,List.map_flatMap]
 ·try simp only [Pu.pwA]
 ·refine SN λp hp'=>?_;obtain ⟨i1,i2⟩:=h.inn (hp p hp');have k1:=qhz (n:=2) h.dp h.ok i1;have k2:=qhz (n:=2) h.dp h.ok i2
  try simp only [Pu.pwA,qcx,pD]
  try simp only [Pu.pwA,lcP,CQ,qlM,k1,k2,wb,map_cons,List.map_nil]
 ·have e:(ps.flatMap λp=>(wb d.bank p).map PyData.int).length=2*ps.length:=by
   have:=qbr (b:=d.bank) (ps:=ps);rw [← this,← length_map (f:=PyData.int),bb,List.map_flatMap]
  rw [e];omega
def qp1 {d:Dl} {N:Nat} (h:Sq d N) {ps:List PP} (hp:∀ p∈ps,Nn N p) (hl:ps.length<=1000):ZF [dlD d,bsD ps]=some (.bool (okb d.bank ps)):=by
 have e:=qrd h hp hl;have l:=qbr (b:=d.bank) (ps:=ps);have ls:=qhJ (xs:=bb d.bank ps) (by omega);rw [qav]
 try simp only [Pu.pwA,EF,e]
 try simp only [Pu.pwA,bsD,ls,length_map,okb]
 cases decide (((ps.length:Nat):Int)<2)<;>try simp only [Pu.pwA,Bool.true_or,Bool.false_or]
def qqb {d:Dl} (ok:d.Ok) (dp:d.dep<=2):j3 [dlD d]=some (.bool (decide (d.R=d.C))):=by
 rw [T8]
 try simp only [Pu.pwA,J3,qg2,qcw (n:=2) dp ok,siz]
def qau:∀ N:Nat,N<17->(prs N).length<=120:=by decide +kernel
def qrt {d:Dl} {N:Nat} (h:Sq d N):jW [dlD d]=some (bsD (prs N)):=by
 have hn:=h.n;rw [K3]
 try simp only [Pu.pwA,YC,qg2,qcw (n:=2) h.dp h.ok,siz,h.r,h.c]
 rw [MN (ds:=(jQ 0 (N:Int).toNat).map PyData.int) (fs:=(jQ 0 (N:Int).toNat).flatMap λi=>(row N i).map pD)]
 ·try simp only [Pu.pwA,bsD,prs,List.map_flatMap]
 ·try simp (disch:=omega) only [Pu.pwA,LO]
 ·refine SN λi hi=>?_;have:=JI hi
  try simp (disch:=omega) only [Pu.pwA,qcx,qqU]
  rw [YE (k:=λj=>pD (i,j))]
  ·try simp only [Pu.pwA,row,map_map,Function.comp_def]
  ·intro j hj
   try simp only [Pu.pwA,CQ,pD]
 ·have e:((jQ 0 (N:Int).toNat).flatMap λi=>(row N i).map pD).length=(prs N).length:=by rw [← length_map (f:=pD),prs,List.map_flatMap]
  have:=qau N (by omega);omega
def plD (pl:List (List PP)):PyData:=.list (pl.map bsD)
structure Pl (N:Nat) (pl:List (List PP)) (k:Nat):Prop where
 nn:∀ s∈pl,∀ p∈s,Nn N p
 ls:∀ s∈pl,s.length<=k
 l:pl.length<=k
def qrX {ps:List PP} {p:PP} (hl:ps.length<=1000):qiT (bsD ps) (.list [pD p])=some (bsD (ps++[p])):=by
 unfold bsD;rw [qfT (by simp;omega),List.map_append];rfl
def qre {d:Dl} {N k:Nat} (h:Sq d N) {pl:List (List PP)} (hp:Pl N pl k) (hk:k<1000) {p:PP} (hn:Nn N p):jy [dlD d,plD pl,pD p]=some (.int ((ff d.bank pl p:Nat):Int)):=by
 have is:∀ s∈pl,ZF [dlD d,bsD (s++[p])]=some (.bool (okb d.bank (s++[p]))):=λs hs=>qp1 h (λq hq=>by
  rcases List.mem_append.mp hq with hq|hq
  ·exact hp.nn s hs q hq
  ·rw [List.mem_singleton.mp hq];exact hn) (by have:=hp.ls s hs;simp;omega)
 have ct:∀ s∈pl,qiT (bsD s) (.list [pD p])=some (bsD (s++[p])):=λs hs=>qrX (by have:=hp.ls s hs;omega);rw [TH];unfold ZT
 try simp only [Pu.pwA,plD,bsD]
 have eb:∀ s:List PP,PyData.list (s.map pD)=bsD s:=λ_=>rfl;rw [show (pl.map bsD)=pl.map λs=>bsD s from rfl,qcA];have al:∀ i s,pl[i]?=some s->i<ff d.bank pl p->okb d.bank (s++[p])=false:=λi s e hi=>by
  have:=List.not_of_lt_findIdx hi;have hl:=(zb0 e).1;rw [v8 hl] at e;cases e;simpa using this
 by_cases z:ff d.bank pl p=pl.length
 ·refine qbx (Q:=λo=>TW false o=some (.int ((ff d.bank pl p:Nat):Int))) (g:=λx:List PP×Nat=>PyData.tuple [PyData.int (x.2:Int),bsD x.1]) pl.zipIdx (λ_ ρ=>∃ s3 s4,ρ=[.sh (dlD d),.sh (plD pl),.sh (pD p),s3,s4]) ⟨_,_,rfl⟩ ?_ ?_
  ·rintro i ⟨s,j⟩ ρ hx ⟨s3,s4,rfl⟩;obtain ⟨hs,rfl,hl⟩:=VY hx;have hm:=za1 hs
   try simp only [Pu.pwA,ct s hm,is s hm,al _ s hs (by omega)]
   exact ⟨_,_,rfl⟩
  ·rintro ρ ⟨s3,s4,rfl⟩
   try simp only [Pu.pwA,plD,length_map,z]
 ·have lt:ff d.bank pl p<pl.length:=by
   have:ff d.bank pl p<=pl.length:=List.findIdx_le_length;omega
  have hs:=v8 lt;have hm:=za1 hs;have yes:okb d.bank (pl[ff d.bank pl p]++[p])=true:=List.findIdx_getElem (w:=lt);refine qhK (Q:=λo=>TW false o=some (.int ((ff d.bank pl p:Nat):Int))) (g:=λx:List PP×Nat=>PyData.tuple [PyData.int (x.2:Int),bsD x.1]) pl.zipIdx (ff d.bank pl p) (pl[ff d.bank pl p],ff d.bank pl p) (.int ((ff d.bank pl p:Nat):Int)) false (by rw [List.getElem?_zipIdx,hs];simp) (λ_ ρ=>∃ s3 s4,ρ=[.sh (dlD d),.sh (plD pl),.sh (pD p),s3,s4]) ⟨_,_,rfl⟩ ?_ ?_ ?_
  ·rintro i ⟨s,j⟩ ρ hi hx ⟨s3,s4,rfl⟩;obtain ⟨hs,rfl,hl⟩:=VY hx;have hm:=za1 hs
   try simp only [Pu.pwA,ct s hm,is s hm,al _ s hs hi]
   exact ⟨_,_,rfl⟩
  ·rintro ρ ⟨s3,s4,rfl⟩
   try simp only [Pu.pwA,ct _ hm,is _ hm,yes]
  ·try simp only [Pu.pwA]
def onP (pl:List (List PP)):List (List PyData):=pl.map λs=>s.map pD
def qml {pl:List (List PP)}:PyData.list ((onP pl).map PyData.list)=plD pl:=by
 unfold onP plD;rw [map_map];rfl
def qar {dss:List (List PyData)}:Sl.d (.on dss)=some (.list (dss.map PyData.list)):=id rfl
def qhi {s:Sl} {ρ:Rho} {i:Nat}:zR (s::ρ) (i+1)=zR ρ i:=id rfl
def qh5 {dss:List (List PyData)} {ρ:Rho}:zR (.on dss::ρ) 0=some dss:=id rfl
def qd0 {n k:Nat} (h:k<n):ixN n (k:Int)=some k:=by
 unfold ixN;rw [if_pos (by omega),if_pos (by omega)];simp
def qnO {b:Int->Int->Int} {pl:List (List PP)} {p:PP}:ff b pl p<=pl.length:=List.findIdx_le_length
def qhU {b:Int->Int->Int} {pl:List (List PP)} {p:PP} (h:ff b pl p=pl.length):onP (stp b pl p)=onP pl++[[pD p]]:=by
 unfold stp onP;rw [if_pos h,List.map_append];rfl
def qhu {b:Int->Int->Int} {pl:List (List PP)} {p:PP} (h:ff b pl p<pl.length):onP (stp b pl p)=(onP pl).set (ff b pl p) ((pl[ff b pl p]).map pD++[pD p]):=by
 unfold stp onP;rw [if_neg (by omega)];apply List.ext_getElem?;intro i;rw [getElem?_map,List.getElem?_modify,getElem?_set,length_map];by_cases e:ff b pl p=i
 ·rw [if_pos e,if_pos h,← e,v8 h];simp
 ·rw [if_neg e,getElem?_map];cases pl[i]?<;>simp [e]
def qlz {N k:Nat} {b:Int->Int->Int} {pl:List (List PP)} {p:PP} (h:Pl N pl k) (hp:Nn N p):Pl N (stp b pl p) (k+1):=by
 have hl:=h.l;unfold stp;split
 ·refine ⟨λs hs q hq=>?_,λs hs=>?_,by simp;omega⟩
  ·rcases List.mem_append.mp hs with hs|hs
   ·exact h.nn s hs q hq
   ·rw [List.mem_singleton.mp hs] at hq;rw [List.mem_singleton.mp hq];exact hp
  ·rcases List.mem_append.mp hs with hs|hs
   ·have:=h.ls s hs;omega
   ·rw [List.mem_singleton.mp hs];simp
 ·have mem:∀ s∈pl.modify (ff b pl p) (·++[p]),s∈pl\/∃ t∈pl,s=t++[p]:=λs hs=>by
   obtain ⟨i,hi,e⟩:=List.getElem_of_mem hs;rw [List.length_modify] at hi;rw [List.getElem_modify] at e;split at e
   ·exact .inr ⟨_,za6 hi,e.symm⟩
   ·exact .inl (e▸za6 hi)
  refine ⟨λs hs q hq=>?_,λs hs=>?_,by simp;omega⟩
  ·rcases mem s hs with hs|⟨t,ht,rfl⟩
   ·exact h.nn s hs q hq
   ·rcases List.mem_append.mp hq with hq|hq
    ·exact h.nn t ht q hq
    ·rw [List.mem_singleton.mp hq];exact hp
  ·rcases mem s hs with hs|⟨t,ht,rfl⟩
   ·have:=h.ls s hs;omega
   ·have:=h.ls t ht;simp;omega
def C7 {α:Type} {xs:List α} {i:Nat} {x:α} (h:xs[i]?=some x):xs.take (i+1)=xs.take i++[x]:=by
 rw [List.take_add_one,h];rfl
def pln (b:Int->Int->Int) (ps:List PP):List (List PP):=ps.foldl (stp b) []
def qkH {b:Int->Int->Int} {ps:List PP} {i:Nat} {p:PP} (h:ps[i]?=some p):pln b (ps.take (i+1))=stp b (pln b (ps.take i)) p:=by
 unfold pln;rw [C7 h,List.foldl_append];rfl
theorem qbh {N:Nat} {b:Int->Int->Int} {ps:List PP} (h:∀ p∈ps,Nn N p):∀ i,i<=ps.length->Pl N (pln b (ps.take i)) i
 |0,_=>⟨by simp [pln],by simp [pln],by simp [pln]⟩
 |i+1,hi=>by
  have e:=v8 (show i<ps.length by omega);rw [qkH e];exact qlz (qbh h i (by omega)) (h _ (za1 e))
def qqu {d:Dl} {N:Nat} (h:Sq d N):qC [dlD d]=some .none:=by
 have e:=qqb h.ok h.dp;rw [h.r,h.c,za8 rfl] at e;rw [UA]
 try simp only [Pu.pwA,zA,e,Bool.not_true]
def qry {d:Dl} {N:Nat} (h:Sq d N):jq [dlD d]=some (.inr (onP (pln d.bank (prs N)))):=by
 have hl:=qau N (by have:=h.n;omega);rw [K8]
 try simp only [Pu.pwA,YB,qdt,qnj,MG,qqu h,qrt h]
 try simp only [Pu.pwA,bsD]
 refine EN (Q:=λo=>(o.bind λo=>match o with|Ot.nx ρ'=>Option.map Sum.inr (zR ρ' 1)|x=>none)=some (.inr (onP (pln d.bank (prs N))))) (g:=pD) (prs N) (λi ρ=>∃ s2 s3,ρ=[.sh (dlD d),.on (onP (pln d.bank ((prs N).take i))),s2,s3]) ⟨_,_,rfl⟩ ?_ ?_
 ·rintro i p ρ hx ⟨s2,s3,rfl⟩;have hi:=(zb0 hx).1;have hp:=qbh (N:=N) (b:=d.bank) (ps:=prs N) (λp hp=>qaj hp) i (by omega);have hn:=qaj (za1 hx);rw [qkH hx];have fb:=qre h hp (by omega) hn;generalize pln d.bank ((prs N).take i)=pl at hp fb;have le:=qnO (b:=d.bank) (pl:=pl) (p:=p);have ll:((onP pl).map PyData.list).length=pl.length:=by simp [onP]
  have lo:(onP pl).length=pl.length:=by simp [onP]
  have hl2:=hp.l
  try simp only [Pu.pwA,qar,qml,fb]
  try simp only [Pu.pwA,plD,length_map]
  by_cases z:ff d.bank pl p=pl.length
  ·have e:(((ff d.bank pl p:Nat):Int)=((pl.length:Nat):Int)):=by omega
   have g1:((onP pl)++[[]])[ff d.bank pl p]?=some []:=by rw [z,← lo];simp
   have g2:ixN ((onP pl)++[[]]).length ((ff d.bank pl p:Nat):Int)=some (ff d.bank pl p):=qd0 (by simp [lo,z]);have g3:((onP pl)++[[]]).set (ff d.bank pl p) ([]++[pD p])=onP pl++[[pD p]]:=by rw [z,← lo,List.set_append_right _ _ (u7 _)];simp
   rw [qhU z]
   try simp only [Pu.pwA,e,decide_true,qd6,NV,NA,T6,qhi,qh5,lo,if_pos (show pl.length<1000000 by omega),if_pos (show (0:Nat)<1000000 by decide)]
   rw [z] at g1 g2 g3;rw [g2,Option.bind_some,g1,Option.bind_some,if_pos (show ([]:List PyData).length<1000000 by decide),g3];exact ⟨_,_,rfl⟩
  ·have lt:ff d.bank pl p<pl.length:=by omega
   have e:¬ (((ff d.bank pl p:Nat):Int)=((pl.length:Nat):Int)):=by omega
   have g1:(onP pl)[ff d.bank pl p]?=some ((pl[ff d.bank pl p]).map pD):=by unfold onP;rw [getElem?_map,v8 lt];rfl
   have g2:ixN (onP pl).length ((ff d.bank pl p:Nat):Int)=some (ff d.bank pl p):=qd0 (by rw [lo];exact lt);have g4:=hp.ls _ (za6 lt);rw [qhu lt]
   try simp only [Pu.pwA,e,decide_false,NV,T6,qhi,qh5]
   rw [g2,Option.bind_some,g1,Option.bind_some,if_pos (by rw [length_map];omega)];exact ⟨_,_,rfl⟩
 ·rintro ρ ⟨s2,s3,rfl⟩;rw [List.take_of_length_le (u7 _)];rfl
def inT (d:Dl) (p:Int×Int):Prop:=Inn d p.1 p.2
def qiY (r c:Nat):(LQ r c).length=r*c:=by
 induction r with
 |zero=>simp [LQ]
 |succ r ih=>
  unfold LQ at ih ⊢;rw [List.range_succ,List.flatMap_append,length_append,ih,Nat.succ_mul];simp
def qrS {d:Dl} (hp:d.dep<=2) (ok:d.Ok) (hR:d.R<=1000) (hC:d.C<=1000):jX [dlD d]=some (.list ((LQ d.R.toNat d.C.toNat).map pD)):=by
 have l:=Dl.lims ok;have:=l.r1;have:=l.c1;rw [KF]
 try simp only [Pu.pwA,J7,qg2,qcw (n:=2) hp ok,siz]
 rw [MN (ds:=(jQ 0 d.R.toNat).map PyData.int) (fs:=(LQ d.R.toNat d.C.toNat).map pD)]
 ·try simp only [Pu.pwA]
 ·try simp (disch:=omega) only [Pu.pwA,LO]
 ·have:(LQ d.R.toNat d.C.toNat).map pD=(jQ 0 d.R.toNat).flatMap λi=>(jQ 0 d.C.toNat).map λj=>pD (i,j):=by
   unfold LQ jQ;simp only [List.map_flatMap,map_map,List.flatMap_map,Function.comp_def,Int.zero_add]
  rw [this];refine SN λi hi=>?_
  try simp (disch:=omega) only [Pu.pwA,qcx,LO]
  rw [YE (k:=λq=>pD (i,q)) λq hq=>?_]
  ·try simp only [Pu.pwA]
  ·try simp only [Pu.pwA,CQ,pD]
 ·rw [length_map];have:=qiY d.R.toNat d.C.toNat;have:=Nat.mul_le_mul (show d.R.toNat<=1000 by omega) (show d.C.toNat<=1000 by omega);omega
def sp2 (ps:List (Int×Int)):PyData:=.list (ps.map pD)
def qrc {s:Str} {r c b p:Int}:slD (.tuple [.str s,.int r,.int c,.int b,.int p]) (some 1) none=some (.tuple [.int r,.int c,.int b,.int p]):=qa5 (by simp [HT.sIx])
def qdf {d:Dl} {p:Int×Int} (h:p∈LQ d.R.toNat d.C.toNat):inT d p:=by
 unfold LQ at h;obtain ⟨i,hi,h⟩:=List.mem_flatMap.mp h;obtain ⟨j,hj,rfl⟩:=mem_map.mp h;have:=mem_range.mp hi;have:=mem_range.mp hj;exact ⟨by simp only;omega,by simp only;omega,by simp only;omega,by simp only;omega⟩
def qgS {i j:Nat} {k:Int} {d:PyData} {ρ:Rho} {kvs:List (Int×PyData)} (h:SR ρ j=some kvs) (hs:WH d=true):qn6 i j (.int k) d ρ=some (.nx (ρ.set i (.sh ((V4 kvs k).getD d)))):=by
 show (SR ρ j).bind _=_;rw [h];show (if WH d then _ else _)=_;rw [hs];rfl
def qeq {i:Nat} {k:Int} {d:PyData} {ρ:Rho} {kvs:List (Int×PyData)} (h:SR ρ i=some kvs) (hl:kvs.length<16777216):qen i (.int k) d ρ=some (.nx (ρ.set i (.dc (WN kvs k d)))):=by
 show (SR ρ i).bind _=_;rw [h];exact jt hl
def qgO {tk te:TE3} {i j:Nat} {a:PuE tk} {b:PuE te}:(qjR i j a b).f=λ_ ρ=>(a.f ρ).bind λk=>(b.f ρ).bind λd=>qn6 i j k d ρ:=id rfl
def qgY {t ti:TE3} {a:PuE t} {i:Nat} {b:PuE ti} {m:List Bool} {hm:Tru (a.fv.all (mkb m))}:(qkK a i b m hm).f=λ_ ρ=>(a.f ρ).bind λd=>(b.f ρ).bind λk=>qen i k d (dmS m d ρ):=id rfl
def qba {d:Dl} (h:∀ r c b p,d≠.rests r c b p):∃ (s:Str) (xs:List PyData),dlD d=.tuple (.str s::xs)/\¬ s=Str.ofString "rests" := by
 cases d with
 |skew r c b x y=>exact ⟨"skew",_,rfl,by decide⟩
 |rests r c b p=>exact absurd rfl (h r c b p)
 |bits hh l ms=>exact ⟨"bits",_,rfl,by decide⟩
 |table b cells=>exact ⟨"table",_,rfl,by decide⟩
 |joined d e=>exact ⟨"joined",_,rfl,by decide⟩
def cnt (ns:List Int) (b:Int):Int:=((ns.filter λn=>decide (n=b)).length:Nat)
def qhb {ns:List Int} {n b:Int}:cnt (ns++[n]) b=cnt ns b+if n=b then 1 else 0:=by
 unfold cnt;rw [List.filter_append,length_append];by_cases z:n=b<;>simp [z]
def qo7 (ns:List Int) (b:Int):0<=cnt ns b/\cnt ns b<=ns.length:=by
 unfold cnt;have:=List.length_filter_le (λn=>decide (n=b)) ns;omega
def qjW {k b:Int} {v:PyData} (kvs:List (Int×PyData)):V4 (WN kvs k v) b=if k=b then some v else V4 kvs b:=by
 have app:∀ kvs:List (Int×PyData),NU kvs k=false->V4 (kvs++[(k,v)]) b=if k=b then some v else V4 kvs b:=by
  intro kvs;induction kvs with
  |nil=>intro _;rfl
  |cons q r ih=>
   intro h;simp only [NU,List.any_cons,Bool.or_eq_false_iff,decide_eq_false_iff_not] at h;rw [cons_append,V4,V4];by_cases c:q.1=b
   ·rw [if_pos c,if_neg (by omega),if_pos c]
   ·rw [if_neg c,if_neg c];exact ih h.2
 have rpl:∀ kvs:List (Int×PyData),NU kvs k=true->V4 (qhs kvs k v) b=if k=b then some v else V4 kvs b:=by
  intro kvs;induction kvs with
  |nil=>intro h;simp [NU] at h
  |cons q r ih=>
   intro h;simp only [qhs,map_cons,V4];by_cases c:q.1=k
   ·rw [if_pos c];by_cases e:k=b
    ·rw [if_pos e];show (if q.1=b then some v else _)=some v;rw [if_pos (by omega)]
    ·rw [if_neg e];show (if q.1=b then some v else _)=if q.1=b then _ else _;rw [if_neg (show ¬ q.1=b by omega),if_neg (show ¬ q.1=b by omega)]
     by_cases hr:NU r k=true
     ·have:=ih hr;rw [if_neg e] at this;exact this
     ·have hr':∀ p∈r,¬ p.1=k:=λp hp z=>hr (List.any_eq_true.mpr ⟨p,hp,za8 z⟩);have:r.map (λp=>if p.1=k then (p.1,v) else p)=r:=by
       refine (List.map_congr_left λp hp=>?_).trans (List.map_id r);rw [if_neg (hr' p hp)];rfl
      rw [this]
   ·have h':NU r k=true:=by simpa [NU,c] using h
    rw [if_neg c];by_cases e:q.1=b
    ·rw [if_pos e,if_neg (by omega),if_pos e]
    ·rw [if_neg e,if_neg e];exact ih h'
 unfold WN;cases h:NU kvs k with
 |true=>exact rpl kvs h
 |false=>exact app kvs h
def qhT {k:Int} {v:PyData} {kvs:List (Int×PyData)}:(WN kvs k v).length<=kvs.length+1:=by
 unfold WN;cases NU kvs k<;>simp [qhs]
def csp (bs:List Int):List (Int×Int):=(bs.zipIdx).map λq=>(q.1,cnt (bs.take q.2) q.1)
def M3 {bs:List Int} {i:Nat} {b:Int} (h:bs[i]?=some b):(csp bs)[i]?=some (b,cnt (bs.take i) b):=by
 unfold csp;rw [getElem?_map,List.getElem?_zipIdx,h];simp
def LV (bs:List Int):(csp bs).length=bs.length:=by simp [csp]
def ET (d:Dl):List Int:=(LQ d.R.toNat d.C.toNat).map λp=>d.bank p.1 p.2
def qrT {d:Dl} (hp:d.dep<=2) (ok:d.Ok) (hR:d.R<=1000) (hC:d.C<=1000):zm [dlD d]=some (sp2 (csp (ET d))):=by
 have hl:=qiY d.R.toNat d.C.toNat;have hm:=Nat.mul_le_mul (show d.R.toNat<=1000 by omega) (show d.C.toNat<=1000 by omega);have cl:(csp (ET d)).length=(LQ d.R.toNat d.C.toNat).length:=by rw [LV];simp [ET]
 rw [WW]
 try simp only [Pu.pwA,jD,qrS hp ok hR hC,qeC]
 refine qbx (Q:=λo=>TW true o=some (sp2 (csp (ET d)))) (LQ d.R.toNat d.C.toNat) (λi ρ=>∃ (kvs:List (Int×PyData)) (s3 s4 s5:Sl),ρ=[.sh (dlD d),.dc kvs,.ow (((csp (ET d)).take i).map pD),s3,s4,s5]/\(∀ b,(V4 kvs b).getD (.int 0)=.int (cnt ((ET d).take i) b))/\kvs.length<=i) ⟨[],_,_,_,rfl,λb=>rfl,u7 _⟩ ?_ ?_
 ·rintro i x ρ hx ⟨kvs,s3,s4,s5,rfl,hk,hkl⟩;have hi:=(zb0 hx).1;have bk:=qhz (n:=2) hp ok (qdf (za1 hx));have hb:(ET d)[i]?=some (d.bank x.1 x.2):=by unfold ET;rw [getElem?_map,hx];rfl
  have hc:=M3 hb;have e1:(csp (ET d)).take (i+1)=(csp (ET d)).take i++[(d.bank x.1 x.2,cnt ((ET d).take i) (d.bank x.1 x.2))]:=by rw [List.take_add_one,hc];rfl
  have e2:(ET d).take (i+1)=(ET d).take i++[d.bank x.1 x.2]:=by rw [List.take_add_one,hb];rfl
  try simp only [Pu.pwA,pD,qlM,bk,qgO]
  rw [qgS (kvs:=kvs) rfl rfl,hk]
  try simp only [Pu.pwA]
  rw [qim (ds:=((csp (ET d)).take i).map pD) rfl (by rw [length_map,List.length_take];omega)]
  try simp only [Pu.pwA,qgY]
  rw [qeq (kvs:=kvs) rfl (by omega)]
  try simp only [Pu.pwA]
  have:=qhT (k:=d.bank x.1 x.2) (v:=.int (cnt ((ET d).take i) (d.bank x.1 x.2)+1)) (kvs:=kvs);refine ⟨_,_,_,_,by rw [e1,List.map_append];rfl,λb=>?_,by omega⟩;rw [qjW,e2,qhb];by_cases z:d.bank x.1 x.2=b
  ·rw [if_pos z,if_pos z,z];rfl
  ·rw [if_neg z,if_neg z,hk,Int.add_zero]
 ·rintro ρ ⟨kvs,s3,s4,s5,rfl,hk,hkl⟩;rw [← cl,List.take_length]
  try simp only [Pu.pwA,sp2]
def qq9 {r c b p:Int} (ok:(Dl.rests r c b p).Ok):ja [dlD (.rests r c b p)]=some (sp2 ((jQ 0 (r*c).toNat).map λn=>(n%b,n%p))):=by
 obtain ⟨h1,h2,h3,h4,h5,h6,h7,h8,_⟩:=ok;have rc:r*c<=60*60:=Int.mul_le_mul h2 h4 (by omega) (by omega);have rc0:0<=r*c:=Int.mul_nonneg (by omega) (by omega);rw [CW]
 try simp only [Pu.pwA,QN,dlD,qrc]
 rw [MV (ds:=(jQ 0 (r*c).toNat).map PyData.int) (fs:=((jQ 0 (r*c).toNat).map λn=>(n%b,n%p)).map pD)]
 ·try simp only [Pu.pwA,sp2]
 ·try simp (disch:=omega) only [Pu.pwA,XV,LO]
 ·rw [map_map];refine YE λn hn=>?_
  try simp (disch:=omega) only [Pu.pwA,CQ,pD,KJ,Function.comp_def]
 ·rw [length_map,length_map,qz];omega
def spt:Dl->List (Int×Int)
 |.rests r c b p=>(jQ 0 (r*c).toNat).map λn=>(n%b,n%p)
 |d=>csp (ET d)
def qrn {d:Dl} (hp:d.dep<=2) (ok:d.Ok) (hR:d.R<=1000) (hC:d.C<=1000):QU [dlD d]=some (sp2 (spt d)):=by
 by_cases c:∃ r c b p,d=.rests r c b p
 ·obtain ⟨r,c,b,p,rfl⟩:=c;have h1:=qq9 ok;rw [CF];simp only [dlD] at h1
  try simp only [Pu.pwA,JR,dlD,h1,eq_self,spt,sp2]
 ·have h1:=qrT hp ok hR hC;have e0:spt d=csp (ET d):=by
   cases d with
   |rests r c' b p=>exact absurd ⟨r,c',b,p,rfl⟩ c
   |_=>rfl
  obtain ⟨s,xs,e,n⟩:=qba (d:=d) λr c' b p z=>c ⟨r,c',b,p,z⟩;rw [CF,e0];rw [e] at h1 ⊢
  try simp only [Pu.pwA,JR,h1,n,sp2]
end K72
namespace K72
open PySem L2 L3 Pu Pv
open Bk (Dl Inn SD SDs QC X2)
def stM (dss:List (List PyData)) (x:(Int×Int)×PyData):List (List PyData):=match dss[x.1.1.toNat]? with
 |some ds=>dss.set x.1.1.toNat (JS ds x.1.2.toNat x.2)
 |none=>dss
def mem (B:Nat) (sw:List ((Int×Int)×PyData)):List (List PyData):=sw.foldl stM (List.replicate B [])
def qoi {B:Nat} {sw:List ((Int×Int)×PyData)} {i:Nat} {x:(Int×Int)×PyData} (h:sw[i]?=some x):mem B (sw.take (i+1))=stM (mem B (sw.take i)) x:=by
 unfold mem;rw [C7 h,List.foldl_append];rfl
def SX {dss:List (List PyData)} {x:(Int×Int)×PyData}:(stM dss x).length=dss.length:=by
 unfold stM;split<;>simp
def XQ {B:Nat} (sw:List ((Int×Int)×PyData)):(mem B sw).length=B:=by
 unfold mem;have:∀ (sw:List ((Int×Int)×PyData)) (dss:List (List PyData)),(sw.foldl stM dss).length=dss.length:=by
  intro sw;induction sw with
  |nil=>intro dss;rfl
  |cons x sw ih=>intro dss;rw [List.foldl_cons,ih,SX]
 rw [this,List.length_replicate]
def In2 (B:Nat) (sp:Int×Int):Prop:=(0<=sp.1/\sp.1<B)/\(0<=sp.2/\sp.2<10000)
theorem qcN:∀ (d:Dl) {i j:Int},d.Ok->Bk.Inn d i j->0<=d.bank i j/\d.bank i j<d.B
 |.skew r c b x y,i,j,ok,_=>by
  have:=ok.2.2.2.2.1;exact ⟨Int.emod_nonneg _ (by omega),Int.emod_lt_of_pos _ (by omega)⟩
 |.rests r c b p,i,j,ok,_=>by
  have:=ok.2.2.2.2.1;exact ⟨Int.emod_nonneg _ (by omega),Int.emod_lt_of_pos _ (by omega)⟩
 |.bits h l ms,i,j,ok,_=>NP _ ms
 |.table b cells,i,j,ok,h=>by
  obtain ⟨a1,a2,a3,a4,c,c1,c2,hr⟩:=ok;have hi:i.toNat<cells.length:=by have:=h.i1;have:=h.i2;simp only [Dl.R] at this;omega
  have hm:=za6 hi;obtain ⟨l1,hx⟩:=hr _ hm;have hj:j.toNat<(cells[i.toNat]).length:=by
   have h1:=h.j1;have h2:=h.j2;have e:(Dl.table b cells).C=c:=by
    have:cells≠[]:=by intro z;rw [z] at a3;simp at a3
    obtain ⟨r0,rs,rfl⟩:=List.exists_cons_of_ne_nil this;have:=(hr r0 (by simp)).1;simp [Dl.C,this]
   rw [e] at h2;omega
  simp only [Dl.bank,v8 hi,Option.getD_some,v8 hj,Dl.B];exact hx _ (za6 hj)
 |.joined d e,i,j,ok,h=>by
  have ld:=Dl.lims ok.1;have le:=Dl.lims ok.2.1;obtain ⟨h1,h2,h3,h4⟩:=h;simp only [Dl.R] at h2;simp only [Dl.C] at h4;have er:=le.r1;have ec:=le.c1;have q1:=qcN d (i:=i/e.R) (j:=j/e.C) ok.1 ⟨Int.ediv_nonneg h1 (by omega),Int.ediv_lt_of_lt_mul (by omega) h2,Int.ediv_nonneg h3 (by omega),Int.ediv_lt_of_lt_mul (by omega) h4⟩;have q2:=qcN e (i:=i%e.R) (j:=j%e.C) ok.2.1 ⟨Int.emod_nonneg _ (by omega),Int.emod_lt_of_pos _ (by omega),Int.emod_nonneg _ (by omega),Int.emod_lt_of_pos _ (by omega)⟩;have m1:=Int.mul_nonneg q1.1 (show 0<=e.B by omega);have m2:(d.bank (i/e.R) (j/e.C)+1)*e.B<=d.B*e.B:=Int.mul_le_mul_of_nonneg_right (by omega) (by omega);rw [Int.add_mul,Int.one_mul] at m2;simp only [Dl.bank,Dl.B];omega
def qm0 {bs:List Int} {B:Int} (hb:∀ b∈bs,0<=b/\b<B) (hl:bs.length<=9999):∀ s∈csp bs,In2 B.toNat s:=λs hs=>by
 obtain ⟨q,hq,rfl⟩:=mem_map.mp hs;obtain ⟨i,hi⟩:=List.mem_iff_getElem?.mp hq;obtain ⟨e1,e2,e3⟩:=VY (x:=q.1) (n:=q.2) hi;have:=hb q.1 (za1 e1);have c:=qo7 (bs.take q.2) q.1;have:(bs.take q.2).length<=bs.length:=by rw [List.length_take];omega
 exact ⟨by simp only;omega,by simp only;omega⟩
def KD {d:Dl} (ok:d.Ok) (h:d.R.toNat * d.C.toNat<=9999):(spt d).length=d.R.toNat * d.C.toNat/\∀ s∈spt d,In2 d.B.toNat s:=by
 have lb:(ET d).length=d.R.toNat * d.C.toNat:=by simp [ET,qiY]
 have lm:=Dl.lims ok;have b1:=lm.b1;have gen:(csp (ET d)).length=d.R.toNat * d.C.toNat/\∀ s∈csp (ET d),In2 d.B.toNat s:=⟨by rw [LV,lb],qm0 (B:=d.B) (λb hb=>by
  obtain ⟨p,hp,rfl⟩:=mem_map.mp hb;exact qcN d ok (qdf hp)) (by omega)⟩
 cases d with
 |rests r c b p=>
  obtain ⟨h1,h2,h3,h4,h5,h6,h7,h8,_⟩:=ok;refine ⟨?_,λs hs=>?_⟩
  ·show ((jQ 0 (r*c).toNat).map _).length=r.toNat * c.toNat;rw [length_map,qz];have a:((r.toNat * c.toNat:Nat):Int)=r*c:=by rw [Int.natCast_mul,Int.toNat_of_nonneg (by omega),Int.toNat_of_nonneg (by omega)]
   omega
  ·obtain ⟨n,hn,rfl⟩:=mem_map.mp hs;have e1:=Int.emod_nonneg n (show b≠0 by omega);have e2:=Int.emod_lt_of_pos n (show 0<b by omega);have e3:=Int.emod_nonneg n (show p≠0 by omega);have e4:=Int.emod_lt_of_pos n (show 0<p by omega);exact ⟨⟨e1,by simp only [Dl.B];omega⟩,e3,by simp only;omega⟩
 |_=>exact gen
def qdZ {P:PyData->Prop} {ds:List PyData} {p:Nat} {w:PyData} (hd:∀ d∈ds,P d) (hn:P .none) (hw:P w) (hl:ds.length<=10000) (hp:p<10000):(∀ d∈JS ds p w,P d)/\(JS ds p w).length<=10000:=by
 unfold JS;refine ⟨λd h=>?_,by simp;omega⟩;rcases List.mem_or_eq_of_mem_set h with h|rfl
 ·rcases List.mem_append.mp h with h|h
  ·exact hd d h
  ·rw [(List.mem_replicate.mp h).2];exact hn
 ·exact hw
theorem ND {P:PyData->Prop} (hn:P .none) {B:Nat}:∀ (sw:List ((Int×Int)×PyData)) (dss:List (List PyData)),(∀ x∈sw,In2 B x.1/\P x.2)->(∀ ds∈dss,(∀ d∈ds,P d)/\ds.length<=10000)->∀ ds∈sw.foldl stM dss,(∀ d∈ds,P d)/\ds.length<=10000
 |[],_,_,h=>h
 |x::sw,dss,hx,h=>by
  rw [List.foldl_cons];refine ND hn sw _ (λy hy=>hx y (by simp [hy])) λds hds=>?_;unfold stM at hds;split at hds
  ·rename_i es e;rcases List.mem_or_eq_of_mem_set hds with hds|rfl
   ·exact h ds hds
   ·have a:=h es (za1 e);obtain ⟨⟨_,p0,p1⟩,pw⟩:=hx x (by simp);exact qdZ a.1 hn pw a.2 (by omega)
  ·exact h ds hds
end K72
namespace K72
open PySem L2 L3 Pu Pv
open Bk (Dl Inn)
def qeA {ds:List PyData} {p:Nat} {w:PyData}:(JS ds p w)[p]?=some w:=by
 unfold JS;rw [getElem?_set,if_pos rfl,if_pos (by simp;omega)]
def qeo {ds:List PyData} {p q:Nat} {w v:PyData} (h:ds[q]?=some v) (n:p≠q):(JS ds p w)[q]?=some v:=by
 unfold JS;rw [getElem?_set,if_neg n,List.getElem?_append_left (zb0 h).1,h]
def qew {ds:List PyData} {p:Nat} {w v:PyData}:(JS ds p w).set p v=JS ds p v:=by
 unfold JS;rw [List.set_set]
def qdI {ds:List PyData} {p q:Nat} {w v:PyData} (h:q<ds.length) (n:p≠q):(JS ds p w).set q v=JS (ds.set q v) p w:=by
 unfold JS;rw [List.set_comm _ _ n,List.length_set,List.set_append_left _ _ h]
def g2 (M:List (List PyData)) (s:Int×Int):Option PyData:=(M[s.1.toNat]?).bind λds=>ds[s.2.toNat]?
def s2 (M:List (List PyData)) (s:Int×Int) (v:PyData):List (List PyData):=match M[s.1.toNat]? with
 |some ds=>M.set s.1.toNat (ds.set s.2.toNat v)
 |none=>M
section
variable {B:Nat} {M:List (List PyData)} {s t:Int×Int} {w v:PyData} {sw:List ((Int×Int)×PyData)}
def qn8 (hM:M.length=B) (hs:In2 B s):∃ ds,M[s.1.toNat]?=some ds:=⟨_,v8 (by have:=hs.1;omega)⟩
def TB {ds:List PyData} (e:M[s.1.toNat]?=some ds):stM M (s,w)=M.set s.1.toNat (JS ds s.2.toNat w):=by
 unfold stM;simp only [e]
def qbn {ds:List PyData} (e:M[s.1.toNat]?=some ds):s2 M s v=M.set s.1.toNat (ds.set s.2.toNat v):=by
 unfold s2;simp only [e]
def qoW (hM:M.length=B) (hs:In2 B s):g2 (stM M (s,w)) s=some w:=by
 obtain ⟨ds,e⟩:=qn8 hM hs;rw [TB e];unfold g2;rw [getElem?_set,if_pos rfl,if_pos (zb0 e).1];exact qeA
def sne (hs:In2 B s) (ht:In2 B t) (n:t≠s) (e:t.1.toNat=s.1.toNat):t.2.toNat≠s.2.toNat:=λz=>n (Prod.ext (by have:=hs.1;have:=ht.1;omega) (by have:=hs.2;have:=ht.2;omega))
def ql6 (hs:In2 B s) (ht:In2 B t) (n:t≠s) (h:g2 M s=some v):g2 (stM M (t,w)) s=some v:=by
 unfold g2 at h;obtain ⟨ds,e,h⟩:=obb h;cases z:M[t.1.toNat]? with
 |none=>unfold stM;simp only [z];unfold g2;rw [e];exact h
 |some es=>
  rw [TB z];unfold g2;rw [getElem?_set];by_cases c:t.1.toNat=s.1.toNat
  ·rw [if_pos c,if_pos (zb0 z).1];rw [c,e] at z;cases z;exact qeo h (sne hs ht n c)
  ·rw [if_neg c,e];exact h
def qoR (hM:M.length=B) (hs:In2 B s):s2 (stM M (s,w)) s v=stM M (s,v):=by
 obtain ⟨ds,e⟩:=qn8 hM hs;have l:=(zb0 e).1;rw [TB e,TB e,qbn (ds:=JS ds s.2.toNat w) (by rw [getElem?_set,if_pos rfl,if_pos l]),List.set_set,qew]
def qp5 (hM:M.length=B) (hs:In2 B s) (ht:In2 B t) (n:t≠s) {u:PyData} (h:g2 M s=some u):s2 (stM M (t,w)) s v=stM (s2 M s v) (t,w):=by
 unfold g2 at h;obtain ⟨ds,e,h⟩:=obb h;obtain ⟨es,z⟩:=qn8 hM ht;have l:=(zb0 e).1;have lq:=(zb0 h).1;rw [TB z,qbn e];by_cases c:t.1.toNat=s.1.toNat
 ·rw [c,e] at z;cases z;rw [c,qbn (ds:=JS ds t.2.toNat w) (by rw [getElem?_set,if_pos rfl,if_pos l]),TB (s:=t) (ds:=ds.set s.2.toNat v) (by rw [c,getElem?_set,if_pos rfl,if_pos l]),c,List.set_set,List.set_set,qdI lq (sne hs ht n c)]
 ·rw [qbn (ds:=ds) (by rw [getElem?_set,if_neg c,e]),TB (s:=t) (ds:=es) (by rw [getElem?_set,if_neg (Ne.symm c),z]),List.set_comm _ _ c]
theorem qct (hs:In2 B s):∀ (sw:List ((Int×Int)×PyData)) {M:List (List PyData)},(∀ x∈sw,In2 B x.1/\x.1≠s)->g2 M s=some v->g2 (sw.foldl stM M) s=some v
 |[],_,_,h=>h
 |x::sw,_,hx,h=>qct hs sw (λy hy=>hx y (by simp [hy])) (ql6 hs (hx x (by simp)).1 (hx x (by simp)).2 h)
theorem qaW (hs:In2 B s):∀ (sw:List ((Int×Int)×PyData)) {M:List (List PyData)} {u:PyData},M.length=B->(∀ x∈sw,In2 B x.1/\x.1≠s)->g2 M s=some u->s2 (sw.foldl stM M) s v=sw.foldl stM (s2 M s v)
 |[],_,_,_,_,_=>rfl
 |x::sw,M,u,hM,hx,h=>by
  have a:=hx x (by simp);rw [List.foldl_cons,List.foldl_cons,qaW hs sw (by rw [SX,hM]) (λy hy=>hx y (by simp [hy])) (ql6 hs a.1 a.2 h),qp5 hM hs a.1 a.2 h]
theorem qcX:∀ (sw:List ((Int×Int)×PyData)) {M:List (List PyData)} {n:Nat},M.length=B->(∀ x∈sw,In2 B x.1)->(sw.map λx=>x.1).Nodup->sw[n]?=some (s,w)->g2 (sw.foldl stM M) s=some w/\s2 (sw.foldl stM M) s v=(sw.set n (s,v)).foldl stM M
 |[],_,_,_,_,_,h=>by simp at h
 |x::sw,M,0,hM,hx,nd,h=>by
  simp only [x6,Option.some.injEq] at h;subst h;have hs:=hx (s,w) (by simp);have ne:∀ y∈sw,In2 B y.1/\y.1≠s:=λy hy=>⟨hx y (by simp [hy]),λz=>(List.nodup_cons.mp nd).1 (mem_map.mpr ⟨y,hy,z⟩)⟩
  have g:=qoW (M:=M) (w:=w) hM hs;refine ⟨qct hs sw ne g,?_⟩;rw [List.foldl_cons,set_cons_zero,List.foldl_cons,qaW hs sw (by rw [SX,hM]) ne g,qoR hM hs]
 |x::sw,M,n+1,hM,hx,nd,h=>by
  rw [set_cons_succ,List.foldl_cons,List.foldl_cons];exact qcX sw (by rw [SX,hM]) (λy hy=>hx y (by simp [hy])) (List.nodup_cons.mp nd).2 h
end
def qjf {bs:List Int} {i j:Nat} {b:Int} (h:i<j) (hi:bs[i]?=some b):cnt (bs.take i) b<cnt (bs.take j) b:=by
 have e:bs.take (i+1)=bs.take i++[b]:=by rw [List.take_add_one,hi];rfl
 have e2:bs.take j=bs.take (i+1)++(bs.take j).drop (i+1):=by
  have:=List.take_append_drop (i+1) (bs.take j);rw [List.take_take,Nat.min_eq_left (by omega)] at this;exact this.symm
 have c:cnt (bs.take (i+1)) b=cnt (bs.take i) b+1:=by rw [e,qhb,if_pos rfl]
 have m:cnt (bs.take (i+1)) b<=cnt (bs.take j) b:=by
  rw [e2];unfold cnt;rw [List.filter_append,length_append];omega
 omega
def qnC (bs:List Int):(csp bs).Nodup:=by
 refine List.pairwise_iff_getElem.mpr λi j hi hj hij z=>?_;have lj:j<bs.length:=by rw [← LV bs];exact hj
 have ei:=M3 (v8 (show i<bs.length by omega));have ej:=M3 (v8 lj);rw [v8 hi] at ei;rw [v8 hj,← z,ei] at ej;injection ej with z;injection z with z1 z2;have:=qjf hij (v8 (show i<bs.length by omega));rw [z1] at this z2;omega
def qi9 (n:Nat) (f:Int->Int×Int) (h:∀ x y:Int,0<=x->x<y->y<n->f x≠f y):((jQ 0 n).map f).Nodup:=by
 unfold jQ;rw [map_map];refine List.pairwise_iff_getElem.mpr λi j hi hj hij z=>?_;simp only [List.getElem_map,List.getElem_range,Function.comp,Int.zero_add] at z;simp at hj;exact h _ _ (by omega) (by omega) (by omega) z
def crt {x y b p:Int} (hb:1<=b) (hp:1<=p) (g:Int.gcd b p=1) (x0:0<=x) (xy:x<y) (yl:y<b*p):(x%b,x%p)≠(y%b,y%p):=by
 intro z;injection z with z1 z2;have d1:b ∣ y-x:=Int.dvd_of_emod_eq_zero (Int.emod_eq_emod_iff_emod_sub_eq_zero.mp z1.symm);have d2:p ∣ y-x:=Int.dvd_of_emod_eq_zero (Int.emod_eq_emod_iff_emod_sub_eq_zero.mp z2.symm);have n1:b.natAbs ∣ (y-x).natAbs:=Int.natAbs_dvd_natAbs.mpr d1;have n2:p.natAbs ∣ (y-x).natAbs:=Int.natAbs_dvd_natAbs.mpr d2;have n3:=Nat.Coprime.mul_dvd_of_dvd_of_dvd (show Nat.Coprime b.natAbs p.natAbs from g) n1 n2;have n4:=Nat.le_of_dvd (by omega) n3;rw [← Int.natAbs_mul] at n4;omega
def qj0 {d:Dl} (ok:d.Ok):(spt d).Nodup:=by
 cases d with
 |rests r c b p=>
  obtain ⟨h1,h2,h3,h4,h5,h6,h7,h8,h9,h10⟩:=ok;show ((jQ 0 (r*c).toNat).map λn=>(n%b,n%p)).Nodup;have rc0:0<=r*c:=Int.mul_nonneg (by omega) (by omega);exact qi9 _ _ λx y x0 xy yl=>crt h5 h7 h9 x0 xy (by omega)
 |_=>exact qnC _
def wn (N:Nat) (p:Int×Int):Nat:=(p.1*N+p.2).toNat
def VL (d:Dl) (ws:List PyData):List (List PyData):=mem d.B.toNat ((spt d).zip ws)
theorem qbX {α β:Type} {x:α} {v:β}:∀ {xs:List α} {ys:List β} {n:Nat},xs[n]?=some x->(xs.zip ys).set n (x,v)=xs.zip (ys.set n v)
 |[],_,_,h=>by simp at h
 |a::xs,[],n,h=>by simp
 |a::xs,b::ys,0,h=>by simp at h;simp [h]
 |a::xs,b::ys,n+1,h=>by
  simp only [x5] at h;simp only [List.zip_cons_cons,set_cons_succ,qbX h]
def qja {d:Dl} (ok:d.Ok) (h:d.R.toNat * d.C.toNat<=9999) {ws:List PyData} (hl:ws.length=d.R.toNat * d.C.toNat) {n:Nat} {s:Int×Int} (hs:(spt d)[n]?=some s) {w v:PyData} (hw:ws[n]?=some w):g2 (VL d ws) s=some w/\s2 (VL d ws) s v=VL d (ws.set n v)/\In2 d.B.toNat s:=by
 obtain ⟨sl,si⟩:=KD ok h;have zz:((spt d).zip ws)[n]?=some (s,w):=List.getElem?_zip_eq_some.mpr ⟨hs,hw⟩;have:=qcX (s:=s) (w:=w) (v:=v) (B:=d.B.toNat) ((spt d).zip ws) (M:=List.replicate d.B.toNat []) (n:=n) (List.length_replicate) (λx hx=>si _ (List.of_mem_zip (a:=x.1) (b:=x.2) hx).1) (by
  rw [List.map_fst_zip (by omega)];exact qj0 ok) zz
 refine ⟨this.1,?_,si _ (za1 hs)⟩;have e:=this.2;rw [qbX hs] at e;exact e
def XU {N:Nat} {p:Int×Int} (h:Nn N p):(LQ N N)[wn N p]?=some p:=by
 obtain ⟨⟨h1,h2⟩,h3,h4⟩:=h;obtain ⟨i,j⟩:=p;obtain ⟨i,rfl⟩:=Int.eq_ofNat_of_zero_le h1;obtain ⟨j,rfl⟩:=Int.eq_ofNat_of_zero_le h3;simp only at h2 h4;have e:wn N ((i:Int),(j:Int))=i*N+j:=by
  unfold wn;simp only;omega
 rw [e];unfold LQ;have gen:∀ (m r:Nat) (f:Nat->List (Int×Int)),(∀ x,(f x).length=N)->m<r->((List.range r).flatMap f)[m*N+j]?=(f m)[j]?:=by
  intro m r f hf hm;induction r with
  |zero=>omega
  |succ r ih=>
   have l:((List.range r).flatMap f).length=r*N:=by
    clear ih hm;induction r with
    |zero=>simp
    |succ r ih=>rw [List.range_succ,List.flatMap_append,length_append,ih,Nat.succ_mul];simp [hf]
   rw [List.range_succ,List.flatMap_append];by_cases c:m<r
   ·have:=Nat.mul_le_mul_right N (show m+1<=r by omega);rw [Nat.succ_mul] at this;rw [List.getElem?_append_left (by omega),ih c]
   ·have:m=r:=by omega
    subst this;rw [List.getElem?_append_right (by omega),l,Nat.add_sub_cancel_left];simp
 rw [gen i N _ (by simp) (by omega),getElem?_map,List.getElem?_range (by omega)];rfl
def qhh {N:Nat} {p:Int×Int} (h:Nn N p):wn N p<N*N:=by
 have:=(zb0 (XU h)).1;rw [qiY] at this;exact this
def qak {N i:Nat} (h:i<N*N):∃ p,(LQ N N)[i]?=some p/\Nn N p/\wn N p=i:=by
 have n0:0<N:=by
  rcases Nat.eq_zero_or_pos N with z|z
  ·subst z;simp at h
  ·exact z
 have a:=Nat.div_lt_of_lt_mul h;have b:=Nat.mod_lt i n0;have c:=Nat.div_add_mod i N;generalize i/N=x at a c;generalize i%N=y at b c;have nn:Nn N ((x:Int),(y:Int)):=⟨⟨by simp only;omega,by simp only;omega⟩,by simp only;omega,by simp only;omega⟩
 have e:wn N ((x:Int),(y:Int))=i:=by
  unfold wn;simp only;rw [← Int.natCast_mul,Nat.mul_comm];omega
 refine ⟨_,?_,nn,e⟩;have:=XU nn;rw [e] at this;exact this
def tq (p:Int×Int):Int×Int:=(p.2,p.1)
def Tf (f:Int×Int->PyData) (ps:List (Int×Int)) (q:Int×Int):PyData:=if q∈ps\/tq q∈ps then f (tq q) else f q
def wsF (N:Nat) (f:Int×Int->PyData):List PyData:=(LQ N N).map f
def RB {N:Nat} {f:Int×Int->PyData} {p:Int×Int} (h:Nn N p):(wsF N f)[wn N p]?=some (f p):=by
 unfold wsF;rw [getElem?_map,XU h];rfl
def JK {N:Nat} {f:Int×Int->PyData}:(wsF N f).length=N*N:=by
 unfold wsF;rw [length_map,qiY]
def qb6 {N:Nat} {f:Int×Int->PyData} {p:Int×Int} {v:PyData} (h:Nn N p):(wsF N f).set (wn N p) v=wsF N λq=>if q=p then v else f q:=by
 apply List.ext_getElem?;intro i;rw [getElem?_set,JK];by_cases l:i<N*N
 ·obtain ⟨q,hq,nq,e⟩:=qak l;have e1:(wsF N λq=>if q=p then v else f q)[i]?=some (if q=p then v else f q):=by unfold wsF;rw [getElem?_map,hq];rfl
  have e2:(wsF N f)[i]?=some (f q):=by unfold wsF;rw [getElem?_map,hq];rfl
  rw [e1,e2];by_cases c:wn N p=i
  ·have:q=p:=by
    have:=XU h;rw [c,hq] at this;exact Option.some.inj this
   rw [if_pos c,if_pos (qhh h),if_pos this]
  ·rw [if_neg c,if_neg (λz=>c (by rw [← z];exact e))]
 ·have a:=qhh h;rw [if_neg (by omega),List.getElem?_eq_none (by rw [JK];omega),List.getElem?_eq_none (by rw [JK];omega)]
def qoH {N:Nat} {p:Int×Int} (h:Nn N p):Nn N (tq p):=⟨h.2,h.1⟩
def qix {N:Nat} {f:Int×Int->PyData} {ps:List (Int×Int)} {p:Int×Int} (hp:Nn N p) (n1:p∉ps) (n2:tq p∉ps) (ne:p.1<p.2):((wsF N (Tf f ps)).set (wn N p) (Tf f ps (tq p))).set (wn N (tq p)) (Tf f ps p)=wsF N (Tf f (ps++[p])):=by
 rw [qb6 hp,qb6 (qoH hp)];unfold wsF;refine List.map_congr_left λq hq=>?_;obtain ⟨i,j⟩:=p;obtain ⟨a,b⟩:=q;simp only [tq,Tf,List.mem_append,List.mem_singleton,Prod.mk.injEq] at *;by_cases c1:a=j/\b=i
 ·obtain ⟨rfl,rfl⟩:=c1;simp [n1,n2]
 ·by_cases c2:a=i/\b=j
  ·obtain ⟨rfl,rfl⟩:=c2;simp [n1,n2,c1]
  ·have c3:¬ (b=i/\a=j):=λz=>c1 ⟨z.2,z.1⟩;by_cases z:(a,b)∈ps\/(b,a)∈ps
   ·simp only [c1,c2,c3,if_false,or_false];exact (if_pos z).trans (if_pos z).symm
   ·simp only [c1,c2,c3,if_false,or_false];exact (if_neg z).trans (if_neg z).symm
def scF (f:Int×Int->PyData):Prop:=∀ q,WH (f q)=true
def qp4 {f:Int×Int->PyData} (h:scF f) (ps:List (Int×Int)):scF (Tf f ps):=λq=>by
 unfold Tf;split<;>exact h _
def qjn {m:List Bool} {b:Bool} {i:Nat} {v:PyData} {ρ:Rho} (h:WH v=true):NW m b i v ρ=ρ.set i (.sh v):=by
 cases v<;>first|rfl|exact nomatch h
def mD (M:List (List PyData)):PyData:=.list (M.map PyData.list)
def ixl {xs:List PyData} {k:Nat} {v:PyData} (h:xs[k]?=some v):ixD (.list xs) (.int (k:Int))=some v:=by
 show atI xs (k:Int)=some v;unfold atI;rw [qd0 (zb0 h).1,Option.bind_some,h]
def ixz {xs:List PyData} {z:Int} {v:PyData} (h0:0<=z) (h:xs[z.toNat]?=some v):ixD (.list xs) (.int z)=some v:=by
 have:=ixl h;rw [Int.toNat_of_nonneg h0] at this;exact this
def qhY {M:List (List PyData)} {s:Int×Int} {v:PyData} {B:Nat} (hs:In2 B s) (h:g2 M s=some v):∃ ds,atI (M.map PyData.list) s.1=some (.list ds)/\atI ds s.2=some v/\M[s.1.toNat]?=some ds/\s.2.toNat<ds.length:=by
 unfold g2 at h;obtain ⟨ds,e,h⟩:=obb h;exact ⟨ds,ixz hs.1.1 (by rw [getElem?_map,e];rfl),ixz hs.2.1 h,e,(zb0 h).1⟩
def qhM {n:Nat} {z:Int} (h0:0<=z) (h:z.toNat<n):ixN n z=some z.toNat:=by
 have:=qd0 h;rw [Int.toNat_of_nonneg h0] at this;exact this
def NB {i:Nat} {ρ:Rho} {M:List (List PyData)} {s:Int×Int} {u v:PyData} {B:Nat} (hρ:zR ρ i=some M) (hs:In2 B s) (h:g2 M s=some u) (hv:WH v=true):K2 i s.1 s.2 v ρ=some (.nx (ρ.set i (.on (s2 M s v)))):=by
 obtain ⟨ds,_,_,e,l⟩:=qhY hs h;unfold K2;rw [hρ,Option.bind_some,qhM hs.1.1 (zb0 e).1,Option.bind_some,e,Option.bind_some,qhM hs.2.1 l,Option.bind_some,if_pos hv,qbn e]
structure Pln (N:Nat) (pl:List (List PP)):Prop where
 nn:∀ s∈pl,∀ p∈s,Nn N p
 lt:∀ s∈pl,∀ p∈s,p.1<p.2
 nd:pl.flatten.Nodup
def qcd (M:List (List PyData)) (h:∀ ds∈M,∀ x∈ds,WH x=true):fls (M.map PyData.list)=some M:=by
 induction M with
 |nil=>rfl
 |cons ds M ih=>
  rw [map_cons,fls,fl1,if_pos (List.all_eq_true.mpr (h ds (by simp))),ih λx hx=>h x (by simp [hx])];rfl
def qiZ {d:Dl} {N:Nat} (h:Sq d N):d.R.toNat=N/\d.C.toNat=N/\d.R.toNat * d.C.toNat=N*N/\d.R.toNat * d.C.toNat<=9999:=by
 have a:=h.r;have b:=h.c;have c:=h.n;have e1:d.R.toNat=N:=by omega
 have e2:d.C.toNat=N:=by omega
 have:=Nat.mul_le_mul c c;rw [e1,e2];exact ⟨rfl,rfl,rfl,by omega⟩
def qq3 {d:Dl} {N:Nat} (h:Sq d N) {i j:Int} (hn:Nn N (i,j)):the (NuR 2 [dlD d,.tuple [.int i,.int j]])=some (.int ((wn N (i,j):Nat):Int)):=by
 rw [qoN (n:=2) h.dp h.ok,h.c];obtain ⟨⟨a,b⟩,c,e⟩:=hn;simp only at a b c e;have:=Int.mul_nonneg a (show (0:Int)<=N by omega);unfold wn;simp only;congr 2;omega
def ql1 {d:Dl} {N:Nat} (h:Sq d N) {p:Int×Int} (hn:Nn N p):∃ s,(spt d)[wn N p]?=some s:=by
 obtain ⟨_,_,e,l⟩:=qiZ h;exact ⟨_,v8 (by rw [(KD h.ok l).1,e];exact qhh hn)⟩
def qh6 {d:Dl} {N:Nat} (h:Sq d N) {p s:Int×Int} (hn:Nn N p) (hs:(spt d)[wn N p]?=some s) {ws:List PyData} (hl:ws.length=N*N) {w v:PyData} (hw:ws[wn N p]?=some w):g2 (VL d ws) s=some w/\s2 (VL d ws) s v=VL d (ws.set (wn N p) v)/\In2 d.B.toNat s:=by
 obtain ⟨_,_,e,l⟩:=qiZ h;exact qja h.ok l (by rw [hl,e]) hs hw
def qa0 {d:Dl} {N:Nat} (h:Sq d N) {ws:List PyData} (hw:∀ w∈ws,WH w=true):∀ ds∈VL d ws,(∀ x∈ds,WH x=true)/\ds.length<=10000:=by
 obtain ⟨_,_,_,l⟩:=qiZ h;exact ND (P:=λx=>WH x=true) rfl (B:=d.B.toNat) _ _ (λx hx=>⟨(KD h.ok l).2 _ (List.of_mem_zip (a:=x.1) (b:=x.2) hx).1,hw _ (List.of_mem_zip (a:=x.1) (b:=x.2) hx).2⟩) λds hds=>by rw [(List.mem_replicate.mp hds).2];exact ⟨λx hx=>(nomatch hx),by simp⟩
def ixS {d:Dl} {n:Nat} {s:Int×Int} (h:(spt d)[n]?=some s):ixD (sp2 (spt d)) (.int (n:Int))=some (.tuple [.int s.1,.int s.2]):=ixl (by rw [getElem?_map,h];rfl)
def qca {N:Nat} {f:Int×Int->PyData} (h:scF f):∀ w∈wsF N f,WH w=true:=λw hw=>by
 obtain ⟨q,_,rfl⟩:=mem_map.mp hw;exact h q
def qlF {d:Dl} {N:Nat} (h:Sq d N) {pl:List (List PP)} (P:Pln N pl) {f:Int×Int->PyData} (hf:scF f):JA [dlD d,plD pl,mD (VL d (wsF N f))]=some (.inr (VL d (wsF N (Tf f pl.flatten)))):=by
 have hR:=h.r;have hC:=h.c;have hN:=h.n;have so:=qrn h.dp h.ok (by omega) (by omega);have msc:=qa0 h (qca (N:=N) hf);have ml:=XQ (B:=d.B.toNat) ((spt d).zip (wsF N f));have lm:=Dl.lims h.ok;have b2:=lm.b2;rw [qcs]
 try simp only [Pu.pwA,XA,qdt,qfZ,MG,qqu h,so]
 try simp only [Pu.pwA,sp2,mD,qmu]
 rw [YE (k:=λds=>PyData.list ds) λds hds=>by try simp only [Pu.pwA,CQ]];rw [Option.bind_some,qcd _ λds hds=>(msc ds hds).1,Option.bind_some,if_pos (by rw [length_map];unfold VL;rw [ml];omega)]
 try simp only [Pu.pwA,sp2]
 rw [show PyData.list ((spt d).map pD)=sp2 (spt d) from rfl,show PyData.list ((VL d (wsF N f)).map PyData.list)=mD (VL d (wsF N f)) from rfl]
 try simp only [Pu.pwA,plD]
 rw [show PyData.list (pl.map bsD)=plD pl from rfl];have T0:Tf f []=f:=by funext q;simp [Tf]
 refine EN (Q:=λo=>(o.bind λo=>match o with|Ot.nx ρ'=>Option.map Sum.inr (zR ρ' 4)|x=>none)=some (.inr (VL d (wsF N (Tf f pl.flatten))))) (g:=bsD) pl (λi ρ=>∃ s5 s6 s7 s8 s9 s10 s11 s12,ρ=[.sh (dlD d),.sh (plD pl),.sh (mD (VL d (wsF N f))),.sh (sp2 (spt d)),.on (VL d (wsF N (Tf f (pl.take i).flatten))),s5,s6,s7,s8,s9,s10,s11,s12]) ⟨_,_,_,_,_,_,_,_,by rw [List.take_zero,List.flatten_nil,T0]⟩ ?_ ?_
 ·rintro i s ρ hx ⟨s5,s6,s7,s8,s9,s10,s11,s12,rfl⟩;have hm:=za1 hx;have e1:(pl.take (i+1)).flatten=(pl.take i).flatten++s:=by rw [C7 hx];simp
  have nd1:((pl.take i).flatten++s).Nodup:=by
   have:=P.nd;rw [← List.take_append_drop (i+1) pl,List.flatten_append,e1] at this;exact (List.nodup_append.mp this).1
  have lt0:∀ q∈(pl.take i).flatten,q.1<q.2:=λq hq=>by
   obtain ⟨t,ht,hq⟩:=List.mem_flatten.mp hq;exact P.lt t (List.mem_of_mem_take ht) q hq
  try simp only [Pu.pwA,bsD]
  rw [e1];generalize (pl.take i).flatten=ps0 at *;refine EN (Q:=λo=>Nx o _) (g:=pD) s (λk ρ=>∃ s6 s7 s8 s9 s10 s11 s12,ρ=[.sh (dlD d),.sh (plD pl),.sh (mD (VL d (wsF N f))),.sh (sp2 (spt d)),.on (VL d (wsF N (Tf f (ps0++s.take k)))),.sh (.list (s.map pD)),s6,s7,s8,s9,s10,s11,s12]) ⟨_,_,_,_,_,_,_,by rw [List.take_zero,List.append_nil]⟩ ?_ ?_
  ·rintro k ⟨a,b⟩ ρ hk ⟨s6,s7,s8,s9,s10,s11,s12,rfl⟩;have hm2:=za1 hk;have n1:=P.nn s hm _ hm2;have n2:Nn N (b,a):=qoH n1;have lt:=P.lt s hm _ hm2;have e2:ps0++s.take (k+1)=ps0++s.take k++[(a,b)]:=by rw [C7 hk,List.append_assoc]
   have nd2:(ps0++s.take k++[(a,b)]).Nodup:=by
    rw [← List.take_append_drop (k+1) s,← List.append_assoc,e2] at nd1;exact (List.nodup_append.mp nd1).1
   have ni:(a,b)∉ps0++s.take k:=λz=>(List.nodup_append.mp nd2).2.2 _ z _ (by simp) rfl;have nt:tq (a,b)∉ps0++s.take k:=λz=>by
    have:b<a:=by
     rcases List.mem_append.mp z with z|z
     ·exact lt0 _ z
     ·exact P.lt s hm _ (List.mem_of_mem_take z)
    simp only at lt;omega
   have st:=qix (f:=f) n1 ni nt lt;have sc:=qp4 hf (ps0++s.take k);rw [e2];generalize Tf f (ps0++s.take k)=f1 at *;rw [← st];obtain ⟨u,hu⟩:=ql1 h n1;obtain ⟨v,hv⟩:=ql1 h n2;obtain ⟨g1,w1,i1⟩:=qh6 h n1 hu JK (v:=f1 (b,a)) (RB (f:=f1) n1);obtain ⟨g2',_,i2⟩:=qh6 h n2 hv JK (v:=f1 (b,a)) (RB (f:=f1) n2);have ne:wn N (a,b)≠wn N (b,a):=λz=>by
    have x:=XU n1;rw [z,XU n2] at x;injection x with x;injection x with x;simp only at lt;omega
   obtain ⟨g3,w3,_⟩:=qh6 h n2 hv (ws:=(wsF N f1).set (wn N (a,b)) (f1 (b,a))) (by rw [List.length_set,JK]) (v:=f1 (a,b)) (w:=f1 (b,a)) (by rw [getElem?_set,if_neg ne];exact RB n2);obtain ⟨d1,x1,x2,x3,x4⟩:=qhY i1 g1;obtain ⟨d2,y1,y2,y3,y4⟩:=qhY i2 g2';have k1:=qq3 h n1;have k2:=qq3 h n2;have j1:=ixS hu;have j2:=ixS hv
   try simp only [Pu.pwA,pD,qp7,k1,k2,j1,j2,qaZ,qar,x1,x2]
   rw [qjn (sc _)]
   try simp only [Pu.pwA,y1,y2,qar]
   rw [NB (M:=VL d (wsF N f1)) rfl i1 g1 (sc _),w1]
   try simp only [Pu.pwA]
   rw [NB (M:=VL d ((wsF N f1).set (wn N (a,b)) (f1 (b,a)))) rfl i2 g3 (sc _),w3]
   try simp only [Pu.pwA]
   exact ⟨_,_,_,_,_,_,_,rfl⟩
  ·rintro ρ ⟨s6,s7,s8,s9,s10,s11,s12,rfl⟩;rw [List.take_length]
   try simp only [Pu.pwA]
   exact ⟨_,_,_,_,_,_,_,_,rfl⟩
 ·rintro ρ ⟨s5,s6,s7,s8,s9,s10,s11,s12,rfl⟩;rw [List.take_length];rfl
end K72
namespace K72
open PySem L2 L3 Pu Pv
open Bk (Dl Inn SD)
mutual
theorem RZ {a b:Nat} (h:a<=b):∀ d:PyData,d.leavesShort a=true->d.leavesShort b=true
 |.none,_=>rfl
 |.bool _,_=>rfl
 |.int i,e=>by simp only [PyData.leavesShort,decide_eq_true_eq] at e ⊢;omega
 |.str _,e=>e
 |.list xs,e=>by simp only [PyData.leavesShort] at e ⊢;exact RQ h xs e
 |.tuple xs,e=>by simp only [PyData.leavesShort] at e ⊢;exact RQ h xs e
 |.dict kvs,e=>by simp only [PyData.leavesShort] at e ⊢;exact NL h kvs e
theorem RQ {a b:Nat} (h:a<=b):∀ xs:List PyData,PyData.leavesShortAll a xs=true->PyData.leavesShortAll b xs=true
 |[],_=>rfl
 |x::xs,e=>by
  simp only [PyData.leavesShortAll,Bool.and_eq_true] at e ⊢;exact ⟨RZ h x e.1,RQ h xs e.2⟩
theorem NL {a b:Nat} (h:a<=b):∀ xs:List (PyData×PyData),PyData.leavesShortKv a xs=true->PyData.leavesShortKv b xs=true
 |[],_=>rfl
 | (k,v)::xs,e=>by
  simp only [PyData.leavesShortKv,Bool.and_eq_true] at e ⊢;exact ⟨⟨RZ h k e.1.1,RZ h v e.1.2⟩,NL h xs e.2⟩
end
structure SE (k n:Nat) (d:PyData):Prop where
 sh:d.showable=true
 nd:d.hasDict=false
 dp:d.depth<=k
 lv:d.leavesShort 32=true
 bk:d.bulk<=n
def SE.of {k n:Nat} {d:PyData} (h:SD k n d):SE k n d:=⟨h.sh,h.nd,h.dp,RZ (by decide) d h.lv,h.bk⟩
def SE.mono {k n k' n':Nat} {d:PyData} (h:SE k n d) (hk:k<=k') (hn:n<=n'):SE k' n' d:=⟨h.sh,h.nd,za2 h.dp hk,h.lv,za2 h.bk hn⟩
def SE.w {k n:Nat} {d:PyData} (h:SE k n d) (hk:k<=40) (hn:n<=480000):ShW d:=⟨h.sh,h.nd,za2 h.dp hk,by
 have:=PyData.shown_le_bulk 32 (by decide) d h.lv;have:=h.bk;rw [v7];omega⟩
def WB {k n:Nat}:∀ {ds:List PyData},(∀ d∈ds,SE k n d)->SE (k+1) (ds.length*(n+1)) (.list ds)/\SE (k+1) (ds.length*(n+1)) (.tuple ds):=λ{ds} h=>by
 have:PyData.showableAll ds=true/\PyData.hasDictAll ds=false/\PyData.depthAll ds<=k/\PyData.leavesShortAll 32 ds=true/\PyData.bulkAll ds<=ds.length*(n+1):=by
  induction ds with
  |nil=>exact ⟨rfl,rfl,Nat.zero_le _,rfl,Nat.zero_le _⟩
  |cons d ds ih=>
   obtain ⟨a1,a2,a3,a4,a5⟩:=ih λx hx=>h x (by simp [hx]);have t:=h d (by simp);refine ⟨by simp [PyData.showableAll,t.sh,a1],by simp [PyData.hasDictAll,t.nd,a2],?_,by simp [PyData.leavesShortAll,t.lv,a4],?_⟩
   ·simp only [PyData.depthAll];exact Nat.max_le.mpr ⟨t.dp,a3⟩
   ·simp only [PyData.bulkAll,length_cons,Nat.succ_mul];have:=t.bk;omega
 obtain ⟨a1,a2,a3,a4,a5⟩:=this;exact ⟨⟨by simpa [PyData.showable] using a1,by simpa [PyData.hasDict] using a2,by simp only [PyData.depth];omega,by simpa [PyData.leavesShort] using a4,by simp only [PyData.bulk];exact a5⟩,by simpa [PyData.showable] using a1,by simpa [PyData.hasDict] using a2,by simp only [PyData.depth];omega,by simpa [PyData.leavesShort] using a4,by simp only [PyData.bulk];exact a5⟩
def Wt (d:PyData):Prop:=d=.none\/∃ i:Int,d=.int i/\i.natAbs<10 ^ 31
def qpa {d:PyData} (h:Wt d):SE 0 0 d:=by
 rcases h with rfl|⟨i,rfl,h1⟩
 ·exact ⟨rfl,rfl,Nat.zero_le _,rfl,Nat.zero_le _⟩
 ·refine ⟨?_,rfl,Nat.zero_le _,?_,Nat.zero_le _⟩
  ·simp only [PyData.showable];have:i.natAbs<2 ^ 120:=Nat.lt_trans h1 (by decide);rcases Nat.eq_zero_or_pos i.natAbs with z|z
   ·simp [z]
   ·have:=(Nat.log2_lt (by omega)).mpr this;simp;omega
  ·simp only [PyData.leavesShort,decide_eq_true_eq];have e:=int_text_length_le10 (k:=31) (by decide) h1;show (Str.ofString (toString i)).length<=32;rw [ofString_length];exact e
def qdW {d:Dl} {N:Nat} (h:Sq d N) (dp:d.dep<=1) (b32:d.B<=32) {pl:List (List PP)} (P:∀ s∈pl,∀ p∈s,Nn N p) (l1:pl.length<=124) (l2:∀ s∈pl,s.length<=120) {ws:List PyData} (hw:∀ w∈ws,Wt w):∃ t:Str,qeP true [.list [dlD d,plD pl,mD (VL d ws)]]=some (.str t):=by
 obtain ⟨_,_,_,l⟩:=qiZ h;have hN:=h.n;have all:=ND (P:=Wt) (.inl rfl) (B:=d.B.toNat) ((spt d).zip ws) (List.replicate d.B.toNat []) (λx hx=>⟨(KD h.ok l).2 _ (List.of_mem_zip (a:=x.1) (b:=x.2) hx).1,hw _ (List.of_mem_zip (a:=x.1) (b:=x.2) hx).2⟩) λds hds=>by rw [(List.mem_replicate.mp hds).2];exact ⟨λx hx=>(nomatch hx),by simp⟩
 have ml:=XQ (B:=d.B.toNat) ((spt d).zip ws);have m1:SE 2 320032 (mD (VL d ws)):=by
  have:=(WB (k:=1) (n:=10000) (ds:=(VL d ws).map PyData.list) λx hx=>by
   obtain ⟨ds,hds,rfl⟩:=mem_map.mp hx;obtain ⟨a,b⟩:=all ds hds;exact (WB (k:=0) (n:=0) λx hx=>qpa (a x hx)).1.mono (u7 _) (by omega)).1
  refine this.mono (u7 _) ?_;rw [length_map];unfold VL;rw [ml];omega
 have m2:SE 3 46000 (plD pl):=by
  have:=(WB (k:=2) (n:=360) (ds:=pl.map bsD) λx hx=>by
   obtain ⟨s,hs,rfl⟩:=mem_map.mp hx;refine (WB (k:=1) (n:=2) λx hx=>?_).1.mono (u7 _) (by rw [length_map];have:=l2 s hs;omega);obtain ⟨p,hp,rfl⟩:=mem_map.mp hx;obtain ⟨⟨p1,p2⟩,p3,p4⟩:=P s hs p hp;refine (WB (k:=0) (n:=0) (ds:=[.int p.1,.int p.2]) λx hx=>?_).2;simp only [mem_cons,not_mem_nil,or_false] at hx;rcases hx with rfl|rfl
   ·exact SE.of (Bk.QC 0 0 (by omega))
   ·exact SE.of (Bk.QC 0 0 (by omega))).1
  refine this.mono (u7 _) ?_;rw [length_map];omega
 have m3:SE 5 32000 (dlD d):=(SE.of (qiH d h.ok)).mono (by omega) (by
  have:4 ^ d.dep<=4 ^ 1:=Nat.pow_le_pow_right (by decide) dp;omega)
 have bulk:PyData.bulkAll [dlD d,plD pl,mD (VL d ws)]<=400000:=by
  have a:=m1.bk;have b:=m2.bk;have c:=m3.bk;simp only [PyData.bulkAll];omega
 have:=(WB (k:=5) (n:=400000) (ds:=[dlD d,plD pl,mD (VL d ws)]) λx hx=>by
  simp only [mem_cons,not_mem_nil,or_false] at hx;rcases hx with rfl|rfl|rfl
  ·exact m3.mono (u7 _) (by omega)
  ·exact m2.mono (by omega) (by omega)
  ·exact m1.mono (by omega) (by omega)).1
 exact ⟨_,qjB (SE.w (k:=6) (n:=400000) ⟨this.sh,this.nd,this.dp,this.lv,by simp only [PyData.bulk];exact bulk⟩ (by omega) (by omega))⟩
end K72
namespace K72
open PySem L2 L3 Pu Pv
open Bk (Dl Inn)
def qpy {N:Nat} {p:Int×Int} (h:Nn N p):((wn N p:Nat):Int)=p.1*N+p.2:=by
 obtain ⟨⟨a,b⟩,c,e⟩:=h;have:=Int.mul_nonneg a (show (0:Int)<=N by omega);unfold wn;omega
def qb5 {N:Nat} {p:Int×Int} (h:Nn N p):((wn N p:Nat):Int)/N=p.1/\((wn N p:Nat):Int)%N=p.2:=by
 rw [qpy h];obtain ⟨⟨a,b⟩,c,e⟩:=h;refine ⟨?_,?_⟩
 ·rw [Int.add_comm,Int.add_mul_ediv_right _ _ (by omega),Int.ediv_eq_zero_of_lt c e,Int.zero_add]
 ·rw [Int.add_comm,Int.add_mul_emod_self_right,Int.emod_eq_of_lt c e]
def isR:Dl->Bool
 |.rests _ _ _ _=>true
 |_=>false
def qpB {d:Dl} (h:isR d=false):spt d=csp (ET d):=by
 cases d<;>first|rfl|exact nomatch h
def qqj {d:Dl} {N:Nat} (h:Sq d N) {p:Int×Int} (hn:Nn N p):(ET d)[wn N p]?=some (d.bank p.1 p.2):=by
 obtain ⟨e1,e2,_,_⟩:=qiZ h;unfold ET;rw [e1,e2,getElem?_map,XU hn];rfl
def Cn (B:Nat) (M:List (List PyData)) (bs:List Int):Prop:=∀ b:Nat,b<B->∃ ds,M[b]?=some ds/\((ds.length:Nat):Int)=cnt bs (b:Int)
def qri {B:Nat} {M:List (List PyData)} {bs:List Int} {b:Int} {w:PyData} (h:Cn B M bs) (h0:0<=b/\b<B):Cn B (stM M ((b,cnt bs b),w)) (bs++[b]):=λc hc=>by
 obtain ⟨ds,e,l⟩:=h b.toNat (by omega);obtain ⟨es,e2,l2⟩:=h c hc;rw [Int.toNat_of_nonneg h0.1] at l;rw [TB (s:=(b,cnt bs b)) e,qhb];simp only;by_cases z:b=(c:Int)
 ·subst z;simp only [Int.toNat_natCast] at e ⊢;rw [e] at e2;cases e2;refine ⟨_,by rw [getElem?_set,if_pos rfl,if_pos (zb0 e).1],?_⟩;rw [if_pos trivial];unfold JS;simp;omega
 ·refine ⟨es,by rw [getElem?_set,if_neg (by omega),e2],?_⟩;rw [if_neg z,l2,Int.add_zero]
def qmk {d:Dl} {N:Nat} (h:Sq d N) {ws:List PyData} (hw:∀ w∈ws,WH w=true) (hl:ws.length=N*N):zr [dlD d,.list ws]=some (.inr (VL d ws)):=by
 have hR:=h.r;have hC:=h.c;have hN:=h.n;obtain ⟨q1,q2,q3,q4⟩:=qiZ h;obtain ⟨sl,si⟩:=KD h.ok q4;have lm:=Dl.lims h.ok;have b1:=lm.b1;have b2:=lm.b2;have NN:=Nat.mul_le_mul hN hN;rw [SG]
 try simp only [Pu.pwA,ZW,qdt,qfZ,MG,qfz,qcw (n:=2) h.dp h.ok,siz]
 try simp (disch:=omega) only [Pu.pwA,LO,qmu]
 rw [YE (k:=λ_=>PyData.list []) λx hx=>by try simp only [Pu.pwA,CQ]];rw [show (jQ 0 d.B.toNat).map (λ_=>PyData.list [])=(List.replicate d.B.toNat []).map PyData.list by rw [List.map_const',qz,List.map_replicate]];rw [Option.bind_some,qcd _ λds hds=>by rw [(List.mem_replicate.mp hds).2];exact λx hx=>(nomatch hx),Option.bind_some,if_pos (by simp;omega)]
 try simp only [Pu.pwA,hR,hC]
 rw [show enD 0 ws=ws.zipIdx.map λx=>PyData.tuple [.int ((x.2:Nat):Int),x.1] from by
  have:=qcA (λx:PyData=>x) ws;rw [List.map_id'] at this;exact this 0]
 have sw:∀ i w,ws[i]?=some w->∃ s,(spt d)[i]?=some s/\((spt d).zip ws)[i]?=some (s,w):=λi w e=>by
  have:=(zb0 e).1;have e':=v8 (show i<(spt d).length by omega);exact ⟨_,e',List.getElem?_zip_eq_some.mpr ⟨e',e⟩⟩
 refine EN (Q:=λo=>(o.bind λo=>match o with|Ot.nx ρ'=>Option.map Sum.inr (zR ρ' 5)|x=>none)=some (.inr (VL d ws))) (g:=λx:PyData×Nat=>PyData.tuple [.int ((x.2:Nat):Int),x.1]) ws.zipIdx (λi ρ=>(isR d=false->Cn d.B.toNat (mem d.B.toNat (((spt d).zip ws).take i)) ((ET d).take i))/\∃ s6 s7 s8 s9,ρ=[.sh (dlD d),.sh (.list ws),.sh (.int (N:Int)),.sh (.int (N:Int)),.sh (.int d.B),.on (mem d.B.toNat (((spt d).zip ws).take i)),s6,s7,s8,s9]) ⟨λ_ b hb=>⟨[],by rw [List.take_zero];exact List.getElem?_replicate_of_lt hb,rfl⟩,_,_,_,_,rfl⟩ ?_ ?_
 ·rintro i ⟨w,j⟩ ρ hx ⟨cn,s6,s7,s8,s9,rfl⟩;obtain ⟨hx,rfl,il⟩:=VY hx;have hsc:=hw w (za1 hx);obtain ⟨p,hp,np,hpi⟩:=qak (N:=N) (i:=j) (by omega);obtain ⟨s,hs,hz⟩:=sw j w hx;have hin:=si s (za1 hs);have ba:=qqj h np;rw [hpi] at ba;obtain ⟨v1,v2⟩:=qb5 np;rw [hpi] at v1 v2;have lb:=qqe (n:=2) h.dp h.ok (h.inn np).1;have n0:0<(N:Int):=by have:=np.1;omega
  have nm:(N:Int)<1073741824:=by omega
  try simp (disch:=omega) only [Pu.pwA,qhO,qeF,qkZ,qc9,KJ,v1,v2,lb,qhi,qh5]
  have ml:=XQ (B:=d.B.toNat) (((spt d).zip ws).take j);have mi:=ND (P:=λx=>True) trivial (B:=d.B.toNat) (((spt d).zip ws).take j) (List.replicate d.B.toNat []) (λx hx=>⟨si _ (List.of_mem_zip (a:=x.1) (b:=x.2) (List.mem_of_mem_take hx)).1,trivial⟩) λds hds=>by rw [(List.mem_replicate.mp hds).2];exact ⟨λ_ _=>trivial,by simp⟩
  have e9:=qoi (B:=d.B.toNat) hz;rw [e9];obtain ⟨ds,hds⟩:=qn8 ml hin;have dl:=(mi ds (za1 hds)).2;have se:stM (mem d.B.toNat (((spt d).zip ws).take j)) (s,w)=(mem d.B.toNat (((spt d).zip ws).take j)).set s.1.toNat (JS ds s.2.toNat w):=TB hds;have tk:(ET d).take (j+1)=(ET d).take j++[d.bank p.1 p.2]:=C7 ba;have key:s.1=d.bank p.1 p.2/\((((ixD (dlD d) (.int 0)).bind λx=>eqD false x (.str (Str.ofString "rests"))).bind asB).bind λc=>if c=true then ((ixD (dlD d) (.int 4)).bind λy=>cI (λ_ j=>0<j) (λx1 x2=>x1%x2) (.int (j:Int)) y).bind asI else some ((ds.length:Nat):Int))=some s.2/\(isR d=false->s.2=cnt ((ET d).take j) (d.bank p.1 p.2)):=by
   cases hd:isR d with
   |true=>
    cases d with
    |rests r c b pl=>
     obtain ⟨o1,o2,o3,o4,o5,o6,o7,o8,o9,o10⟩:=h.ok;have es:(spt (.rests r c b pl))[j]?=some ((j:Int)%b,(j:Int)%pl):=by
      have:=(zb0 hs).1;have l2:j<(jQ 0 (r*c).toNat).length:=by simpa [spt] using this
      show ((jQ 0 (r*c).toNat).map λn=>(n%b,n%pl))[j]?=_;rw [getElem?_map,v8 l2];simp [jQ]
     rw [hs] at es;cases es;have e4:=KJ (i:=(j:Int)) (j:=pl) (by omega);refine ⟨?_,?_,λz=>nomatch z⟩
     ·simp only [Dl.bank];rw [← hpi,qpy np];simp only [Dl.C] at hC;rw [hC]
     ·try simp only [Pu.pwA,dlD,eq_self,e4]
    |_=>exact nomatch hd
   |false=>
    have ec:=M3 ba;rw [← qpB hd,hs] at ec;cases ec;obtain ⟨t,xs,e,n⟩:=qba (d:=d) λr c' b p z=>by rw [z] at hd;exact nomatch hd
    obtain ⟨ds',hds',l⟩:=cn hd (d.bank p.1 p.2).toNat (by have:=hin.1;simp only at this;omega);simp only at hds;rw [hds] at hds';cases hds';rw [Int.toNat_of_nonneg hin.1.1] at l;refine ⟨rfl,?_,λ_=>rfl⟩;rw [e]
    try simp only [Pu.pwA,n,l]
  obtain ⟨k1,k2,k3⟩:=key;have hix:ixN (mem d.B.toNat (((spt d).zip ws).take j)).length (d.bank p.1 p.2)=some s.1.toNat:=by rw [← k1];exact qhM hin.1.1 (zb0 hds).1
  rw [hix,Option.bind_some,hds,Option.bind_some];rw [← Option.bind_assoc,k2,Option.bind_some,if_pos ⟨⟨by omega,by omega⟩,hsc,⟨hin.2.1,by have:=hin.2.2;omega⟩,by omega⟩,qiy,← se];refine ⟨λhd=>?_,_,_,_,_,rfl⟩;have:=qri (w:=w) (cn hd) (b:=d.bank p.1 p.2) ⟨by rw [← k1];exact hin.1.1,by rw [← k1];have:=hin.1.2;omega⟩;rw [tk];rw [← k3 hd,← k1] at this;rw [← k1];exact this
 ·rintro ρ ⟨_,s6,s7,s8,s9,rfl⟩;rw [List.length_zipIdx,hl,← q3,← sl,List.take_of_length_le (by rw [List.length_zip];omega)];rfl
end K72
namespace K72
open PySem L2 L3 Pu Pv
open Bk (Dl Inn Plc qfa)
def qeK {α:Type} {g:α->PyData} {r zs:List PyData} (h:r.Perm zs):∀ xs:List α,zs=xs.map g->∃ ys:List α,ys.Perm xs/\r=ys.map g:=by
 induction h with
 |nil=>intro xs e;exact ⟨[],by cases xs<;>simp at e ⊢,rfl⟩
 |cons x p ih=>
  intro xs e;cases xs with
  |nil=>simp at e
  |cons a xs=>
   simp only [map_cons,List.cons.injEq] at e;obtain ⟨ys,hp,rfl⟩:=ih xs e.2;exact ⟨a::ys,hp.cons a,by rw [e.1];rfl⟩
 |swap x y l=>
  intro xs e
  match xs,e with
  |a::b::xs,e=>
   simp only [map_cons,List.cons.injEq] at e;exact ⟨b::a::xs,.swap a b xs,by rw [e.1,e.2.1,e.2.2];rfl⟩
 |trans p q ih1 ih2=>
  intro xs e;obtain ⟨ys,h1,rfl⟩:=ih2 xs e;obtain ⟨zs,h2,rfl⟩:=ih1 ys rfl;exact ⟨zs,h2.trans h1,rfl⟩
theorem NI {α:Type} {x:α}:∀ {xs:List α} {k:Nat},xs[k]?=some x->(x::xs.eraseIdx k).Perm xs
 |[],_,h=>by simp at h
 |a::xs,0,h=>by simp at h;subst h;exact .refl _
 |a::xs,k+1,h=>(List.Perm.swap a x _).trans ((NI (by simpa using h)).cons a)
def qkx {es:List PyData} {n:Nat} {Q:QD} (hl:es.length<=1000) (hn:n<80000) (h:∀ r:List PyData,r.Perm es->Q (.list r) (n+es.length)):zb.W [.list es] n Q:=by
 rw [WT];refine ⟨rfl,?_⟩;unfold jN;refine QM λY h1=>?_;rw [qio]
 try simp only [Pu.pwA]
 refine ⟨_,_,rfl,rfl,?_⟩
 try simp only [Pu.pwA]
 rw [h1]
 try simp (disch:=omega) only [Pu.pwA,LO]
 refine W6 (jQ 0 ((es.length:Nat):Int).toNat) jK.mn (λi ρ m=>m=n+i/\∃ f r s4,(f++r).Perm es/\f.length=i/\ρ=[.un,.sh (.list es),.ow f,.ow r,s4]) ⟨rfl,[],es,_,by simp,rfl,rfl⟩ ?_ ?_
 ·rintro i x ρ m hx ⟨rfl,f,r,s4,hp,rfl,rfl⟩;obtain ⟨hi,rfl⟩:=qdS hx;have hlen:=hp.length_eq;rw [length_append] at hlen;refine ⟨_,rfl,?_⟩;unfold jK;rw [qb7];refine ⟨by decide,f,r,rfl,rfl,by omega,?_⟩
  try simp only [Pu.pwA]
  refine ⟨by omega,by omega,λz z0 z1=>?_⟩;obtain ⟨k,rfl⟩:=Int.eq_ofNat_of_zero_le z0;have kl:k<r.length:=by omega
  refine ⟨k,_,rfl,v8 kl,by omega,f++[r[k]],r.eraseIdx k,_,?_,by simp,rfl⟩;rw [List.append_assoc];exact (List.Perm.append_left f (NI (v8 kl))).trans hp
 ·rintro ρ m ⟨rfl,f,r,s4,hp,hf,rfl⟩;rw [qz] at hf;have hlen:=hp.length_eq;rw [length_append] at hlen;have:r=[]:=List.eq_nil_of_length_eq_zero (by omega);subst this;rw [List.append_nil] at hp
  try simp only [Pu.pwA]
  exact ⟨_,by rw [qz];omega,h f hp⟩
def qnJ {x y:Int} (h:0<=x/\0<=y):qn9 [.int x,.int y]=some (.int (Int.gcd x y:Nat)):=jt h
def qqa {n:Nat} {Q:QD} (hn:n<90000) (h:∀ (d:Dl) (m:Nat),Sq d d.R.toNat->d.dep<=1->d.B<=32->m<=n+300->Q (dlD d) m):jv.W [] n Q:=by
 rw [RV];refine ⟨rfl,?_⟩;unfold JB;have fin:∀ (d:Dl) (m:Nat),d.Ok->d.dep<=1->(d.R<=16/\d.C=d.R/\d.B<=32)->m<=n+300->∃ m',m<=m'/\Q (dlD d) m':=λd m a b c e=>⟨m,u7 _,h d m ⟨a,by omega,by have:=(Dl.lims a).r1;omega,by have:=(Dl.lims a).r1;omega,by omega⟩ b c.2.2 e⟩
 refine QM λY1 h1=>?_
 try simp only [Pu.pwA]
 refine ⟨by omega,by omega,λx x0 x1=>?_⟩;obtain ⟨v,e,w,rfl,w0,w1⟩:=qcB (ks:=[8,8,8,8,8,8,8,16]) (P:=λv=>∃ w:Int,v=.int w/\1<=w/\w<=16) x0 (by simpa using x1) (by simp);simp only [map_cons,List.map_nil] at e;refine ⟨_,e,?_⟩
 try simp only [Pu.pwA]
 refine ⟨by omega,by omega,λz z0 z1=>?_⟩;rw [h1];refine QM λY2 h2=>?_
 try simp only [Pu.pwA]
 refine ⟨by omega,by omega,λwy y0 y1=>⟨by omega,by omega,λu u0 u1=>?_⟩⟩;obtain ⟨v,e,w,rfl,w0,w1⟩:=qcB (ks:=[4,9,17,32]) (P:=λv=>∃ w:Int,v=.int w/\1<=w/\w<=32) u0 (by simpa using u1) (by simp);simp only [map_cons,List.map_nil] at e;refine ⟨_,e,?_⟩
 try simp only [Pu.pwA]
 refine ⟨by omega,by omega,λbk b0 b1=>?_⟩;obtain ⟨N,hN⟩:∃ N,N=1+z:=⟨_,rfl⟩
 obtain ⟨B,hB⟩:∃ B,B=1+bk:=⟨_,rfl⟩
 rw [← hN,← hB,h2];have n1:1<=N:=by omega
 have n2:N<=16:=by omega
 have b1':1<=B:=by omega
 have b2':B<=32:=by omega
 clear hN hB b0 b1 z0 z1 w0 w1 x0 x1;refine QM λY3 h3=>?_
 try simp only [Pu.pwA]
 by_cases k1:wy<2
 ·try simp only [Pu.pwA,k1,decide_true]
  refine ⟨by omega,by omega,λa a0 a1=>⟨by omega,by omega,λb b0 b1=>?_⟩⟩;exact fin (.skew N N B a b) _ ⟨by omega,by omega,by omega,by omega,by omega,by omega,by omega,by omega,by omega,by omega⟩ (by simp [Dl.dep]) ⟨by simp only [Dl.R];omega,rfl,by simp only [Dl.B];omega⟩ (by omega)
 try simp only [Pu.pwA,k1,decide_false]
 rw [h3];refine QM λY4 h4=>?_
 try simp only [Pu.pwA]
 by_cases k2:wy=2
 ·try simp only [Pu.pwA,k2,decide_true]
  obtain ⟨p1,p2,p3⟩:=qfa n1 n1 b1';have p4:N*N<=16*16:=Int.mul_le_mul n2 n2 (by omega) (by omega)
  try simp (disch:=omega) only [Pu.pwA,XV,qc9,LO]
  generalize -(-N*N/B)=p0 at p1 p2 p3;refine W6 (jQ 0 (32:Int).toNat) ZI.mn (λi ρ m=>m=n+5/\∃ pl s5,Plc B p0 pl i/\ρ=[.un,.sh (.int N),.sh (.int 2),.sh (.int B),.sh (.int pl),s5,.un,.un]) ⟨rfl,p0,_,⟨by omega,by omega,.inr ⟨by omega,λk hk=>absurd hk (Nat.not_lt_zero _)⟩⟩,rfl⟩ ?_ ?_
  ·rintro i t ρ m ht ⟨hm,pl,s5,P,rfl⟩;have g:=qnJ (x:=B) (y:=pl) ⟨by omega,by have:=P.lo;omega⟩;refine ⟨_,rfl,?_⟩;unfold ZI
   try simp only [Pu.pwA,qmd,g]
   by_cases c:(1:Int)<(Int.gcd B pl:Nat)
   ·try simp only [Pu.pwA,c,decide_true]
    exact ⟨hm,_,_,P.next b1' p1 c,rfl⟩
   ·try simp only [Pu.pwA,c,decide_false]
    exact ⟨hm,_,_,P.stay b1' p1 c,rfl⟩
  ·rintro ρ m ⟨hm,pl,s5,P,rfl⟩;rw [qz] at P;have lo:=P.lo;have hi:=P.hi;have m1:B*p0<=B*pl:=Int.mul_le_mul_of_nonneg_left (by omega) (by omega)
   try simp only [Pu.pwA]
   exact fin (.rests N N B pl) _ ⟨by omega,by omega,by omega,by omega,by omega,by omega,by omega,by omega,P.done b1' (by omega),by omega⟩ (by simp [Dl.dep]) ⟨by simp only [Dl.R];omega,rfl,by simp only [Dl.B];omega⟩ (by omega)
 try simp only [Pu.pwA,k2,decide_false]
 rw [h4];refine QM λY6 h6=>?_
 try simp only [Pu.pwA]
 by_cases k3:wy=3
 ·try simp only [Pu.pwA,k3,decide_true]
  refine ⟨by omega,by omega,λhi i0 i1=>⟨by omega,by omega,λmm m0 m1=>?_⟩⟩;obtain ⟨hh,rfl⟩:=Int.eq_ofNat_of_zero_le i0;have h4':hh=0\/hh=1\/hh=2\/hh=3:=by omega
  obtain ⟨v,e,pw⟩:∃ v:Int,atI [PyData.int 1,.int 4,.int 16,.int 64] (hh:Int)=some (.int v)/\v=2 ^ (hh+hh):=by
   rcases h4' with rfl|rfl|rfl|rfl
   ·exact ⟨1,rfl,by decide⟩
   ·exact ⟨4,rfl,by decide⟩
   ·exact ⟨16,rfl,by decide⟩
   ·exact ⟨64,rfl,by decide⟩
  have v1:1<=v/\v<=64:=by
   rw [pw];rcases h4' with rfl|rfl|rfl|rfl<;>decide
  rw [LO (by omega)];refine ⟨_,rfl,by rw [length_map,qz];omega,?_⟩;refine WA (R:=λi:Int=>0<=i/\i<v) (gd:=PyData.int) (c:=1) (N:=n+20) (jQ 0 mm.toNat) _ _ (λx _ n' Q' hn' h'=>?_) ZK.mn mnT (by rw [qz];omega) λbs lb hb=>?_
  ·refine ⟨_,rfl,?_⟩;unfold ZK
   try simp only [Pu.pwA,e]
   exact ⟨by omega,by omega,λz z0 z1=>h' z ⟨z0,z1⟩⟩
  ·rw [qz] at lb;refine ⟨by rw [length_map];omega,?_⟩;exact fin (.bits hh hh bs) _ ⟨by omega,by omega,by omega,λm hm=>by have:=hb m hm;rw [← pw];exact this⟩ (by simp [Dl.dep]) ⟨by
    show (2:Int) ^ hh<=16;rcases h4' with rfl|rfl|rfl|rfl<;>decide,rfl,by
    have:=Bk.TJ (n:=bs.length) (k:=5) (by omega);show (2:Int) ^ bs.length<=32;omega⟩ (by rw [qz];omega)
 try simp only [Pu.pwA,k3,decide_false]
 rw [h6];refine QM λY9 h9=>?_
 try simp only [Pu.pwA]
 by_cases k4:wy=4
 ·try simp (disch:=omega) only [Pu.pwA,k4,decide_true,KJ]
  refine ⟨by omega,by omega,λa a0 a1=>?_⟩;have q1:0<=N%4/\N%4<4:=by omega
  have q2:0<=B%5/\B%5<5:=by omega
  refine fin (.joined (.skew 2 2 3 1 a) (.skew (1+N%4) (1+N%4) (1+B%5) 1 2)) _ ⟨⟨by omega,by omega,by omega,by omega,by omega,by omega,by omega,by omega,by omega,by omega⟩,⟨by omega,by omega,by omega,by omega,by omega,by omega,by omega,by omega,by omega,by omega⟩,by simp only [Dl.R];omega,by simp only [Dl.C];omega,by simp only [Dl.B];omega⟩ (by simp [Dl.dep]) ⟨by simp only [Dl.R];omega,rfl,by simp only [Dl.B];omega⟩ (by omega)
 try simp only [Pu.pwA,k4,decide_false]
 rw [h9]
 try simp (disch:=omega) only [Pu.pwA,LO]
 refine ⟨by rw [length_map,qz];omega,?_⟩;have nt:(N.toNat:Int)=N:=by omega
 have nn:N.toNat * N.toNat<=16*16:=Nat.mul_le_mul (by omega) (by omega);refine WA (R:=λr:List Int=>r.length=N.toNat/\∀ x∈r,0<=x/\x<B) (gd:=qft) (c:=N.toNat) (N:=n+290) (jQ 0 N.toNat) _ _ (λx _ n' Q' hn' h'=>?_) ZG.mn mnT (by rw [qz];omega) λbs lb hb=>?_
 ·refine ⟨_,rfl,?_⟩;unfold ZG
  try simp (disch:=omega) only [Pu.pwA,LO]
  refine ⟨by rw [length_map,qz];omega,?_⟩;refine WA (R:=λi:Int=>0<=i/\i<B) (gd:=PyData.int) (c:=1) (N:=n+310) (jQ 0 N.toNat) _ _ (λx _ n2 Q2 hn2 h2=>?_) ZB.mn mnT (by rw [qz];omega) λbs lb hb=>?_
  ·refine ⟨_,rfl,?_⟩;unfold ZB
   try simp only [Pu.pwA]
   exact ⟨by omega,by omega,λz z0 z1=>h2 z ⟨z0,z1⟩⟩
  ·rw [qz] at lb;refine ⟨by rw [length_map];omega,?_⟩;have:=h' bs ⟨lb,hb⟩;rw [qz,Nat.one_mul];exact this
 ·rw [qz] at lb;refine ⟨by rw [length_map];omega,?_⟩;refine fin (.table B bs) _ ⟨by omega,by omega,by omega,by omega,N.toNat,by omega,by omega,λr hr=>hb r hr⟩ (by simp [Dl.dep]) ⟨by simp only [Dl.R];omega,by
   obtain ⟨r0,rs,rfl⟩:=List.exists_cons_of_ne_nil (show bs≠[] by intro z;rw [z] at lb;simp at lb;omega);have:=(hb r0 (by simp)).1;simp only [Dl.C,Dl.R];simp at lb ⊢;omega,by simp only [Dl.B];omega⟩ (by rw [qz];omega)
end K72
namespace K72
open PySem L2 L3 Pu Pv
open Bk (Dl Inn U8)
def qrw:cI RP (λi j=>i ^ j.toNat) (.int 10) (.int 6)=some (.int 1000000):=qb0 ⟨by decide,by decide,by decide⟩
def qpx:cI RP (λi j=>i ^ j.toNat) (.int 10) (.int 30)=some (.int 1000000000000000000000000000000):=qb0 ⟨by decide,by decide,by decide⟩
def qbf {i:Int} (h:i.natAbs<10000000000000000000000000000000):Wt (.int i):=.inr ⟨i,rfl,h⟩
def qoJ {k n:Nat} {Q:QD} (hk:k<=256) (hn:n<90000) (h:∀ (ws:List PyData) (m:Nat),ws.length=k->(∀ w∈ws,Wt w)->m<=n+300->Q (.list ws) m):jA.W [.int (k:Int)] n Q:=by
 have kn:((k:Nat):Int).toNat=k:=by omega
 have fin:∀ (ws:List PyData) (m:Nat),ws.length=k->(∀ w∈ws,Wt w)->m<=n+300->∃ m',m<=m'/\Q (.list ws) m':=λws m a b c=>⟨m,u7 _,h ws m a b c⟩
 rw [TX];refine ⟨rfl,?_⟩;unfold Z0;refine QM λY h1=>?_
 try simp only [Pu.pwA]
 refine ⟨by omega,by omega,λz z0 z1=>?_⟩;rw [h1];refine QM λY2 h2=>?_
 try simp only [Pu.pwA]
 by_cases c0:z=0
 ·subst c0
  try simp only [Pu.pwA,decide_true]
  refine ⟨.list ((jQ 0 k).map λi=>.int (i*i-40)),?_,?_⟩
  ·refine MV (ds:=(jQ 0 ((k:Nat):Int).toNat).map PyData.int) ?_ ?_ ?_
   ·try simp (disch:=omega) only [Pu.pwA,LO]
   ·rw [kn];refine YE λi hi=>?_;have:=JI hi;have:i*i<=256*256:=Int.mul_le_mul (by omega) (by omega) (by omega) (by omega)
    try simp (disch:=omega) only [Pu.pwA,CQ,XV]
   ·rw [length_map,qz];omega
  ·refine fin _ _ (by rw [length_map,qz]) (λw hw=>?_) (by omega);obtain ⟨i,hi,rfl⟩:=mem_map.mp hw;have:=JI hi;have a:i*i<=256*256:=Int.mul_le_mul (by omega) (by omega) (by omega) (by omega);have b:=Int.mul_nonneg this.1 this.1;exact qbf (by omega)
 try simp only [Pu.pwA,c0,decide_false]
 rw [h2];refine QM λY3 h3=>?_
 try simp only [Pu.pwA]
 by_cases c1:z=1
 ·subst c1
  try simp only [Pu.pwA,decide_true]
  rw [LO (by omega)];refine ⟨_,rfl,by rw [length_map,qz];omega,?_⟩;refine WA (R:=λi:Int=>0<=i/\i<3) (gd:=PyData.int) (c:=1) (N:=n+300) (jQ 0 ((k:Nat):Int).toNat) _ _ (λx _ n' Q' hn' h'=>?_) Q8.mn mnT (by rw [qz];omega) λbs lb hb=>?_
  ·refine ⟨_,rfl,?_⟩;unfold Q8
   try simp only [Pu.pwA]
   exact ⟨by omega,by omega,λz z0 z1=>h' z ⟨z0,z1⟩⟩
  ·rw [qz,kn] at lb;refine ⟨by rw [length_map];omega,?_⟩;refine fin _ _ (by rw [length_map,lb]) (λw hw=>?_) (by rw [qz];omega);obtain ⟨i,hi,rfl⟩:=mem_map.mp hw;have:=hb i hi;exact qbf (by omega)
 try simp only [Pu.pwA,c1,decide_false]
 rw [h3]
 try simp only [Pu.pwA]
 rw [LO (by omega)];refine ⟨_,rfl,by rw [length_map,qz];omega,?_⟩;refine WA (R:=λi:Int=>i.natAbs<10000000000000000000000000000000) (gd:=PyData.int) (c:=1) (N:=n+300) (jQ 0 ((k:Nat):Int).toNat) _ _ (λx hx n' Q' hn' h'=>?_) ZD.mn mnT (by rw [qz];omega) λbs lb hb=>?_
 ·have:=JI hx;refine ⟨_,rfl,?_⟩;unfold ZD
  try simp only [Pu.pwA,qrw,qpx]
  refine ⟨by omega,by omega,λy y0 y1=>?_⟩;have z23:z=2\/z=3:=by omega
  rcases z23 with rfl|rfl
  ·exact ⟨_,rfl,h' (y-1000) (by omega)⟩
  ·exact ⟨_,rfl,h' (1000000000000000000000000000000+x) (by omega)⟩
 ·rw [qz,kn] at lb;refine ⟨by rw [length_map];omega,?_⟩;refine fin _ _ (by rw [length_map,lb]) (λw hw=>?_) (by rw [qz];omega);obtain ⟨i,hi,rfl⟩:=mem_map.mp hw;exact qbf (hb i hi)
def qi8:∀ N:Nat,N<17->(prs N).Nodup:=by decide +kernel
def K6 {lo x:Int} {n:Nat} (h:lo<=x/\x<lo+n):x∈jQ lo n:=by
 unfold jQ;exact mem_map.mpr ⟨(x-lo).toNat,mem_range.mpr (by omega),by omega⟩
def qc0 {N:Nat} {p:PP}:p∈prs N↔(0<=p.1/\p.1<p.2/\p.2<N):=by
 constructor
 ·intro h;have n:=qaj h;obtain ⟨i,hi,h⟩:=List.mem_flatMap.mp h;obtain ⟨j,hj,rfl⟩:=mem_map.mp h;have:=JI hi;have:=JI hj;exact ⟨by simp only;omega,by simp only;omega,n.2.2⟩
 ·intro ⟨a,b,c⟩;exact List.mem_flatMap.mpr ⟨p.1,K6 (by omega),mem_map.mpr ⟨p.2,K6 (by omega),rfl⟩⟩
structure Gd (N:Nat) (pl:List (List PP)):Prop where
 fl:pl.flatten.Perm (prs N)
 l:pl.length<=124
 ls:∀ s∈pl,s.length<=120
def Gd.nn {N:Nat} {pl:List (List PP)} (h:Gd N pl):∀ s∈pl,∀ p∈s,p∈prs N:=λs hs p hp=>h.fl.mem_iff.mp (List.mem_flatten.mpr ⟨s,hs,hp⟩)
def Gd.pln {N:Nat} {pl:List (List PP)} (h:Gd N pl) (hN:N<=16):Pln N pl:=⟨λs hs p hp=>qaj (h.nn s hs p hp),λs hs p hp=>(qc0.mp (h.nn s hs p hp)).2.1,h.fl.nodup_iff.mpr (qi8 N (by omega))⟩
def qjp {b:Int->Int->Int} {pl:List (List PP)} {p:PP}:(stp b pl p).flatten.Perm (pl.flatten++[p]):=by
 unfold stp;split
 ·simp
 ·rename_i h;have lt:ff b pl p<pl.length:=by have:=qnO (b:=b) (pl:=pl) (p:=p);omega
  have gen:∀ (pl:List (List PP)) (n:Nat),n<pl.length->(pl.modify n (·++[p])).flatten.Perm (pl.flatten++[p]):=by
   intro pl;induction pl with
   |nil=>intro n h;simp at h
   |cons s pl ih=>
    intro n h;cases n with
    |zero=>
     simp only [List.modify_zero_cons,List.flatten_cons,List.append_assoc];exact List.Perm.append_left s List.perm_append_comm
    |succ n=>
     simp only [List.modify_succ_cons,List.flatten_cons,List.append_assoc];exact List.Perm.append_left s (ih n (by simpa using h))
  exact gen pl _ lt
def qld (b:Int->Int->Int) (ps:List PP):∀ pl:List (List PP),(ps.foldl (stp b) pl).flatten.Perm (pl.flatten++ps):=by
 induction ps with
 |nil=>intro pl;simp
 |cons p ps ih=>
  intro pl;rw [List.foldl_cons];refine (ih _).trans ?_;have:=List.Perm.append_right ps (qjp (b:=b) (pl:=pl) (p:=p));rw [List.append_assoc] at this;exact this
def qpR {b:Int->Int->Int} {N:Nat} (hN:N<=16):Gd N (pln b (prs N)):=by
 have l:=qau N (by omega);have P:=qbh (N:=N) (b:=b) (ps:=prs N) (λp hp=>qaj hp) _ (u7 _);rw [List.take_of_length_le (u7 _)] at P;exact ⟨by simpa [pln] using qld b (prs N) [],by have:=P.l;omega,λs hs=>by have:=P.ls s hs;omega⟩
def sgl (N:Nat):List (List PP):=(prs N).map λp=>[p]
def qcy {N m:Nat} (hN:N<=16) (hm:m<=4) {r:List PyData} (h:r.Perm ((sgl N++List.replicate m []).map bsD)):∃ pl,r=pl.map bsD/\Gd N pl:=by
 have l:=qau N (by omega);obtain ⟨pl,hp,rfl⟩:=qeK h _ rfl;refine ⟨pl,rfl,?_,?_,λs hs=>?_⟩
 ·refine hp.flatten.trans ?_;have e:(sgl N++List.replicate m []).flatten=prs N:=by
   rw [List.flatten_append];have:(List.replicate m ([]:List PP)).flatten=[]:=by simp
   rw [this,List.append_nil];unfold sgl;rw [← List.flatMap_def];simp
  rw [e]
 ·have:=hp.length_eq;simp [sgl] at this;omega
 ·have:=hp.mem_iff.mp hs;rcases List.mem_append.mp this with z|z
  ·obtain ⟨p,_,rfl⟩:=mem_map.mp z;simp
  ·rw [(List.mem_replicate.mp z).2];simp
def qjc {N:Nat} {f:Int×Int->PyData} {pl:List (List PP)} (h:Gd N pl):wsF N (Tf f pl.flatten)=wsF N λq=>f (tq q):=by
 unfold wsF;refine List.map_congr_left λq hq=>?_;obtain ⟨n,hn⟩:=List.mem_iff_getElem?.mp hq;have ln:=(zb0 hn).1;rw [qiY] at ln;obtain ⟨p,hp,np,_⟩:=qak ln;rw [hn] at hp;cases hp;obtain ⟨⟨a,b⟩,c,e⟩:=np;unfold Tf;split
 ·rfl
 ·rename_i z;have z1:¬ (q∈prs N):=λy=>z (.inl (h.fl.mem_iff.mpr y));have z2:¬ (tq q∈prs N):=λy=>z (.inr (h.fl.mem_iff.mpr y));rw [qc0] at z1 z2;simp only [tq] at z2;have:q.1=q.2:=by omega
  obtain ⟨x,y⟩:=q;simp only at this;subst this;rfl
def qjd {N:Nat} {ws:List PyData} (hl:ws.length=N*N) (hw:∀ w∈ws,Wt w):∃ f:Int×Int->PyData,ws=wsF N f/\∀ q,Wt (f q):=by
 refine ⟨λp=>(ws[wn N p]?).getD .none,?_,λq=>?_⟩
 ·apply List.ext_getElem?;intro i;by_cases l:i<N*N
  ·obtain ⟨p,hp,np,e⟩:=qak l;have:=RB (f:=λp=>(ws[wn N p]?).getD .none) np;rw [e] at this;rw [this,v8 (by omega)];rfl
  ·rw [List.getElem?_eq_none (by omega),List.getElem?_eq_none (by rw [JK];omega)]
 ·simp only;cases h:ws[wn N q]? with
  |none=>exact .inl rfl
  |some w=>exact hw w (za1 h)
def qo3 {d:PyData} (h:Wt d):WH d=true:=by
 rcases h with rfl|⟨i,rfl,_⟩<;>rfl
def qjX {N:Nat} {f:Int×Int->PyData}:(jQ 0 (N*N)).map (λn:Int=>f (n%N,n/N))=wsF N λq=>f (tq q):=by
 apply List.ext_getElem?;intro i;by_cases l:i<N*N
 ·obtain ⟨p,hp,np,e⟩:=qak l;have:=RB (f:=λq=>f (tq q)) np;rw [e] at this;obtain ⟨v1,v2⟩:=qb5 np;rw [e] at v1 v2;rw [this,getElem?_map];unfold jQ;rw [getElem?_map,List.getElem?_range l];simp only [Option.map_some,Int.zero_add,v1,v2,tq]
 ·rw [List.getElem?_eq_none (by simp [qz];omega),List.getElem?_eq_none (by rw [JK];omega)]
def qb9 {d:Dl} {N:Nat} (h:Sq d N) {ws:List PyData} (hw:∀ w∈ws,WH w=true):U8 3 (mD (VL d ws)):=by
 have ml:=XQ (B:=d.B.toNat) ((spt d).zip ws);have b2:=(Dl.lims h.ok).b2;refine ⟨by rw [length_map];unfold VL;rw [ml];omega,λx hx=>?_⟩;obtain ⟨ds,hds,rfl⟩:=mem_map.mp hx;obtain ⟨a,b⟩:=qa0 h hw ds hds;refine ⟨by omega,λy hy=>?_⟩;have:=a y hy;cases y<;>first|trivial|exact nomatch this
def qnl:∀ k:Nat,k<=60->qem.w [.un,.sh (.int k),.un,.un,.un,.un,.un,.un,.un,.un,.un,.un,.un,.un,.un] 0 okW:=by
 intro k hk;unfold qem;refine QM λY1 h1=>?_
 try simp only [Pu.pwA]
 refine qqa (by omega) λd m1 sq dp b32 hm1=>?_
 try simp only [Pu.pwA]
 rw [h1];refine QM λY2 h2=>?_;have sz:=qcw (n:=2) sq.dp sq.ok;obtain ⟨N,hN⟩:∃ N,N=d.R.toNat:=⟨_,rfl⟩
 rw [← hN] at sq;have hR:=sq.r;have n16:=sq.n;have NN:=Nat.mul_le_mul n16 n16
 try simp only [Pu.pwA,qfz,sz,siz,hR]
 rw [h2];refine QM λY3 h3=>?_;have cNN:cI QT (·*·) (.int (N:Int)) (.int (N:Int))=some (.int ((N*N:Nat):Int)):=by
  rw [Int.natCast_mul];exact XV (by omega)
 try simp only [Pu.pwA,cNN]
 refine qoJ (k:=N*N) (by omega) (by omega) λws m2 wl ww hm2=>?_;obtain ⟨f,rfl,hf⟩:=qjd wl ww;have fs:scF f:=λq=>qo3 (hf q);have fs':scF λq=>f (tq q):=λq=>fs (tq q);have sc1:=qca (N:=N) fs;have sc2:=qca (N:=N) fs'
 try simp only [Pu.pwA]
 rw [h3];refine QM λY4 h4=>?_;have me:=qmk sq sc1 JK;have me2:=qmk sq sc2 JK;have nw1:(fNs zr).nw=false:=rfl;have nw2:(fNs jq).nw=false:=rfl;have fold:∀ M:List (List PyData),nrD (.inr M)=mD M:=λ_=>rfl;have as:∀ (m:List Bool) (i:Nat) (M:List (List PyData)) (ρ:Rho),NW m false i (mD M) ρ=(dm m ρ).set i (.sh (mD M)):=λm i M ρ=>rfl
 try simp only [Pu.pwA,qcK,me,nw1,fold,as]
 rw [h4];refine QM λY5 h5=>?_;have lc:lcF (λρ=>(((vw ρ 4).bind λx=>(vw ρ 4).bind λy=>cI QT (·*·) x y).bind λx=>some [x]).bind qce) (lcH (λd=>some [(0,d)]) (λ_=>some true) λρ=>(vw ρ 1).bind λx=>((((vw ρ 0).bind λx=>(vw ρ 2).bind λy=>cI (λ_ j=>0<j) (·%·) x y).bind λx=>(vw ρ 2).bind λy=>cI QT (·*·) x y).bind λx=>((vw ρ 0).bind λx=>(vw ρ 2).bind λy=>cI RY (·/·) x y).bind λy=>qlV x y).bind λy=>ixD x y) [none,some 5,some 4] [.un,.sh (.int k),.un,.sh (dlD d),.sh (.int (N:Int)),.sh (.list (wsF N f)),.sh (mD (VL d (wsF N f))),.un,.un,.un,.un,.un,.un,.un,.un]=some (.list (wsF N λq=>f (tq q))):=by
  rw [← qjX];refine MV (ds:=(jQ 0 (N*N)).map PyData.int) ?_ ?_ (by rw [length_map,qz];omega)
  ·try simp (disch:=omega) only [Pu.pwA,cNN,LO,Int.toNat_natCast]
  ·refine YE λi hi=>?_;have ri:=JI hi;have i0:0<(N:Int):=by
    rcases Nat.eq_zero_or_pos N with z|z
    ·subst z;simp at ri;omega
    ·omega
   obtain ⟨p,hp,np,e⟩:=qak (N:=N) (i:=i.toNat) (by omega);obtain ⟨v1,v2⟩:=qb5 np;have ei:((wn N p:Nat):Int)=i:=by omega
   rw [ei] at v1 v2;have nt:=qoH np;have c1:cI QT (·*·) (.int p.2) (.int (N:Int))=some (.int (p.2*N)):=XV (by have:=np.2;omega);have at1:atI (wsF N f) (p.2*N+p.1)=some (f (tq p)):=by
    have:=ixl (RB (f:=f) nt);rw [qpy nt] at this;exact this
   try simp (disch:=omega) only [Pu.pwA,CQ,KJ,qc9,v1,v2,c1]
   exact congrArg (Option.map some) at1
 try simp only [Pu.pwA,lc,qcK,me2,nw1,fold,as]
 rw [h5];refine QM λY6 h6=>?_
 try simp only [Pu.pwA]
 rw [h6];refine QM λY7 h7=>?_
 try simp (disch:=omega) only [Pu.pwA,LO]
 have NT:(((N:Nat):Int)).toNat=N:=by omega
 refine W6 (f:=PyData.int) (jQ 0 ((N:Nat):Int).toNat) RR.mn (λi ρ m=>m=m2/\∃ s9,ρ=[.un,.sh (.int k),.un,.sh (dlD d),.sh (.int (N:Int)),.sh (.list (wsF N f)),.sh (mD (VL d (wsF N f))),.sh (mD (VL d (wsF N λq=>f (tq q)))),.ow ((((jQ 0 (N:Int).toNat).take i).flatMap (row N)).map λp=>bsD [p]),s9,.un,.un,.un,.un,.un]) ⟨rfl,_,rfl⟩ ?_ ?_
 ·rintro i x ρ m hx ⟨rfl,s9,rfl⟩;have hxm:=JI (za1 hx);have e1:(jQ 0 (N:Int).toNat).take (i+1)=(jQ 0 (N:Int).toNat).take i++[x]:=C7 hx;have ll:((((jQ 0 (N:Int).toNat).take i).flatMap (row N)).length)<=120:=by
   have a:=qau N (by omega);have b:prs N=((jQ 0 (N:Int).toNat).take i).flatMap (row N)++((jQ 0 (N:Int).toNat).drop i).flatMap (row N):=by
    rw [← List.flatMap_append,List.take_append_drop];rfl
   rw [b,length_append] at a;omega
  refine ⟨_,rfl,?_⟩;unfold RR;have r2:=qqU (i:=x+1) (j:=(N:Int)) (by omega)
  try simp only [Pu.pwA]
  rw [MV (ds:=(jQ (x+1) ((N:Int)-(x+1)).toNat).map PyData.int) (fs:=(row N x).map λp=>bsD [p]) (by try simp only [Pu.pwA,r2]) (by
   unfold row;rw [map_map];refine YE λj hj=>?_
   try simp only [Pu.pwA,CQ]
   rfl) (by unfold row;simp [qz];omega)]
  have rl:(row N x).length<=16:=by unfold row;rw [length_map,qz];omega
  refine ⟨_,rfl,rfl,_,rfl,by rw [length_map,length_map];omega,.sh (.int x),?_⟩;rw [e1,List.flatMap_append,List.map_append]
  try simp only [Pu.pwA]
  simp
 ·rintro ρ m ⟨rfl,s9,rfl⟩;rw [List.take_of_length_le (by rw [qz];omega)];rw [h7];refine QM λY8 h8=>?_
  try simp only [Pu.pwA]
  rw [qna]
  try simp only [Pu.pwA]
  refine ⟨by omega,by omega,λz z0 z1=>?_⟩;rw [LO (by omega)];refine ⟨_,rfl,_,YE (k:=λ_=>PyData.list []) λx hx=>by try simp only [Pu.pwA,CQ],by rw [length_map,qz];omega,?_⟩;rw [List.map_const',qz];have e0:((jQ 0 (N:Int).toNat).flatMap (row N)).map (λp=>bsD [p])++List.replicate z.toNat (PyData.list [])=(sgl N++List.replicate z.toNat []).map bsD:=by
   rw [List.map_append,List.map_replicate];unfold sgl;rw [map_map];rfl
  have pl':=qau N (by omega);have l0:((sgl N++List.replicate z.toNat []).map bsD).length<=124:=by simp [sgl];omega
  refine ⟨_,qfT (by rw [← length_append,e0];omega),?_⟩;rw [e0];refine qkx (by omega) (by omega) λr hr=>?_;obtain ⟨pl3,rfl,G3⟩:=qcy n16 (by omega) hr
  try simp only [Pu.pwA]
  rw [h8];have ml:=XQ (B:=d.B.toNat) ((spt d).zip (wsF N λq=>f (tq q)));have tp:=qry sq;have foldP:nrD (.inr (onP (pln d.bank (prs N))))=plD (pln d.bank (prs N)):=qml
  try simp only [Pu.pwA,qcK,tp,foldP]
  have es:((jQ 0 (N:Int).toNat).flatMap (row N)).map (λp=>bsD [p])=(sgl N++List.replicate 0 []).map bsD:=by
   rw [List.replicate_zero,List.append_nil];unfold sgl;rw [map_map];rfl
  rw [es];refine qkx (by simp [sgl];omega) (by omega) λr2 hr2=>?_;obtain ⟨pl2,rfl,G2⟩:=qcy n16 (by omega) hr2;have G1:=qpR (b:=d.bank) n16;generalize pln d.bank (prs N)=pl1 at G1
  try simp only [Pu.pwA]
  have all:∀ pl∈[pl1,pl2,pl3],Gd N pl:=λpl h=>by
   simp only [mem_cons,not_mem_nil,or_false] at h;rcases h with rfl|rfl|rfl<;>assumption
  refine W6 (f:=plD) [pl1,pl2,pl3] R6.mn (λ_ ρ n=>∃ s8 s9 s10 s11 s12 s13 s14,ρ=[.un,.sh (.int k),.un,.sh (dlD d),.sh (.int (N:Int)),.sh (.list (wsF N f)),.sh (mD (VL d (wsF N f))),.sh (mD (VL d (wsF N λq=>f (tq q)))),s8,s9,s10,s11,s12,s13,s14]) ⟨_,_,_,_,_,_,_,rfl⟩ ?_ ?_
  ·rintro j pl ρ n hpl ⟨s8,s9,s10,s11,s12,s13,s14,rfl⟩;have G:=all pl (za1 hpl);have tn:=qlF sq (G.pln n16) fs;have tn2:=qlF sq (G.pln n16) fs';rw [qjc G] at tn tn2;have e2:(λq:Int×Int=>f (tq (tq q)))=f:=by funext q;obtain ⟨a,b⟩:=q;rfl
   rw [e2] at tn2;obtain ⟨tx,sh⟩:=qdW sq dp b32 (pl:=pl) (λs hs p hp=>qaj (G.nn s hs p hp)) G.l G.ls (ws:=wsF N f) (λw hw=>by
    obtain ⟨q,_,rfl⟩:=mem_map.mp hw;exact hf q)
   have sm1:=qa8 (n:=3) (qb9 sq sc1);have sm2:=qa8 (n:=3) (qb9 sq sc2);have es:eqD true (.str tx) (.str tx)=some (.bool false):=by try simp only [Pu.pwA]
   have foldM:∀ M:List (List PyData),PyData.list (M.map PyData.list)=mD M:=λ_=>rfl;refine ⟨_,rfl,?_⟩;unfold R6;refine QM λZ1 g1=>?_
   try simp only [Pu.pwA,qbR,MW,sh]
   rw [g1];refine QM λZ2 g2=>?_;rw [qhc];refine ⟨[dlD d,plD pl,mD (VL d (wsF N f))],_,by try simp only [Pu.pwA],tn,?_⟩;rw [T7,g2];refine QM λZ3 g3=>?_
   try simp only [Pu.pwA,qob,qbR,MW,qar,foldM,sh,sm2,es]
   rw [g3];refine QM λZ4 g4=>?_
   try simp only [Pu.pwA,qob,qcK,qar,foldM,tn2,fold,sm1]
   rw [g4];refine QM λZ5 g5=>?_;rw [qcv];refine ⟨_,.int 7,rfl,λ_=>rfl,λds hds=>by have:=(qa0 sq sc2 ds hds).2;omega,by simp,?_⟩;rw [T7,g5];refine QM λZ6 g6=>?_;rw [qh1];refine ⟨_,rfl,?_⟩;rw [T7,g6]
   try simp only [Pu.pwA,qcK,qar,foldM,tn,fold,sm2]
   exact ⟨_,_,_,_,_,_,_,rfl⟩
  ·rintro ρ n ⟨s8,s9,s10,s11,s12,s13,s14,rfl⟩
   try simp only [Pu.pwA]
end K72
namespace K72
open PySem L2 L3 Bk
abbrev qmh : Env := { scope := PySem.Challenge.pw_bankwalk_k72_memories_turned.main.scope,locals := mainNs,globals := mainNs,cells := [],code := .ref 13,frame := some 14 }
abbrev qdq : List Stmt := PySem.W.behindTheImports PySem.Challenge.pw_bankwalk_k72_memories_turned
abbrev SL:Code:=.body qdq qmh
abbrev qjH:List Frame:=[PySem.W.topFrame ⟨0,0,0,0⟩]
def zC:Obj:=Hd.oT []
def Q9:Obj:=⟨.none,none,.fields #[],#[]⟩
def qn0:Obj:=Hd.oC [.str "<module>" 182,.str "<module>" 183,.str "/claim/cut.py" 184,.int (1) 0,.int (0) 0,.int (0) 0,.int (0) 0,.int (0) 0,.ref 11,.bool false,.int (181) 0,.ref 12,.none,.none,.none,.none,.int (185) 0,.int (1) 0,.str "/claim/cut.py" 186]
def qn3:Obj:=⟨.type "frame",none,.plain,#[some (.ref 13),some (.ref 3),some (.ref 3),none,some (.str "__main__" 164),none,some (.ref 0)]⟩
def qnI (P:Params):Heap:=⟨Array.mk [PySem.W.boot_o_0 P,PySem.W.boot_o_1 P,PySem.W.boot_o_2 P,PySem.W.boot_o_3 P,PySem.W.boot_o_4 P,PySem.W.boot_o_5 P,PySem.W.boot_o_6 P,PySem.W.boot_o_7 P,PySem.W.boot_o_8 P,PySem.W.boot_o_9 P,PySem.W.boot_o_10 P,zC,Q9,qn0,qn3],{ }⟩
def qnK (P:Params):PySem.W.BT:=(Hd.nd (PySem.W.boot_o_0 P) (Hd.nd (PySem.W.boot_o_1 P) (Hd.nd (PySem.W.boot_o_3 P) (Hd.lf (PySem.W.boot_o_7 P)) (Hd.lf zC)) (Hd.nd (PySem.W.boot_o_5 P) (Hd.lf (PySem.W.boot_o_9 P)) (Hd.lf qn0))) (Hd.nd (PySem.W.boot_o_2 P) (Hd.nd (PySem.W.boot_o_4 P) (Hd.lf (PySem.W.boot_o_8 P)) (Hd.lf Q9)) (Hd.nd (PySem.W.boot_o_6 P) (Hd.lf (PySem.W.boot_o_10 P)) (Hd.lf qn3))))
set_option maxRecDepth 100000 in
set_option maxHeartbeats 0 in
def qmP (w : World) (os : OsState) : PySem.W.topGo treeTable PySem.Challenge.pw_bankwalk_k72_memories_turned w 11 (some (Value.ref 6)) 12 ⟨PySem.W.boot_heap w.params,Array.mk [],PySem.W.boot_drawn,PySem.W.boot_toks,os⟩ (PySem.W.topStub PySem.Challenge.pw_bankwalk_k72_memories_turned) = some (⟨qnI w.params,#[],{ },187,os⟩,⟨denote treeTable SL,SL,⟨0,0,0,0⟩,qjH⟩) := by kernel_rfl
set_option maxRecDepth 100000 in
set_option maxHeartbeats 0 in
def qlT (w : World) (os : OsState) : PySem.W.segRun treeTable PySem.Challenge.pw_bankwalk_k72_memories_turned w 11 (some (Value.ref 6)) 1 1 ⟨qnI w.params,#[],{ },187,os⟩ (PySem.W.blockOf qdq qmh SL ⟨0,0,0,0⟩ qjH) = some (.next,(⟨qnK w.params,15,{ },#[],{ },187,os⟩ : PySem.W.SharedT).abs,SL,⟨0,0,0,0⟩) := by kernel_rfl
def qrC (P:Params):Obj:=Hd.oM P 20 "bankwalk.places" 306 [(.str "BankError" 206,.ref 24),(.str "NotSquare" 222,.ref 37),(.str "size_of" 238,.ref 46),(.str "number_of" 249,.ref 53),(.str "all_words" 255,.ref 58),(.str "odd_in_common" 265,.ref 65),(.str "bits_bank" 271,.ref 70),(.str "parted" 282,.ref 77),(.str "joined_bank" 296,.ref 84),(.str "bank_in" 305,.ref 91),(.str "rests_spots" 313,.ref 96)]
def qrq:Obj:=⟨.none,none,.fields #[.int (2) 0,.int (0) 0,.ref 20,.int (4) 0,.int (0) 0,.ref 33,.int (7) 0,.int (0) 0,.ref 45,.int (18) 0,.int (0) 0,.ref 52,.int (21) 0,.int (0) 0,.ref 57,.int (24) 0,.int (0) 0,.ref 64,.int (31) 0,.int (0) 0,.ref 69,.int (33) 0,.int (0) 0,.ref 76,.int (36) 0,.int (0) 0,.ref 83,.int (40) 0,.int (0) 0,.ref 90,.int (52) 0,.int (0) 0,.ref 95],#[]⟩
def qqI:Obj:=Hd.oT [.type "ValueError"]
def qn2:Obj:=⟨.type "builtin_function_or_method",none,.fields #[.builtin "type.__prepare__",.type "type"],#[]⟩
def qqt (P:Params):Obj:=Hd.oD P 4 [(.str "__module__" 196,.str zb5 187),(.str "__qualname__" 198,.str "BankError" 197),(.str "__firstlineno__" 200,.int (2) 199),(.str "__static_attributes__" 201,.ref 22)]
def qjP:Obj:=Hd.oC [.str "BankError" 191,.str "BankError" 192,.str "/claim/cut.py" 193,.int (2) 0,.int (0) 0,.int (0) 0,.int (0) 0,.int (0) 0,.ref 18,.bool false,.int (181) 0,.ref 19,.none,.none,.none,.none,.int (194) 0,.int (2) 0,.str "/claim/cut.py" 195]
def qkR:Obj:=⟨.type "frame",none,.plain,#[some (.ref 20),some (.ref 3),some (.ref 17),none,some (.str zb5 187),none,some (.ref 0)]⟩
def qm4 (P:Params):Obj:=Hd.oD P 3 [(.str "__module__" 196,.str zb5 187),(.str "__firstlineno__" 200,.int (2) 199),(.str "__static_attributes__" 201,.ref 22),(.str "__weakref__" 203,.ref 25),(.str "__doc__" 204,.none)]
def qi2:Obj:=⟨.type "type",none,.cls ({ name:=Str.ofString "BankError",bases:=[Value.type "ValueError"],  mro:=    [Value.ref 24,Value.type "ValueError",Value.type "Exception",Value.type "BaseException",Value.type "object"],  ns:=23,qualname:=Str.ofString "BankError",subclasses:=[Value.ref 37] }),#[some (.ref 15),none,some (.str "BankError" 189),some (.str "BankError" 197),some (.builtin "ValueError.__new__"),some (.bool true)]⟩
def qly:Obj:=⟨.type "getset_descriptor",none,.fields #[.str "__weakref__" 202,.ref 24,.builtin "ExceptionGroup.__weakref__",.none],#[]⟩
def qj8:Obj:=Hd.c6 24
def qmg:Obj:=Hd.c7 24
def qnG:Obj:=Hd.oT [.ref 24]
def qmW (P:Params):Obj:=Hd.c1 P zb5 187 "NotSquare" 207 4 28
def qnA:Obj:=Hd.c2 "NotSquare" 207 4 28
def qlH:Obj:=Hd.c3 zb5 187 28
def qlJ (P:Params):Obj:=Hd.c4 P zb5 187 207 4 28
def ql0:Obj:=Hd.c5 "NotSquare" 24 207 28
def qm1:Obj:=Hd.c6 37
def qmq:Obj:=Hd.c7 37
def qlW:Obj:=Hd.oN CH 228
def qnL:Obj:=Hd.oG "size_of" JM
def qin:Obj:=Hd.oK "size_of" 225 7 1 181 40 41 .none (.ref 42) (.ref 43) 44 236 237
def qg1:Obj:=Hd.oF "size_of" JM zb2 (.ref 45)
def qm6:Obj:=Hd.oN UO 242
def qjZ:Obj:=Hd.oG "number_of" QF
def qiE:Obj:=Hd.oK "number_of" 239 18 2 181 47 48 .none (.ref 49) (.ref 50) 51 247 248
def qhS:Obj:=Hd.oF "number_of" QF zb2 (.ref 52)
def qj6:Obj:=Hd.oG "all_words" j9
def qg5:Obj:=Hd.oK "all_words" 250 21 1 181 54 55 .none .none .none 56 253 254
def qg8:Obj:=Hd.oF "all_words" j9 zb2 (.ref 57)
def qji:Obj:=Hd.oN ZC 259
def qjq:Obj:=Hd.oG "odd_in_common" zE
def qis:Obj:=Hd.oK "odd_in_common" 256 24 2 181 59 60 .none (.ref 61) (.ref 62) 63 263 264
def qhn:Obj:=Hd.oF "odd_in_common" zE zb2 (.ref 64)
def qmo:Obj:=Hd.oG "bits_bank" j5
def qhV:Obj:=Hd.oK "bits_bank" 266 31 2 181 66 67 .none .none .none 68 269 270
def qhw:Obj:=Hd.oF "bits_bank" j5 zb2 (.ref 69)
def qkF:Obj:=Hd.oN RT 275
def qmi:Obj:=Hd.oG "parted" VB
def qhX:Obj:=Hd.oK "parted" 272 33 3 181 71 72 .none (.ref 73) (.ref 74) 75 280 281
def qiP:Obj:=Hd.oF "parted" VB zb2 (.ref 76)
def qjk:Obj:=Hd.oN J1 286
def qmE:Obj:=Hd.oG "joined_bank" jh
def qhp:Obj:=Hd.oK "joined_bank" 283 36 3 181 78 79 .none (.ref 80) (.ref 81) 82 294 295
def qhg:Obj:=Hd.oF "joined_bank" jh zb2 (.ref 83)
def qk6:Obj:=Hd.oN CK 300
def qjb:Obj:=Hd.oG "bank_in" JO
def qhl:Obj:=Hd.oK "bank_in" 297 40 2 181 85 86 .none (.ref 87) (.ref 88) 89 303 304
def qiI:Obj:=Hd.oF "bank_in" JO zb2 (.ref 90)
def qlm:Obj:=Hd.oG "rests_spots" jm
def qij:Obj:=Hd.oK "rests_spots" 308 52 1 181 92 93 .none .none .none 94 311 312
def qit:Obj:=Hd.oF "rests_spots" jm zb4 (.ref 95)
def qj5 (P:Params):PySem.W.BT:=(Hd.nd (PySem.W.boot_o_0 P) (Hd.nd (PySem.W.boot_o_1 P) (Hd.nd (qrC P) (Hd.nd (PySem.W.boot_o_7 P) (Hd.nd qqI (Hd.nd zC (Hd.lf qjq) (Hd.lf qij)) (Hd.nd zC (Hd.lf Q9) .nil)) (Hd.nd (qm4 P) (Hd.nd qmq (Hd.lf zC) .nil) (Hd.nd Q9 (Hd.lf qk6) .nil))) (Hd.nd zC (Hd.nd Q9 (Hd.nd zC (Hd.lf Q9) .nil) (Hd.nd qjZ (Hd.lf qhp) .nil)) (Hd.nd qmg (Hd.nd zC (Hd.lf qmi) .nil) (Hd.nd zC (Hd.lf qiI) .nil)))) (Hd.nd (PySem.W.boot_o_5 P) (Hd.nd (PySem.W.boot_o_9 P) (Hd.nd (qqt P) (Hd.nd qnA (Hd.lf qhn) .nil) (Hd.nd qm6 (Hd.lf zC) .nil)) (Hd.nd qly (Hd.nd Q9 (Hd.lf qkF) .nil) (Hd.nd qg5 (Hd.lf qjb) .nil))) (Hd.nd qn0 (Hd.nd qkR (Hd.nd ql0 (Hd.lf qhV) .nil) (Hd.nd qhS (Hd.lf zC) .nil)) (Hd.nd qn2 (Hd.nd qin (Hd.lf qiP) .nil) (Hd.nd qji (Hd.lf Q9) .nil))))) (Hd.nd (PySem.W.boot_o_2 P) (Hd.nd (PySem.W.boot_o_4 P) (Hd.nd (PySem.W.boot_o_8 P) (Hd.nd qn2 (Hd.nd Q9 (Hd.lf qis) (Hd.lf qit)) (Hd.nd Q9 (Hd.lf qjk) .nil)) (Hd.nd qi2 (Hd.nd zC (Hd.lf Q9) .nil) (Hd.nd qj6 (Hd.lf zC) .nil))) (Hd.nd qrq (Hd.nd qjP (Hd.nd (qlJ P) (Hd.lf qmo) .nil) (Hd.nd qiE (Hd.lf qhg) .nil)) (Hd.nd qnG (Hd.nd qnL (Hd.lf qhX) .nil) (Hd.nd Q9 (Hd.lf zC) .nil)))) (Hd.nd (PySem.W.boot_o_6 P) (Hd.nd (PySem.W.boot_o_10 P) (Hd.nd zC (Hd.nd qlH (Hd.lf zC) .nil) (Hd.nd zC (Hd.lf qmE) .nil)) (Hd.nd qj8 (Hd.nd qlW (Hd.lf zC) .nil) (Hd.nd qg8 (Hd.lf qhl) .nil))) (Hd.nd qn3 (Hd.nd zC (Hd.nd qm1 (Hd.lf qhw) .nil) (Hd.nd zC (Hd.lf Q9) .nil)) (Hd.nd (qmW P) (Hd.nd qg1 (Hd.lf zC) .nil) (Hd.nd zC (Hd.lf qlm) .nil))))))
abbrev qe3:List Stmt:=(qdq.drop 0).take 14
set_option maxRecDepth 100000 in
set_option maxHeartbeats 0 in
def qjN (w : World) (os : OsState) : PySem.W.segRunT treeTable PySem.Challenge.pw_bankwalk_k72_memories_turned w 11 (some (Value.ref 6)) 1 706 (⟨qnK w.params,15,{ },#[],{ },187,os⟩ : PySem.W.SharedT) (PySem.W.piecesOf qe3 qmh SL ⟨0,0,0,0⟩ qjH) = some (.next,(⟨qj5 w.params,97,{ },#[],{ },314,os⟩ : PySem.W.SharedT),SL,⟨52,0,54,82⟩) := by kernel_rfl
def qlj (P:Params):Obj:=Hd.oM P 43 "law_bankwalk_k72_memories_turned" 400 [(.str "BankError" 206,.ref 24),(.str "NotSquare" 222,.ref 37),(.str "size_of" 238,.ref 46),(.str "number_of" 249,.ref 53),(.str "all_words" 255,.ref 58),(.str "odd_in_common" 265,.ref 65),(.str "bits_bank" 271,.ref 70),(.str "parted" 282,.ref 77),(.str "joined_bank" 296,.ref 84),(.str "bank_in" 305,.ref 91),(.str "rests_spots" 313,.ref 96),(.str "counted_spots" 325,.ref 103),(.str "spots_of" 332,.ref 110),(.str "is_square" 344,.ref 117),(.str "refuse_not_square" 351,.ref 124),(.str "all_pairs" 357,.ref 129),(.str "beat_banks" 363,.ref 134),(.str "is_beat" 372,.ref 141),(.str "first_beat" 383,.ref 148),(.str "turn_plan" 393,.ref 155),(.str "turned" 399,.ref 160),(.str "_law_mix" 410,.ref 167),(.str "_law_left" 420,.ref 174),(.str "_law_pick" 429,.ref 181),(.str "_law_gcd" 437,.ref 188),(.str "_law_size" 443,.ref 193),(.str "_law_odd" 452,.ref 200),(.str "_law_bank" 458,.ref 205),(.str "_law_square" 464,.ref 210),(.str "_law_memory" 470,.ref 215),(.str "_law_same" 476,.ref 220),(.str "_law_any_order" 487,.ref 227),(.str "_law_worths" 493,.ref 232),(.str "law" 499,.ref 237)]
def qoh:Obj:=⟨.none,none,.fields #[.int (2) 0,.int (0) 0,.ref 20,.int (4) 0,.int (0) 0,.ref 33,.int (7) 0,.int (0) 0,.ref 45,.int (18) 0,.int (0) 0,.ref 52,.int (21) 0,.int (0) 0,.ref 57,.int (24) 0,.int (0) 0,.ref 64,.int (31) 0,.int (0) 0,.ref 69,.int (33) 0,.int (0) 0,.ref 76,.int (36) 0,.int (0) 0,.ref 83,.int (40) 0,.int (0) 0,.ref 90,.int (52) 0,.int (0) 0,.ref 95,.int (55) 0,.int (0) 0,.ref 102,.int (64) 0,.int (0) 0,.ref 109,.int (69) 0,.int (0) 0,.ref 116,.int (72) 0,.int (0) 0,.ref 123,.int (75) 0,.int (0) 0,.ref 128,.int (78) 0,.int (0) 0,.ref 133,.int (80) 0,.int (0) 0,.ref 140,.int (83) 0,.int (0) 0,.ref 147,.int (88) 0,.int (0) 0,.ref 154,.int (97) 0,.int (0) 0,.ref 159,.int (110) 0,.int (0) 0,.ref 166,.int (113) 0,.int (0) 0,.ref 173,.int (117) 0,.int (0) 0,.ref 180,.int (124) 0,.int (0) 0,.ref 187,.int (128) 0,.int (0) 0,.ref 192,.int (138) 0,.int (0) 0,.ref 199,.int (143) 0,.int (0) 0,.ref 204,.int (156) 0,.int (0) 0,.ref 209,.int (174) 0,.int (0) 0,.ref 214,.int (183) 0,.int (0) 0,.ref 219,.int (191) 0,.int (0) 0,.ref 226,.int (196) 0,.int (0) 0,.ref 231,.int (203) 0,.int (0) 0,.ref 236],#[]⟩
def qox:Obj:=Hd.oN zY 317
def qoE:Obj:=Hd.oG "counted_spots" zI
def qlp:Obj:=Hd.oK "counted_spots" 314 55 1 181 97 98 .none (.ref 99) (.ref 100) 101 323 324
def qns:Obj:=Hd.oF "counted_spots" zI zb4 (.ref 102)
def qoy:Obj:=Hd.oN qU 329
def qpv:Obj:=Hd.oG "spots_of" ZH
def qjy:Obj:=Hd.oK "spots_of" 326 64 1 181 104 105 .none (.ref 106) (.ref 107) 108 330 331
def qjz:Obj:=Hd.oF "spots_of" ZH zb4 (.ref 109)
def qpl:Obj:=Hd.oN ZO 338
def qpi:Obj:=Hd.oG "is_square" QB
def qkJ:Obj:=Hd.oK "is_square" 335 69 1 181 111 112 .none (.ref 113) (.ref 114) 115 342 343
def qko:Obj:=Hd.oF "is_square" QB zb3 (.ref 116)
def qo6:Obj:=Hd.oN qU 348
def qpH:Obj:=Hd.oG "refuse_not_square" qY
def qkS:Obj:=Hd.oK "refuse_not_square" 345 72 1 181 118 119 .none (.ref 120) (.ref 121) 122 349 350
def qmX:Obj:=Hd.oF "refuse_not_square" qY zb3 (.ref 123)
def qpe:Obj:=Hd.oG "all_pairs" QE
def qk5:Obj:=Hd.oK "all_pairs" 352 75 1 181 125 126 .none .none .none 127 355 356
def qlD:Obj:=Hd.oF "all_pairs" QE zb3 (.ref 128)
def qoG:Obj:=Hd.oG "beat_banks" jP
def qjr:Obj:=Hd.oK "beat_banks" 358 78 2 181 130 131 .none .none .none 132 361 362
def qlE:Obj:=Hd.oF "beat_banks" jP zb3 (.ref 133)
def qoM:Obj:=Hd.oN VQ 367
def qoQ:Obj:=Hd.oG "is_beat" JP
def qlI:Obj:=Hd.oK "is_beat" 364 80 2 181 135 136 .none (.ref 137) (.ref 138) 139 370 371
def qlb:Obj:=Hd.oF "is_beat" JP zb3 (.ref 140)
def qql:Obj:=Hd.oN j7 376
def qoD:Obj:=Hd.oG "first_beat" jH
def qmz:Obj:=Hd.oK "first_beat" 373 83 3 181 142 143 .none (.ref 144) (.ref 145) 146 381 382
def qjI:Obj:=Hd.oF "first_beat" jH zb3 (.ref 147)
def qqh:Obj:=Hd.oN Q7 387
def qoX:Obj:=Hd.oG "turn_plan" QA
def qmv:Obj:=Hd.oK "turn_plan" 384 88 1 181 149 150 .none (.ref 151) (.ref 152) 153 391 392
def qkj:Obj:=Hd.oF "turn_plan" QA zb3 (.ref 154)
def qoA:Obj:=Hd.oG "turned" VD
def qmU:Obj:=Hd.oK "turned" 394 97 3 181 156 157 .none .none .none 158 397 398
def qj7:Obj:=Hd.oF "turned" VD zb3 (.ref 159)
def qoU:Obj:=Hd.oN CC 405
def qoq:Obj:=Hd.oG "_law_mix" JV
def qnp:Obj:=Hd.oK "_law_mix" 402 110 2 181 161 162 .none (.ref 163) (.ref 164) 165 408 409
def qeQ:Obj:=Hd.oF "_law_mix" JV zb1 (.ref 166)
def ql2:Obj:=Hd.oN DL 414
def qjv:Obj:=Hd.oG "_law_left" Q6
def qe0:Obj:=Hd.oK "_law_left" 411 113 2 181 168 169 .none (.ref 170) (.ref 171) 172 418 419
def qgb:Obj:=Hd.oF "_law_left" Q6 zb1 (.ref 173)
def qm5:Obj:=Hd.oN DM 424
def qlu:Obj:=Hd.oG "_law_pick" ZJ
def qfB:Obj:=Hd.oK "_law_pick" 421 117 2 181 175 176 .none (.ref 177) (.ref 178) 179 427 428
def qf6:Obj:=Hd.oF "_law_pick" ZJ zb1 (.ref 180)
def qk8:Obj:=Hd.oN XR 433
def qk9:Obj:=Hd.oG "_law_gcd" JU
def qfD:Obj:=Hd.oK "_law_gcd" 430 124 2 181 182 183 .none (.ref 184) (.ref 185) 186 435 436
def qeS:Obj:=Hd.oF "_law_gcd" JU zb1 (.ref 187)
def qjD:Obj:=Hd.oG "_law_size" Q1
def qf4:Obj:=Hd.oK "_law_size" 438 128 1 181 189 190 .none .none .none 191 441 442
def qfV:Obj:=Hd.oF "_law_size" Q1 zb1 (.ref 192)
def qmx:Obj:=Hd.oN CI 447
def ql7:Obj:=Hd.oG "_law_odd" JQ
def qgx:Obj:=Hd.oK "_law_odd" 444 138 1 181 194 195 .none (.ref 196) (.ref 197) 198 450 451
def qf8:Obj:=Hd.oF "_law_odd" JQ zb1 (.ref 199)
def qmt:Obj:=Hd.oG "_law_bank" ZP
def qfw:Obj:=Hd.oK "_law_bank" 453 143 3 181 201 202 .none .none .none 203 456 457
def qgK:Obj:=Hd.oF "_law_bank" ZP zb1 (.ref 204)
def qmN:Obj:=Hd.oG "_law_square" jF
def qfd:Obj:=Hd.oK "_law_square" 459 156 1 181 206 207 .none .none .none 208 462 463
def qfL:Obj:=Hd.oF "_law_square" jF zb1 (.ref 209)
def qkt:Obj:=Hd.oG "_law_memory" jI
def qeV:Obj:=Hd.oK "_law_memory" 465 174 2 181 211 212 .none .none .none 213 468 469
def qe2:Obj:=Hd.oF "_law_memory" jI zb1 (.ref 214)
def qkB:Obj:=Hd.oG "_law_same" ZQ
def qf5:Obj:=Hd.oK "_law_same" 471 183 2 181 216 217 .none .none .none 218 474 475
def qgk:Obj:=Hd.oF "_law_same" ZQ zb1 (.ref 219)
def qjo:Obj:=Hd.oN zX 480
def qlo:Obj:=Hd.oG "_law_any_order" zF
def qfr:Obj:=Hd.oK "_law_any_order" 477 191 2 181 221 222 .none (.ref 223) (.ref 224) 225 485 486
def qgD:Obj:=Hd.oF "_law_any_order" zF zb1 (.ref 226)
def qnh:Obj:=Hd.oG "_law_worths" jL
def qeW:Obj:=Hd.oK "_law_worths" 488 196 2 181 228 229 .none .none .none 230 491 492
def qgu:Obj:=Hd.oF "_law_worths" jL zb1 (.ref 231)
def qmI:Obj:=Hd.oG "law" VE
def qgp:Obj:=Hd.oK "law" 494 203 1 181 233 234 .none .none .none 235 497 498
def qfg:Obj:=Hd.oF "law" VE zb1 (.ref 236)
def qg7 (P:Params):PySem.W.BT:=(Hd.nd (PySem.W.boot_o_0 P) (Hd.nd (PySem.W.boot_o_1 P) (Hd.nd (qlj P) (Hd.nd (PySem.W.boot_o_7 P) (Hd.nd qqI (Hd.nd zC (Hd.nd qjq (Hd.lf qpe) (Hd.lf qjD)) (Hd.nd qij (Hd.lf qmU) (Hd.lf qjo))) (Hd.nd zC (Hd.nd Q9 (Hd.lf Q9) (Hd.lf Q9)) (Hd.nd zC (Hd.lf zC) .nil))) (Hd.nd (qm4 P) (Hd.nd qmq (Hd.nd zC (Hd.lf zC) (Hd.lf qgx)) (Hd.nd qns (Hd.lf qeQ) (Hd.lf qeW))) (Hd.nd Q9 (Hd.nd qk6 (Hd.lf qqh) (Hd.lf qe2)) (Hd.nd Q9 (Hd.lf Q9) .nil)))) (Hd.nd zC (Hd.nd Q9 (Hd.nd zC (Hd.nd Q9 (Hd.lf Q9) (Hd.lf Q9)) (Hd.nd qox (Hd.lf qoU) (Hd.lf qgD))) (Hd.nd qjZ (Hd.nd qhp (Hd.lf qmz) (Hd.lf zC)) (Hd.nd qpi (Hd.lf qlu) .nil))) (Hd.nd qmg (Hd.nd zC (Hd.nd qmi (Hd.lf qoQ) (Hd.lf qmt)) (Hd.nd zC (Hd.lf zC) (Hd.lf qmI))) (Hd.nd zC (Hd.nd qiI (Hd.lf qkj) (Hd.lf qf5)) (Hd.nd qkS (Hd.lf qfD) .nil))))) (Hd.nd (PySem.W.boot_o_5 P) (Hd.nd (PySem.W.boot_o_9 P) (Hd.nd (qqt P) (Hd.nd qnA (Hd.nd qhn (Hd.lf qlD) (Hd.lf qfV)) (Hd.nd zC (Hd.lf zC) (Hd.lf qlo))) (Hd.nd qm6 (Hd.nd zC (Hd.lf zC) (Hd.lf qfd)) (Hd.nd qpl (Hd.lf qm5) .nil))) (Hd.nd qly (Hd.nd Q9 (Hd.nd qkF (Hd.lf qoM) (Hd.lf zC)) (Hd.nd Q9 (Hd.lf Q9) (Hd.lf zC))) (Hd.nd qg5 (Hd.nd qjb (Hd.lf qoX) (Hd.lf Q9)) (Hd.nd zC (Hd.lf zC) .nil)))) (Hd.nd qn0 (Hd.nd qkR (Hd.nd ql0 (Hd.nd qhV (Hd.lf qjr) (Hd.lf zC)) (Hd.nd qoE (Hd.lf qoq) (Hd.lf Q9))) (Hd.nd qhS (Hd.nd zC (Hd.lf zC) (Hd.lf qkt)) (Hd.nd qko (Hd.lf qf6) .nil))) (Hd.nd qn2 (Hd.nd qin (Hd.nd qiP (Hd.lf qlb) (Hd.lf qgK)) (Hd.nd qjy (Hd.lf qe0) (Hd.lf qfg))) (Hd.nd qji (Hd.nd Q9 (Hd.lf Q9) (Hd.lf zC)) (Hd.nd zC (Hd.lf zC) .nil)))))) (Hd.nd (PySem.W.boot_o_2 P) (Hd.nd (PySem.W.boot_o_4 P) (Hd.nd (PySem.W.boot_o_8 P) (Hd.nd qn2 (Hd.nd Q9 (Hd.nd qis (Hd.lf qk5) (Hd.lf qf4)) (Hd.nd qit (Hd.lf qj7) (Hd.lf zC))) (Hd.nd Q9 (Hd.nd qjk (Hd.lf qql) (Hd.lf qmN)) (Hd.nd Q9 (Hd.lf Q9) .nil))) (Hd.nd qi2 (Hd.nd zC (Hd.nd Q9 (Hd.lf Q9) (Hd.lf qf8)) (Hd.nd zC (Hd.lf zC) (Hd.lf qgu))) (Hd.nd qj6 (Hd.nd zC (Hd.lf zC) (Hd.lf zC)) (Hd.nd qo6 (Hd.lf qk8) .nil)))) (Hd.nd qoh (Hd.nd qjP (Hd.nd (qlJ P) (Hd.nd qmo (Hd.lf qoG) (Hd.lf qmx)) (Hd.nd zC (Hd.lf zC) (Hd.lf zC))) (Hd.nd qiE (Hd.nd qhg (Hd.lf qjI) (Hd.lf Q9)) (Hd.nd qkJ (Hd.lf qfB) .nil))) (Hd.nd qnG (Hd.nd qnL (Hd.nd qhX (Hd.lf qlI) (Hd.lf qfw)) (Hd.nd qpv (Hd.lf qjv) (Hd.lf qgp))) (Hd.nd Q9 (Hd.nd zC (Hd.lf zC) (Hd.lf qgk)) (Hd.nd qmX (Hd.lf qeS) .nil))))) (Hd.nd (PySem.W.boot_o_6 P) (Hd.nd (PySem.W.boot_o_10 P) (Hd.nd zC (Hd.nd qlH (Hd.nd zC (Hd.lf zC) (Hd.lf zC)) (Hd.nd Q9 (Hd.lf Q9) (Hd.lf qfr))) (Hd.nd zC (Hd.nd qmE (Hd.lf qoD) (Hd.lf qfL)) (Hd.nd zC (Hd.lf zC) .nil))) (Hd.nd qj8 (Hd.nd qlW (Hd.nd zC (Hd.lf zC) (Hd.lf Q9)) (Hd.nd qoy (Hd.lf ql2) (Hd.lf Q9))) (Hd.nd qg8 (Hd.nd qhl (Hd.lf qmv) (Hd.lf qkB)) (Hd.nd qpH (Hd.lf qk9) .nil)))) (Hd.nd qn3 (Hd.nd zC (Hd.nd qm1 (Hd.nd qhw (Hd.lf qlE) (Hd.lf ql7)) (Hd.nd qlp (Hd.lf qnp) (Hd.lf qnh))) (Hd.nd zC (Hd.nd Q9 (Hd.lf Q9) (Hd.lf qeV)) (Hd.nd zC (Hd.lf zC) .nil))) (Hd.nd (qmW P) (Hd.nd qg1 (Hd.nd zC (Hd.lf zC) (Hd.lf zC)) (Hd.nd qjz (Hd.lf qgb) .nil)) (Hd.nd zC (Hd.nd qlm (Hd.lf qoA) (Hd.lf Q9)) (Hd.nd Q9 (Hd.lf Q9) .nil)))))))
abbrev qfp:List Stmt:=(qdq.drop 14).take 25
set_option maxRecDepth 100000 in
set_option maxHeartbeats 0 in
def qkI (w : World) (os : OsState) : PySem.W.segRunT treeTable PySem.Challenge.pw_bankwalk_k72_memories_turned w 11 (some (Value.ref 6)) 1 687 (⟨qj5 w.params,97,{ },#[],{ },314,os⟩ : PySem.W.SharedT) (PySem.W.piecesOf qfp qmh SL ⟨52,0,54,82⟩ qjH) = some (.next,(⟨qg7 w.params,238,{ },#[],{ },500,os⟩ : PySem.W.SharedT),SL,⟨203,0,227,15⟩) := by kernel_rfl
abbrev qh4 (P:Params):Heap:=PySem.W.absHeap (qg7 P) 238 { }
def Kf (P:Params):PySem.W.Frag:=[(3,qlj P),(45,qin),(46,qg1),(52,qiE),(53,qhS),(57,qg5),(58,qg8),(64,qis),(65,qhn),(69,qhV),(70,qhw),(76,qhX),(77,qiP),(83,qhp),(84,qhg),(90,qhl),(91,qiI),(95,qij),(96,qit),(102,qlp),(103,qns),(109,qjy),(110,qjz),(116,qkJ),(117,qko),(123,qkS),(124,qmX),(128,qk5),(129,qlD),(133,qjr),(134,qlE),(140,qlI),(141,qlb),(147,qmz),(148,qjI),(154,qmv),(155,qkj),(159,qmU),(160,qj7),(166,qnp),(167,qeQ),(173,qe0),(174,qgb),(180,qfB),(181,qf6),(187,qfD),(188,qeS),(192,qf4),(193,qfV),(199,qgx),(200,qf8),(204,qfw),(205,qgK),(209,qfd),(210,qfL),(214,qeV),(215,qe2),(219,qf5),(220,qgk),(226,qfr),(227,qgD),(231,qeW),(232,qgu),(236,qgp),(237,qfg)]
def qkk {l:PySem.W.OpenLaw} {w:World} {h:Heap} {mg:Str->Option Value} {fa:Addr} (X:(Kf w.params).In h) (G:h.Ns mainGlobals mg) (hfa:mg "law" = some (.ref fa)) :
  ∃ fd:FuncData,(∀ (s:Shared) (v:Value),BindsTo s fd ⟨[v],[]⟩ [("_law_script",v)])/\∀ base:Heap,(Kf w.params).In base->base.Ns mainGlobals mg->FnOk l.prog w (Kf w.params) mg base CX0 12 fa fd ["_law_script"] (lSp (Kf w.params) C8):=by
 have e:=hfa.symm.trans (Hd.qoT X G "law" (.ref 237) (by kernel_rfl));cases e;have E0:=Hd.e X G "size_of" JM XG 46 zb2 (.ref 45);have E1:=Hd.e X G "number_of" QF U1 53 zb2 (.ref 52);have E2:=Hd.e X G "all_words" j9 U7 58 zb2 (.ref 57);have E3:=Hd.e X G "odd_in_common" zE QX 65 zb2 (.ref 64);have E4:=Hd.e X G "bits_bank" j5 U3 70 zb2 (.ref 69);have E5:=Hd.e X G "parted" VB TQ 77 zb2 (.ref 76);have E6:=Hd.e X G "joined_bank" jh JY 84 zb2 (.ref 83);have E7:=Hd.e X G "bank_in" JO XN 91 zb2 (.ref 90);have E8:=Hd.e X G "rests_spots" jm J5 96 zb4 (.ref 95);have E9:=Hd.e X G "counted_spots" zI Q5 103 zb4 (.ref 102);have E10:=Hd.e X G "spots_of" ZH D5 110 zb4 (.ref 109);have E11:=Hd.e X G "is_square" QB UN 117 zb3 (.ref 116);have E12:=Hd.e X G "refuse_not_square" qY jr 124 zb3 (.ref 123);have E13:=Hd.e X G "all_pairs" QE UL 129 zb3 (.ref 128);have E14:=Hd.e X G "beat_banks" jP VC 134 zb3 (.ref 133);have E15:=Hd.e X G "is_beat" JP X6 141 zb3 (.ref 140);have E16:=Hd.e X G "first_beat" jH VN 148 zb3 (.ref 147);have E17:=Hd.e X G "turn_plan" QA UY 155 zb3 (.ref 154);have E18:=Hd.e X G "turned" VD R7 160 zb3 (.ref 159);have E19:=Hd.e X G "_law_mix" JV CB 167 zb1 (.ref 166);have E20:=Hd.e X G "_law_left" Q6 EY 174 zb1 (.ref 173);have E21:=Hd.e X G "_law_pick" ZJ DN 181 zb1 (.ref 180);have E22:=Hd.e X G "_law_gcd" JU X8 188 zb1 (.ref 187);have E23:=Hd.e X G "_law_size" Q1 DZ 193 zb1 (.ref 192);have E24:=Hd.e X G "_law_odd" JQ XJ 200 zb1 (.ref 199);have E25:=Hd.e X G "_law_bank" ZP DT 205 zb1 (.ref 204);have E26:=Hd.e X G "_law_square" jF YZ 210 zb1 (.ref 209);have E27:=Hd.e X G "_law_memory" jI YV 215 zb1 (.ref 214);have E28:=Hd.e X G "_law_same" ZQ DH 220 zb1 (.ref 219);have E29:=Hd.e X G "_law_any_order" zF ZL 227 zb1 (.ref 226);have E30:=Hd.e X G "_law_worths" jL YW 232 zb1 (.ref 231);have F31:=Hd.qoj (K:=Kf w.params) "law" VE 237 zb1 (.ref 236) (by kernel_rfl) (by kernel_rfl) (by kernel_rfl);have g0:=Hd.no X G "len";have g1:=Hd.no X G "range";have g2:=Hd.no X G "enumerate";have g3:=Hd.no X G "sum";have g4:=Hd.no X G "set";have g5:=Hd.no X G "list";have g6:=Hd.no X G "abs";have g7:=Hd.no X G "zip";have g8:=Hd.no X G "tuple";have g9:=Hd.no X G "isinstance";have g10:=Hd.no X G "all";have g11:=Hd.no X G "str";have g12:=Hd.no X G "bool";have g13:=Hd.no X G "int";have g14:=Hd.no X G "min";refine ⟨PySem.W.fnOf "law" "law" (QW VE) (zW VE) (ql VE) .none .none .none zb1 none (.ref 236) .none,λs v=>.of_eq rfl,λbase Xb _=>?_⟩;have O15:=WX (P:=l.prog) (w:=w) (base:=base) (k:=0)  E3 W1;have O16:=KM O15 g2 g3 E4 KP;have O17:=qbl (P:=l.prog) (w:=w) (base:=base) (k:=0)  E5 qcT;have O18:=CP (P:=l.prog) (w:=w) (base:=base) (k:=0) g1 E8 CN;have O19:=qan (P:=l.prog) (w:=w) (base:=base) (k:=0)  E19 qaO;have O20:=L5 (P:=l.prog) (w:=w) (base:=base) (k:=0) g0 g6 E20 LZ;have O21:=LY O19 E21 LX;have O22:=qam (P:=l.prog) (w:=w) (base:=base) (k:=0)  E22 qay;have O23:=qal (P:=l.prog) (w:=w) (base:=base) (k:=0) g1 E24 qaC;have O24:=S5 g1 g8 O21 (O22.mono (by decide)) E26 S4;have O25:=WR g0 g1 g5 O21 E29 W4;have O26:=TC g1 O21 E30 RX;have O27:=EQ (P:=l.prog) (w:=w) (base:=base) E0.F E0.b E0.m;have O28:=DS O27 g0 E0 (DB 0);have O29:=DS O28 g0 E0 (DB 1);have O30:=DS O29 g0 E0 (DB 2);have O31:=T5 O30 g1 E2 LJ;have O32:=KU O30 E11 T1;have O33:=UB O32 E12 V5;have O34:=KR O30 g1 E13 KW;have O35:=Y0 O28 E1 (VJ 0);have O36:=Y0 O29 E1 (VJ 1);have O37:=Y0 O30 E1 (VJ 2);have O38:=EQ (P:=l.prog) (w:=w) (base:=base) E7.F E7.b E7.m;have O39:=JJ O28 O17 (O38.mono (by decide)) E6 (JH 0);have O40:=DA O35 O16 O39 E7 (D0 0);have O41:=JJ (O29.mono (by decide)) (O17.mono (by decide)) O40 E6 (JH 1);have O42:=DA (O36.mono (by decide)) (O16.mono (by decide)) O41 E7 (D0 1);have O43:=JJ (O30.mono (by decide)) (O17.mono (by decide)) O42 E6 (JH 2);have O44:=DA (O37.mono (by decide)) (O16.mono (by decide)) O43 E7 (D0 2);have O45:=WS O44 (O31.mono (by decide)) E9 WV;have O46:=MR (O18.mono (by decide)) O45 E10 L7;have O47:=SS O44 E14 SF;have O48:=qaJ g0 O47 g4 E15 qaP;have O49:=TK g0 g2 O48 E16 RW;have O50:=LM g0 (O33.mono (by decide)) (O34.mono (by decide)) O49 E17 KC;have O51:=qa7 (O37.mono (by decide)) (O33.mono (by decide)) O46 g5 E18 qdu;have O52:=EQ (P:=l.prog) (w:=w) (base:=base) E23.F E23.b E23.m;have O53:=UT g0 O52 g7 g8 E23 (K72.UU 0);have O54:=UT g0 O53 g7 g8 E23 (K72.UU 1);have O55:=UT g0 O54 g7 g8 E23 (K72.UU 2);have O56:=EQ (P:=l.prog) (w:=w) (base:=base) E28.F E28.b E28.m;have O57:=J6 g0 g5 g7 g8 O56 g9 g10 g11 g12 g13 E28 (JX 0);have O58:=J6 g0 g5 g7 g8 O57 g9 g10 g11 g12 g13 E28 (JX 1);have O59:=J6 g0 g5 g7 g8 O58 g9 g10 g11 g12 g13 E28 (JX 2);have O60:=J6 g0 g5 g7 g8 O59 g9 g10 g11 g12 g13 E28 (JX 3);have O61:=EQ (P:=l.prog) (w:=w) (base:=base) E25.F E25.b E25.m;have O62:=U6 g2 g3 O53 O23 (O61.mono (by decide)) E25 (UM 0);have O63:=U6 g2 g3 O54 (O23.mono (by decide)) O62 E25 (UM 1);have O64:=U6 g2 g3 O55 (O23.mono (by decide)) O63 E25 (UM 2);have O65:=SC g0 g1 g2 (O55.mono (by decide)) O64 E27 TU;exact qlq (k:=11) g0 g1 (O55.mono (by decide)) (O21.mono (by decide)) (O60.mono (by decide)) g11 (O20.mono (by decide)) (O24.mono (by decide)) (O26.mono (by decide)) (O65.mono (by decide)) (O25.mono (by decide)) O50 (O51.mono (by decide)) g14 F31 (qnm qnl)
set_option maxRecDepth 100000 in
set_option maxHeartbeats 0 in
def qlK (w : World) (os : OsState) : PySem.W.topRun treeTable PySem.Challenge.pw_bankwalk_k72_memories_turned w 11 (some (Value.ref 6)) 2 (⟨qg7 w.params,238,{ },#[],{ },500,os⟩ : PySem.W.SharedT).abs (PySem.W.restOf [] qmh SL ⟨203,0,227,15⟩ qjH) = some ⟨qh4 w.params,#[],{ },500,os⟩ := by kernel_rfl
def qp6:(qe3++(qfp++[]))=qdq:=by kernel_rfl
set_option maxRecDepth 100000 in
set_option maxHeartbeats 0 in
def qiu (w : World) (os : OsState) : PySem.W.topRun treeTable PySem.Challenge.pw_bankwalk_k72_memories_turned w 11 (some (Value.ref 6)) (12 + (1 + (706 + (687 + 2)))) ⟨PySem.W.boot_heap w.params,Array.mk [],PySem.W.boot_drawn,PySem.W.boot_toks,os⟩ (PySem.W.topStub PySem.Challenge.pw_bankwalk_k72_memories_turned) = some ⟨qh4 w.params,#[],{ },500,os⟩ := by
 have h:=(PySem.W.piece_app (PySem.W.segRun_of (qjN w os)) (PySem.W.piece_app (PySem.W.segRun_of (qkI w os)) (qlK w os)))
 rw [qp6] at h;exact PySem.W.go_top (qmP w os) (PySem.W.piece_block (qlT w os) h)
abbrev Q : Program := PySem.W.view PySem.Challenge.pw_bankwalk_k72_memories_turned [1,2,4,5,6,7,8,9,10,11,13,14,15,17,18,19,20,21,22,23,24,26,27,28,29,30,31,32,33,34,35,36,37,38]
set_option maxRecDepth 100000 in
set_option maxHeartbeats 0 in
def left : PySem.W.LeftO PySem.Challenge.pw_bankwalk_k72_memories_turned Q [] (λs => PySem.W.xlAt Q [] s && PySem.W.recOk [] s) (λs => ([3,45,46,52,53,57,58,64,65,69,70,76,77,83,84,90,91,95,96,102,103,109,110,116,117,123,124,128,129,133,134,140,141,147,148,154,155,159,160,166,167,173,174,180,181,187,188,192,193,199,200,204,205,209,210,214,215,219,220,226,227,231,232,236,237] : List Addr).map s.heap.get?) (λw => (Kf w.params).map λp => some p.2) 2908 :=
 PySem.W.LeftO.of_pieces (H₀:=PySem.W.boot_heap) (H₁:=qh4) (gs₀:=Array.mk []) (gs₁:=#[]) (d₀:=PySem.W.boot_drawn) (d₁:={ }) (k₀:=PySem.W.boot_toks) (k₁:=500) (m₀:=11) (ann:=some (Value.ref 6)) (M:=(12+(1+(706+(687+2)))))
  (PySem.W.boot_open (by kernel_rfl) (by kernel_rfl) (λs=>by kernel_rfl)) (λw=>by kernel_rfl) qiu (by kernel_rfl) (λw=>by kernel_rfl)
end K72
open PySem PySem.W PyProof.Rows
set_option maxRecDepth 100000 in
set_option maxHeartbeats 0 in
def qrb : PySem.Challenge.rw_bankwalk_k72_memories_turned.row.wellSaid = true := by kernel_rfl
set_option maxRecDepth 100000 in
set_option maxHeartbeats 0 in
def qrI : PySem.Challenge.rw_bankwalk_k72_memories_turned.wellSaid = true := by
 unfold PySem.W.OpenLaw.wellSaid;rw [qrb]
 kernel_rfl
set_option maxRecDepth 100000 in
set_option maxHeartbeats 0 in
theorem PySem.Challenge.cw_bankwalk_k72_memories_turned_holds : PySem.Challenge.rw_bankwalk_k72_memories_turned.Holds :=
 Hd.head (l := PySem.Challenge.rw_bankwalk_k72_memories_turned) (q := K72.Q) (loose := []) (K := K72.Kf) (as := [3,45,46,52,53,57,58,64,65,69,70,76,77,83,84,90,91,95,96,102,103,109,110,116,117,123,124,128,129,133,134,140,141,147,148,154,155,159,160,166,167,173,174,180,181,187,188,192,193,199,200,204,205,209,210,214,215,219,220,226,227,231,232,236,237]) (N := 2908) (k := 12) (x := "_law_script")
  (d:=⟨"law",L2.QW K72.VE,L2.zW K72.VE,L2.ql K72.VE,⟨203,0,227,15⟩⟩) (λ_=>by kernel_rfl) qrI K72.left (by kernel_rfl) (by kernel_rfl) (by kernel_rfl) (by kernel_rfl) (by kernel_rfl)
  ⟨rfl,rfl,rfl,rfl,rfl,by decide +kernel⟩ (by w_witness2) rfl (by kernel_rfl) ⟨rfl,by decide,by decide,rfl⟩ (λw=>by kernel_rfl) λw mg fa h KX G hmg=>K72.qkk KX G hmg
